import PyProof.Rows.All
import Wide.All
import OpenK.KLine
import OpenK.KWalk
import KE.KNestM
import KE.KDictList
import KE.KDictSum
import KE.KIsAll
import Wide.FinOn
import Lean
import PyProof.EqAt
import PyProof.EqKinds
import PyProof.TupleCall
import PyProof.NeKinds
import PyProof.ListRange
import PyProof.Rows.SortStr
import KE.KRevIter
import KE.KDictOf
import PyProof.AttrMissSeq
import PyProof.Rows.SortRunsK
import PyProof.Rows.SortShellK
import PyProof.Rows.CallKwBuiltin
import KE.KSortTup
import PyProof.EqKinds
import KE.KxText
import PyProof.DictWalks
import OpenK.KOwn
import PyProof.RulesAs
import PyProof.RulesDel
import PyProof.Rows.SortKeyStr
import KE.KSortedL
import KE.KSortedM
import KE.KSorted
import PySem.Challenge.RW_knewby_k25_whole_no_story_is_earlier
set_option Elab.async false
set_option linter.all false
set_option maxRecDepth 100000
set_option maxHeartbeats 4000000
abbrev FG0:=PySem.W.Frag
theorem bF0:¬false=true:=Bool.false_ne_true
theorem dT0{p:Prop}[Decidable p](h:p):decide p=true:=decide_eq_true h
theorem gI0{α:Type _}{l:List α}{i:Nat}{a:α}:l[i]?=some a↔∃h:i<l.length,l[i]=a:=List.getElem?_eq_some_iff
theorem eF0{b:Bool}(h:¬b=true):b=false:=eq_false_of_ne_true h
open Array (getElem?_toList length_toList toList_append toList_extract toList_push toList_reverse)
open Bool (and_eq_true eq_false_iff false_eq_true not_eq_true' or_eq_true)
open List (all_cons all_eq_true all_map any_cons any_eq_false any_eq_true any_map append_assoc append_nil drop_zero eq_nil_of_length_eq_zero filter_append filter_congr filter_cons filter_eq_self filter_nil find?_cons flatten_append flatten_cons flatten_nil forIn_cons getD_eq_getElem?_getD getElem?_append_left getElem?_append_right getElem?_drop getElem?_eq_getElem getElem?_map getElem?_of_mem getElem?_take_of_lt getElem_mem length_append length_cons length_drop length_filter_le length_map length_range length_replicate length_reverse length_take length_zip lookup_cons map_append map_congr_left map_cons map_id map_map map_nil mem_append mem_append_left mem_append_right mem_cons mem_cons_of_mem mem_cons_self mem_filter mem_map mem_map_of_mem mem_of_getElem? mem_range mem_reverse mem_singleton mem_singleton_self nil_append nodup_append nodup_cons nodup_nil not_lt not_mem_nil of_mem_zip pairwise_cons pairwise_singleton range_succ reverse_append reverse_reverse size_toArray take_add_one take_append_drop take_length take_of_length_le take_zero)
open Nat (le_of_eq le_of_lt le_refl le_succ le_trans lt_irrefl lt_min lt_of_lt_of_le lt_succ_of_lt lt_succ_self lt_trans min_self ne_of_gt ne_of_lt succ_pos zero_add zero_le)
open Option (isSome_iff_exists isSome_map map_eq_some_iff map_some)
open PySem.F (called_set plainAttrs_list slot_dict_get)
open PySem.Heap (get?_push_ne get?_push_of_some get?_push_size get?_update_ne lt_size size_push size_update)
open PySem.W (CodeHd callWith_K codeHdIn codeIn emptyDict envX findIn fnMade fnOf fnX handedIn hasDictIn instObj isFn keepIn kia_one kitOne kitx_dict kitx_list lookIn makesIn methodObj mg_none_of mg_of nsIn plainGet plainGet_of plainOver specialIn tabObj takerIn)
namespace L2
open PySem PySem.Spec PyProof.Rows
def inClass(s:Stmt)(j:Nat):Stmt:=match s with
 |.ClassDef _ _ _ body _ _ _ _ _ _ _=>body.getD j (.Pass ⟨0,0,0,0⟩)
 |_=>.Pass ⟨0,0,0,0⟩
def di(s:Stmt):Arguments:=match s with
 |.FunctionDef _ a _ _ _ _ _ _ _ _=>a
 |_=>{ posonlyargs:=[],args:=[],vararg:=none,kwonlyargs:=[],kw_defaults:=[],kwarg:=none,defaults:=[] }
def cP(s:Stmt):List Stmt:=match s with
 |.FunctionDef _ _ b _ _ _ _ _ _ _=>b
 |_=>[]
def cF(s:Stmt):Scope:=match s with
 |.FunctionDef _ _ _ _ _ _ sc _ _ _=>sc
 |_=>{ kind:=.function,names:=[],isGenerator:=false,isCoroutine:=false }
end L2
namespace TR
open PySem PySem.W
def DR(stp:SharedT->Thread->Option (SharedT×Thread))(ok:Thread->Bool):Nat->SharedT->Thread->Option SharedT
 |0,_,_=>none
 |n+1,s,t=>match through t with
  |true=>some s
  |false=>match ok t with
   |false=>none
   |true=>match stp s t with
    |some (s',t')=>DR stp ok n s' t'
    |none=>none
theorem xA{tb:String->Option Builtin}{p:Program}{w:World}{n₀:Nat}{ann:Option Value}:∀{n:Nat}{s s':SharedT}{t:Thread},DR (stepT (denote tb) p w) (stepOk n₀ ann) n s t=some s'->topRun tb p w n₀ ann n s.abs t=some s'.abs
 |0,_,_,_,h=>by cases h
 |n+1,s,s',t,h=>by
  unfold DR at h;unfold topRun;cases he:through t with
  |true=>rw[he]at h;cases h;rfl
  |false=>
   rw[he]at h;cases hk:stepOk n₀ ann t with
   |false=>rw[hk]at h;cases h
   |true=>
    rw[hk]at h;cases hs:stepT (denote tb) p w s t with
    |none=>rw[hs]at h;cases h
    |some r=>
     obtain⟨s₂,t₂⟩:=r;rw[hs]at h;rw[stepT_spec hs];exact xA h
def grow:List Obj->BT->Nat->Option BT
 |[],t,_=>some t
 |o::r,t,n=>match ((t.ins n o).get n).isSome with
  |true=>grow r (t.ins n o) (n+1)
  |false=>none
theorem sX{life:Life}:∀{l:List Obj}{t t':BT}{n:Nat},grow l t n=some t'->absHeap t' (n+l.length) life=l.foldl (λh o=>h.push o) (absHeap t n life)
 |[],_,_,_,h=>by cases h;rfl
 |o::r,t,t',n,h=>by
  unfold grow at h;cases g:((t.ins n o).get n).isSome with
  |false=>rw[g]at h;cases h
  |true=>
   rw[g]at h;have ih:=sX (life:=life) h;rw[absHeap_ins g]at ih;rw[length_cons,List.foldl_cons,<-ih]
   congr 1
   omega
theorem uC(life:Life):∀(l m:List Obj),l.foldl (λ(h:Heap) o=>h.push o) ⟨m.toArray,life⟩=⟨(m++l).toArray,life⟩
 |[],m=>by rw[append_nil];rfl
 |o::r,m=>by
  have:(⟨m.toArray,life⟩:Heap).push o=⟨(m++[o]).toArray,life⟩:=by
   show(⟨m.toArray.push o,life⟩:Heap)=_;rw[List.push_toArray]
  rw[List.foldl_cons,this,uC life r,append_assoc];rfl
def Mc(s:Shared)(t:BT):SharedT:=⟨t,s.heap.objs.size,s.heap.life,s.gens,s.drawn,s.toks,s.os⟩
theorem Dg{s:Shared}{t:BT}(h:grow s.heap.objs.toList .nil 0=some t):(Mc s t).abs=s:=by
 have:=sX (life:=s.heap.life) h;rw[zero_add,show absHeap .nil 0 s.heap.life=⟨([]:List Obj).toArray,s.heap.life⟩ from rfl,uC,nil_append,length_toList]at this;obtain⟨⟨objs,life⟩,gens,drawn,toks,os⟩:=s;show(⟨absHeap t objs.size life,gens,drawn,toks,os⟩:Shared)=_;rw[this]
def pQ{α:Type}(p:Program)(w:World)(N:Nat)(look:Shared->Shared->α):Option α:=(fencedOpening treeTable p w N).bind λs₀=>(grow s₀.heap.objs.toList .nil 0).bind λt=>match s₀.heap.isNs mainGlobals && s₀.gens.size == 0 with
 |true=>(DR (stepT (denote treeTable) p w) (stepOk s₀.heap.objs.size (s₀.heap.nsMap mainGlobals "__annotations__")) N (Mc s₀ t) (topStub p)).bind λs₁=>some (look s₀ s₁.abs)
 |false=>none
theorem rK{α:Type}{p:Program}{w:World}{N:Nat}{look:Shared->Shared->α}{a:α}(h:pQ p w N look=some a):∃s₀ s₁,fencedOpening treeTable p w N=some s₀/\(s₀.heap.isNs mainGlobals && s₀.gens.size == 0)=true/\topRun treeTable p w s₀.heap.objs.size (s₀.heap.nsMap mainGlobals "__annotations__") N s₀ (topStub p)=some s₁/\look s₀ s₁=a:=by
 unfold pQ at h;obtain⟨s₀,e0,h⟩:=Option.bind_eq_some_iff.mp h;obtain⟨t,eg,h⟩:=Option.bind_eq_some_iff.mp h;refine⟨s₀,?_⟩;cases c:(s₀.heap.isNs mainGlobals && s₀.gens.size == 0) with
 |false=>rw[c]at h;cases h
 |true=>
  rw[c]at h;obtain⟨s₁,er,h⟩:=Option.bind_eq_some_iff.mp h;have r:=xA er;rw[Dg eg]at r;exact⟨s₁.abs,e0,rfl,r,Option.some.inj h⟩
theorem Jp{p q:Program}{loose:List Str}{Xt:Shared->Bool}{α:Type}{Yf:Shared->α}{Ya:World->α}{N:Nat}
  (hA:∀w,pQ p w N (λs₀ s₁=>staticsOk (importedModules p.main.body) s₀.heap s₁.heap && namesBound p s₁.heap && gensDone s₁ && laidKept s₀.heap s₁.heap)=some true)
  (hB:∀w,pQ p w N (λ_ s₁=>openSeen q loose (importedModules p.main.body) Xt true s₁)=some (openGood q loose))
  (hC:∀w,pQ p w N (λ_ s₁=>Yf s₁)=some (Ya w)):LeftO p q loose Xt Yf Ya N:=λw=>by
 obtain⟨s₀,s₁,e0,c,r,hA⟩:=rK (hA w);obtain⟨s₀',s₁',e0',_,r',hB⟩:=rK (hB w);rw[e0]at e0';cases e0';rw[r]at r';cases r';obtain⟨s₀',s₁',e0',_,r',hC⟩:=rK (hC w);rw[e0]at e0';cases e0';rw[r]at r';cases r';unfold openEnds;rw[e0];show(topFrom treeTable p w N s₀).map _=_;unfold topFrom;rw[c];dsimp only;rw[r];simp only[Option.bind_some];rw[hA];show some (openSeen q loose (importedModules p.main.body) Xt true s₁,Yf s₁)=_;rw[hB,hC]
end TR
section
namespace K25
open PySem L2
def top(i:Nat):Stmt:=PySem.Challenge.pw_knewby_k25_whole_no_story_is_earlier.main.body.getD i (.Pass ⟨0,0,0,0⟩)
abbrev j6:Stmt:=top 2
abbrev fL:Stmt:=top 3
abbrev jY:Stmt:=top 4
abbrev ju:Stmt:=top 5
abbrev jt:Stmt:=top 6
abbrev gK:Stmt:=top 7
abbrev fM:Stmt:=top 8
abbrev j2:Stmt:=top 10
abbrev iw:Stmt:=top 11
abbrev gL:Stmt:=top 12
abbrev eG:Stmt:=top 13
abbrev iC:Stmt:=top 14
abbrev eO:Stmt:=top 15
abbrev dO:Stmt:=(L2.cP (top 15)).getD 4 (.Pass ⟨0,0,0,0⟩)
abbrev i7:Stmt:=top 16
abbrev gb:Stmt:=top 17
abbrev gM:Stmt:=top 18
abbrev gG:Stmt:=top 19
abbrev vc:Stmt:=top 20
abbrev jU:Stmt:=top 21
abbrev gr:Stmt:=top 23
abbrev lG:Stmt:=top 24
abbrev iA:Stmt:=top 25
abbrev fH:Stmt:=top 26
abbrev gE:Stmt:=top 27
abbrev jQ:Stmt:=top 28
abbrev fh:Stmt:=top 29
abbrev gI:Stmt:=top 31
abbrev gj:Stmt:=top 32
abbrev fe:Stmt:=top 33
abbrev jZ:Stmt:=top 34
abbrev l0:Stmt:=top 35
abbrev iI:Stmt:=top 41
abbrev mF:Stmt:=top 42
abbrev jy:Stmt:=top 43
abbrev fG:Stmt:=top 50
abbrev gN:Stmt:=top 51
abbrev iX:Stmt:=top 52
abbrev d7:Stmt:=top 53
abbrev mI:Stmt:=top 54
abbrev jT:Stmt:=top 55
abbrev oG:Stmt:=top 56
abbrev lX:Stmt:=top 57
abbrev mJ:Stmt:=top 58
abbrev fc:Stmt:=top 59
abbrev ji:Stmt:=top 60
abbrev gH:Stmt:=top 61
abbrev iD:Stmt:=top 62
abbrev jk:Stmt:=top 63
abbrev gP:Stmt:=top 64
abbrev gT:Stmt:=inClass (top 65) 0
abbrev eU:Stmt:=inClass (top 65) 1
abbrev fj:Stmt:=inClass (top 65) 2
abbrev f7:Stmt:=inClass (top 65) 3
abbrev eQ:Stmt:=inClass (top 65) 4
abbrev Bi:Stmt:=inClass (top 65) 5
abbrev B3:Stmt:=inClass (top 65) 6
abbrev zt:Stmt:=inClass (top 65) 7
abbrev wB:Stmt:=inClass (top 65) 8
abbrev eA:Stmt:=inClass (top 65) 9
abbrev rb:Stmt:=top 67
abbrev mh:Stmt:=top 68
abbrev lR:Stmt:=top 69
abbrev j8:Stmt:=top 70
abbrev oK:Stmt:=top 71
abbrev j5:Stmt:=top 72
abbrev o4:Stmt:=top 73
abbrev iF:Stmt:=top 74
abbrev jd:Stmt:=top 75
abbrev pq:Stmt:=top 76
abbrev lK:Stmt:=top 77
abbrev i6:Stmt:=top 78
abbrev lU:Stmt:=top 79
abbrev oE:Stmt:=top 80
abbrev mH:Stmt:=top 81
abbrev i8:Stmt:=top 82
abbrev gf:Stmt:=top 83
abbrev oP:Stmt:=top 84
def oneOf:Value->Option Str
 |.str x _=>some x
 |_=>none
def strsOf(l:List Value):List (Option Str):=l.map oneOf
def FV:List (Option Str):=[some "person",some "talk",some "saw",some "knew",some "heard",some "told",some "not",some "nobody",some "never",some "by",some "from",some "to"]
inductive FF(K:FG0)(x:Str)(st:Stmt):Prop
 |mk{f:Addr}{oc kV dc pm cd ct:Value}{od an:Option Addr}{sl:Array (Option Value)}(a:nsIn K mainGlobals x=some (some (.ref f)))(l:K.lookup f=some ⟨oc,od,.func (fnOf x x (di st) (cP st) (cF st) .none kV dc pm an cd ct),sl⟩)(c:codeIn K cd x=true)(k:keepIn K (.ref f)=true)
inductive FC(K:FG0)(x:Str)(st:Stmt)(c0:Addr):Prop
 |mk{f:Addr}{oc kV dc pm ct:Value}{od an:Option Addr}{sl:Array (Option Value)}(a:nsIn K mainGlobals x=some (some (.ref f)))(l:K.lookup f=some ⟨oc,od,.func (fnOf x x (di st) (cP st) (cF st) .none kV dc pm an (.ref c0) ct),sl⟩)(c:codeIn K (.ref c0) x=true)(k:keepIn K (.ref f)=true)
inductive Facts(K:FG0)(P0:Addr):Prop
 |mk{kw C c0 f67 f68 f69 f70 f71 f72:Addr}
  {odw od67 an67 od68 an68 od69 an69 od70 an70 od71 an71 od72 an72:Option Addr}{slw sl67 sl68 sl69 sl70 sl71 sl72:Array (Option Value)}{oc67 kV67 dc67 pm67 cd67 ct67 oc68 kV68 dc68 pm68 cd68 ct68 oc69 kV69 dc69 pm69 cd69 ct69 oc70 kV70 dc70 pm70 cd70 ct70 oc71 kV71 dc71 pm71 cd71 ct71 oc72 kV72 dc72 pm72 cd72 ct72:Value}{its:Array Value}{nW:Nat}{tk1 tk2 tk3 tk4 tk5:Tok}
  (aW:nsIn K mainGlobals "KEPT_WORDS" =some (some (.ref kw))) (lW:K.lookup kw=some ⟨.type "tuple",odw,.seq its nW,slw⟩) (vW:strsOf its.toList=FV)
 (h1:FF K "is_whole" iI) (h2:FF K "is_hour" mF) (h3:FF K "is_name" jy) (h4:FF K "is_list_up_to" fG) (h5:FF K "is_tuple_of" gN) (h6:FF K "is_person" iX) (h7:FF K "are_unlike_persons" d7) (h8:FF K "is_tale" mI) (h9:FF K "is_sight" jT) (h10:FF K "is_way" oG) (h11:FF K "is_talk" lX) (h12:FF K "is_span" mJ) (h13:FF K "is_short_saying" fc) (h14:FF K "is_saying" ji) (h15:FF K "are_persons" gH) (h16:FF K "are_sights" iD) (h17:FF K "are_talks" jk) (h18:FF K "are_sayings" gP) (h19:FF K "floor_of" j6) (h20:FF K "floors_of_all" fL) (h21:FF K "is_above" jY) (h22:FF K "is_silent" ju) (h23:FF K "is_barred" jt) (h24:FF K "open_sights" gK) (h25:FF K "open_tellings" fM) (h26:FF K "open_entries" gr) (h27:FF K "hour_of" lG) (h28:FF K "can_follow" iA) (h29:FF K "first_entries" fH) (h30:FF K "first_story" gE) (h31:FF K "earliest_story" fh) (h32:FF K "earliest" jQ) (h33:FF K "hours_in" j2) (h34:FF K "are_rising" iw) (h35:FF K "is_sight_at" gL) (h36:FF K "hours_of_tellings" eG) (h37:FF K "is_told_at" iC) (h38:FF K "fits_knew" i7) (h39:FF K "fits_unheard" gb) (h40:FF K "fits_silent" gM) (h41:FF K "fits_barred" gG) (h42:FF K "fits" vc) (h43:FF K "unfitted" jU) (h44:FF K "settled" l0) (h45:FF K "is_no_later" gI) (h46:FF K "keeps_sights" gj) (h47:FF K "keeps_tellings" fe) (h48:FF K "is_paper" jZ) (h49:FF K "_law_mix" rb) (h50:FF K "_law_names" mh) (h51:FF K "_law_clock" lR) (h52:FF K "_law_saying" j8) (h53:FF K "_law_spot" oK) (h54:FF K "_law_things" j5) (h55:FF K "_law_free" o4) (h56:FF K "_law_tellings" iF) (h57:FF K "_law_is_open" jd) (h58:FF K "_law_open" pq) (h59:FF K "_law_hours" lK) (h60:FF K "_law_knew_so" i6) (h61:FF K "_law_drawn" lU) (h62:FF K "_law_book" oE) (h63:FF K "_law_grown" mH) (h64:FF K "_law_stories" i8) (h65:FF K "_law_story_well" gf) (h66:FF K "law" oP)
  (aC:nsIn K mainGlobals "Book" =some (some (.ref C))) (pg:plainGet K C Str.empty=true) (hd:hasDictIn K C=true) (po:plainOver K C=true) (sa:findIn K (.ref C) "__setattr__" =some (some (.builtin "object.__setattr__"))) (mk:makesIn K C=true) (kc:keepIn K (.ref C)=true)
  (nP:findIn K (.ref C) "kept_persons" =some none) (nS:findIn K (.ref C) "kept_sights" =some none) (nT:findIn K (.ref C) "kept_talks" =some none) (nY:findIn K (.ref C) "kept_sayings" =some none)
  (yst:FC K "is_story" eO c0)
  (ycP:codeHdIn K c0 P0=true)
  (yKP:K.lookup P0=none)
  (a67:findIn K (.ref C) "__init__" =some (some (.ref f67))) (i67:isFn K (.ref f67)=true) (l67:K.lookup f67=some ⟨oc67,od67,.func (fnOf "__init__" "Book.__init__" (di gT) (cP gT) (cF gT) .none kV67 dc67 pm67 an67 cd67 ct67),sl67⟩) (c67:codeIn K cd67 "Book.__init__" =true) (k67:keepIn K (.ref f67)=true)
  (a68:findIn K (.ref C) "persons" =some (some (.ref f68))) (i68:isFn K (.ref f68)=true) (l68:K.lookup f68=some ⟨oc68,od68,.func (fnOf "persons" "Book.persons" (di eU) (cP eU) (cF eU) .none kV68 dc68 pm68 an68 cd68 ct68),sl68⟩) (c68:codeIn K cd68 "Book.persons" =true) (k68:keepIn K (.ref f68)=true)
  (a69:findIn K (.ref C) "sights" =some (some (.ref f69))) (i69:isFn K (.ref f69)=true) (l69:K.lookup f69=some ⟨oc69,od69,.func (fnOf "sights" "Book.sights" (di fj) (cP fj) (cF fj) .none kV69 dc69 pm69 an69 cd69 ct69),sl69⟩) (c69:codeIn K cd69 "Book.sights" =true) (k69:keepIn K (.ref f69)=true)
  (a70:findIn K (.ref C) "talks" =some (some (.ref f70))) (i70:isFn K (.ref f70)=true) (l70:K.lookup f70=some ⟨oc70,od70,.func (fnOf "talks" "Book.talks" (di f7) (cP f7) (cF f7) .none kV70 dc70 pm70 an70 cd70 ct70),sl70⟩) (c70:codeIn K cd70 "Book.talks" =true) (k70:keepIn K (.ref f70)=true)
  (a71:findIn K (.ref C) "sayings" =some (some (.ref f71))) (i71:isFn K (.ref f71)=true) (l71:K.lookup f71=some ⟨oc71,od71,.func (fnOf "sayings" "Book.sayings" (di eQ) (cP eQ) (cF eQ) .none kV71 dc71 pm71 an71 cd71 ct71),sl71⟩) (c71:codeIn K cd71 "Book.sayings" =true) (k71:keepIn K (.ref f71)=true)
  (a72:findIn K (.ref C) "tellings" =some (some (.ref f72))) (i72:isFn K (.ref f72)=true) (l72:K.lookup f72=some ⟨oc72,od72,.func (fnOf "tellings" "Book.tellings" (di eA) (cP eA) (cF eA) .none kV72 dc72 pm72 an72 cd72 ct72),sl72⟩) (c72:codeIn K cd72 "Book.tellings" =true) (k72:keepIn K (.ref f72)=true)
  (z1:nsIn K mainGlobals "isinstance" =some none) (z2:nsIn K mainGlobals "int" =some none) (z3:nsIn K mainGlobals "bool" =some none) (z4:nsIn K mainGlobals "str" =some none) (z5:nsIn K mainGlobals "len" =some none) (z6:nsIn K mainGlobals "all" =some none) (z7:nsIn K mainGlobals "range" =some none) (z8:nsIn K mainGlobals "list" =some none) (z9:nsIn K mainGlobals "tuple" =some none) (z10:nsIn K mainGlobals "set" =some none) (z11:nsIn K mainGlobals "zip" =some none) (z12:nsIn K mainGlobals "enumerate" =some none) (z13:nsIn K mainGlobals "min" =some none) (z14:nsIn K mainGlobals "max" =some none) (z15:nsIn K mainGlobals "any" =some none) (z16:nsIn K mainGlobals "sorted" =some none) (z17:nsIn K mainGlobals "dict" =some none) (z18:nsIn K mainGlobals "sum" =some none) (z19:nsIn K mainGlobals "reversed" =some none)
  (g1:nsIn K mainGlobals "MOST_PERSONS" =some (some (.int 24 tk1))) (g2:nsIn K mainGlobals "MOST_SIGHTS" =some (some (.int 24 tk2))) (g3:nsIn K mainGlobals "MOST_TALKS" =some (some (.int 120 tk3))) (g4:nsIn K mainGlobals "MOST_SAYINGS" =some (some (.int 60 tk4))) (g5:nsIn K mainGlobals "MOST_WORDS" =some (some (.int 6 tk5))):Facts K P0
open PySem.W in
def vw:Program:=view PySem.Challenge.rw_knewby_k25_whole_no_story_is_earlier.row.toRowW.prog [0,2,3,4,5,6,7,8,10,11,12,13,14,15,16,17,18,19,20,21,23,24,25,26,27,28,29,31,32,33,34,35,37,38,40,41,42,43,45,46,47,48,49,50,51,52,53,54,55,56,57,58,59,60,61,62,63,64,65,67,68,69,70,71,72,73,74,75,76,77,78,79,80,81,82,83,84]
end K25
open PySem PySem.W PyProof.Rows
set_option maxRecDepth 100000 in
theorem K25.uW(w:World):TR.pQ (OpenRow.toRowW PySem.Challenge.rw_knewby_k25_whole_no_story_is_earlier.row).prog w 20000 (λs₀ s₁=>staticsOk (importedModules (OpenRow.toRowW PySem.Challenge.rw_knewby_k25_whole_no_story_is_earlier.row).prog.main.body) s₀.heap s₁.heap && namesBound (OpenRow.toRowW PySem.Challenge.rw_knewby_k25_whole_no_story_is_earlier.row).prog s₁.heap && gensDone s₁ && laidKept s₀.heap s₁.heap)=some true:=by
 delta TR.pQ PySem.W.fencedOpening;(try rw[PySem.W.Fast.te10274390034422433532]);(try rw[PySem.W.Fast.te4187177175401517315]);(try rw[PySem.W.Fast.te1435165496053646825]);(try rw[PySem.W.Fast.te14289696077712309145]);(try rw[PySem.W.Fast.te11892475500146522536]);(try rw[PySem.W.Fast.te10156331382660048174]);(try rw[PySem.W.Fast.te6613529449190102663]);(try rw[PySem.W.Fast.te14364793385576792824]);(try rw[PySem.W.Fast.te5923862056798008813]);kernel_rfl
set_option maxRecDepth 100000 in
theorem K25.vF(w:World):TR.pQ (OpenRow.toRowW PySem.Challenge.rw_knewby_k25_whole_no_story_is_earlier.row).prog w 20000 (λ_ s₁=>openSeen K25.vw [] (importedModules (OpenRow.toRowW PySem.Challenge.rw_knewby_k25_whole_no_story_is_earlier.row).prog.main.body) (λs=>xlAt K25.vw [] s && recOk (RowW.records (OpenRow.toRowW PySem.Challenge.rw_knewby_k25_whole_no_story_is_earlier.row)) s) true s₁)=some (openGood K25.vw []):=by
 delta TR.pQ PySem.W.fencedOpening;(try rw[PySem.W.Fast.te10274390034422433532]);(try rw[PySem.W.Fast.te4187177175401517315]);(try rw[PySem.W.Fast.te1435165496053646825]);(try rw[PySem.W.Fast.te14289696077712309145]);(try rw[PySem.W.Fast.te11892475500146522536]);(try rw[PySem.W.Fast.te10156331382660048174]);(try rw[PySem.W.Fast.te6613529449190102663]);(try rw[PySem.W.Fast.te14364793385576792824]);(try rw[PySem.W.Fast.te5923862056798008813]);kernel_rfl
local macro_rules
 | `(tactic|o_head $H)=> `(tactic| (
  refine holds_open (N:=20000) (q:=K25.vw) (loose:=[])
   (Xt:=λs=>xlAt K25.vw [] s && recOk (RowW.records (OpenRow.toRowW PySem.Challenge.rw_knewby_k25_whole_no_story_is_earlier.row)) s)
   (XP:=XL K25.vw []) (YP:=Hook.says $H) (Ya:=Hook.val $H) (Yf:=Hook.obs $H)
   ?hl (Hook.of $H) (Hook.keeps $H)
   (λs e=>xl_of s (Bool.and_eq_true_iff.mp e).1) XL.keeps
   (by rfl) (by rfl) (by rfl)
   (λs e=>recFacts_of (Bool.and_eq_true_iff.mp e).2)
   (by rfl) (by first|assumption|decide+kernel) (by decide+kernel)
   ⟨rfl,rfl,rfl,rfl,rfl,by decide+kernel⟩ ?hw ?hc
  (case hl=>(refine TR.Jp K25.uW K25.vF λw=>?_;delta TR.pQ PySem.W.fencedOpening;(try rw[PySem.W.Fast.te10274390034422433532]);(try rw[PySem.W.Fast.te4187177175401517315]);(try rw[PySem.W.Fast.te1435165496053646825]);(try rw[PySem.W.Fast.te14289696077712309145]);(try rw[PySem.W.Fast.te11892475500146522536]);(try rw[PySem.W.Fast.te10156331382660048174]);(try rw[PySem.W.Fast.te6613529449190102663]);(try rw[PySem.W.Fast.te14364793385576792824]);(try rw[PySem.W.Fast.te5923862056798008813]);kernel_rfl))))
set_option maxRecDepth 100000 in
set_option maxHeartbeats 0 in
theorem K25.closing (HW:∀{q:Program}{loose:List Str}{XP:(Str->Option Value)->Heap->Prop}{YP:World->Heap->Prop}{d:DefRec}{K:Params->FG0}{P0:Addr},d.name= "law" ->d.params.defaults=[]->(∀(w:World) (h:Heap),YP w h->(K w.params).In h)->(∀(w:World) (h:Heap),YP w h->h.get? P0=some (tabObj #[]))->
  (∀(w:World)(mg:Str->Option Value)(fa:Addr)(h:Heap),(K w.params).In h->h.Ns mainGlobals mg->mg d.name=some (.ref fa)->K25.Facts (K w.params) P0)->PySem.W.WalkO q loose XP YP PySem.Challenge.rw_knewby_k25_whole_no_story_is_earlier.row.toRowW d [] (λf vs=>PySem.call f vs)):PySem.Challenge.rw_knewby_k25_whole_no_story_is_earlier.Holds:=by
 w_on;o_law;k_head;(case hw=>w_witness2)
 k_fill
 refine HW rfl rfl (λw h Y=>PySem.W.km_in_of Y) (λw h Y=>PySem.W.km_tabs_of Y _ mem_cons_self) ?F
 case F=>
  intro w mg fa h KX G hmg;refine' K25.Facts.mk ?aW ?lW ?vW ?h1 ?h2 ?h3 ?h4 ?h5 ?h6 ?h7 ?h8 ?h9 ?h10 ?h11 ?h12 ?h13 ?h14 ?h15 ?h16 ?h17 ?h18 ?h19 ?h20 ?h21 ?h22 ?h23 ?h24 ?h25 ?h26 ?h27 ?h28 ?h29 ?h30 ?h31 ?h32 ?h33 ?h34 ?h35 ?h36 ?h37 ?h38 ?h39 ?h40 ?h41 ?h42 ?h43 ?h44 ?h45 ?h46 ?h47 ?h48 ?h49 ?h50 ?h51 ?h52 ?h53 ?h54 ?h55 ?h56 ?h57 ?h58 ?h59 ?h60 ?h61 ?h62 ?h63 ?h64 ?h65 ?h66 ?aC ?pg ?hd ?po ?sa ?mk ?kc ?nP ?nS ?nT ?nY ?yst ?ycP ?yKP ?a67 ?i67 ?l67 ?c67 ?k67 ?a68 ?i68 ?l68 ?c68 ?k68 ?a69 ?i69 ?l69 ?c69 ?k69 ?a70 ?i70 ?l70 ?c70 ?k70 ?a71 ?i71 ?l71 ?c71 ?k71 ?a72 ?i72 ?l72 ?c72 ?k72 ?z1 ?z2 ?z3 ?z4 ?z5 ?z6 ?z7 ?z8 ?z9 ?z10 ?z11 ?z12 ?z13 ?z14 ?z15 ?z16 ?z17 ?z18 ?z19 ?g1 ?g2 ?g3 ?g4 ?g5
  (case aW=>k_is)
  (case lW=>k_is)
  (case aC=>k_is)
  (case pg=>k_is)
  (case hd=>k_is)
  (case po=>k_is)
  (case sa=>k_is)
  (case mk=>k_is)
  (case kc=>k_is)
  (case nP=>k_is)
  (case nS=>k_is)
  (case nT=>k_is)
  (case nY=>k_is)
  (case yst=>apply K25.FC.mk<;>k_is)
  (case ycP=>kernel_rfl)
  (case yKP=>kernel_rfl)
  (case a67=>k_is)
  (case i67=>k_is)
  (case l67=>k_is)
  (case c67=>k_is)
  (case k67=>k_is)
  (case a68=>k_is)
  (case i68=>k_is)
  (case l68=>k_is)
  (case c68=>k_is)
  (case k68=>k_is)
  (case a69=>k_is)
  (case i69=>k_is)
  (case l69=>k_is)
  (case c69=>k_is)
  (case k69=>k_is)
  (case a70=>k_is)
  (case i70=>k_is)
  (case l70=>k_is)
  (case c70=>k_is)
  (case k70=>k_is)
  (case a71=>k_is)
  (case i71=>k_is)
  (case l71=>k_is)
  (case c71=>k_is)
  (case k71=>k_is)
  (case a72=>k_is)
  (case i72=>k_is)
  (case l72=>k_is)
  (case c72=>k_is)
  (case k72=>k_is)
  (case z1=>k_is)
  (case z2=>k_is)
  (case z3=>k_is)
  (case z4=>k_is)
  (case z5=>k_is)
  (case z6=>k_is)
  (case z7=>k_is)
  (case z8=>k_is)
  (case z9=>k_is)
  (case z10=>k_is)
  (case z11=>k_is)
  (case z12=>k_is)
  (case z13=>k_is)
  (case z14=>k_is)
  (case z15=>k_is)
  (case z16=>k_is)
  (case z17=>k_is)
  (case z18=>k_is)
  (case z19=>k_is)
  (case g1=>k_is)
  (case g2=>k_is)
  (case g3=>k_is)
  (case g4=>k_is)
  (case g5=>k_is)
  (case vW=>rfl)
  all_goals (apply K25.FF.mk<;>k_is)
end
namespace L2
open PySem PySem.Spec PyProof.Rows
abbrev Key:=Sum Int Str
def gY:Key->Value->Bool
 |.inl k,v=>Value.isInt k v
 |.inr x,v=>Value.isStrOf x v
def Ls(w:World):Key->Int
 |.inl k=>hashInt k
 |.inr x=>hashStr w x
theorem dD:∀{k:Key}{v:Value},gY k v=true->(∃i t,k=Sum.inl i/\v=Value.int i t)\/(∃x t,k=Sum.inr x/\v=Value.str x t)
 |.inl i,v,h=>by
  obtain⟨t,e⟩:=Value.isInt_shape (k:=i) (v:=v) h;exact .inl ⟨i,t,rfl,e⟩
 |.inr x,v,h=>by
  obtain⟨t,e⟩:=Value.isStrOf_shape (x:=x) (v:=v) h;exact .inr ⟨x,t,rfl,e⟩
theorem yh(i:Int)(t:Tok):gY (.inl i) (.int i t)=true:=by simp[gY,Value.isInt]
theorem qj(x:Str)(t:Tok):gY (.inr x) (.str x t)=true:=by simp[gY,Value.isStrOf]
theorem GS(a b:Int):decide ((Sum.inl a:Key)=Sum.inl b)=(a == b):=by
 by_cases e:a=b
 ·subst e;simp
 ·have h:¬(Sum.inl a:Key)=Sum.inl b:=λq=>e (Sum.inl.inj q)
  rw[decide_eq_false h];exact(beq_eq_false_iff_ne.mpr e).symm
theorem Hi(a b:Str):decide ((Sum.inr a:Key)=Sum.inr b)=decide (a=b):=by
 by_cases e:a=b
 ·subst e;simp
 ·have h:¬(Sum.inr a:Key)=Sum.inr b:=λq=>e (Sum.inr.inj q)
  rw[decide_eq_false h,decide_eq_false e]
theorem Gz(a:Int)(b:Str):decide ((Sum.inl a:Key)=Sum.inr b)=false:=decide_eq_false (λq=>nomatch q)
theorem Hh(a:Str)(b:Int):decide ((Sum.inr a:Key)=Sum.inl b)=false:=decide_eq_false (λq=>nomatch q)
def cL(prog:Program)(w:World):PySem.KeyKind prog w Key where
 is:=gY
 hash:=Ls w
 inj:=λv a b ha hb=>by
  rcases dD ha with ⟨i,t,rfl,rfl⟩|⟨x,t,rfl,rfl⟩
  ·rcases dD hb with ⟨j,u,rfl,e⟩|⟨y,u,rfl,e⟩
   ·injection e with e1 _;rw[e1]
   ·exact nomatch e
  ·rcases dD hb with ⟨j,u,rfl,e⟩|⟨y,u,rfl,e⟩
   ·exact nomatch e
   ·injection e with e1 _;rw[e1]
 byValue:=λk v h=>by
  rcases dD h with ⟨i,t,rfl,rfl⟩|⟨x,t,rfl,rfl⟩<;>rfl
 pyHash:=λhv h=>by
  rcases dD hv with ⟨i,t,rfl,rfl⟩|⟨x,t,rfl,rfl⟩
  ·exact wpAny_pyHash_int h
  ·exact wpAny_pyHash_str h
 eqBool:=λhu hv h=>by
  rcases dD hu with ⟨i,t,rfl,rfl⟩|⟨x,t,rfl,rfl⟩
  ·rcases dD hv with ⟨j,u,rfl,rfl⟩|⟨y,u,rfl,rfl⟩
   ·rw[GS]at h;exact wpAny_eqBool_int h
   ·rw[Gz]at h;exact SeqAt.EqAt.int_str i t y u _ _ _ _ h
  ·rcases dD hv with ⟨j,u,rfl,rfl⟩|⟨y,u,rfl,rfl⟩
   ·rw[Hh]at h;exact SeqAt.EqAt.str_int x t j u _ _ _ _ h
   ·rw[Hi]at h;exact wpAny_eqBool_str h
 «strs» :=λk x t v h=>by
  rcases dD h with ⟨i,u,rfl,e⟩|⟨y,u,rfl,e⟩
  ·exact nomatch e
  ·injection e with e1 _
   subst e1;cases v<;>rfl
theorem tF(prog:Program)(w:World)(i:Int)(t:Tok):(cL prog w).is (.inl i) (.int i t)=true:=yh i t
theorem uz(prog:Program)(w:World)(x:Str)(t:Tok):(cL prog w).is (.inr x) (.str x t)=true:=qj x t
end L2
namespace L2
open PySem PySem.Spec PyProof.Rows
inductive V where
 |non|bl (b:Bool)|int (i:Int)|str (x:Str)|byt (b:Array UInt8)|flt (b:UInt64)|ref (a:Addr)|ty (n:String)
 deriving DecidableEq
def RelV:V->Value->Prop
 |.non,u=>u=Value.none
 |.bl b,u=>u=Value.bool b
 |.int i,u=>∃t,u=Value.int i t
 |.str x,u=>∃t,u=Value.str x t
 |.byt b,u=>∃t,u=Value.bytes b t
 |.flt b,u=>∃t,u=Value.float b t
 |.ref a,u=>u=Value.ref a
 |.ty n,u=>u=Value.type n
abbrev Vals:List V->List Value->Prop:=Paired RelV
theorem Vals.length{xs:List V}{us:List Value}(r:Vals xs us):xs.length=us.length:=Paired.length r
theorem Vals.get:∀{xs:List V}{us:List Value}{i:Nat}{x:V},Vals xs us->xs[i]? =some x->∃u,us[i]? =some u/\RelV x u
 |_,_,_,_,.nil,e=>by simp at e
 |_,_,0,_,.cons r _,e=>by simp at e;subst e;exact⟨_,rfl,r⟩
 |_,_,i+1,x,.cons _ t,e=>by
  obtain⟨u,h1,h2⟩:=Vals.get (i:=i) (x:=x) t (by simpa using e);exact⟨u,by simpa using h1,h2⟩
theorem Vals.append:∀{xs ys:List V}{us ws:List Value},Vals xs us->Vals ys ws->Vals (xs++ys) (us++ws)
 |_,_,_,_,.nil,s=>s
 |_,_,_,_,.cons r t,s=>.cons r (Vals.append t s)
theorem Vals.take:∀{xs:List V}{us:List Value}(n:Nat),Vals xs us->Vals (xs.take n) (us.take n)
 |_,_,0,_=>.nil
 |_,_,_+1,.nil=>.nil
 |_,_,n+1,.cons r t=>.cons r (Vals.take n t)
theorem Vals.drop:∀{xs:List V}{us:List Value}(n:Nat),Vals xs us->Vals (xs.drop n) (us.drop n)
 |_,_,0,r=>r
 |_,_,_+1,.nil=>.nil
 |_,_,n+1,.cons _ t=>Vals.drop n t
def iU:Option V->Option Value->Prop
 |some v,some u=>RelV v u
 |none,none=>True
 |_,_=>False
def KV{κ:Type}:List (κ×V)->List (κ×Value)->Prop:=Paired λ(p:κ×V) (q:κ×Value)=>p.1=q.1/\RelV p.2 q.2
def kV:Key->V
 |.inl i=>.int i
 |.inr x=>.str x
inductive HO where
 |lst (xs:List V)
 |tup (xs:List V)
 |dK (kvs:List (Key×V))|dT (kvs:List (List Key×V))
 |set (S:Int->Bool)(n:Nat)
 |ins (C dx:Addr)(fs:List (Str×V))
 |own (x:Addr)
 |xd (fs:List (Str×V))
 |met (f x:Addr)
 |rng (lo hi:Int)
 |frz (o:Obj)(u:HO)
 |tbl (ps:Array Value)
 |ext (φ:Heap->Prop)
abbrev Hp:=Addr->Option HO
def upd(H:Hp)(a:Addr)(o:HO):Hp:=λb=>if b=a then some o else H b
theorem cD{H:Hp}{a:Addr}{o:HO}:upd H a o a=some o:=by unfold upd;rw[if_pos rfl]
theorem cG{H:Hp}{a b:Addr}{o:HO}(h:b≠a):upd H a o b=H b:=by unfold upd;rw[if_neg h]
theorem Di{H:Hp}{a:Addr}{o u:HO}:upd (upd H a o) a u=upd H a u:=by
 funext b;unfold upd;split<;>rfl
theorem mO{H:Hp}{a b:Addr}{o u:HO}(h:H a=some o)(h':H b=some u)(d:o≠u):a≠b:=by
 intro e;subst e;rw[h]at h';exact d (Option.some.inj h')
theorem cE{H:Hp}{a b:Addr}{o:HO}(h:H a=some o)(h':H b=none):a≠b:=by
 intro e;subst e;rw[h]at h';cases h'
section
variable (P:Program)(w:World)
def dy(H:Hp)(h:Heap)(a:Addr):HO->Prop
 |.lst xs=>xs.length<=sizeLine/\∃(its:List Value) (n:Nat),Vals xs its/\h.get? a=some { cls:=.type "list",data:=.seq its.toArray n }
 |.tup xs=>xs.length<=sizeLine/\∃its:List Value,Vals xs its/\IsTup h a its.toArray
 |.dK kvs=>kvs.length<=sizeLine/\(a == sysModules)=false/\∃vs,KV kvs vs/\h.DictOf (cL P w) a vs
 |.dT kvs=>kvs.length<=sizeLine/\(a == sysModules)=false/\∃xs:List (List Key×Addr×Value),
   Paired (λ(p:List Key×V) (q:List Key×Addr×Value)=>p.1=q.1/\H q.2.1=some (.tup (p.1.map kV))/\RelV p.2 q.2.2) kvs xs/\
   ∃o es ep,h.get? a=some o/\o.ExactDict/\o.data=.dict es ep/\es.toList=xs.map (entryOfKey (tupleKind (cL P w)))/\(xs.map (·.1)).Nodup
 |.set S n=>h.SetOf (intKind P w) a S n
 |.ins C dx fs=>H dx=some (.own a)/\fs.length<=1000/\dx≠a/\h.get? a=some (instObj C dx)/\
   ∃mA,h.Ns1 dx mA/\(∀f,iU (fs.lookup f) (mA f))/\PySem.Within mA (fs.map (·.1))
 |.own _=>∃o,h.get? a=some o
 |.xd fs=>∃mA,h.Ns1 a mA/\∀f,iU (fs.lookup f) (mA f)
 |.rng lo hi=>∃t u v,h.get? a=some { cls:=.type "range",data:=.fields #[.int lo t,.int hi u,.int 1 v] }
 |.frz o u=>h.get? a=some o/\dy H h a u
 |.tbl ps=>h.get? a=some { cls:=.none,data:=.fields ps }
 |.met f x=>h.get? a=some (methodObj (.ref f) (.ref x))
 |.ext φ=>φ h/\(∃o,h.get? a=some o)/\∀h1 h2:Heap,φ h1->(∀o,h1.get? a=some o->h2.get? a=some o)->φ h2
def gB(H:Hp)(h:Heap):Prop:=∀a o,H a=some o->dy P w H h a o
end
section
variable {P:Program}{w:World}{H H':Hp}{h h':Heap}{a:Addr}{o:HO}
theorem dy.lt(x:dy P w H h a o):a < h.objs.size:=by
 cases o with
 |lst xs=>obtain⟨_,_,_,_,e⟩:=x;exact lt_size e
 |tup xs=>obtain⟨_,_,_,p⟩:=x;exact p.lt
 |dK kvs=>obtain⟨_,_,_,_,o,_,_,e,_⟩:=x;exact lt_size e
 |dT kvs=>obtain⟨_,_,_,_,o,_,_,e,_⟩:=x;exact lt_size e
 |set S n=>obtain⟨o,_,_,_,e,_⟩:=x;exact lt_size e
 |ins C dx fs=>obtain⟨_,_,_,e,_⟩:=x;exact lt_size e
 |own y=>obtain⟨_,e⟩:=x;exact lt_size e
 |xd fs=>obtain⟨_,⟨_,_,_,e,_⟩,_⟩:=x;exact lt_size e
 |rng lo hi=>obtain⟨_,_,_,e⟩:=x;exact lt_size e
 |frz ob u=>obtain⟨e,_⟩:=x;exact lt_size e
 |tbl ps=>exact lt_size (show h.get? a=some _ from x)
 |met f y=>exact lt_size (show h.get? a=some _ from x)
 |ext φ=>obtain⟨_,⟨_,e⟩,_⟩:=x;exact lt_size e
theorem Paired.Fn{α β:Type}{F G:α->β->Prop}:∀{l₁:List α}{l₂:List β},Paired F l₁ l₂->(∀a b,F a b->G a b)->Paired G l₁ l₂
 |_,_,.nil,_=>.nil
 |_,_,.cons r t,f=>.cons (f _ _ r) (Paired.Fn t f)
theorem dy.fJ(x:dy P w H h a o)(k:∀b u,(b=a\/H b=some (.own a))->h.get? b=some u->h'.get? b=some u)
  (ho:∀b,H b=some (.own a)->H' b=some (.own a))(ht:∀b xs,H b=some (.tup xs)->H' b=some (.tup xs)):dy P w H' h' a o:=by
 induction o with
 |lst xs=>obtain⟨z,its,n,r,e⟩:=x;exact⟨z,its,n,r,k _ _ (.inl rfl) e⟩
 |tup xs=>obtain⟨z,its,r,ob,e,c⟩:=x;exact⟨z,its,r,ob,k _ _ (.inl rfl) e,c⟩
 |dK kvs=>obtain⟨z,y,vs,r,ob,es,ep,e,c⟩:=x;exact⟨z,y,vs,r,ob,es,ep,k _ _ (.inl rfl) e,c⟩
 |dT kvs=>
  obtain⟨z,y,xs,r,ob,es,ep,e,c⟩:=x;exact⟨z,y,xs,Paired.Fn r λp q z=>⟨z.1,ht _ _ z.2.1,z.2.2⟩,ob,es,ep,k _ _ (.inl rfl) e,c⟩
 |set S n=>obtain⟨ob,es,ep,t,e,c⟩:=x;exact⟨ob,es,ep,t,k _ _ (.inl rfl) e,c⟩
 |ins C dx fs=>
  obtain⟨d,z,ne,e,mA,⟨od,es,ep,e2,c⟩,r⟩:=x;exact⟨ho _ d,z,ne,k _ _ (.inl rfl) e,mA,⟨od,es,ep,k _ _ (.inr d) e2,c⟩,r⟩
 |own y=>obtain⟨ob,e⟩:=x;exact⟨ob,k _ _ (.inl rfl) e⟩
 |xd fs=>obtain⟨mA,⟨od,es,ep,e,c⟩,r⟩:=x;exact⟨mA,⟨od,es,ep,k _ _ (.inl rfl) e,c⟩,r⟩
 |rng lo hi=>obtain⟨t,u,v,e⟩:=x;exact⟨t,u,v,k _ _ (.inl rfl) e⟩
 |frz ob u ih=>obtain⟨e,q⟩:=x;exact⟨k _ _ (.inl rfl) e,ih q⟩
 |tbl ps=>
  have e:h.get? a=some { cls:=.none,data:=.fields ps }:=x;show h'.get? a=some { cls:=.none,data:=.fields ps };exact k a _ (.inl rfl) e
 |met f y=>
  have e:h.get? a=some (methodObj (.ref f) (.ref y)):=x;show h'.get? a=some (methodObj (.ref f) (.ref y));exact k a _ (.inl rfl) e
 |ext φ=>obtain⟨p,⟨o,e⟩,st⟩:=x;exact⟨st _ _ p λo q=>k _ _ (.inl rfl) q,⟨o,k _ _ (.inl rfl) e⟩,st⟩
theorem gB.lt(x:gB P w H h)(e:H a=some o):a < h.objs.size:=(x a o e).lt
theorem gB.fresh(x:gB P w H h)(e:h.objs.size<=a):H a=none:=by
 cases q:H a with
 |none=>rfl
 |some u=>exact absurd (lt_of_lt_of_le (x.lt q) e) (lt_irrefl _)
theorem gB.kept(x:gB P w H h)(k:∀b u,h.get? b=some u->h'.get? b=some u):gB P w H h':=λa o e=>
 (x a o e).fJ (λb u _ q=>k b u q) (λ_ q=>q) λ_ _ q=>q
theorem gB.laid(x:gB P w H h)(k:∀b u,h.get? b=some u->h'.get? b=some u)(hp:h.objs.size<=a)(new:dy P w (upd H a o) h' a o):gB P w (upd H a o) h':=λb u e=>by
 have hn:=x.fresh hp;by_cases hb:b=a
 ·subst hb;rw[cD]at e;cases e;exact new
 ·rw[cG hb]at e
  exact(x b u e).fJ (λc v _ q=>k c v q) (λc q=>by rw[cG (cE q hn)];exact q) λc xs q=>by rw[cG (cE q hn)];exact q
end
def Rd(H:Hp)(a:Addr)(u:HO):Prop:=H a=some u\/∃o,H a=some (.frz o u)
theorem Rd.ok{P:Program}{w:World}{H:Hp}{h:Heap}{a:Addr}{u:HO}(r:Rd H a u)(x:gB P w H h):dy P w H h a u:=by
 rcases r with r|⟨o,r⟩
 ·exact x a u r
 ·obtain⟨_,q⟩:=x a _ r
  exact q
def HS:Option HO->Prop
 |some (.lst _)=>True
 |some (.dK _)=>True
 |some (.dT _)=>True
 |some (.set _ _)=>True
 |some (.ins _ _ _)=>True
 |some (.ext _)=>True
 |_=>False
section
variable {P:Program}{w:World}{H:Hp}{h h':Heap}{x e:Addr}{o':HO}
theorem gB.write(ok:gB P w H h)(mu:HS (H x))(he:e=x\/H e=some (.own x))(k:∀b u,b≠e->h.get? b=some u->h'.get? b=some u)(heo:∃u,h'.get? e=some u)
  (new:dy P w (upd H x o') h' x o'):gB P w (upd H x o') h':=λb u q=>by
 have nown:∀c y,H c=some (.own y)->c≠x:=λc y r z=>by subst z;rw[r]at mu;exact mu
 have ntup:∀c xs,H c=some (.tup xs)->c≠x:=λc xs r z=>by subst z;rw[r]at mu;exact mu
 by_cases hb:b=x
 ·subst hb;rw[cD]at q;cases q;exact new
 ·rw[cG hb]at q
  by_cases hbe:b=e
  ·have q':H b=some (.own x):=by
    rcases he with z|z
    ·exact absurd (hbe.trans z) hb
    ·rw[hbe];exact z
   rw[q]at q';cases q';obtain⟨v,hv⟩:=heo;exact⟨v,by rw[hbe];exact hv⟩
  ·refine(ok b u q).fJ (λc v hc r=>k c v ?_ r) (λc r=>by rw[cG (nown c b r)];exact r) λc xs r=>by rw[cG (ntup c xs r)];exact r
   rcases hc with rfl|hc
   ·exact hbe
   ·rintro rfl
    rcases he with z|z
    ·exact nown c b hc z
    ·rw[hc]at z;cases z;exact hb rfl
end
structure Un(fs ex:List Addr)(H H':Hp)(h h':Heap):Prop where
 keep:∀b o,h.get? b=some o->H b=none->b ∉ fs->b ∉ ex->h'.get? b=some o
 slot:∀b o,h.get? b=some o->H b=none->b∈fs->b ∉ ex->∃sl,h'.get? b=some { o with slots:=sl }
 free:∀b o,h.get? b=some o->H b=none->b ∉ ex->H' b=none
 there:∀b o,h.get? b=some o->b ∉ ex->∃o',h'.get? b=some o'
 tups:∀b xs,H b=some (.tup xs)->H' b=some (.tup xs)
 frzs:∀b o u,H b=some (.frz o u)->H' b=some (.frz o u)
 tbls:∀b ps,H b=some (.tbl ps)->∃more,H' b=some (.tbl (ps++more))
section
variable {fs fs' ex ex':List Addr}{H H1 H2:Hp}{h h1 h2 h':Heap}{a x e:Addr}{o:HO}
theorem Un.any(u:Un fs ex H H1 h h1){b:Addr}{ob:Obj}(q:h.get? b=some ob)(n:H b=none)(hx:b ∉ ex):∃sl,h1.get? b=some { ob with slots:=sl }:=by
 by_cases hb:b∈fs
 ·exact u.slot b ob q n hb hx
 ·exact⟨ob.slots,u.keep b ob q n hb hx⟩
theorem Un.trans(a:Un fs ex H H1 h h1)(b:Un fs ex H1 H2 h1 h2):Un fs ex H H2 h h2 where
 keep:=λc ob q n hc hx=>b.keep c ob (a.keep c ob q n hc hx) (a.free c ob q n hx) hc hx
 slot:=λc ob q n hc hx=>by
  obtain⟨sl,e1⟩:=a.slot c ob q n hc hx;obtain⟨sl',e2⟩:=b.slot c _ e1 (a.free c ob q n hx) hc hx;exact⟨sl',e2⟩
 free:=λc ob q n hx=>by
  obtain⟨o',e1⟩:=a.there c ob q hx;exact b.free c o' e1 (a.free c ob q n hx) hx
 there:=λc ob q hx=>by
  obtain⟨o',e1⟩:=a.there c ob q hx;exact b.there c o' e1 hx
 tups:=λc xs q=>b.tups c xs (a.tups c xs q)
 frzs:=λc ob xs q=>b.frzs c ob xs (a.frzs c ob xs q)
 tbls:=λc ps q=>by
  obtain⟨m1,e1⟩:=a.tbls c ps q;obtain⟨m2,e2⟩:=b.tbls c _ e1;exact⟨m1++m2,by rw[e2,Array.append_assoc]⟩
theorem Un.kept(k:∀b u,h.get? b=some u->h'.get? b=some u):Un fs ex H H h h':=
 ⟨λb ob q _ _ _=>k b ob q,λb ob q _ _ _=>⟨ob.slots,k b ob q⟩,λ_ _ _ n _=>n,λb ob q _=>⟨ob,k b ob q⟩,λ_ _ q=>q,λ_ _ _ q=>q,λ_ ps q=>⟨#[],by rw[q];simp⟩⟩
theorem Un.refl:Un fs ex H H h h:=Un.kept λ_ _ q=>q
theorem Un.laid(k:∀b u,h.get? b=some u->h'.get? b=some u)(hp:h.objs.size<=a)(hn:H a=none):Un fs ex H (upd H a o) h h' where
 keep:=λb u q _ _ _=>k b u q
 slot:=λb u q _ _ _=>⟨u.slots,k b u q⟩
 free:=λb u q n _=>by rw[cG (ne_of_lt (lt_of_lt_of_le (lt_size q) hp))];exact n
 there:=λb u q _=>⟨u,k b u q⟩
 tups:=λb xs q=>by rw[cG (cE q hn)];exact q
 frzs:=λb u xs q=>by rw[cG (cE q hn)];exact q
 tbls:=λb ps q=>⟨#[],by rw[cG (cE q hn),q];simp⟩
theorem Un.write(mu:HS (H x))(he:e=x\/H e=some (.own x))(k:∀b u,b≠e->h.get? b=some u->h'.get? b=some u)(heo:∃u,h'.get? e=some u):Un fs ex H (upd H x o) h h':=by
 have hx:∀b,H b=none->b≠x:=λb n z=>by subst z;rw[n]at mu;exact mu
 have hb:∀b,H b=none->b≠e:=λb n z=>by
  subst z;rcases he with r|r
  ·exact hx b n r
  ·rw[n]at r;cases r
 have hm:∀b u,H b=some u->¬HS (some u)->b≠x:=λb u q nm z=>by subst z;rw[q]at mu;exact nm mu
 refine⟨λb u q n _ _=>k b u (hb b n) q,λb u q n _ _=>⟨u.slots,k b u (hb b n) q⟩,λb u q n _=>by rw[cG (hx b n)];exact n,λb u q _=>?_,
  λb xs q=>by rw[cG (hm b _ q λz=>z)];exact q,λb u xs q=>by rw[cG (hm b _ q λz=>z)];exact q,λb ps q=>⟨#[],by rw[cG (hm b _ q λz=>z),q];simp⟩⟩
 by_cases hbe:b=e
 ·subst hbe;exact heo
 ·exact⟨u,k b u hbe q⟩
end
def BY(h:Heap)(H:Hp):List Addr:=(List.range h.objs.size).filter λa=>(H a).isSome
def pW(h:Heap)(H:Hp):Heap:=PySem.W.hideAll h (BY h H)
theorem yI(h:Heap)(H:Hp):(pW h H).objs.size=h.objs.size:=PySem.W.hideAll_size _ _
theorem Bc{h:Heap}{H:Hp}{b:Addr}{o:Obj}(e:h.get? b=some o)(n:H b=none):(pW h H).get? b=some o:=
 PySem.W.hideAll_get _ e λhm=>by
  have q:(H b).isSome=true:=(mem_filter.mp hm).2;rw[n]at q;simp at q
theorem CW{h:Heap}{H:Hp}{b:Addr}{o:Obj}(e:(pW h H).get? b=some o):h.get? b=some o/\H b=none:=by
 have e':h.get? b=some o:=PySem.W.of_hideAll (BY h H) e;refine⟨e',?_⟩;cases q:H b with
 |none=>rfl
 |some x=>
  have hm:b∈BY h H:=mem_filter.mpr ⟨mem_range.mpr (lt_size e'),by simp[q]⟩;have z:(pW h H).get? b=none:=PySem.W.hideAll_none (BY h H) hm;rw[z]at e;cases e
def CB(g h:Heap)(L:Addr):List (Addr×Obj):=(List.range h.objs.size).filterMap λa=>if a=L\/(g.get? a).isSome=true then none else(h.get? a).map λo=>(a,o)
def rest(g h:Heap)(L d:Addr):List (Addr×Obj):=(CB g h L).filter λp=>decide (p.1≠d)
end L2
namespace L2
open PySem PySem.Spec PyProof.Rows
structure Mod(K:FG0)(mg:Str->Option Value)(base:Heap):Prop where
 kin:K.In base
 glob:base.Ns mainGlobals mg
 blt:∃mb,base.Ns builtinsNs mb/\∀x:Str,x≠ "__name__" ->mb x=bootBuiltins x
 nolimit:base.NoLimit
structure Cx where
 prog:Program
 w:World
 K:FG0
 mg:Str->Option Value
 base:Heap
 A:Around
 N:List Str
 s₀:Shared
 H₀:Hp
 env:Env
 outer:List Env
 stack:List Env
 ex:List Addr
 fn:Str->Bool
 calm:Bool
 pn:List (Addr×Obj)
 xe:Value->Shared->Prop
def sE(l:List Env):List Addr:=l.filterMap (·.frame)
abbrev Cx.fs(X:Cx):List Addr:=sE X.outer
def KL(sc:Scope)(x:Str):Prop:=sc.names.lookup x=some .local\/sc.names.lookup x=some .cell\/sc.names.lookup x=some .free
def Loc(sc:Scope)(x:Str):Prop:=sc.names.lookup x=some .local\/sc.names.lookup x=some .cell
def Look(env:Env)(h:Heap)(m:Str->Option Value)(x:Str)(u:Value):Prop:=
 (env.kindOf x=some .local/\m x=some u)\/((env.kindOf x=some .cell\/env.kindOf x=some .free)/\∃c,env.cells.lookup x=some c/\h.IsCell c (some u))
structure Cx.Ok(X:Cx):Prop where
 mod:Mod X.K X.mg X.base
 kind:X.env.scope.kind=.function
 glob:X.env.globals=mainGlobals
 blt:X.env.builtins=builtinsNs
 above:X.s₀.heap.objs.size<=X.env.locals
 inj:∀x y c,X.env.cells.lookup x=some c->X.env.cells.lookup y=some c->x=y
 has:∀x,(X.env.kindOf x=some .cell\/X.env.kindOf x=some .free)->∃c,X.env.cells.lookup x=some c
 cab:∀x c,X.fn x=true->X.env.cells.lookup x=some c->X.s₀.heap.objs.size<=c
 hd:X.calm=true->X.A.handled=none
 frames:X.A.frames=some X.stack
 stk:X.stack=X.outer\/(X.stack=X.env::X.outer/\X.env.frame=some X.env.locals)
 exf:∀b∈X.ex,b≠X.env.locals/\∀x c,X.env.cells.lookup x=some c->c≠b
 bs:∀b o,X.base.get? b=some o->X.s₀.heap.get? b=some o/\X.H₀ b=none
 bsz:X.base.objs.size<=X.s₀.heap.objs.size
 noex:∀b o,X.base.get? b=some o->b ∉ X.ex
 exfs:∀b∈X.ex,b ∉ X.fs
 lq:X.s₀.heap.FunFrames X.base X.outer
 frf:∀b∈X.fs,X.H₀ b=none
structure Inv(X:Cx)(pins:List (Addr×Obj))(σ:List (Option V))(H:Hp)(s:Shared):Prop where
 ok:X.Ok
 os:s.os=X.s₀.os
 bare:AllBare s.gens
 base:Un X.fs X.ex X.H₀ H X.s₀.heap s.heap
 loc:∃m,s.heap.Ns X.env.locals m/\∀(i:Nat) (x:Str) (v:V),X.N[i]? =some x->σ[i]? =some (some v)->KL X.env.scope x->∃u,RelV v u/\Look X.env s.heap m x u
 cell:∀x c,X.env.cells.lookup x=some c->∃v,s.heap.IsCell c v
 free:H X.env.locals=none
 freeC:∀x c,X.env.cells.lookup x=some c->H c=none
 pin:∀p∈X.pn++pins,s.heap.get? p.1=some p.2/\H p.1=none/\p.1≠X.env.locals/\p.1 ∉ X.fs/\∀v,p.2.data≠.cell v
 hok:gB X.prog X.w H s.heap
 len:σ.length=X.N.length
section
variable {X:Cx}{pins:List (Addr×Obj)}{σ:List (Option V)}{H H':Hp}{s:Shared}{h':Heap}
theorem Cx.Ok.La(ok:X.Ok){b:Addr}{o:Obj}(e:X.base.get? b=some o):b ∉ X.fs:=λhb=>by
 have:=(ok.lq.mem hb).1;rw[e]at this;cases this
theorem Inv.bs(I:Inv X pins σ H s):∀b o,X.base.get? b=some o->s.heap.get? b=some o/\H b=none:=λb o e=>
 ⟨I.base.keep b o (I.ok.bs b o e).1 (I.ok.bs b o e).2 (I.ok.La e) (I.ok.noex b o e),I.base.free b o (I.ok.bs b o e).1 (I.ok.bs b o e).2 (I.ok.noex b o e)⟩
theorem Inv.bk(I:Inv X pins σ H s):∀b o,X.base.get? b=some o->s.heap.get? b=some o:=λb o e=>(I.bs b o e).1
theorem Inv.mod(I:Inv X pins σ H s):Mod X.K X.mg X.base:=I.ok.mod
theorem Inv.m7(I:Inv X pins σ H s):X.K.In s.heap:=I.ok.mod.kin.keeps I.bk
theorem Inv.lt(I:Inv X pins σ H s):X.env.locals < s.heap.objs.size:=let ⟨_,hn,_⟩:=I.loc;hn.lt
theorem Inv.sz(I:Inv X pins σ H s):X.s₀.heap.objs.size<=s.heap.objs.size:=le_trans I.ok.above (le_of_lt I.lt)
theorem Inv.KP(I:Inv X pins σ H s){a:Addr}(h:s.heap.objs.size<=a):a ∉ X.fs:=λhb=>by
 obtain⟨_,o,ho,_⟩:=I.ok.lq.mem hb;exact absurd (lt_of_lt_of_le (lt_size ho) (le_trans I.sz h)) (lt_irrefl _)
theorem Inv.Hd(I:Inv X pins σ H s):∀x c,X.env.cells.lookup x=some c->c≠X.env.locals:=λx c e z=>by
 obtain⟨v,o,ho,hd⟩:=I.cell x c e;obtain⟨m,⟨o',es,ep,ho',hd',_⟩,_⟩:=I.loc;rw[z,ho']at ho;cases ho;rw[hd']at hd;cases hd
theorem Inv.lq(I:Inv X pins σ H s):s.heap.FunFrames X.base X.outer:=by
 have all:∀(l:List Env),(∀b∈sE l,b∈X.fs)->X.s₀.heap.FunFrames X.base l->s.heap.FunFrames X.base l:=by
  intro l
  induction l with
  |nil=>intro _ _;trivial
  |cons env r ih=>
   intro hs hl;obtain⟨hk,⟨L,o,hf,hn,ho,hd⟩,hr⟩:=hl;have hL:L∈X.fs:=hs L (by unfold sE;rw[List.filterMap_cons,hf];exact mem_cons_self);obtain⟨sl,e⟩:=I.base.slot L o ho (I.ok.frf L hL) hL λz=>I.ok.exfs L z hL;exact⟨hk,⟨L,_,hf,hn,e,hd⟩,ih (λb hb=>hs b (by unfold sE;rw[List.filterMap_cons,hf];exact mem_cons_of_mem _ hb)) hr⟩
 exact all X.outer (λ_ hb=>hb) I.ok.lq
theorem Inv.stack(I:Inv X pins σ H s):s.heap.FunFrames X.base X.stack:=by
 rcases I.ok.stk with e|⟨e,hf⟩
 ·rw[e];exact I.lq
 ·rw[e]
  obtain⟨m,hn,_⟩:=I.loc;refine .cons (by rw[I.ok.kind];decide) hf hn ?_ I.lq;exact Heap.get?_none_of_le (le_trans I.ok.bsz I.ok.above)
theorem Inv.u5(I:Inv X pins σ H s):∀b∈sE X.stack,b∈X.env.locals::X.fs:=λb hb=>by
 rcases I.ok.stk with e|⟨e,hf⟩
 ·rw[e]at hb;exact mem_cons_of_mem _ hb
 ·rw[e]at hb
  unfold sE at hb;rw[List.filterMap_cons,hf]at hb;exact hb
theorem Inv.xH(I:Inv X pins σ H s):∀b∈sE X.stack,H b=none:=λb hb=>by
 rcases mem_cons.mp (I.u5 b hb) with e|hb
 ·rw[e];exact I.free
 ·obtain⟨_,o,ho,_⟩:=I.ok.lq.mem hb
  exact I.base.free b o ho (I.ok.frf b hb) λz=>I.ok.exfs b z hb
theorem Inv.step{g':Array GenState}{t':Nat}{d':Drawn}{ch:List Addr}(I:Inv X pins σ H s)
  (hch:∀b∈ch,(b∈X.ex\/X.s₀.heap.objs.size<=b)/\b≠X.env.locals/\(∀x c,X.env.cells.lookup x=some c->c≠b)/\∀p∈X.pn++pins,p.1≠b)
  (keep:∀b o,b≠X.env.locals->b ∉ X.fs->b ∉ ch->s.heap.get? b=some o->H b=none->h'.get? b=some o)
  (slot:∀b o,b≠X.env.locals->b∈X.fs->b ∉ ch->s.heap.get? b=some o->H b=none->∃sl,h'.get? b=some { o with slots:=sl })(free:∀b o,b ∉ ch->s.heap.get? b=some o->H b=none->H' b=none)
  (there:∀b o,b ∉ ch->s.heap.get? b=some o->∃o',h'.get? b=some o')
  (tups:∀b xs,H b=some (.tup xs)->H' b=some (.tup xs))(frzs:∀b o u,H b=some (.frz o u)->H' b=some (.frz o u))(tbls:∀b ps,H b=some (.tbl ps)->∃more,H' b=some (.tbl (ps++more)))
  (ns:∀m,s.heap.Ns X.env.locals m->h'.Ns X.env.locals m)(hok:gB X.prog X.w H' h')(hg:AllBare g'):
  Inv X pins σ H' { s with heap:=h',gens:=g',drawn:=d',toks:=t' }:=by
 have neL:∀b o,X.s₀.heap.get? b=some o->b≠X.env.locals:=λb o e=>ne_of_lt (lt_of_lt_of_le (lt_size e) I.ok.above);have neC:∀b o,X.s₀.heap.get? b=some o->b ∉ X.ex->b ∉ ch:=λb o e hx hb=>by
  rcases (hch b hb).1 with z|z
  ·exact hx z
  ·exact absurd (lt_of_lt_of_le (lt_size e) z) (lt_irrefl _)
 have cellK:∀x c,X.env.cells.lookup x=some c->∀v,s.heap.IsCell c v->h'.IsCell c v:=λx c e v ⟨o,ho,hd⟩=>by
  have nch:c ∉ ch:=λz=>(hch c z).2.2.1 x c e rfl;by_cases hc:c∈X.fs
  ·obtain⟨sl,q⟩:=slot c o (I.Hd x c e) hc nch ho (I.freeC x c e)
   exact⟨_,q,hd⟩
  ·exact⟨o,keep c o (I.Hd x c e) hc nch ho (I.freeC x c e),hd⟩
 refine⟨I.ok,I.os,hg,⟨λb o e n hb hx=>?_,λb o e n hb hx=>?_,λb o e n hx=>?_,λb o e hx=>?_,λb xs e=>tups b xs (I.base.tups b xs e),λb o xs e=>frzs b o xs (I.base.frzs b o xs e),λb ps e=>?_⟩,?_,λx c e=>?_,?_,λx c e=>?_,λp hp=>?_,hok,I.len⟩
 ·exact keep b o (neL b o e) hb (neC b o e hx) (I.base.keep b o e n hb hx) (I.base.free b o e n hx)
 ·obtain⟨sl,e1⟩:=I.base.slot b o e n hb hx
  obtain⟨sl',e2⟩:=slot b _ (neL b o e) hb (neC b o e hx) e1 (I.base.free b o e n hx);exact⟨sl',e2⟩
 ·obtain⟨o',e1⟩:=I.base.there b o e hx
  exact free b o' (neC b o e hx) e1 (I.base.free b o e n hx)
 ·obtain⟨o',e1⟩:=I.base.there b o e hx
  exact there b o' (neC b o e hx) e1
 ·obtain⟨m1,e1⟩:=I.base.tbls b ps e
  obtain⟨m2,e2⟩:=tbls b _ e1;exact⟨m1++m2,by rw[e2,Array.append_assoc]⟩
 ·obtain⟨m,hn,hl⟩:=I.loc
  refine⟨m,ns m hn,λi x v e1 e2 e3=>?_⟩;obtain⟨u,r,l⟩:=hl i x v e1 e2 e3;refine⟨u,r,?_⟩;rcases l with l|⟨k,c,e,z⟩
  ·exact .inl l
  ·exact .inr ⟨k,c,e,cellK x c e _ z⟩
 ·obtain⟨v,z⟩:=I.cell x c e
  exact⟨v,cellK x c e v z⟩
 ·obtain⟨m,⟨o,_,_,ho,_⟩,_⟩:=I.loc
  exact free _ o (λz=>(hch _ z).2.1 rfl) ho I.free
 ·obtain⟨v,o,ho,hd⟩:=I.cell x c e
  exact free c o (λz=>(hch c z).2.2.1 x c e rfl) ho (I.freeC x c e)
 ·obtain⟨e,n,ne,nf,d⟩:=I.pin p hp
  have nch:p.1 ∉ ch:=λz=>(hch p.1 z).2.2.2 p hp rfl;exact⟨keep p.1 p.2 ne nf nch e n,free p.1 p.2 nch e n,ne,nf,d⟩
theorem Inv.un{t':Nat}(I:Inv X pins σ H s)(u:Un X.fs [] H H' s.heap h')(hok:gB X.prog X.w H' h'):Inv X pins σ H' { s with heap:=h',toks:=t' }:=by
 obtain⟨m,⟨o,es,ep,ho,r⟩,_⟩:=id I.loc;obtain⟨sl,hL⟩:=u.any ho I.free (by simp);exact I.step (g':=s.gens) (d':=s.drawn) (ch:=[]) (λ_ z=>nomatch z) (λb o _ hb _ e n=>u.keep b o e n hb (by simp)) (λb o _ hb _ e n=>u.slot b o e n hb (by simp)) (λb o _ e n=>u.free b o e n (by simp)) (λb o _ e=>u.there b o e (by simp)) u.tups u.frzs u.tbls (λm' hm=>by
  obtain⟨o',es',ep',ho',r'⟩:=hm;rw[ho]at ho';cases ho';exact⟨_,es',ep',hL,r'⟩) hok I.bare
theorem Inv.call{g':Array GenState}{t':Nat}{d':Drawn}{ch:List Addr}(I:Inv X pins σ H s)(u:Un (sE X.stack) ch H H' s.heap h')(hok:gB X.prog X.w H' h')(hg:AllBare g')
  (hch:∀b∈ch,(b∈X.ex\/X.s₀.heap.objs.size<=b)/\b≠X.env.locals/\(∀x c,X.env.cells.lookup x=some c->c≠b)/\∀p∈X.pn++pins,p.1≠b):
  Inv X pins σ H' { s with heap:=h',gens:=g',drawn:=d',toks:=t' }:=by
 obtain⟨m,⟨o,es,ep,ho,r⟩,_⟩:=id I.loc;obtain⟨sl,hL⟩:=u.any ho I.free λz=>(hch _ z).2.1 rfl;exact I.step (ch:=ch) hch (λb o hL hb hc e n=>u.keep b o e n (λz=>(mem_cons.mp (I.u5 b z)).elim hL hb) hc) (λb o _ _ hc e n=>u.any e n hc) (λb o hc e n=>u.free b o e n hc) (λb o hc e=>u.there b o e hc) u.tups u.frzs u.tbls (λm' hm=>by
  obtain⟨o',es',ep',ho',r'⟩:=hm;rw[ho]at ho';cases ho';exact⟨_,es',ep',hL,r'⟩) hok hg
theorem Inv.turned{t':Nat}{it:Addr}(I:Inv X pins σ H s)(k:∀b o,b≠it->s.heap.get? b=some o->h'.get? b=some o)(hn:H it=none)(hL:it≠X.env.locals)
  (h1:it∈X.ex\/X.s₀.heap.objs.size<=it)(h2:∀x c,X.env.cells.lookup x=some c->c≠it)(h3:∀p∈X.pn++pins,p.1≠it):Inv X pins σ H { s with heap:=h',toks:=t' }:=by
 have nit:∀b u,H b=some u->b≠it:=λb u e z=>by rw[z,hn]at e;cases e
 refine I.step (g':=s.gens) (d':=s.drawn) (ch:=[it]) (λb hb=>?_) (λb o _ _ hc e _=>k b o (λz=>hc (by simp[z])) e) (λb o _ _ hc e _=>⟨o.slots,k b o (λz=>hc (by simp[z])) e⟩) (λ_ _ _ _ n=>n)
  (λb o hc e=>⟨o,k b o (λz=>hc (by simp[z])) e⟩) (λ_ _ e=>e) (λ_ _ _ e=>e) (λb ps e=>⟨#[],by rw[e];simp⟩) (λm hm=>?_) (λb u e=>?_) I.bare
 ·have e:b=it:=by simpa using hb
  subst e;exact⟨h1,hL,h2,h3⟩
 ·obtain⟨o,es,ep,ho,r⟩:=hm
  exact⟨o,es,ep,k _ o (Ne.symm hL) ho,r⟩
 ·refine(I.hok b u e).fJ (λc v hc q=>k c v ?_ q) (λ_ q=>q) λ_ _ q=>q
  rcases hc with z|z
  ·rw[z];exact nit b u e
  ·exact nit c _ z
theorem Inv.tok(I:Inv X pins σ H s)(t:Nat):Inv X pins σ H { s with toks:=t }:=I.un (h':=s.heap) (t':=t) Un.refl I.hok
theorem Inv.kept{t':Nat}(I:Inv X pins σ H s)(k:∀b u,s.heap.get? b=some u->h'.get? b=some u):Inv X pins σ H { s with heap:=h',toks:=t' }:=I.un (Un.kept k) (I.hok.kept k)
theorem Inv.laid{a:Addr}{o:HO}{t':Nat}(I:Inv X pins σ H s)(k:∀b u,s.heap.get? b=some u->h'.get? b=some u)(hp:s.heap.objs.size<=a)(new:dy X.prog X.w (upd H a o) h' a o):
  Inv X pins σ (upd H a o) { s with heap:=h',toks:=t' }:=I.un (Un.laid k hp (I.hok.fresh hp)) (I.hok.laid k hp new)
theorem Inv.write{x e:Addr}{o:HO}{t':Nat}(I:Inv X pins σ H s)(mu:HS (H x))(he:e=x\/H e=some (.own x))(k:∀b u,b≠e->s.heap.get? b=some u->h'.get? b=some u)(heo:∃u,h'.get? e=some u)
  (new:dy X.prog X.w (upd H x o) h' x o):Inv X pins σ (upd H x o) { s with heap:=h',toks:=t' }:=I.un (Un.write mu he k heo) (I.hok.write mu he k heo new)
theorem Inv.wW{pins':List (Addr×Obj)}(I:Inv X pins σ H s)(h:∀p∈pins',s.heap.get? p.1=some p.2/\H p.1=none/\p.1≠X.env.locals/\p.1 ∉ X.fs/\∀v,p.2.data≠.cell v):Inv X pins' σ H s:=
 ⟨I.ok,I.os,I.bare,I.base,I.loc,I.cell,I.free,I.freeC,λp hp=>(mem_append.mp hp).elim (λz=>I.pin p (mem_append_left _ z)) (h p),I.hok,I.len⟩
theorem t9{N:List Str}(hN:N.Nodup){i j:Nat}{x:Str}(a:N[i]? =some x)(b:N[j]? =some x):i=j:=by
 obtain⟨h1,e1⟩:=gI0.mp a;obtain⟨h2,e2⟩:=gI0.mp b;exact(List.getElem_inj hN).mp (e1.trans e2.symm)
theorem zm{M:Model}{A:Around}{E:Value->Shared->Prop}{i:Nat}{x:Str}{v:V}{u:Value}{Q:Unit->Shared->Prop}(I:Inv X pins σ H s)(hN:X.N.Nodup)(hi:X.N[i]? =some x)(hx:Loc X.env.scope x)(r:RelV v u)
  (h:∀s',Inv X pins (σ.set i (some v)) H s'->(∃a,Heap.SameBut a s.heap s'.heap/\(a=X.env.locals\/X.env.cells.lookup x=some a))->Q () s')(hf:X.fn x=true\/X.env.scope.names.lookup x=some .local:=by first|exact .inl rfl|exact .inr rfl|assumption):wpAny M A (storeName X.env x u) Q E s:=by
 obtain⟨m,hn,hl⟩:=id I.loc;have hcls:(X.env.scope.kind == .class || (X.env.scope.kind == .module && X.env.locals != X.env.globals))=false:=by rw[I.ok.kind];rfl
 have hiσ:i < σ.length:=by rw[I.len];exact(gI0.mp hi).1
 have Hd:=I.Hd;have tracked:∀{a:Addr}{h':Heap},(∃o,s.heap.get? a=some o/\H a=none)->Heap.SameBut a s.heap h'->gB X.prog X.w H h':=λ{a h'} ha hs b ob e=>by
  obtain⟨_,_,hfree⟩:=ha;refine(I.hok b ob e).fJ (λc w' hc q=>(hs.2 c ?_).trans q) (λ_ q=>q) λ_ _ q=>q;rintro rfl;rcases hc with rfl|hc
  ·rw[hfree]at e;cases e
  ·rw[hfree]at hc;cases hc
 rcases hx with hk|hk
 ·refine wpAny_storeName_local hk hn (λh' hn' hs=>?_) hcls
  obtain⟨oL,_,_,hoL,_⟩:=id hn;refine h _ ⟨I.ok,I.os,I.bare,⟨λb o e n hb hx=>?_,λb o e n hb hx=>?_,I.base.free,λb o e hx=>?_,I.base.tups,I.base.frzs,I.base.tbls⟩,⟨_,hn',λj y v' e1 e2 e3=>?_⟩,λy c e=>?_,I.free,I.freeC,λp hp=>?_,tracked ⟨oL,hoL,I.free⟩ hs,by simpa using I.len⟩ ⟨_,hs,.inl rfl⟩
  ·exact(hs.2 b (ne_of_lt (lt_of_lt_of_le (lt_size e) I.ok.above))).trans (I.base.keep b o e n hb hx)
  ·obtain⟨sl,e1⟩:=I.base.slot b o e n hb hx
   exact⟨sl,(hs.2 b (ne_of_lt (lt_of_lt_of_le (lt_size e) I.ok.above))).trans e1⟩
  ·obtain⟨o',e1⟩:=I.base.there b o e hx
   exact⟨o',(hs.2 b (ne_of_lt (lt_of_lt_of_le (lt_size e) I.ok.above))).trans e1⟩
  ·by_cases hj:j=i
   ·subst hj
    rw[hi]at e1;cases e1;rw[List.getElem?_set_self hiσ]at e2;cases e2;exact⟨u,r,.inl ⟨hk,by simp⟩⟩
   ·rw[List.getElem?_set_ne (Ne.symm hj)]at e2
    obtain⟨u',r',q⟩:=hl j y v' e1 e2 e3;refine⟨u',r',?_⟩;rcases q with ⟨k,e⟩|⟨k,c,e,z⟩
    ·refine .inl ⟨k,?_⟩
     have:y≠x:=λe=>hj (t9 hN e1 (e ▸ hi));simp[this,e]
    ·exact .inr ⟨k,c,e,z.sameBut hs (Hd y c e)⟩
  ·obtain⟨w',z⟩:=I.cell y c e
   exact⟨w',z.sameBut hs (Hd y c e)⟩
  ·obtain⟨e,n,ne,nf,d⟩:=I.pin p hp
   exact⟨(hs.2 p.1 ne).trans e,n,ne,nf,d⟩
 ·have hfn:X.fn x=true:=by
   rcases hf with z|z
   ·exact z
   ·rw[z]at hk;cases hk
  obtain⟨c,hc⟩:=I.ok.has x (.inl hk);obtain⟨w',z⟩:=I.cell x c hc;refine wpAny_storeName_cell I.ok.kind hk hc z (λh' hc' hs=>?_);obtain⟨oc,hoc,hocd⟩:=id z;refine h { s with heap:=h' } ⟨I.ok,I.os,I.bare,⟨λb o e n hb hx=>?_,λb o e n hb hx=>?_,I.base.free,λb o e hx=>?_,I.base.tups,I.base.frzs,I.base.tbls⟩,⟨m,hn.sameBut hs (Ne.symm (Hd x c hc)),λj y v' e1 e2 e3=>?_⟩,λy c' e=>?_,I.free,I.freeC,λp hp=>?_,tracked ⟨oc,hoc,I.freeC x c hc⟩ hs,by simpa using I.len⟩ ⟨c,hs,.inr hc⟩
  ·exact(hs.2 b (ne_of_lt (lt_of_lt_of_le (lt_size e) (I.ok.cab x c hfn hc)))).trans (I.base.keep b o e n hb hx)
  ·obtain⟨sl,e1⟩:=I.base.slot b o e n hb hx
   exact⟨sl,(hs.2 b (ne_of_lt (lt_of_lt_of_le (lt_size e) (I.ok.cab x c hfn hc)))).trans e1⟩
  ·obtain⟨o',e1⟩:=I.base.there b o e hx
   exact⟨o',(hs.2 b (ne_of_lt (lt_of_lt_of_le (lt_size e) (I.ok.cab x c hfn hc)))).trans e1⟩
  ·by_cases hj:j=i
   ·subst hj
    rw[hi]at e1;cases e1;rw[List.getElem?_set_self hiσ]at e2;cases e2;exact⟨u,r,.inr ⟨.inl hk,c,hc,hc'⟩⟩
   ·rw[List.getElem?_set_ne (Ne.symm hj)]at e2
    obtain⟨u',r',q⟩:=hl j y v' e1 e2 e3;refine⟨u',r',?_⟩;rcases q with q|⟨k,c',e,z'⟩
    ·exact .inl q
    ·refine .inr ⟨k,c',e,z'.sameBut hs ?_⟩
     rintro rfl;exact hj (t9 hN e1 (I.ok.inj _ _ _ e hc ▸ hi))
  ·by_cases hcc:c'=c
   ·subst hcc;exact⟨_,hc'⟩
   ·obtain⟨w2,z2⟩:=I.cell y c' e
    exact⟨w2,z2.sameBut hs hcc⟩
  ·obtain⟨e,n,ne,nf,d⟩:=I.pin p hp
   refine⟨(hs.2 p.1 ?_).trans e,n,ne,nf,d⟩;intro q;rw[q,hoc]at e;have q':oc=p.2:=Option.some.inj e;exact d w' (by rw[<-q'];exact hocd)
theorem kR{M:Model}{A:Around}{E:Value->Shared->Prop}{i:Nat}{x:Str}{v:V}{u:Value}{Q:Unit->Shared->Prop}(I:Inv X pins σ H s)(hN:X.N.Nodup)(hi:X.N[i]? =some x)(hx:Loc X.env.scope x)(r:RelV v u)
  (h:∀s',Inv X pins (σ.set i (some v)) H s'->Q () s')(hf:X.fn x=true\/X.env.scope.names.lookup x=some .local:=by first|exact .inl rfl|exact .inr rfl|assumption):wpAny M A (storeName X.env x u) Q E s:=
 zm I hN hi hx r (λs' I' _=>h s' I') hf
theorem Inv.Be{s':Shared}{ch:List Addr}(I:Inv X pins σ H s)(ho:s'.os=s.os)(u:Un (sE X.stack) ch H H' s.heap s'.heap)(hok:gB X.prog X.w H' s'.heap)(hg:AllBare s'.gens)
  (hch:∀b∈ch,(b∈X.ex\/X.s₀.heap.objs.size<=b)/\b≠X.env.locals/\(∀x c,X.env.cells.lookup x=some c->c≠b)/\∀p∈X.pn++pins,p.1≠b):Inv X pins σ H' s':=by
 obtain⟨h',g',d',t',o'⟩:=s';have e:o'=s.os:=ho;subst e;exact I.call (g':=g') (t':=t') (d':=d') u hok hg hch
end
abbrev XK:=Value->Option Addr->Hp->Prop
abbrev St:=List (Option V)
abbrev VK:=V->Hp->Prop
abbrev TE:=St->Hp->VK->Prop
abbrev TT:=St->Hp->(Bool->Hp->Prop)->Prop
abbrev TA:=St->Hp->(List V->Hp->Prop)->Prop
structure Ends where
 nx:St->Hp->Prop
 rt:VK
 bk:St->Hp->Prop:=λ_ _=>False
 ct:St->Hp->Prop:=λ_ _=>False
abbrev TS:=Ends->St->Hp->Prop
inductive EP(X:Cx)(pins:List (Addr×Obj))(σ:St)(Q:VK)(u:Value)(s':Shared):Prop
 |mk(v:V)(H':Hp)(I:Inv X pins σ H' s')(r:RelV v u)(q:Q v H')
inductive TP(X:Cx)(pins:List (Addr×Obj))(σ:St)(Q:Bool->Hp->Prop)(b:Bool)(s':Shared):Prop
 |mk(H':Hp)(I:Inv X pins σ H' s')(q:Q b H')
inductive AP(X:Cx)(pins:List (Addr×Obj))(σ:St)(Q:List V->Hp->Prop)(us:List Value)(s':Shared):Prop
 |mk(vs:List V)(H':Hp)(I:Inv X pins σ H' s')(r:Vals vs us)(q:Q vs H')
inductive SN(X:Cx)(pins:List (Addr×Obj))(k:St->Hp->Prop)(s':Shared):Prop
 |mk(σ':St)(H':Hp)(I:Inv X pins σ' H' s')(q:k σ' H')
def SP(X:Cx)(pins:List (Addr×Obj))(D:Ends)(f:Flow)(s':Shared):Prop:=
 match f with
 |.next=>SN X pins D.nx s'
 |.brk=>SN X pins D.bk s'
 |.cont=>SN X pins D.ct s'
 |.ret u=>∃v σ' H',Inv X pins σ' H' s'/\RelV v u/\D.rt v H'
def PE(X:Cx)(e:Expr)(t:TE):Prop:=
 ∀(pins:List (Addr×Obj)) (s:Shared) (σ:St) (H:Hp) (Q:VK),Inv X pins σ H s->t σ H Q->wpAny (model X.prog X.w) X.A (eval e X.env) (EP X pins σ Q) X.xe s
def PT(X:Cx)(e:Expr)(t:TT):Prop:=
 ∀(pins:List (Addr×Obj)) (s:Shared) (σ:St) (H:Hp) (Q:Bool->Hp->Prop),Inv X pins σ H s->t σ H Q->wpAny (model X.prog X.w) X.A (isTrue e X.env (eval e X.env)) (TP X pins σ Q) X.xe s
def PW(X:Cx)(e:Expr)(t:TT):Prop:=
 ∀(whole:Sem Value) (pins:List (Addr×Obj)) (s:Shared) (σ:St) (H:Hp) (Q:Bool->Hp->Prop),Inv X pins σ H s->t σ H Q->wpAny (model X.prog X.w) X.A (isTrue e X.env whole) (TP X pins σ Q) X.xe s
theorem PW.pt{X:Cx}{e:Expr}{t:TT}(h:PW X e t):PT X e t:=h _
def PA(X:Cx)(es:List Expr)(t:TA):Prop:=
 ∀(pos:Pos) (pins:List (Addr×Obj)) (s:Shared) (σ:St) (H:Hp) (Q:List V->Hp->Prop),Inv X pins σ H s->t σ H Q->wpAny (model X.prog X.w) X.A (spliced (backTo pos (starEach es X.env))) (AP X pins σ Q) X.xe s
def PS(X:Cx)(st:Stmt)(t:TS):Prop:=
 ∀(pins:List (Addr×Obj)) (s:Shared) (σ:St) (H:Hp) (D:Ends),Inv X pins σ H s->t D σ H->wpAny (model X.prog X.w) X.A (exec st X.env) (SP X pins D) X.xe s
def sW(X:Cx)(st:List Stmt)(t:TS):Prop:=
 ∀(pins:List (Addr×Obj)) (s:Shared) (σ:St) (H:Hp) (D:Ends),Inv X pins σ H s->t D σ H->wpAny (model X.prog X.w) X.A (execs st X.env) (SP X pins D) X.xe s
theorem dz{α:Type}{t:Sem α}{Q Q':α->Shared->Prop}{M:Model}{A:Around}{E:Value->Shared->Prop}{s:Shared}(h:wpAny M A t Q E s)(hQ:∀a s,Q a s->Q' a s):wpAny M A t Q' E s:=wpAny_mono h hQ λ_ _ x=>x
end L2
namespace L2
open PySem PySem.Spec PyProof.Rows
section
variable {X:Cx}
inductive Ll(i:Nat)(σ:St)(H:Hp)(Q:VK):Prop
 |mk(v:V)(h:σ[i]? =some (some v))(q:Q v H)
def gx(i:Nat):TE:=λσ H Q=>Ll i σ H Q
inductive HC(x:V)(H:Hp)(Q:Bool->Hp->Prop):Prop
 |mk(c:Bool)(h:x=.bl c)(q:Q c H)
def tC(v:V):TE:=λ_ H Q=>Q v H
theorem jP {i:Nat}{x:Str}{pos:Pos}(hN:X.N[i]? =some x) (hv:KL X.env.scope x) (hd:(x == ("__debug__" :Str))=false:=by decide) (hcd:(x == ("__classdict__" :Str))=false:=by decide):PE X (.Name x pos) (gx i):=by
 intro pins s σ H Q I h;obtain⟨v,e,h⟩:=h;obtain⟨m,hn,hl⟩:=I.loc;obtain⟨u,r,l⟩:=hl i x v hN e hv;have fin:EP X pins σ Q u s:=⟨v,H,I,r,h⟩;rcases l with ⟨hk,hm⟩|⟨hk,c,hc,hcell⟩
 ·exact wpAny_Name (wpAny_loadName_local I.ok.kind hk hn hm fin) hd
 ·rcases hk with hk|hk
  ·exact wpAny_Name (wpAny_loadName_cell I.ok.kind hk hc hcell fin) hd
  ·exact wpAny_Name (wpAny_loadName_free I.ok.kind hk hc hcell fin hcd) hd
theorem l6{i j pos}:PE X (.Constant (.int i) j pos) (tC (.int i)):=λ_ _ _ H _ I h=>wpAny_Constant_int ⟨.int i,H,I.tok _,⟨_,rfl⟩,h⟩
theorem Eu{b j pos}:PE X (.Constant (.bool b) j pos) (tC (.bl b)):=λ_ _ _ H _ I h=>Constant_bool ⟨.bl b,H,I,rfl,h⟩
theorem GZ{j pos}:PE X (.Constant .none j pos) (tC .non):=λ_ _ _ H _ I h=>Constant_none ⟨.non,H,I,rfl,h⟩
theorem vC{x j pos}:PE X (.Constant (.str x) j pos) (tC (.str x)):=λ_ _ _ H _ I h=>Calls.Constant_str ⟨.str x,H,I.tok _,⟨_,rfl⟩,h⟩
def Gl(X:Cx)(x:Str):Prop:=X.env.kindOf x=some .globalImplicit
theorem nu{E:Value->Shared->Prop}{pins:List (Addr×Obj)}{s:Shared}{σ:St}{H:Hp}{x:Str}{u:Value}{pos:Pos}{Q:Value->Shared->Prop}(I:Inv X pins σ H s)(hg:Gl X x)(hm:X.mg x=some u)(h:Q u s)
  (hd:(x == ("__debug__" :Str))=false:=by decide):wpAny (model X.prog X.w) X.A (eval (.Name x pos) X.env) Q E s:=
 Calls.Name_function_global I.ok.kind hg (Calls.loadGlobal_global (by rw[I.ok.glob];exact I.mod.glob.keeps I.bk) hm h) hd
theorem l7{E:Value->Shared->Prop}{pins:List (Addr×Obj)}{s:Shared}{σ:St}{H:Hp}{x:Str}{u:Value}{pos:Pos}{Q:Value->Shared->Prop}(I:Inv X pins σ H s)(hg:Gl X x)(hm:X.mg x=none)(hv:bootBuiltins x=some u)(h:Q u s)
  (hn:x≠ "__name__" :=by decide) (hd:(x == ("__debug__" :Str))=false:=by decide):wpAny (model X.prog X.w) X.A (eval (.Name x pos) X.env) Q E s:=by
 obtain⟨mb,h1,h2⟩:=I.mod.blt;exact Calls.Name_function_global I.ok.kind hg (Calls.loadGlobal_builtin (by rw[I.ok.glob];exact I.mod.glob.keeps I.bk) hm (by rw[I.ok.blt];exact h1.keeps I.bk) ((h2 x hn).trans hv) h) hd
theorem nR {x:Str}{v:V}{u:Value}{pos:Pos}(hg:Gl X x) (hm:X.mg x=some u) (r:RelV v u) (hd:(x == ("__debug__" :Str))=false:=by decide):PE X (.Name x pos) (tC v):=
 λ_ _ _ H _ I h=>nu I hg hm ⟨v,H,I,r,h⟩ hd
theorem nF {x:Str}{v:V}{u:Value}{pos:Pos}(hg:Gl X x) (hm:X.mg x=none) (hv:bootBuiltins x=some u) (r:RelV v u) (hn:x≠ "__name__" :=by decide) (hd:(x == ("__debug__" :Str))=false:=by decide):PE X (.Name x pos) (tC v):=
 λ_ _ _ H _ I h=>l7 I hg hm hv ⟨v,H,I,r,h⟩ hn hd
def Kr(ta tb:TE)(k:Int->Int->Hp->Prop):St->Hp->Prop:=λσ H=>ta σ H λx H1=>tb σ H1 λy H2=>∃i j,x=.int i/\y=.int j/\k i j H2
def NA(ta tb:TE):TE:=λσ H Q=>Kr ta tb (λi j H2=>Q (.int (i+j)) H2) σ H
def ND(ta tb:TE):TE:=λσ H Q=>Kr ta tb (λi j H2=>Q (.int (i - j)) H2) σ H
def NU(ta tb:TE):TE:=λσ H Q=>Kr ta tb (λi j H2=>(-(2 ^ 64) < i/\i < 2 ^ 64)/\Q (.int (i * j)) H2) σ H
variable {a b:Expr}{ta tb:TE}{pos:Pos}
def PC(X:Cx)(op:CmpOp)(a b:Expr)(t:TE):Prop:=
 ∀(pins:List (Addr×Obj)) (s:Shared) (σ:St) (H:Hp) (Q:VK),Inv X pins σ H s->t σ H Q->
  wpAny (model X.prog X.w) X.A (eval a X.env) (λv s₁=>wpAny (model X.prog X.w) X.A (eval b X.env) (λu s₂=>wpAny (model X.prog X.w) X.A (compareOp op v u) (EP X pins σ Q) X.xe s₂) X.xe s₁) X.xe s
def yp(p:Int->Int->Bool)(ta tb:TE):TE:=λσ H Q=>Kr ta tb (λi j H2=>Q (.bl (p i j)) H2) σ H
abbrev N7:TE->TE->TE:=yp λi j=>decide (i < j)
abbrev N8:TE->TE->TE:=yp λi j=>decide (i<=j)
abbrev N4:TE->TE->TE:=yp λi j=>decide (j < i)
abbrev NX:TE->TE->TE:=yp λi j=>decide (j<=i)
abbrev NK:TE->TE->TE:=yp λi j=>decide (i=j)
abbrev NJ:TE->TE->TE:=yp λi j=> !decide (i=j)
def MI(ta:TE):TE:=λσ H Q=>ta σ H λx H1=>Q (.bl (decide (x=.non))) H1
def Mx(ta:TE):TE:=λσ H Q=>ta σ H λx H1=>Q (.bl (!decide (x=.non))) H1
def tB(t:TE):TT:=λσ H Q=>t σ H λx H1=>HC x H1 Q
theorem AU{op:CmpOp}{t:TE}(h:PC X op a b t)(h1:behindInMarks op b=false:=by first|exact nobehind _ (by decide) (by decide)|rfl):PE X (.Compare a [op] [b] pos) t:=λpins s σ H Q I hw=>wpAny_Compare1 (h pins s σ H Q I hw) h1
theorem BU{op:CmpOp}{t:TE}(h:PC X op a b t)(h1:behindInMarks op b=false:=by first|exact nobehind _ (by decide) (by decide)|rfl):PT X (.Compare a [op] [b] pos) (tB t):=by
 intro pins s σ H Q I hw;refine wpAny_isTrue_Compare1 (dz (h pins s σ H _ I hw) λv s1 h1=>dz h1 λu s2 h2=>dz h2 λc s3 hpat=>?_) h1;obtain⟨x,H1,I1,r1,q1⟩:=hpat;obtain⟨d,rfl,q⟩:=q1;cases r1;exact wpAny_truthy_bool ⟨H1,I1,q⟩
theorem vS{e:Expr}{t:TE}(h:PE X e t)(he:∀whole,isTrue e X.env whole=(do let v <-whole;standAt e.pos;holding [v] (truthy v)):=by intro _;rfl):PT X e (tB t):=by
 intro pins s σ H Q I hw;refine isTrue_plain (dz (h pins s σ H _ I hw) λv s1 hpat=>?_) (he _);obtain⟨x,H1,I1,r1,q1⟩:=hpat;obtain⟨d,rfl,q⟩:=q1;cases r1;exact wpAny_truthy_bool ⟨H1,I1,q⟩
variable {tA tB':TT}{rest:List Expr}
def IV(t u:TT):TT:=λσ H Q=>t σ H λc H1=>if c=true then u σ H1 Q else Q false H1
def Ly(t u:TT):TT:=λσ H Q=>t σ H λc H1=>if c=true then Q true H1 else u σ H1 Q
def Jq(t:TT):TT:=λσ H Q=>t σ H λc H1=>Q (!c) H1
theorem Cy(ha:PT X a tA):PW X (.BoolOp .And [a] pos) tA:=by
 intro wh pins s σ H Q I h;refine isTrue_and (dz (ha pins s σ H Q I h) λc s1 e=>?_);cases c with
 |true=>exact isTrue_and_nil e
 |false=>exact e
theorem AH(ha:PT X a tA):PW X (.BoolOp .Or [a] pos) tA:=by
 intro wh pins s σ H Q I h;refine isTrue_or (dz (ha pins s σ H Q I h) λc s1 e=>?_);cases c with
 |false=>exact isTrue_or_nil e
 |true=>exact e
theorem Fx(ha:PT X a tA)(hb:PW X (.BoolOp .And (b::rest) pos) tB'):PW X (.BoolOp .And (a::b::rest) pos) (IV tA tB'):=by
 intro wh pins s σ H Q I h;refine isTrue_and (dz (ha pins s σ H _ I h) λc s1 ⟨H1,I1,q1⟩=>?_);cases c with
 |true=>exact hb wh pins s1 σ H1 Q I1 q1
 |false=>exact⟨H1,I1,q1⟩
theorem Ec(ha:PT X a tA)(hb:PW X (.BoolOp .Or (b::rest) pos) tB'):PW X (.BoolOp .Or (a::b::rest) pos) (Ly tA tB'):=by
 intro wh pins s σ H Q I h;refine isTrue_or (dz (ha pins s σ H _ I h) λc s1 ⟨H1,I1,q1⟩=>?_);cases c with
 |true=>exact⟨H1,I1,q1⟩
 |false=>exact hb wh pins s1 σ H1 Q I1 q1
theorem uX(ha:PT X a tA):PT X (.UnaryOp .Not a pos) (Jq tA):=by
 intro pins s σ H Q I h;exact isTrue_not (dz (ha pins s σ H (λc H1=>Q (!c) H1) I h) λc s1 q=>q.casesOn λH1 I1 q1=>⟨H1,I1,q1⟩)
def BF(ta tb:TE):TE:=λσ H Q=>ta σ H λx H1=>HC x H1 λc H2=>if c=true then tb σ H2 Q else Q (.bl false) H2
def Dv(ta tb:TE):TE:=λσ H Q=>ta σ H λx H1=>HC x H1 λc H2=>if c=true then Q (.bl true) H2 else tb σ H2 Q
def EF(ta:TE):TE:=λσ H Q=>ta σ H λx H1=>HC x H1 λc H2=>Q (.bl (!c)) H2
theorem rE{op}{t:TE}(h:PE X a t):PE X (.BoolOp op [a] pos) t:=λpins s σ H Q I hw=>BoolOp_one (h pins s σ H Q I hw)
theorem qK(ha:PE X a ta)(hb:PE X (.BoolOp .And (b::rest) pos) tb):PE X (.BoolOp .And (a::b::rest) pos) (BF ta tb):=by
 intro pins s σ H Q I h;refine BoolOp_and (dz (ha pins s σ H _ I h) λv s1 hpat=>?_);obtain⟨x,H1,I1,r1,q1⟩:=hpat;obtain⟨c,rfl,q1⟩:=q1;cases r1;refine wpAny_truthy_bool ?_;cases c with
 |true=>exact hb pins s1 σ H1 Q I1 q1
 |false=>exact⟨.bl false,H1,I1,rfl,q1⟩
theorem qp(ha:PE X a ta)(hb:PE X (.BoolOp .Or (b::rest) pos) tb):PE X (.BoolOp .Or (a::b::rest) pos) (Dv ta tb):=by
 intro pins s σ H Q I h;refine BoolOp_or (dz (ha pins s σ H _ I h) λv s1 hpat=>?_);obtain⟨x,H1,I1,r1,q1⟩:=hpat;obtain⟨c,rfl,q1⟩:=q1;cases r1;refine wpAny_truthy_bool ?_;cases c with
 |false=>exact hb pins s1 σ H1 Q I1 q1
 |true=>exact⟨.bl true,H1,I1,rfl,q1⟩
theorem oq(ha:PE X a ta):PE X (.UnaryOp .Not a pos) (EF ta):=by
 intro pins s σ H Q I h;refine UnaryOp_ (dz (ha pins s σ H _ I h) λv s1 hpat=>?_);obtain⟨x,H1,I1,r1,q1⟩:=hpat;obtain⟨c,rfl,q1⟩:=q1;cases r1;exact not_of (wpAny_truthy_bool ⟨.bl (!c),H1,I1,rfl,q1⟩)
def Mm(t:TT)(ta tb:TE):TE:=λσ H Q=>t σ H λc H1=>if c=true then ta σ H1 Q else tb σ H1 Q
theorem Ax{c:Expr}(hc:PT X c tA)(ha:PE X a ta)(hb:PE X b tb):PE X (.IfExp c a b pos) (Mm tA ta tb):=by
 intro pins s σ H Q I h;refine wpAny_IfExp (dz (hc pins s σ H _ I h) λd s1 ⟨H1,I1,q1⟩=>?_);cases d with
 |true=>exact ha pins s1 σ H1 Q I1 q1
 |false=>exact hb pins s1 σ H1 Q I1 q1
end
end L2
namespace L2
open PySem PySem.Spec PyProof.Rows
def cK(K:FG0)(H:Hp)(a:Addr)(xs:List V):Prop:=
 Rd H a (.lst xs)\/
  ∃(o:Obj) (its:Array Value) (n:Nat),K.lookup a=some o/\o.cls=.type "list" /\o.dict=none/\o.data=.seq its n/\its.size<=sizeLine/\Vals xs its.toList
def dv(K:FG0)(H:Hp)(a:Addr)(xs:List V):Prop:=
 Rd H a (.tup xs)\/
  ∃(o:Obj) (its:Array Value) (n:Nat),K.lookup a=some o/\o.cls=.type "tuple" /\o.data=.seq its n/\its.size<=sizeLine/\Vals xs its.toList
def K0:Value->Option V
 |.none=>some .non
 |.bool b=>some (.bl b)
 |.int i _=>some (.int i)
 |.str x _=>some (.str x)
 |.bytes b _=>some (.byt b)
 |.float b _=>some (.flt b)
 |.ref a=>some (.ref a)
 |.type n=>some (.ty n)
 |_=>none
theorem RelV.abs{x:V}{u:Value}(r:RelV x u):K0 u=some x:=by
 cases x with
 |non=>cases r;rfl
 |bl _=>cases r;rfl
 |int _=>obtain⟨t,rfl⟩:=r;rfl
 |str _=>obtain⟨t,rfl⟩:=r;rfl
 |byt _=>obtain⟨t,rfl⟩:=r;rfl
 |flt _=>obtain⟨t,rfl⟩:=r;rfl
 |ref _=>cases r;rfl
 |ty _=>cases r;rfl
theorem RelV.inj{x y:V}{u:Value}(r:RelV x u)(q:RelV y u):x=y:=Option.some.inj (r.abs.symm.trans q.abs)
theorem Vals.inj:∀{xs ys:List V}{us:List Value},Vals xs us->Vals ys us->xs=ys
 |_,_,_,.nil,.nil=>rfl
 |_,_,_,.cons r t,.cons r' t'=>by rw[r.inj r',Vals.inj t t']
section
variable {X:Cx}{pins:List (Addr×Obj)}{σ:St}{H:Hp}{s:Shared}{a:Addr}{xs ys:List V}
theorem cK.of{K:FG0}(h:H a=some (.lst xs)):cK K H a xs:=.inl (.inl h)
theorem dv.of{K:FG0}(h:H a=some (.tup xs)):dv K H a xs:=.inl (.inl h)
theorem Inv.list(I:Inv X pins σ H s)(h:cK X.K H a xs):∃its:List Value,Vals xs its/\PlainL s.heap a its.toArray/\xs.length<=sizeLine:=by
 rcases h with h|⟨o,its,n,hk,hc,hd,hs,hz,r⟩
 ·obtain⟨z,its,n,r,e⟩:=h.ok I.hok
  exact⟨its,r,⟨_,n,e,rfl,rfl,rfl⟩,z⟩
 ·refine⟨its.toList,r,⟨o,n,I.m7 a o hk,hc,hd,by simpa using hs⟩,?_⟩
  have e:=r.length;simp only[length_toList]at e;omega
theorem Inv.tuple(I:Inv X pins σ H s)(h:dv X.K H a xs):∃its:List Value,Vals xs its/\IsTup s.heap a its.toArray/\xs.length<=sizeLine:=by
 rcases h with h|⟨o,its,n,hk,hc,hs,hz,r⟩
 ·obtain⟨z,its,r,p⟩:=h.ok I.hok
  exact⟨its,r,p,z⟩
 ·refine⟨its.toList,r,⟨o,I.m7 a o hk,hc,n,by simpa using hs⟩,?_⟩
  have e:=r.length;simp only[length_toList]at e;omega
theorem Inv.uI(I:Inv X pins σ H s)(h:cK X.K H a xs)(h':cK X.K H a ys):xs=ys:=by
 obtain⟨its,r,⟨o,n,e,_,_,d⟩,_⟩:=I.list h;obtain⟨its',r',⟨o',n',e',_,_,d'⟩,_⟩:=I.list h';rw[e]at e';cases e';rw[d]at d';injection d' with d1 _
 have:its=its':=by simpa using congrArg Array.toList d1
 subst this;exact r.inj r'
theorem Inv.y3(I:Inv X pins σ H s)(h:dv X.K H a xs)(h':dv X.K H a ys):xs=ys:=by
 obtain⟨its,r,⟨o,e,_,n,d⟩,_⟩:=I.tuple h;obtain⟨its',r',⟨o',e',_,n',d'⟩,_⟩:=I.tuple h';rw[e]at e';cases e';rw[d]at d';injection d' with d1 _
 have:its=its':=by simpa using congrArg Array.toList d1
 subst this;exact r.inj r'
end
abbrev Cx.pU(X:Cx)(E:Value->Shared->Prop):Cx:={ X with xe:=E }
abbrev Cx.BX(X:Cx):Cx:=X.pU λ_ _=>False
theorem Cx.Ok.pU{X:Cx}(ok:X.Ok)(E:Value->Shared->Prop):(X.pU E).Ok:=
 ⟨ok.mod,ok.kind,ok.glob,ok.blt,ok.above,ok.inj,ok.has,ok.cab,ok.hd,ok.frames,ok.stk,ok.exf,ok.bs,ok.bsz,ok.noex,ok.exfs,ok.lq,ok.frf⟩
theorem Cx.Ok.jr{X:Cx}{E:Value->Shared->Prop}(ok:(X.pU E).Ok):X.Ok:=
 ⟨ok.mod,ok.kind,ok.glob,ok.blt,ok.above,ok.inj,ok.has,ok.cab,ok.hd,ok.frames,ok.stk,ok.exf,ok.bs,ok.bsz,ok.noex,ok.exfs,ok.lq,ok.frf⟩
section
variable {X:Cx}{pins:List (Addr×Obj)}{σ:St}{H:Hp}{s:Shared}{E:Value->Shared->Prop}
theorem Inv.pU(I:Inv X pins σ H s)(E:Value->Shared->Prop):Inv (X.pU E) pins σ H s:=⟨I.ok.pU E,I.os,I.bare,I.base,I.loc,I.cell,I.free,I.freeC,I.pin,I.hok,I.len⟩
theorem Inv.jr(I:Inv (X.pU E) pins σ H s):Inv X pins σ H s:=⟨I.ok.jr,I.os,I.bare,I.base,I.loc,I.cell,I.free,I.freeC,I.pin,I.hok,I.len⟩
theorem SP.jr{D:Ends}{f:Flow}{s':Shared}(h:SP (X.pU E) pins D f s'):SP X pins D f s':=by
 cases f with
 |next=>obtain⟨σ',H',I,q⟩:=h;exact⟨σ',H',I.jr,q⟩
 |brk=>obtain⟨σ',H',I,q⟩:=h;exact⟨σ',H',I.jr,q⟩
 |cont=>obtain⟨σ',H',I,q⟩:=h;exact⟨σ',H',I.jr,q⟩
 |ret u=>obtain⟨v,σ',H',I,r,q⟩:=h;exact⟨v,σ',H',I.jr,r,q⟩
theorem sW.BX{st:List Stmt}{t:TS}(h:sW X.BX st t):sW X st t:=λpins s σ H D I hw=>
 wpAny_mono (h pins s σ H D (I.pU _) hw) (λ_ _ q=>q.jr) λ_ _ z=>False.elim z
end
section
variable {X:Cx}{st:Stmt}{rest:List Stmt}{t u:TS}{e:Expr}{te:TE}{pos:Pos}
def p9:TS:=λD σ H=>D.nx σ H
def tX(t u:TS):TS:=λD σ H=>t { D with nx:=u D } σ H
theorem xN:sW X [] p9:=λ_ _ σ H _ I h=>wpAny_execs_nil ⟨σ,H,I,h⟩
theorem tJ(h1:PS X st t)(h2:sW X rest u):sW X (st::rest) (tX t u):=by
 intro pins s σ H D I h;refine wpAny_execs_cons (dz (h1 pins s σ H { D with nx:=u D } I h) λf s1 q=>?_);cases f with
 |next=>
  obtain⟨σ',H',I',q⟩:=q;exact h2 pins s1 σ' H' D I' q
 |ret v=>exact q
 |brk=>exact q
 |cont=>exact q
theorem kG(h1:PS X st t):sW X [st] t:=by
 intro pins s σ H D I h;refine wpAny_execs_cons (dz (h1 pins s σ H D I h) λf s1 q=>?_);cases f with
 |next=>exact wpAny_execs_nil q
 |ret v=>exact q
 |brk=>exact q
 |cont=>exact q
def K4:TS:=λD σ H=>D.bk σ H
def Mf:TS:=λD σ H=>D.ct σ H
theorem Inv.quiet{pins:List (Addr×Obj)}{σ:St}{H:Hp}{s:Shared}(I:Inv X pins σ H s):interactive X.env=false:=by simp[interactive,I.ok.kind]
def xR(te:TE):TS:=λD σ H=>te σ H λ_ H1=>D.nx σ H1
theorem DO(he:PE X e te)(hs:swapsWith e none pos.line X.env=pure false:=by rfl):PS X (.Expr e pos) (xR te):=by
 intro pins s σ H D I h;exact wpAny_Expr_any (dz (he pins s σ H _ I h) λv s1 ⟨x,H1,I1,r1,q1⟩=>⟨σ,H1,I1,q1⟩) I.quiet hs
def IZ(te:TE):TS:=λD σ H=>te σ H D.rt
theorem oU(he:PE X e te):PS X (.Return (some e) pos) (IZ te):=by
 intro pins s σ H D I h;exact wpAny_Return_some (dz (he pins s σ H _ I h) λv s1 ⟨x,H1,I1,r1,q1⟩=>⟨x,σ,H1,I1,r1,q1⟩)
def Mw:TS:=λD _ H=>D.rt .non H
def y8(c:TT)(t u:TS):TS:=λD σ H=>c σ H λb H1=>if b=true then t D σ H1 else u D σ H1
theorem D8{c:Expr}{a b:List Stmt}{tc:TT}(hc:PT X c tc)(ha:sW X a t)(hb:sW X b u):PS X (.If c a b pos) (y8 tc t u):=by
 intro pins s σ H D I h;refine wpAny_If (dz (hc pins s σ H _ I h) λd s1 ⟨H1,I1,q1⟩=>?_);cases d with
 |true=>exact ha pins s1 σ H1 D I1 q1
 |false=>exact hb pins s1 σ H1 D I1 q1
def Au:TS:=λ_ _ _=>False
theorem fX{sts:List Stmt}:sW X sts Au:=λ_ _ _ _ _ _ h=>h.elim
end
abbrev TG:=V->St->Hp->(St->Hp->Prop)->Prop
abbrev pK:=List V->St->Hp->(St->Hp->Prop)->Prop
def PG(X:Cx)(target:Expr)(t:TG):Prop:=
 ∀(pins:List (Addr×Obj)) (s:Shared) (σ:St) (H:Hp) (v:V) (u:Value) (Q:St->Hp->Prop),Inv X pins σ H s->RelV v u->t v σ H Q->
  wpAny (model X.prog X.w) X.A (assign target X.env u) (λ_ s'=>∃σ' H',Inv X pins σ' H' s'/\Q σ' H') X.xe s
def Ih(X:Cx)(ts:List Expr)(t:pK):Prop:=
 ∀(pins:List (Addr×Obj)) (s:Shared) (σ:St) (H:Hp) (vs:List V) (us:List Value) (Q:St->Hp->Prop),Inv X pins σ H s->Vals vs us->t vs σ H Q->
  wpAny (model X.prog X.w) X.A (assignInOrder ((assignEach ts X.env).map (·.2)) us) (λ_ s'=>∃σ' H',Inv X pins σ' H' s'/\Q σ' H') X.xe s
abbrev E7:=V->V->V->Hp->(Hp->Prop)->Prop
def MY(X:Cx)(t:E7):Prop:=
 ∀(pins:List (Addr×Obj)) (s:Shared) (σ:St) (H:Hp) (o i v:V) (ov iv u:Value) (Q:Hp->Prop),Inv X pins σ H s->RelV o ov->RelV i iv->RelV v u->t o i v H Q->
  wpAny (model X.prog X.w) X.A (setItem ov iv u) (λ_ s'=>∃H',Inv X pins σ H' s'/\Q H') X.xe s
abbrev Ka:=V->V->Hp->VK->Prop
def N3(X:Cx)(op:Operator)(t:Ka):Prop:=
 ∀(pins:List (Addr×Obj)) (s:Shared) (σ:St) (H:Hp) (x y:V) (v u:Value) (Q:VK),Inv X pins σ H s->RelV x v->RelV y u->t x y H Q->
  wpAny (model X.prog X.w) X.A (inplaceOp op v u) (EP X pins σ Q) X.xe s
section
variable {X:Cx}{pos:Pos}
def eS(i:Nat):TG:=λv σ H Q=>Q (σ.set i (some v)) H
theorem nj{i:Nat}{x:Str}(hN:X.N.Nodup)(hi:X.N[i]? =some x)(hx:Loc X.env.scope x)(hf:X.fn x=true\/X.env.scope.names.lookup x=some .local:=by first|exact .inl rfl|exact .inr rfl|assumption):PG X (.Name x pos) (eS i):=by
 intro pins s σ H v u Q I r h;exact wpAny_assign_Name (kR I hN hi hx r (λs' I'=>⟨_,H,I',h⟩) hf)
def Jz:pK:=λvs σ H Q=>vs=[]/\Q σ H
inductive Iy(t:TG)(u:pK)(vs:List V)(σ:St)(H:Hp)(Q:St->Hp->Prop):Prop
 |mk(v:V)(r:List V)(e:vs=v::r)(q:t v σ H λσ' H'=>u r σ' H' Q)
def EB(t:TG)(u:pK):pK:=λvs σ H Q=>Iy t u vs σ H Q
theorem D1:Ih X [] Jz:=by
 intro pins s σ H vs us Q I r h;obtain⟨e,h⟩:=h;subst e;cases r;exact assignInOrder_nil ⟨σ,H,I,h⟩
theorem As{e:Expr}{es:List Expr}{t:TG}{u:pK}(h1:PG X e t)(h2:Ih X es u)
  (hs:(assignEach (e::es) X.env).map (·.2)=assign e X.env::(assignEach es X.env).map (·.2):=by rfl):Ih X (e::es) (EB t u):=by
 intro pins s σ H vs us Q I r h;obtain⟨v,vr,e1,h⟩:=h;subst e1;cases r with
 |cons r rr=>
  rw[hs];refine assignInOrder_cons (dz (h1 pins s σ H _ _ _ I r h) λ_ s1 hpat=>?_);obtain⟨σ1,H1,I1,q1⟩:=hpat;exact h2 pins s1 σ1 H1 _ _ Q I1 rr q1
inductive LK(K:FG0)(n:Nat)(t:pK)(v:V)(σ:St)(H:Hp)(Q:St->Hp->Prop):Prop
 |mk(a:Addr)(xs:List V)(hv:v=.ref a)(s:dv K H a xs)(e:xs.length=n)(q:t xs σ H Q)
def GG(K:FG0)(n:Nat)(t:pK):TG:=λv σ H Q=>LK K n t v σ H Q
theorem AY{es:List Expr}{k:Nat}{t:pK}{n:Nat}(hc:X.calm=true)(h:Ih X es t)
  (hn:(assignEach es X.env).length=n:=by rfl)(hst:(assignEach es X.env).findIdx? (·.1)=none:=by rfl):PG X (.Tuple es k pos) (GG X.K n t):=by
 intro pins s σ H v u Q I r hw;obtain⟨a,xs,e1,hq,hl,hw⟩:=hw;subst e1;cases r;obtain⟨its,rv,ht,hz⟩:=I.tuple hq;refine assign_Tuple_tuple (I.ok.hd hc) ht (by simp[hn,<-hl,rv.length]) hst λh' hx=>?_;have I1:Inv X pins σ H { s with heap:=h' }:=I.kept (t':=s.toks) λb o e=>hx b o (ne_of_lt (lt_size e)) e;exact h pins _ σ H xs _ Q I1 (by simpa using rv) hw
def Ni(to ti:TE)(t:E7):TG:=λv σ H Q=>to σ H λo H1=>ti σ H1 λi H2=>t o i v H2 λH3=>Q σ H3
def rJ(te:TE)(g:TG):TS:=λD σ H=>te σ H λx H1=>g x σ H1 D.nx
theorem F2{tg e:Expr}{te:TE}{g:TG}(he:PE X e te)(hg:PG X tg g)(hs:swapsWithSole [tg] e pos.line X.env=pure false:=by rfl)(hw:swappedStores [tg] e X.env=pure none:=by rfl)
  (h1:(assignEach [tg] X.env).map (·.2)=[assign tg X.env]:=by rfl):PS X (.Assign [tg] e pos) (rJ te g):=by
 intro pins s σ H D I h;refine wpAny_Assign_stores (dz (he pins s σ H _ I h) λv s1 hpat=>?_) hs hw;obtain⟨x,H1,I1,r1,q1⟩:=hpat;rw[h1];exact dz (hg pins s1 σ H1 x v _ I1 r1 q1) λ_ s2 ⟨a,b,c,d⟩=>⟨a,b,c,d⟩
theorem Fj{i:Nat}{x:Str}{e:Expr}{te:TE}{pos':Pos}(hN:X.N.Nodup)(hi:X.N[i]? =some x)(hx:Loc X.env.scope x)(he:PE X e te)(hs:swapsWith e (some (.Name x pos')) pos.line X.env=pure false:=by rfl)(hf:X.fn x=true\/X.env.scope.names.lookup x=some .local:=by first|exact .inl rfl|exact .inr rfl|assumption):
  PS X (.Assign [.Name x pos'] e pos) (rJ te (eS i)):=by
 intro pins s σ H D I h;refine wpAny_Assign_Name (dz (he pins s σ H _ I h) λv s1 hpat=>?_) hs;obtain⟨y,H1,I1,r1,q1⟩:=hpat;exact kR I1 hN hi hx r1 (λs2 I2=>⟨_,H1,I2,q1⟩) hf
def MJ(i j:Nat)(ta:TA):TS:=λD σ H=>ta σ H λvs H1=>∃v w,vs=[v,w]/\D.nx ((σ.set i (some v)).set j (some w)) H1
def Nx(i:Nat)(te:TE)(ti:Ka):TS:=λD σ H=>∃x,σ[i]? =some (some x)/\te σ H λy H1=>ti x y H1 λz H2=>D.nx (σ.set i (some z)) H2
def Mh(to ti te:TE)(tget:V->V->Hp->VK->Prop)(tip:Ka)(tset:E7):TS:=λD σ H=>to σ H λo H1=>ti σ H1 λi H2=>tget o i H2 λx H3=>te σ H3 λy H4=>tip x y H4 λz H5=>tset o i z H5 λH6=>D.nx σ H6
def NR(X:Cx)(t:V->V->Hp->VK->Prop):Prop:=
 ∀(pins:List (Addr×Obj)) (s:Shared) (σ:St) (H:Hp) (o i:V) (ov iv:Value) (Q:VK),Inv X pins σ H s->RelV o ov->RelV i iv->t o i H Q->
  wpAny (model X.prog X.w) X.A (getItem ov iv) (EP X pins σ Q) X.xe s
def NW(f:Int->Int->Int):Ka:=λx y H Q=>∃i j,x=.int i/\y=.int j/\Q (.int (f i j)) H
end
section
variable {X:Cx}{pos:Pos}
def Aj(c:TT)(tb:TS):TS:=λD σ H=>∃W:Nat->St->Hp->Prop,(∃m,W m σ H)/\∀m σ H,W m σ H->
 c σ H λb H1=>if b=true then ∃N:St->Hp->Prop,(∀σ' H',N σ' H'->∃m',m' < m/\W m' σ' H')/\tb { D with nx:=N,ct:=N,bk:=D.nx } σ H1 else D.nx σ H1
theorem zO{c:Expr}{body:List Stmt}{tc:TT}{tb:TS}(hp:PassesOwn (model X.prog X.w) X.A X.env X.xe)(hc:PT X c tc)(hb:sW X body tb):PS X (.While c body [] pos) (Aj tc tb):=by
 intro pins s σ H D I h;obtain⟨W,⟨m0,w0⟩,turn⟩:=h;refine wpAny_While (codeAny_whileLoop (λn s'=>∃σ' H',Inv X pins σ' H' s'/\W n σ' H') ?_ m0 ⟨σ,H,I,w0⟩);rintro n s1 ⟨σ1,H1,I1,w1⟩;refine wpAny_passesOwn hp (dz (hc pins s1 σ1 H1 _ I1 (turn n σ1 H1 w1)) λb s2 ⟨H2,I2,q2⟩=>?_);cases b with
 |true=>
  obtain⟨N,hN,q2⟩:=q2;rw[if_pos rfl];refine wpAny_passesOwn hp (dz (hb pins s2 σ1 H2 _ I2 q2) λf s3 q3=>?_);cases f with
  |next=>
   obtain⟨σ3,H3,I3,n3⟩:=q3;obtain⟨m',hm,w3⟩:=hN σ3 H3 n3;exact⟨m',hm,σ3,H3,I3,w3⟩
  |cont=>
   obtain⟨σ3,H3,I3,n3⟩:=q3;obtain⟨m',hm,w3⟩:=hN σ3 H3 n3;exact⟨m',hm,σ3,H3,I3,w3⟩
  |brk=>exact q3
  |ret v=>exact q3
 |false=>
  rw[if_neg bF0];exact wpAny_execs_nil ⟨σ1,H2,I2,q2⟩
end
structure It where
 go:Nat->Hp->Prop
 yld:Nat->Hp->V->Hp->Prop
 stop:Nat->Hp->Prop
def iY(X:Cx)(pins:List (Addr×Obj))(H:Hp)(b:Addr):Prop:=
 H b=none/\b≠X.env.locals/\b ∉ X.fs/\(b∈X.ex\/X.s₀.heap.objs.size<=b)/\(∀x c,X.env.cells.lookup x=some c->c≠b)/\∀p∈X.pn++pins,p.1≠b
theorem Inv.zd{X:Cx}{pins:List (Addr×Obj)}{σ:St}{H H':Hp}{s:Shared}{b:Addr}(I:Inv X pins σ H s)(hb:s.heap.objs.size<=b)(hn:H' b=none):iY X pins H' b:=by
 refine⟨hn,ne_of_gt (lt_of_lt_of_le I.lt hb),I.KP hb,.inr (le_trans I.sz hb),λx c e z=>?_,λp hp z=>?_⟩
 ·obtain⟨v,q⟩:=I.cell x c e
  exact absurd (lt_of_lt_of_le q.lt (by rw[z];exact hb)) (lt_irrefl _)
 ·exact absurd (lt_of_lt_of_le (lt_size (I.pin p hp).1) (by rw[z];exact hb)) (lt_irrefl _)
structure Turn(P:Program)(w:World)(K:FG0)(tg:Expr)(J:It)(fp:List Addr)(it:Addr)(tn:Nat->Heap->Prop):Prop where
 mem:it∈fp
 obj:∀i h,tn i h->∀b∈fp,∃o,h.get? b=some o/\∀v,o.data≠.cell v
 keep:∀i h h',tn i h->(∀b∈fp,∀o,h.get? b=some o->h'.get? b=some o)->tn i h'
 item:∀(X:Cx),X.prog=P->X.w=w->X.K=K->X.calm=true->∀(i:Nat) (pins:List (Addr×Obj)) (s:Shared) (σ:St) (H:Hp) (E:Value->Shared->Prop),Inv X pins σ H s->(∀b∈fp,iY X pins H b)->tn i s.heap->J.go i H->
  wpAny (model P w) X.A (pyNext (.ref it)) (λr s1=>∃u,r=some u/\
   wpAny (model P w) X.A (letOwnedTupleGo tg (.ref it) u) (λ_ s2=>∃x H',Inv X pins σ H' s2/\RelV x u/\J.yld i H x H'/\tn (i+1) s2.heap/\∀b∈fp,H' b=none) E s1) E s
 done:∀(X:Cx),X.prog=P->X.w=w->X.K=K->X.calm=true->∀(i:Nat) (pins:List (Addr×Obj)) (s:Shared) (σ:St) (H:Hp) (E:Value->Shared->Prop),Inv X pins σ H s->(∀b∈fp,iY X pins H b)->tn i s.heap->J.stop i H->
  wpAny (model P w) X.A (pyNext (.ref it)) (λr s1=>r=none/\Inv X pins σ H s1) E s
 self:∀(A:Around) (i:Nat) (s:Shared) (Q:Value->Shared->Prop) (E:Value->Shared->Prop),tn i s.heap->Q (.ref it) s->wpAny (model P w) A (pyIter (.ref it)) Q E s
abbrev TI:=St->Hp->(It->Hp->Prop)->Prop
def Lu(X:Cx)(pins:List (Addr×Obj))(σ:St)(tg:Expr)(R:It->Hp->Prop)(itv:Value)(s2:Shared):Prop:=
 ∃(it:Addr) (fp:List Addr) (tn:Nat->Heap->Prop) (J:It) (H':Hp),itv=.ref it/\Inv X pins σ H' s2/\Turn X.prog X.w X.K tg J fp it tn/\tn 0 s2.heap/\(∀b∈fp,iY X pins H' b)/\R J H'
def PI(X:Cx)(tg iter:Expr)(wi:TI):Prop:=
 ∀(pins:List (Addr×Obj)) (s:Shared) (σ:St) (H:Hp) (R:It->Hp->Prop),Inv X pins σ H s->wi σ H R->
  wpAny (model X.prog X.w) X.A (eval iter X.env) (λv s1=>wpAny (model X.prog X.w) X.A (pyIter v) (Lu X pins σ tg R) X.xe s1) X.xe s
theorem wR{M:Model}{A:Around}{E:Value->Shared->Prop}{s:Shared}{tg:Expr}{it:Addr}{u:Value}{o:Obj}{n:String}{vs:Array Value}{Q:Unit->Shared->Prop}(ho:s.heap.get? it=some o)(hc:o.cls=.type n)(hd:o.data=.fields vs)
  (hn:["enumerate", "zip", "dict_itemiterator", "dict_reverseitemiterator", "odict_iterator", "itertools.zip_longest", "itertools.pairwise"].contains n=false) (hQ:Q () s):wpAny M A (letOwnedTupleGo tg (.ref it) u) Q E s:=by
 unfold letOwnedTupleGo;cases tg<;>first
  |exact wpAny_pure hQ
  | (cases u<;>first
    |exact wpAny_pure hQ
    | (refine wpAny_bind (wpAny_load ho ?_)
       rw[hc,hd];show wpAny M A (if(["enumerate", "zip", "dict_itemiterator", "dict_reverseitemiterator", "odict_iterator", "itertools.zip_longest", "itertools.pairwise"].contains n && vs[0]? == some (rawInt _))=true then _ else _) Q E s;rw[if_neg (by intro h;rw[hn,Bool.false_and]at h;cases h)];exact wpAny_pure hQ))
def BW(K:FG0)(a:Addr):It:=
 ⟨λi H=>∃xs x,cK K H a xs/\xs[i]? =some x,λi H x H'=>H'=H/\∀xs,cK K H a xs->xs[i]? =some x,λi H=>∃xs,cK K H a xs/\xs.length<=i⟩
def Lo(K:FG0)(a:Addr):It:=
 ⟨λi H=>∃xs x,dv K H a xs/\xs[i]? =some x,λi H x H'=>H'=H/\∀xs,dv K H a xs->xs[i]? =some x,λi H=>∃xs,dv K H a xs/\xs.length<=i⟩
def CC(lo:Int)(n:Nat):It:=⟨λi _=>i < n,λi H x H'=>H'=H/\x=.int (lo+i),λi _=>n<=i⟩
theorem yL{P:Program}{w:World}{K:FG0}{tg:Expr}(a it:Addr):Turn P w K tg (BW K a) [it] it (λi h=>h.IsListIter it a i) where
 mem:=by simp
 obj:=λi h st b hb=>by
  have e:b=it:=by simpa using hb
  subst e;obtain⟨o,e,c,d⟩:=st;exact⟨o,e,λv z=>by rw[d]at z;cases z⟩
 keep:=λi h h' st k=>st.at λo e=>k it (by simp) o e
 item:=by
  intro X hP hw hK hc i pins s σ H E I hf st hg;subst hP hw hK;obtain⟨xs,x,hq,hx⟩:=hg;obtain⟨its,rv,p,hz⟩:=I.list hq;obtain⟨u,hu,ru⟩:=rv.get hx;obtain⟨f0,f1,f2,f3,f4,f5⟩:=hf it (by simp);refine wpAny_pyNext_list_item st p.isList (x:=u) (by simpa using hu) λh' st' sb=>?_;have I1:Inv X pins σ H { s with heap:=h' }:=I.turned (t':=s.toks) (λb o hb e=>(sb.2 b hb).trans e) f0 f1 f3 f4 f5;obtain⟨o,e,c,d⟩:=id st';exact⟨u,rfl,wR (s:={ s with heap:=h' }) e c d (by decide) ⟨x,H,I1,ru,⟨rfl,λys hy=>by rw[I.uI hy hq];exact hx⟩,st',λb hb=>(hf b hb).1⟩⟩
 done:=by
  intro X hP hw hK hc i pins s σ H E I hf st hg;subst hP hw hK;obtain⟨xs,hq,hx⟩:=hg;obtain⟨its,rv,p,hz⟩:=I.list hq;obtain⟨f0,f1,f2,f3,f4,f5⟩:=hf it (by simp);have hl:=rv.length;exact wpAny_pyNext_list_end (I.ok.hd hc) st p.isList (by simp;omega) λh' eb=>⟨rfl,I.turned (t':=s.toks) (λb o hb e=>eb b o hb e) f0 f1 f3 f4 f5⟩
 self:=λ_ _ _ _ _ st h=>wpAny_pyIter_listiter st h
theorem uV{P:Program}{w:World}{K:FG0}{tg:Expr}(a it:Addr):Turn P w K tg (Lo K a) [it] it (λi h=>h.IsTupleIter it a i) where
 mem:=by simp
 obj:=λi h st b hb=>by
  have e:b=it:=by simpa using hb
  subst e;obtain⟨o,e,c,d⟩:=st;exact⟨o,e,λv z=>by rw[d]at z;cases z⟩
 keep:=λi h h' st k=>st.at λo e=>k it (by simp) o e
 item:=by
  intro X hP hw hK hc i pins s σ H E I hf st hg;subst hP hw hK;obtain⟨xs,x,hq,hx⟩:=hg;obtain⟨its,rv,p,hz⟩:=I.tuple hq;obtain⟨u,hu,ru⟩:=rv.get hx;obtain⟨f0,f1,f2,f3,f4,f5⟩:=hf it (by simp);refine wpAny_pyNext_tuple_item st (show s.heap.IsTuple a its.toArray from p) (x:=u) (by simpa using hu) λh' st' sb=>?_;have I1:Inv X pins σ H { s with heap:=h' }:=I.turned (t':=s.toks) (λb o hb e=>(sb.2 b hb).trans e) f0 f1 f3 f4 f5;obtain⟨o,e,c,d⟩:=id st';exact⟨u,rfl,wR (s:={ s with heap:=h' }) e c d (by decide) ⟨x,H,I1,ru,⟨rfl,λys hy=>by rw[I.y3 hy hq];exact hx⟩,st',λb hb=>(hf b hb).1⟩⟩
 done:=by
  intro X hP hw hK hc i pins s σ H E I hf st hg;subst hP hw hK;obtain⟨xs,hq,hx⟩:=hg;obtain⟨its,rv,p,hz⟩:=I.tuple hq;obtain⟨f0,f1,f2,f3,f4,f5⟩:=hf it (by simp);have hl:=rv.length;exact wpAny_pyNext_tuple_end (I.ok.hd hc) st (show s.heap.IsTuple a its.toArray from p) (by simp;omega) λh' eb=>⟨rfl,I.turned (t':=s.toks) (λb o hb e=>eb b o hb e) f0 f1 f3 f4 f5⟩
 self:=λ_ _ _ _ _ st h=>wpAny_pyIter_tupleiter st h
theorem wg{P:Program}{w:World}{K:FG0}{tg:Expr}(it:Addr)(lo:Int)(n:Nat):Turn P w K tg (CC lo n) [it] it (λi h=>IsRangeIter h it (lo+(i:Nat) * 1) ((n:Int) - (i:Nat)) 1) where
 mem:=by simp
 obj:=λi h st b hb=>by
  have e:b=it:=by simpa using hb
  subst e;exact⟨_,st,λv z=>by
   have z':Data.fields _=Data.cell v:=z;cases z'⟩
 keep:=λi h h' st k=>k it (by simp) _ st
 item:=by
  intro X hP hw hK hc i pins s σ H E I hf st hg;subst hP hw hK;obtain⟨f0,f1,f2,f3,f4,f5⟩:=hf it (by simp);have W:=Walks.range (prog:=X.prog) (w:=X.w) (I.ok.hd hc) it lo 1 n;refine W.item i s _ _ hg st λv h' tk hv st' kk=>?_;obtain⟨t,rfl⟩:=hv;have I1:Inv X pins σ H { s with heap:=h',toks:=tk }:=I.turned (λb o hb e=>kk b o (by simpa using hb) e) f0 f1 f3 f4 f5;refine⟨_,rfl,wR (s:={ s with heap:=h',toks:=tk }) (n:= "range_iterator") st' rfl rfl (by decide) ⟨.int (lo+i),H,I1,⟨t,?_⟩,⟨rfl,rfl⟩,st',λb hb=>(hf b hb).1⟩⟩;rw[Int.mul_one]
 done:=by
  intro X hP hw hK hc i pins s σ H E I hf st hg;subst hP hw hK;obtain⟨f0,f1,f2,f3,f4,f5⟩:=hf it (by simp);exact wpAny_pyNext_range_end (I.ok.hd hc) st (by have:n<=i:=hg;omega) λh' eb=>⟨rfl,I.turned (t':=s.toks) (λb o hb e=>eb b o hb e) f0 f1 f3 f4 f5⟩
 self:=λ_ _ _ _ _ st h=>wpAny_pyIter_rangeiter st h
end L2
namespace L2
open PySem PySem.Spec PyProof.Rows
section
variable {X:Cx}{tg:Expr}
inductive GY(K:FG0)(x:V)(H:Hp)(R:It->Hp->Prop):Prop
 |mk(a:Addr)(e:x=.ref a)(s:∃xs,cK K H a xs)(q:R (BW K a) H)
def EA(K:FG0)(tl:TE):TI:=λσ H R=>tl σ H λx H1=>GY K x H1 R
def IH(K:FG0)(tl:TE):TI:=λσ H R=>tl σ H λx H1=>∃a,x=.ref a/\(∃xs,dv K H1 a xs)/\R (Lo K a) H1
theorem Ci{l:Expr}{tl:TE}(hl:PE X l tl):PI X tg l (EA X.K tl):=by
 intro pins s σ H R I h;refine dz (hl pins s σ H _ I h) λv s1 hpat=>?_;obtain⟨x,H1,I1,r1,q1⟩:=hpat;obtain⟨a,e,⟨xs,hq⟩,q⟩:=q1;subst e;cases r1;obtain⟨its,rv,p,hz⟩:=I1.list hq;refine wpAny_pyIter_list p.isList ?_;refine⟨s1.heap.objs.size,[s1.heap.objs.size],_,_,H1,rfl,I1.kept (t':=s1.toks) λb o e=>get?_push_of_some _ e,yL a _,⟨_,get?_push_size _ rfl,rfl,rfl⟩,λb hb=>?_,q⟩;have e:b=s1.heap.objs.size:=by simpa using hb
 subst e;exact I1.zd (le_refl _) (I1.hok.fresh (le_refl _))
theorem ve{l:Expr}{tl:TE}(hl:PE X l tl):PI X tg l (IH X.K tl):=by
 intro pins s σ H R I h;refine dz (hl pins s σ H _ I h) λv s1 hpat=>?_;obtain⟨x,H1,I1,r1,q1⟩:=hpat;obtain⟨a,e,⟨xs,hq⟩,q⟩:=q1;subst e;cases r1;obtain⟨its,rv,p,hz⟩:=I1.tuple hq;refine wpAny_pyIter_tuple (show s1.heap.IsTuple a its.toArray from p) ?_;refine⟨s1.heap.objs.size,[s1.heap.objs.size],_,_,H1,rfl,I1.kept (t':=s1.toks) λb o e=>get?_push_of_some _ e,uV a _,⟨_,get?_push_size _ rfl,rfl,rfl⟩,λb hb=>?_,q⟩;have e:b=s1.heap.objs.size:=by simpa using hb
 subst e;exact I1.zd (le_refl _) (I1.hok.fresh (le_refl _))
theorem BK{pins:List (Addr×Obj)}{σ:St}{H:Hp}{s:Shared}{R:It->Hp->Prop}{E:Value->Shared->Prop}{lo hi:Int}{t u v:Tok}{tk:Nat}(I:Inv X pins σ H s)(h1: -(2 ^ 62)<=lo)(h2:lo < 2 ^ 62)(h3: -(2 ^ 62)<=hi)(h4:hi < 2 ^ 62)
  (q:R (CC lo (hi - lo).toNat) H):wpAny (model X.prog X.w) X.A (pyIter (.ref s.heap.objs.size)) (Lu X pins σ tg R) E { s with heap:=s.heap.push { cls:=.type "range",data:=.fields #[.int lo t,.int hi u,.int 1 v] },toks:=tk }:=by
 refine wpAny_pyIter_range (IsRange.new ..) (small_one h1 h2 h3 h4) ?_;have I1:Inv X pins σ H { s with heap:=s.heap.push { cls:=.type "range",data:=.fields #[.int lo t,.int hi u,.int 1 v] },toks:=tk }:=I.kept λb o e=>get?_push_of_some _ e;refine⟨(s.heap.push { cls:=.type "range",data:=.fields #[.int lo t,.int hi u,.int 1 v] }).objs.size,[(s.heap.push { cls:=.type "range",data:=.fields #[.int lo t,.int hi u,.int 1 v] }).objs.size],_,_,H,rfl,
  I1.kept (t':=tk) λb o e=>get?_push_of_some _ e,wg _ lo (hi - lo).toNat,?_,λb hb=>?_,q⟩
 ·have e1:lo+((0:Nat):Int) * 1=lo:=by simp
  have e2:(((hi - lo).toNat:Nat):Int) - ((0:Nat):Int)=Builtin.Range.rangeSize lo hi 1:=by rw[rangeSize_one];split<;>omega
  show IsRangeIter _ _ (lo+((0:Nat):Int) * 1) ((((hi - lo).toNat:Nat):Int) - ((0:Nat):Int)) 1;rw[e1,e2];exact get?_push_size _ rfl
 ·have e:b=(s.heap.push { cls:=.type "range",data:=.fields #[.int lo t,.int hi u,.int 1 v] }).objs.size:=by simpa using hb
  subst e;exact I1.zd (le_refl _) (I1.hok.fresh (le_refl _))
def Ep(ta:TA):TI:=λσ H R=>ta σ H λvs H1=>∃j:Int,vs=[.int j]/\ -(2 ^ 62)<=j/\j < 2 ^ 62/\R (CC 0 j.toNat) H1
def L3(ta:TA):TI:=λσ H R=>ta σ H λvs H1=>∃i j:Int,vs=[.int i,.int j]/\(-(2 ^ 62)<=i/\i < 2 ^ 62/\ -(2 ^ 62)<=j/\j < 2 ^ 62)/\R (CC i (j - i).toNat) H1
theorem yZ {a:Expr}{ta:TA}{p pos:Pos}(hg:Gl X "range") (hm:X.mg "range" =none) (ha:PA X [a] ta) (hs:starEach [a] X.env=[(false,eval a X.env)]:=by rfl):PI X tg (.Call (.Name "range" p) [a] [] pos) (Ep ta):=by
 intro pins s σ H R I h;refine Call_ (l7 I hg hm boot_range (PyProof.Rows.callWith_type1 (dz (ha pos pins s σ H _ I h) λus s1 hpat=>?_) hs rfl));obtain⟨vs,H1,I1,r1,q1⟩:=hpat;obtain⟨j,e,q1,q2,q⟩:=q1;subst e;cases r1 with
 |cons r rr=>
  cases rr;obtain⟨t,rfl⟩:=r;exact call_range_1 (BK I1 (by omega) (by omega) q1 q2 (by simpa using q))
def IQ(wi:TI)(g:TG)(tb:TS):TS:=λD σ H=>wi σ H λJ H1=>∃W:Nat->Nat->St->Hp->Prop,(∃m,W 0 m σ H1)/\∀i m σ H,W i m σ H->
 (J.stop i H/\D.nx σ H)\/(J.go i H/\∃N:St->Hp->Prop,(∀σ' H',N σ' H'->∃m',m' < m/\W (i+1) m' σ' H')/\∀x H',J.yld i H x H'->g x σ H' λσ2 H2=>tb { D with nx:=N,ct:=N,bk:=D.nx } σ2 H2)
def rP(fp:List Addr)(h:Heap):List (Addr×Obj):=fp.filterMap λb=>(h.get? b).map λo=>(b,o)
theorem eN{fp:List Addr}{h:Heap}{b:Addr}{o:Obj}(hb:b∈fp)(e:h.get? b=some o):(b,o)∈rP fp h:=List.mem_filterMap.mpr ⟨b,hb,by rw[e];rfl⟩
theorem yd{fp:List Addr}{h:Heap}{p:Addr×Obj}(hp:p∈rP fp h):p.1∈fp/\h.get? p.1=some p.2:=by
 obtain⟨b,hb,e⟩:=List.mem_filterMap.mp hp;cases q:h.get? b with
 |none=>rw[q]at e;cases e
 |some o=>
  rw[q]at e;have e':(b,o)=p:=Option.some.inj e;subst e';exact⟨hb,q⟩
theorem Inv.pinned{pins:List (Addr×Obj)}{σ:St}{H:Hp}{s:Shared}{fp:List Addr}(I:Inv X pins σ H s)(hf:∀b∈fp,iY X pins H b)(ho:∀b∈fp,∃o,s.heap.get? b=some o/\∀v,o.data≠.cell v):Inv X (pins++rP fp s.heap) σ H s:=
 I.wW λp hp=>(mem_append.mp hp).elim (λz=>I.pin p (mem_append_right _ z)) λz=>by
  obtain⟨hb,e⟩:=yd z;obtain⟨f0,f1,f2,_⟩:=hf p.1 hb;obtain⟨o,e',d⟩:=ho p.1 hb;rw[e]at e';cases e';exact⟨e,f0,f1,f2,d⟩
theorem Inv.gX{pins pl:List (Addr×Obj)}{σ:St}{H:Hp}{s:Shared}(I:Inv X (pins++pl) σ H s):Inv X pins σ H s:=I.wW λp hp=>I.pin p (mem_append_right _ (mem_append_left _ hp))
theorem Ha{iter:Expr}{body:List Stmt}{wi:TI}{g:TG}{tb:TS}{pos:Pos}(hp:PassesOwn (model X.prog X.w) X.A X.env X.xe)(hc:X.calm=true)(hi:PI X tg iter wi)(hg:PG X tg g)(hb:sW X body tb)
  (hs:∀x,foldedSetIterable iter X.env x=pure x:=by intro _;rfl):PS X (.For tg iter body [] pos) (IQ wi g tb):=by
 intro pins s σ H D I h;refine wpAny_For (dz (hi pins s σ H _ I h) λv s1 h1=>dz h1 λitv s2 h2=>?_) hs;obtain⟨it,fp,tn,J,H2,e,I2,T,st2,f2,W,⟨m0,w0⟩,turn⟩:=h2;subst e;have stat:∀{H':Hp},(∀b∈fp,H' b=none)->∀b∈fp,iY X pins H' b:=λhn b hb=>⟨hn b hb,(f2 b hb).2⟩;refine codeAny_forLoop_any (λn s'=>∃i σ' H',Inv X pins σ' H' s'/\tn i s'.heap/\(∀b∈fp,H' b=none)/\W i n σ' H') ?_ m0 ⟨0,σ,H2,I2,st2,λb hb=>(f2 b hb).1,w0⟩;rintro n s3 ⟨i,σ3,H3,I3,st3,fr3,w3⟩;rcases turn i n σ3 H3 w3 with ⟨stop,qn⟩|⟨go,N,hN,step⟩
 ·refine wpAny_passesOwn hp (dz (T.done X rfl rfl rfl hc i pins s3 σ3 H3 X.xe I3 (stat fr3) st3 stop) λr s4 ⟨hr,I4⟩=>?_)
  subst hr;exact wpAny_execs_nil ⟨σ3,H3,I4,qn⟩
 ·refine wpAny_passesOwn hp (dz (T.item X rfl rfl rfl hc i pins s3 σ3 H3 X.xe I3 (stat fr3) st3 go) λr s4 ⟨u,hr,h4⟩=>?_)
  subst hr;refine wpAny_passesOwn hp (dz h4 λ_ s5 hpat=>?_);obtain⟨x,H5,I5,r5,y5,st5,fr5⟩:=hpat;have I5':=I5.pinned (stat fr5) (T.obj _ _ st5);refine wpAny_passesOwn hp (dz (hg _ s5 σ3 H5 x u _ I5' r5 (step x H5 y5)) λ_ s6 hpat=>?_);obtain⟨σ6,H6,I6,q6⟩:=hpat;refine wpAny_passesOwn hp (dz (hb _ s6 σ6 H6 _ I6 q6) λf s7 q7=>?_);have again:∀{σ7:St}{H7:Hp},Inv X (pins++rP fp s5.heap) σ7 H7 s7->N σ7 H7->∃m,m < n/\∃i σ' H',Inv X pins σ' H' s7/\tn i s7.heap/\(∀b∈fp,H' b=none)/\W i m σ' H':=λ{σ7 H7} I7 n7=>by
   obtain⟨m',hm,w7⟩:=hN σ7 H7 n7;refine⟨m',hm,i+1,σ7,H7,I7.gX,T.keep _ _ _ st5 λb hb o e=>(I7.pin (b,o) (mem_append_right _ (mem_append_right _ (eN hb e)))).1,λb hb=>?_,w7⟩;obtain⟨o,e,d⟩:=T.obj _ _ st5 b hb;exact(I7.pin (b,o) (mem_append_right _ (mem_append_right _ (eN hb e)))).2.1
  cases f with
  |next=>obtain⟨σ7,H7,I7,n7⟩:=q7;exact again I7 n7
  |cont=>obtain⟨σ7,H7,I7,n7⟩:=q7;exact again I7 n7
  |brk=>obtain⟨σ7,H7,I7,q7⟩:=q7;exact⟨σ7,H7,I7.gX,q7⟩
  |ret v=>obtain⟨x7,σ7,H7,I7,r7,q7⟩:=q7;exact⟨x7,σ7,H7,I7.gX,r7,q7⟩
end
theorem dj{K:FG0}{a:Addr}{xs:List V}{g:TG}{tb:TS}{D:Ends}{σ:St}{H:Hp}(Pv:Nat->St->Hp->Prop)(h0:Pv 0 σ H)(hl:∀i σ H,i<=xs.length->Pv i σ H->cK K H a xs)
  (hs:∀i x σ H,xs[i]? =some x->Pv i σ H->g x σ H λσ2 H2=>tb { D with nx:=Pv (i+1),ct:=Pv (i+1),bk:=D.nx } σ2 H2)(hd:∀σ H,Pv xs.length σ H->D.nx σ H):
  ∃W:Nat->Nat->St->Hp->Prop,(∃m,W 0 m σ H)/\∀i m σ H,W i m σ H->
   ((BW K a).stop i H/\D.nx σ H)\/((BW K a).go i H/\∃N:St->Hp->Prop,(∀σ' H',N σ' H'->∃m',m' < m/\W (i+1) m' σ' H')/\∀x H',(BW K a).yld i H x H'->g x σ H' λσ2 H2=>tb { D with nx:=N,ct:=N,bk:=D.nx } σ2 H2):=by
 refine⟨λi m σ H=>m=xs.length - i/\i<=xs.length/\Pv i σ H,⟨xs.length,by simp,zero_le _,h0⟩,?_⟩;rintro i m σ H ⟨rfl,hi,p⟩;have q:=hl i σ H hi p;by_cases hlt:i < xs.length
 ·refine .inr ⟨⟨xs,xs[i],q,by simp[hlt]⟩,Pv (i+1),λσ' H' p'=>⟨xs.length - (i+1),by omega,rfl,hlt,p'⟩,λx H' y=>?_⟩
  obtain⟨e,y⟩:=y;subst e;exact hs i x σ _ (y xs q) p
 ·have e:i=xs.length:=by omega
  subst e;exact .inl ⟨⟨xs,q,le_refl _⟩,hd σ H p⟩
theorem fZ{lo:Int}{n:Nat}{g:TG}{tb:TS}{D:Ends}{σ:St}{H:Hp}(Pv:Nat->St->Hp->Prop)(h0:Pv 0 σ H)
  (hs:∀i σ H,i < n->Pv i σ H->g (.int (lo+i)) σ H λσ2 H2=>tb { D with nx:=Pv (i+1),ct:=Pv (i+1),bk:=D.nx } σ2 H2)(hd:∀σ H,Pv n σ H->D.nx σ H):
  ∃W:Nat->Nat->St->Hp->Prop,(∃m,W 0 m σ H)/\∀i m σ H,W i m σ H->
   ((CC lo n).stop i H/\D.nx σ H)\/((CC lo n).go i H/\∃N:St->Hp->Prop,(∀σ' H',N σ' H'->∃m',m' < m/\W (i+1) m' σ' H')/\∀x H',(CC lo n).yld i H x H'->g x σ H' λσ2 H2=>tb { D with nx:=N,ct:=N,bk:=D.nx } σ2 H2):=by
 refine⟨λi m σ H=>m=n - i/\i<=n/\Pv i σ H,⟨n,by simp,zero_le _,h0⟩,?_⟩;rintro i m σ H ⟨rfl,hi,p⟩;by_cases hlt:i < n
 ·refine .inr ⟨hlt,Pv (i+1),λσ' H' p'=>⟨n - (i+1),by omega,rfl,hlt,p'⟩,λx H' y=>?_⟩
  obtain⟨e,y⟩:=y;subst e y;exact hs i σ _ hlt p
 ·have e:i=n:=by omega
  subst e;exact .inl ⟨le_refl _,hd σ H p⟩
end L2
namespace L2
open PySem PySem.Spec PyProof.Rows
abbrev R2:=V->V->Hp->VK->Prop
def iS(X:Cx)(f:Value->Value->Sem Value)(r:R2):Prop:=
 ∀(pins:List (Addr×Obj)) (s:Shared) (σ:St) (H:Hp) (x y:V) (v u:Value) (Q:VK),Inv X pins σ H s->RelV x v->RelV y u->r x y H Q->
  wpAny (model X.prog X.w) X.A (f v u) (EP X pins σ Q) X.xe s
def Kk(X:Cx)(f:Value->Sem Value)(r:V->Hp->VK->Prop):Prop:=
 ∀(pins:List (Addr×Obj)) (s:Shared) (σ:St) (H:Hp) (x:V) (v:Value) (Q:VK),Inv X pins σ H s->RelV x v->r x H Q->
  wpAny (model X.prog X.w) X.A (f v) (EP X pins σ Q) X.xe s
def eR(X:Cx)(f:Value)(r:List V->Hp->VK->Prop):Prop:=
 ∀(pins:List (Addr×Obj)) (s:Shared) (σ:St) (H:Hp) (xs:List V) (us:List Value) (Q:VK),Inv X pins σ H s->Vals xs us->r xs H Q->
  wpAny (model X.prog X.w) X.A (call f us) (EP X pins σ Q) X.xe s
def NB(X:Cx)(r:V->Hp->(Bool->Hp->Prop)->Prop):Prop:=
 ∀(pins:List (Addr×Obj)) (s:Shared) (σ:St) (H:Hp) (x:V) (v:Value) (Q:Bool->Hp->Prop),Inv X pins σ H s->RelV x v->r x H Q->
  wpAny (model X.prog X.w) X.A (truthy v) (TP X pins σ Q) X.xe s
def Ea(r:R2)(ta tb:TE):TE:=λσ H Q=>ta σ H λx H1=>tb σ H1 λy H2=>r x y H2 Q
def LZ(r:V->Hp->VK->Prop)(ta:TE):TE:=λσ H Q=>ta σ H λx H1=>r x H1 Q
inductive LF(C:Int->Int->Prop)(g:Int->Int->V)(x y:V)(H:Hp)(Q:VK):Prop
 |mk(i j:Int)(hx:x=.int i)(hy:y=.int j)(c:C i j)(q:Q (g i j) H)
inductive Ir(g:Int->Int->V)(x y:V)(H:Hp)(Q:VK):Prop
 |mk(i j:Int)(hx:x=.int i)(hy:y=.int j)(q:Q (g i j) H)
def rI(C:Int->Int->Prop)(g:Int->Int->V):R2:=λx y H Q=>LF C g x y H Q
def zq(g:Int->Int->V):R2:=λx y H Q=>Ir g x y H Q
def rU(g:Int->V):V->Hp->VK->Prop:=λx H Q=>∃i,x=.int i/\Q (g i) H
section
variable {X:Cx}{a b c:Expr}{ta tb tc:TE}{pos:Pos}
theorem FQ(ha:PE X a ta)(hb:PE X b tb){pins:List (Addr×Obj)}{s:Shared}{σ:St}{H:Hp}{R:V->V->Hp->Prop}(I:Inv X pins σ H s)
  (h:ta σ H λx H1=>tb σ H1 λy H2=>R x y H2){Q:Value->Shared->Prop}{f:Value->Value->Sem Value}
  (hf:∀v u s2 x y H2,Inv X pins σ H2 s2->RelV x v->RelV y u->R x y H2->wpAny (model X.prog X.w) X.A (f v u) Q X.xe s2):
  wpAny (model X.prog X.w) X.A (eval a X.env) (λv s₁=>wpAny (model X.prog X.w) X.A (eval b X.env) (λu s₂=>wpAny (model X.prog X.w) X.A (f v u) Q X.xe s₂) X.xe s₁) X.xe s:=by
 refine dz (ha pins s σ H _ I h) λv s1 hpat=>?_;obtain⟨x,H1,I1,r1,q1⟩:=hpat;refine dz (hb pins s1 σ H1 _ I1 q1) λu s2 hpat=>?_;obtain⟨y,H2,I2,r2,q2⟩:=hpat;exact hf v u s2 x y H2 I2 r1 r2 q2
theorem Eg{op:Operator}{r:R2}(ho:iS X (binaryOp op) r)(ha:PE X a ta)(hb:PE X b tb):PE X (.BinOp a op b pos) (Ea r ta tb):=by
 intro pins s σ H Q I h;exact wpAny_BinOp (FQ ha hb I h λv u s2 x y H2 I2 rx ry q=>ho pins s2 σ H2 x y v u Q I2 rx ry q)
theorem Bm{op:UnaryOp}{r:V->Hp->VK->Prop}(ho:Kk X (unaryOp op) r)(ha:PE X a ta):PE X (.UnaryOp op a pos) (LZ r ta):=by
 intro pins s σ H Q I h;exact UnaryOp_ (dz (ha pins s σ H _ I h) λv s1 ⟨x,H1,I1,r1,q1⟩=>ho pins s1 σ H1 x v Q I1 r1 q1)
theorem Kp{f:Value->Value->Sem Value}{C:Int->Int->Prop}{g:Int->Int->Int}
  (rule:∀(i j:Int)(t u:Tok)(s:Shared)(Q:Value->Shared->Prop)(E:Value->Shared->Prop),C i j->Q (.int (g i j) s.toks) { s with toks:=s.toks+1 }->wpAny (model X.prog X.w) X.A (f (.int i t) (.int j u)) Q E s):
  iS X f (rI C λi j=>.int (g i j)):=by
 intro pins s σ H x y v u Q I rx ry h;obtain⟨i,j,rfl,rfl,hc,q⟩:=h;obtain⟨t,rfl⟩:=rx;obtain⟨t',rfl⟩:=ry;exact rule i j t t' s _ _ hc ⟨.int (g i j),H,I.tok _,⟨_,rfl⟩,q⟩
theorem IK{f:Value->Value->Sem Value}{g:Int->Int->Int}
  (rule:∀(i j:Int)(t u:Tok)(s:Shared)(Q:Value->Shared->Prop)(E:Value->Shared->Prop),Q (.int (g i j) s.toks) { s with toks:=s.toks+1 }->wpAny (model X.prog X.w) X.A (f (.int i t) (.int j u)) Q E s):
  iS X f (zq λi j=>.int (g i j)):=by
 intro pins s σ H x y v u Q I rx ry h;obtain⟨i,j,rfl,rfl,q⟩:=h;obtain⟨t,rfl⟩:=rx;obtain⟨t',rfl⟩:=ry;exact rule i j t t' s _ _ ⟨.int (g i j),H,I.tok _,⟨_,rfl⟩,q⟩
theorem EM{f:Value->Value->Sem Value}{g:Int->Int->Bool}
  (rule:∀(i j:Int)(t u:Tok)(s:Shared)(Q:Value->Shared->Prop)(E:Value->Shared->Prop),Q (.bool (g i j)) s->wpAny (model X.prog X.w) X.A (f (.int i t) (.int j u)) Q E s):
  iS X f (zq λi j=>.bl (g i j)):=by
 intro pins s σ H x y v u Q I rx ry h;obtain⟨i,j,rfl,rfl,q⟩:=h;obtain⟨t,rfl⟩:=rx;obtain⟨t',rfl⟩:=ry;exact rule i j t t' s _ _ ⟨.bl (g i j),H,I,rfl,q⟩
def IW(i j:Int):Prop:=0 < j/\j < 1073741824
def Mp(i j:Int):Prop:=j≠0/\j.natAbs < 1073741824
def Iz(i j:Int):Prop:=0<=j/\j<=1000000/\i.natAbs < 2 ^ 64
def C1(i j:Int):Prop:=(-(2 ^ 64) < i/\i < 2 ^ 64)\/(-(2 ^ 64) < j/\j < 2 ^ 64)
theorem C1.ok{i j:Int}(h:C1 i j):IntMulOk i j:=by
 rcases h with ⟨h1,h2⟩|⟨h1,h2⟩
 ·exact .of_left (intBits_le_64 h1 h2)
 ·exact .of_right (intBits_le_64 h1 h2)
theorem ER:iS X (binaryOp .Add) (zq λi j=>.int (i+j)):=IK λ_ _ _ _ _ _ _ q=>add_int q
theorem lI:iS X (binaryOp .Sub) (zq λi j=>.int (i - j)):=IK λ_ _ _ _ _ _ _ q=>sub_int q
theorem Fu:iS X (binaryOp .Mult) (rI C1 λi j=>.int (i * j)):=Kp λ_ _ _ _ _ _ _ hc q=>mul_int q hc.ok
theorem CM:iS X (binaryOp .FloorDiv) (rI IW λi j=>.int (i / j)):=Kp λi j _ _ _ _ _ hc q=>by
 have h1:(0:Int) < j:=hc.1;have h2:j < 1073741824:=hc.2;exact floordiv_int (by omega) (by rw[Int.fdiv_eq_ediv_of_nonneg i (by omega)];exact q) (.inl (PyProof.noPylong_small (by omega)))
theorem GU:iS X (binaryOp .Mod) (rI (λ_ j=>0 < j) λi j=>.int (i % j)):=Kp λi j _ _ _ _ _ hc q=>by
 have h1:(0:Int) < j:=hc;exact mod_int' (by omega) (by rw[Int.fmod_eq_emod_of_nonneg i (by omega)];exact q)
theorem lP:iS X (binaryOp .Pow) (rI Iz λi j=>.int (i ^ j.toNat)):=Kp λ_ _ _ _ _ _ _ hc q=>pow_int_small hc.1 hc.2.1 hc.2.2 q
theorem Nb{f:Value->Sem Value}{g:Int->Int}
  (rule:∀(i:Int)(t:Tok)(s:Shared)(Q:Value->Shared->Prop)(E:Value->Shared->Prop),Q (.int (g i) s.toks) { s with toks:=s.toks+1 }->wpAny (model X.prog X.w) X.A (f (.int i t)) Q E s):
  Kk X f (rU λi=>.int (g i)):=by
 intro pins s σ H x v Q I rx h;obtain⟨i,rfl,q⟩:=h;obtain⟨t,rfl⟩:=rx;exact rule i t s _ _ ⟨.int (g i),H,I.tok _,⟨_,rfl⟩,q⟩
theorem vN:Kk X (unaryOp .USub) (rU λi=>.int (-i)):=Nb λ_ _ _ _ _ q=>neg_int q
end
def E8:V->V->Bool
 |.non,.non=>true|.non,.int _=>true|.int _,.non=>true|.non,.bl _=>true|.bl _,.non=>true|.non,.str _=>true|.str _,.non=>true
 |.int _,.int _=>true|.bl _,.bl _=>true|.str _,.str _=>true|.byt _,.byt _=>true
 |.int _,.str _=>true|.str _,.int _=>true|.bl _,.str _=>true|.str _,.bl _=>true
 |_,_=>false
def LX:R2:=λx y H Q=>E8 x y=true/\Q (.bl (decide (x=y))) H
def LY:R2:=λx y H Q=>E8 x y=true/\Q (.bl (!decide (x=y))) H
theorem wH{i j:Int}:decide (V.int i=V.int j)=(i == j):=by
 rw[Bool.eq_iff_iff];simp
theorem BM{i j:Bool}:decide (V.bl i=V.bl j)=(i == j):=by
 rw[Bool.eq_iff_iff];simp
theorem xE{i j:Str}:decide (V.str i=V.str j)=(i == j):=by
 rw[Bool.eq_iff_iff];simp
theorem wC{i j:Array UInt8}:decide (V.byt i=V.byt j)=(i.toList == j.toList):=by
 rw[Bool.eq_iff_iff];cases i;cases j;simp
section
variable {X:Cx}{a b c:Expr}{ta tb tc:TE}{pos:Pos}
theorem cX{pins:List (Addr×Obj)}{σ:St}{H:Hp}{s:Shared}{Q:VK}{k k':Bool}(I:Inv X pins σ H s)(q:Q (.bl k) H)(e:k=k'):EP X pins σ Q (.bool k') s:=by
 subst e;exact⟨.bl k,H,I,rfl,q⟩
theorem Jw:iS X (compareOp .Eq) LX:=by
 intro pins s σ H x y v u Q I rx ry h;obtain⟨hs,q⟩:=h;cases x with
 |non=>
  cases rx;cases y with
  |non=>cases ry;exact PySem.EqNone.eq_none_none (cX I q (by simp))
  |bl j=>cases ry;exact PySem.EqNone.eq_none_bool (cX I q (by simp))
  |int j=>obtain⟨t',rfl⟩:=ry;exact PySem.EqNone.eq_none_int (cX I q (by simp))
  |str j=>obtain⟨t',rfl⟩:=ry;exact PySem.EqNone.eq_none_str (cX I q (by simp))
  |_=>exact absurd (show false=true from hs) bF0
 |bl i=>
  cases rx;cases y with
  |non=>cases ry;exact PySem.EqNone.eq_bool_none (cX I q (by simp))
  |bl j=>cases ry;exact eq_bool (cX I q BM)
  |str j=>obtain⟨t',rfl⟩:=ry;exact PySem.EqMixed.eq_bool_str (cX I q (by simp))
  |_=>exact absurd (show false=true from hs) bF0
 |int i=>
  obtain⟨t,rfl⟩:=rx;cases y with
  |non=>cases ry;exact PySem.EqNone.eq_int_none (cX I q (by simp))
  |int j=>obtain⟨t',rfl⟩:=ry;exact eq_int (cX I q wH)
  |str j=>obtain⟨t',rfl⟩:=ry;exact PySem.EqMixed.eq_int_str (cX I q (by simp))
  |_=>exact absurd (show false=true from hs) bF0
 |str i=>
  obtain⟨t,rfl⟩:=rx;cases y with
  |non=>cases ry;exact PySem.EqNone.eq_str_none (cX I q (by simp))
  |bl j=>cases ry;exact PySem.EqMixed.eq_str_bool (cX I q (by simp))
  |int j=>obtain⟨t',rfl⟩:=ry;exact PySem.EqMixed.eq_str_int (cX I q (by simp))
  |str j=>obtain⟨t',rfl⟩:=ry;exact eq_str (cX I q xE)
  |_=>exact absurd (show false=true from hs) bF0
 |byt i=>
  obtain⟨t,rfl⟩:=rx;cases y with
  |byt j=>obtain⟨t',rfl⟩:=ry;exact PySem.W.eq_bytes (cX I q wC)
  |_=>exact absurd (show false=true from hs) bF0
 |_=>cases y<;>exact absurd (show false=true from hs) bF0
theorem Je:iS X (compareOp .NotEq) LY:=by
 intro pins s σ H x y v u Q I rx ry h;obtain⟨hs,q⟩:=h;cases x with
 |non=>
  cases rx;cases y with
  |non=>cases ry;exact PySem.EqNone.ne_none_none (cX I q (by simp))
  |bl j=>cases ry;exact PySem.EqNone.ne_none_bool (cX I q (by simp))
  |int j=>obtain⟨t',rfl⟩:=ry;exact PySem.EqNone.ne_none_int (cX I q (by simp))
  |str j=>obtain⟨t',rfl⟩:=ry;exact PySem.EqNone.ne_none_str (cX I q (by simp))
  |_=>exact absurd (show false=true from hs) bF0
 |bl i=>
  cases rx;cases y with
  |non=>cases ry;exact PySem.EqNone.ne_bool_none (cX I q (by simp))
  |bl j=>cases ry;exact ne_bool (cX I q (congrArg not BM))
  |str j=>obtain⟨t',rfl⟩:=ry;exact PySem.EqMixed.ne_bool_str (cX I q (by simp))
  |_=>exact absurd (show false=true from hs) bF0
 |int i=>
  obtain⟨t,rfl⟩:=rx;cases y with
  |non=>cases ry;exact PySem.EqNone.ne_int_none (cX I q (by simp))
  |int j=>obtain⟨t',rfl⟩:=ry;exact ne_int (cX I q (congrArg not wH))
  |str j=>obtain⟨t',rfl⟩:=ry;exact PySem.EqMixed.ne_int_str (cX I q (by simp))
  |_=>exact absurd (show false=true from hs) bF0
 |str i=>
  obtain⟨t,rfl⟩:=rx;cases y with
  |non=>cases ry;exact PySem.EqNone.ne_str_none (cX I q (by simp))
  |bl j=>cases ry;exact PySem.EqMixed.ne_str_bool (cX I q (by simp))
  |int j=>obtain⟨t',rfl⟩:=ry;exact PySem.EqMixed.ne_str_int (cX I q (by simp))
  |str j=>obtain⟨t',rfl⟩:=ry;exact ne_str (cX I q (congrArg not xE))
  |_=>exact absurd (show false=true from hs) bF0
 |byt i=>
  obtain⟨t,rfl⟩:=rx;cases y with
  |byt j=>obtain⟨t',rfl⟩:=ry;exact PySem.W.ne_bytes (cX I q (congrArg not wC))
  |_=>exact absurd (show false=true from hs) bF0
 |_=>cases y<;>exact absurd (show false=true from hs) bF0
theorem Ho:iS X (compareOp .Lt) (zq λi j=>.bl (decide (i < j))):=EM λ_ _ _ _ _ _ _ q=>lt_int q
theorem uF:iS X (compareOp .LtE) (zq λi j=>.bl (decide (i<=j))):=EM λ_ _ _ _ _ _ _ q=>le_int q
theorem HN:iS X (compareOp .Gt) (zq λi j=>.bl (decide (j < i))):=EM λ_ _ _ _ _ _ _ q=>gt_int q
theorem mG:iS X (compareOp .Lt) (λx y H Q=>∃i j,x=.str i/\y=.str j/\Q (.bl (decide (i.cps.toList < j.cps.toList))) H):=by
 intro pins s σ H x y v u Q I rx ry h;obtain⟨i,j,rfl,rfl,q⟩:=h;obtain⟨t,rfl⟩:=rx;obtain⟨t',rfl⟩:=ry;exact lt_str (cX I q rfl)
theorem FW:iS X (compareOp .Is) (λx y H Q=>y=.non/\Q (.bl (decide (x=.non))) H):=by
 intro pins s σ H x y v u Q I rx ry h;obtain⟨rfl,q⟩:=h;cases ry;refine is_none_gen (cX I q ?_);cases x<;>first
  | (cases rx;rfl)
  | (obtain⟨t,rfl⟩:=rx;rfl)
theorem DQ:iS X (compareOp .IsNot) (λx y H Q=>y=.non/\Q (.bl (!decide (x=.non))) H):=by
 intro pins s σ H x y v u Q I rx ry h;obtain⟨rfl,q⟩:=h;cases ry;refine isnot_none_gen (cX I q ?_);cases x<;>first
  | (cases rx;rfl)
  | (obtain⟨t,rfl⟩:=rx;rfl)
def isObj:HO->Bool
 |.lst _=>true
 |.ins _ _ _=>true
 |_=>false
theorem cJ(b:Expr){op:CmpOp}(h:op≠.In:=by decide)(h2:op≠.NotIn:=by decide):behindInMarks op b=false:=by
 have e1:(op == CmpOp.In)=false:=by cases op<;>first|rfl|exact absurd rfl h
 have e2:(op == CmpOp.NotIn)=false:=by cases op<;>first|rfl|exact absurd rfl h2
 cases b<;>simp[behindInMarks,e1,e2]
theorem xu{op:CmpOp}{r:R2}(ho:iS X (compareOp op) r)(ha:PE X a ta)(hb:PE X b tb)(hm:behindInMarks op b=false):PE X (.Compare a [op] [b] pos) (Ea r ta tb):=by
 intro pins s σ H Q I h;exact wpAny_Compare1 (FQ ha hb I h λv u s2 x y H2 I2 rx ry q=>ho pins s2 σ H2 x y v u Q I2 rx ry q) hm
def wL(t:TE):TT:=λσ H Q=>t σ H λx H'=>HC x H' Q
theorem Co{op:CmpOp}{r:R2}(ho:iS X (compareOp op) r)(ha:PE X a ta)(hb:PE X b tb)(hm:behindInMarks op b=false):PT X (.Compare a [op] [b] pos) (wL (Ea r ta tb)):=by
 intro pins s σ H Q I h;refine wpAny_isTrue_Compare1 (dz (ha pins s σ H _ I h) λv s1 ⟨x,H1,I1,r1,q1⟩=>dz (hb pins s1 σ H1 _ I1 q1) λu s2 ⟨y,H2,I2,r2,q2⟩=>
  dz (ho pins s2 σ H2 x y v u _ I2 r1 r2 q2) λc s3 ⟨z,H3,I3,r3,k,e,q3⟩=>?_) hm
 subst e;cases r3;exact wpAny_truthy_bool ⟨H3,I3,q3⟩
def rD(r r':R2)(ta tb tc:TE):TE:=λσ H Q=>ta σ H λx H1=>tb σ H1 λy H2=>r x y H2 λz H3=>∃k,z=.bl k/\
 (if k=true then tc σ H3 λw' H4=>r' y w' H4 Q else Q (.bl false) H3)
theorem f9{op op':CmpOp}{r r':R2}(ho:iS X (compareOp op) r)(ho':iS X (compareOp op') r')(ha:PE X a ta)(hb:PE X b tb)(hc:PE X c tc)
  (hm:lastMarks [op,op'] [b,c]=false:=by with_unfolding_all rfl):PE X (.Compare a [op,op'] [b,c] pos) (rD r r' ta tb tc):=by
 intro pins s σ H Q I h;refine Compare_chain (dz (ha pins s σ H _ I h) λv s1 ⟨x,H1,I1,r1,q1⟩=>chain_link (dz (hb pins s1 σ H1 _ I1 q1) λu s2 ⟨y,H2,I2,r2,q2⟩=>
  dz (ho pins s2 σ H2 x y v u _ I2 r1 r2 q2) λd s3 ⟨z,H3,I3,r3,k,e,q3⟩=>?_)) hm
 subst e;cases r3;refine wpAny_truthy_bool ?_;cases k with
 |false=>exact ite_ff ⟨.bl false,H3,I3,rfl,q3⟩
 |true=>exact ite_tt (chain_last (dz (hc pins s3 σ H3 _ I3 q3) λw' s4 ⟨z',H4,I4,r4,q4⟩=>ho' pins s4 σ H4 y z' u w' Q I4 r2 r4 q4))
theorem kF{op op':CmpOp}{r r':R2}(ho:iS X (compareOp op) r)(ho':iS X (compareOp op') r')(ha:PE X a ta)(hb:PE X b tb)(hc:PE X c tc)
  (hm:lastMarks [op,op'] [b,c]=false:=by with_unfolding_all rfl):PT X (.Compare a [op,op'] [b,c] pos) (wL (rD r r' ta tb tc)):=by
 intro pins s σ H Q I h;refine isTrue_chain (dz (ha pins s σ H _ I h) λv s1 ⟨x,H1,I1,r1,q1⟩=>test_link (dz (hb pins s1 σ H1 _ I1 q1) λu s2 ⟨y,H2,I2,r2,q2⟩=>
  dz (ho pins s2 σ H2 x y v u _ I2 r1 r2 q2) λd s3 ⟨z,H3,I3,r3,k,e,q3⟩=>?_)) hm
 subst e;cases r3;refine wpAny_truthy_bool ?_;cases k with
 |false=>
  obtain⟨k',e',q'⟩:=q3;cases e';exact ite_ff ⟨H3,I3,q'⟩
 |true=>
  refine ite_tt (test_last (dz (hc pins s3 σ H3 _ I3 q3) λw' s4 ⟨z',H4,I4,r4,q4⟩=>dz (ho' pins s4 σ H4 y z' u w' _ I4 r2 r4 q4) λd' s5 hpat=>?_));obtain⟨z2,H5,I5,r5,k2,e2,q5⟩:=hpat;subst e2;cases r5;exact wpAny_truthy_bool ⟨H5,I5,q5⟩
def NL(K:FG0)(x:V)(H:Hp)(k:Bool):Prop:=
 match x with
 |.non=>k=false
 |.bl b=>k=b
 |.int i=>k=(i != 0)
 |.str y=>y.length<=sizeLine/\k=((y.length:Int) != 0)
 |.byt y=>y.size<=sizeLine/\k=((y.size:Int) != 0)
 |.ref p=>(∃xs,cK K H p xs/\k= !xs.isEmpty)\/(∃xs,dv K H p xs/\k= !xs.isEmpty)\/∃kvs,H p=some (.dK kvs)/\k= !kvs.isEmpty
 |_=>False
theorem n8:(sizeLine:Nat) < 2 ^ 63:=by rw[sizeLine_eq];decide
theorem iG:iS X (binaryOp .Add) (λx y H Q=>∃i j,x=.str i/\y=.str j/\i.length+j.length<=sizeLine/\Q (.str (i++j)) H):=by
 intro pins s σ H x y v u Q I rx ry h;obtain⟨i,j,rfl,rfl,hz,q⟩:=h;obtain⟨t,rfl⟩:=rx;obtain⟨t',rfl⟩:=ry;exact add_str (λt' tk=>⟨.str (i++j),H,I.tok _,⟨_,rfl⟩,q⟩) hz
def Jk(b:Expr):Prop:=∀o i,subscripted b false o i=operate [o,i] (getItem o i)
theorem vals1{x:V}{us:List Value}(r:Vals [x] us):∃u,us=[u]/\RelV x u:=by
 cases r with
 |cons r1 r2=>cases r2;exact⟨_,rfl,r1⟩
theorem vals2{x y:V}{us:List Value}(r:Vals [x,y] us):∃u w',us=[u,w']/\RelV x u/\RelV y w':=by
 cases r with
 |cons r1 r2=>
  cases r2 with
  |cons r3 r4=>cases r4;exact⟨_,_,rfl,r1,r3⟩
theorem ic(hc:X.calm=true):eR X (.builtin "max") (λxs H Q=>∃i j,xs=[.int i,.int j]/\Q (.int (if j > i then j else i)) H):=by
 intro pins s σ H xs us Q I r h;obtain⟨i,j,rfl,q⟩:=h;obtain⟨u,w',rfl,⟨t,rfl⟩,⟨t',rfl⟩⟩:=vals2 r;refine max_two_ints (I.ok.hd hc) λh' tk k=>⟨_,H,I.kept k,?_,q⟩;by_cases hj:j > i
 ·rw[if_pos hj,if_pos hj];exact⟨_,rfl⟩
 ·rw[if_neg hj,if_neg hj];exact⟨_,rfl⟩
theorem f6(hc:X.calm=true):eR X (.builtin "min") (λxs H Q=>∃i j,xs=[.int i,.int j]/\Q (.int (if j < i then j else i)) H):=by
 intro pins s σ H xs us Q I r h;obtain⟨i,j,rfl,q⟩:=h;obtain⟨u,w',rfl,⟨t,rfl⟩,⟨t',rfl⟩⟩:=vals2 r;refine min_two_ints (I.ok.hd hc) λh' tk k=>⟨_,H,I.kept k,?_,q⟩;by_cases hj:j < i
 ·rw[if_pos hj,if_pos hj];exact⟨_,rfl⟩
 ·rw[if_neg hj,if_neg hj];exact⟨_,rfl⟩
theorem jE:eR X (.type "int") (λxs H Q=>(∃i,xs=[.int i]/\Q (.int i) H)\/∃k,xs=[.bl k]/\Q (.int (if k then 1 else 0)) H):=by
 intro pins s σ H xs us Q I r h;rcases h with ⟨i,rfl,q⟩|⟨k,rfl,q⟩
 ·obtain⟨u,rfl,t,rfl⟩:=vals1 r
  exact call_int_int ⟨.int i,H,I,⟨_,rfl⟩,q⟩
 ·obtain⟨u,rfl,r1⟩:=vals1 r
  cases r1;exact call_int_bool ⟨.int (if k then 1 else 0),H,I.tok _,⟨_,rfl⟩,q⟩
def MW(K:FG0)(x:V)(H:Hp)(n:Nat):Prop:=
 match x with
 |.str y=>y.length<=sizeLine/\n=y.length
 |.byt y=>y.size<=sizeLine/\n=y.size
 |.ref p=>(∃xs,cK K H p xs/\n=xs.length)\/∃xs,dv K H p xs/\n=xs.length
 |_=>False
end
end L2
namespace L2
open PySem PySem.Spec PyProof.Rows
structure va(h:Heap)(x dx C:Addr)(mA:Str->Option Value):Prop where
 obj:h.get? x=some (instObj C dx)
 ns:h.Ns1 dx mA
 ne:dx≠x
theorem yF{h:Heap}{dx:Addr}{mA:Str->Option Value}(n:h.Ns1 dx mA):∃od,h.get? dx=some od/\∀name,lookIn name od=some (mA name):=by
 obtain⟨o,es,ep,ho,hd,hk,_,hm⟩:=n;refine⟨o,ho,λname=>?_⟩;have e:=hm name;unfold nsFind findBy at e;rw[<-Array.find?_toList]at e;unfold lookIn;rw[hd];dsimp only;split
 ·rename_i y q
  rw[q]at e;exact congrArg some e
 ·rename_i q
  rw[q]at e;have a:es.toList.any (·.refKey)=false:=by
   rw[any_eq_false];intro y hy;obtain⟨z,t,hkey⟩:=hk y (Array.mem_toList_iff.mp hy);simp[DictEntry.refKey,hkey]
  have a':¬es.toList.any (·.refKey)=true:=by rw[a];exact bF0
  rw[if_neg a'];exact congrArg some e
theorem va.look{h:Heap}{x dx C:Addr}{mA:Str->Option Value}(I:va h x dx C mA):∃od,PySem.W.InstAt h x (instObj C dx) C (some od)/\∀name,lookIn name od=some (mA name):=
 let ⟨od,ho,hl⟩:=yF I.ns
 ⟨od,⟨I.obj,rfl,rfl,ho⟩,hl⟩
section
variable {prog:Program}{w:World}{A:Around}{E:Value->Shared->Prop}{s:Shared}{K:FG0}{x dx C f:Addr}{mA:Str->Option Value}{name:Str}{v:Value}
theorem get_map{expr:Bool}{Q:Value->Shared->Prop}(X:K.In s.heap)(I:va s.heap x dx C mA)(hg:plainGet K C name=true)(hh:hasDictIn K C=true)
  (ha:findIn K (.ref C) name=some none)(hv:mA name=some v)(hv':handedIn v=true)(h:Q v { s with toks:=s.toks+1 }):
  wpAny (model prog w) A (getAttr (.ref x) name expr) Q E s:=by
 obtain⟨od,J,hl⟩:=I.look;exact PySem.W.get_value X J (plainGet_of hg).1 (PySem.W.findObj_own hh ha rfl (by rw[hl,hv])) hv' h
theorem Bo{pl:Sem Bool}{Q:Value×List Value->Shared->Prop}(X:K.In s.heap)(I:va s.heap x dx C mA)(hg:plainGet K C name=true)
  (hf:findIn K (.ref C) name=some (some (.ref f)))(ht:isFn K (.ref f)=true)(hv:mA name=none)(h:Q (.ref f,[.ref x]) s):
  wpAny (model prog w) A (getMethod (.ref x) name pl) Q E s:=by
 obtain⟨od,J,hl⟩:=I.look;exact PySem.W.method_fn X J (plainGet_of hg).1 (plainGet_of hg).2 hf (beq_iff_eq.mp ht) (by show(lookIn name od).map (·.isSome)=some false;rw[hl,hv];rfl) h
theorem Cc{ns:List Str}{Q:Unit->Shared->Prop}(X:K.In s.heap)(I:va s.heap x dx C mA)
  (hs:findIn K (.ref C) "__setattr__" =some (some (.builtin "object.__setattr__"))) (hp:plainOver K C=true) (ht:takerIn K C name=some none) (hh:hasDictIn K C=true)
  (hw:PySem.Within mA ns)(hsz:ns.length<=sizeLine)
  (h:∀h',va h' x dx C (λy=>if y=name then some v else mA y)->Heap.SameBut dx s.heap h'->Q () { s with heap:=h',toks:=s.toks+2 }):
  wpAny (model prog w) A (setAttr (.ref x) name v) Q E s:=by
 obtain⟨od,J,hl⟩:=I.look;refine PySem.W.set_plain X J hs (PySem.W.osa_open (s:={ s with toks:=s.toks+1 }) (r:=none) X J hp ht λb=>?_);obtain⟨cd,hc,hd'⟩:=PySem.W.any_some hh;have hx:s.heap.get? x=some ⟨.ref C,some dx,.plain,#[]⟩:=I.obj;refine wpAny_bind (wpAny_pure (wpAny_bind (wpAny_bind (wpAny_loadPart hx (wpAny_bind (PySem.W.Looks.here (s:={ s with toks:=s.toks+1 }) (PySem.W.looks_clsIn X hc) ?_))))));rw[hd'];refine wpAny_pure (a:=some dx) (wpAny_bind (wpAny_pure (wpAny_bind ?_)));refine wpAny_nsSet1 (s:={ s with toks:=s.toks+1 }) I.ns λh' hn2 hs2=>?_;obtain⟨oD,esD,epD,hoD,hdD,hcD⟩:=hn2.count (PySem.Within.cons name v hw);refine wpAny_bind (wpAny_lookBehind hoD (by rw[hdD];exact pastItsLine_dict (le_trans hcD (by rw[length_cons];omega))) ?_);exact wpAny_pure (h _ ⟨(hs2.2 _ (Ne.symm I.ne)).trans I.obj,hn2,I.ne⟩ hs2)
theorem AF{R:Result->Shared->Prop}{vs:List Value}{kw:List (Str×Value)}(X:K.In s.heap)(hm:makesIn K C=true)
  (hi:findIn K (.ref C) "__init__" =some (some (.ref f))) (hf:PySem.W.typeIn K (.ref f)=some (.type "function"))
  (h:codeAny (model prog w) (A.under (.builtin "type.__call__" ⟨.ref C::vs,kw⟩)) (.call (.ref f) ⟨.ref (s.heap.objs.size+1)::vs,kw⟩) (PySem.W.InitBack (s.heap.objs.size+1) R)
   { s with heap:=(s.heap.push emptyDict).push (instObj C s.heap.objs.size) }):
  codeAny (model prog w) A (.call (.ref C) ⟨vs,kw⟩) R s:=by
 obtain⟨hh,g,d,t,os⟩:=s;exact PySem.W.make_core (PySem.W.makes_of X hm) (PySem.W.looks_findIn X hi) (λself=>PySem.W.bind_fn X self hf) (.inl rfl) h
end
def fF(f:Str)(v:V):List (Str×V)->List (Str×V)
 |[]=>[(f,v)]
 | (g,x)::r=>if g=f then(g,v)::r else(g,x)::fF f v r
theorem cR(f g:Str)(v:V):∀fs:List (Str×V),(fF f v fs).lookup g=if g=f then some v else fs.lookup g
 |[]=>by
  show List.lookup g [(f,v)]=_;by_cases h:g=f
  ·have hb:(g == f)=true:=beq_iff_eq.mpr h
   simp only[List.lookup,hb,if_pos h]
  ·have hb:(g == f)=false:=beq_eq_false_iff_ne.mpr h
   simp only[List.lookup,hb,if_neg h]
 | (k,x)::r=>by
  have ih:=cR f g v r;rw[show fF f v ((k,x)::r)=(if k=f then(k,v)::r else(k,x)::fF f v r) from rfl];by_cases hk:k=f
  ·rw[if_pos hk]
   by_cases h:g=k
   ·have hb:(g == k)=true:=beq_iff_eq.mpr h
    simp only[List.lookup,hb,if_pos (h.trans hk)]
   ·have hb:(g == k)=false:=beq_eq_false_iff_ne.mpr h
    simp only[List.lookup,hb,if_neg (λe:g=f=>h (e.trans hk.symm))]
  ·rw[if_neg hk]
   by_cases h:g=k
   ·have hb:(g == k)=true:=beq_iff_eq.mpr h
    simp only[List.lookup,hb,if_neg (λe:g=f=>hk (h.symm.trans e))]
   ·have hb:(g == k)=false:=beq_eq_false_iff_ne.mpr h
    simp only[List.lookup,hb];exact ih
theorem mi(f:Str)(v:V):∀fs:List (Str×V),f∈(fF f v fs).map (·.1)/\∀g,g∈fs.map (·.1)->g∈(fF f v fs).map (·.1)
 |[]=>⟨by simp[fF],λg h=>by simp at h⟩
 | (k,x)::r=>by
  obtain⟨i1,i2⟩:=mi f v r;rw[show fF f v ((k,x)::r)=(if k=f then(k,v)::r else(k,x)::fF f v r) from rfl];by_cases hk:k=f
  ·rw[if_pos hk]
   subst hk;exact⟨by simp,λg h=>by simpa using h⟩
  ·rw[if_neg hk]
   refine⟨?_,λg h=>?_⟩
   ·rw[map_cons]
    exact mem_cons_of_mem _ i1
   ·rw[map_cons]at h ⊢
    rcases mem_cons.mp h with e|e
    ·exact mem_cons.mpr (.inl e)
    ·exact mem_cons_of_mem _ (i2 g e)
theorem mP(f:Str)(v:V):∀fs:List (Str×V),(fF f v fs).length<=fs.length+1
 |[]=>by simp[fF]
 | (k,x)::r=>by
  have ih:=mP f v r;rw[show fF f v ((k,x)::r)=(if k=f then(k,v)::r else(k,x)::fF f v r) from rfl];by_cases hk:k=f
  ·rw[if_pos hk,length_cons,length_cons];omega
  ·rw[if_neg hk,length_cons,length_cons];omega
theorem iU.some_of{v:V}{o:Option Value}(r:iU (some v) o):∃u,o=some u/\RelV v u:=by
 cases o with
 |none=>exact(show False from r).elim
 |some u=>exact⟨u,rfl,r⟩
theorem iU.none_of{o:Option Value}(r:iU none o):o=none:=by
 cases o with
 |none=>rfl
 |some u=>exact(show False from r).elim
theorem y9{v:V}{u:Value}(r:RelV v u):handedIn u=true:=by
 cases v with
 |non=>cases (show u=Value.none from r);rfl
 |bl b=>cases (show u=Value.bool b from r);rfl
 |int i=>obtain⟨t,e⟩:=(show ∃t,u=Value.int i t from r);cases e;rfl
 |str x=>obtain⟨t,e⟩:=(show ∃t,u=Value.str x t from r);cases e;rfl
 |byt b=>obtain⟨t,e⟩:=(show ∃t,u=Value.bytes b t from r);cases e;rfl
 |flt b=>obtain⟨t,e⟩:=(show ∃t,u=Value.float b t from r);cases e;rfl
 |ref a=>cases (show u=Value.ref a from r);rfl
 |ty n=>cases (show u=Value.type n from r);rfl
section
variable {P:Program}{w:World}{H H':Hp}{h h':Heap}{a C dx:Addr}{fs fs':List (Str×V)}
theorem nH(hok:gB P w H h)(e:H a=some (.ins C dx fs)):∃mA,va h a dx C mA/\(∀f,iU (fs.lookup f) (mA f))/\PySem.Within mA (fs.map (·.1))/\fs.length<=1000/\H dx=some (.own a):=by
 obtain⟨d,z,ne,ob,mA,n,r,q⟩:=(show dy P w H h a (.ins C dx fs) from hok a _ e);exact⟨mA,⟨ob,n,ne⟩,r,q,z,d⟩
end
structure uN(K:FG0)(C:Addr):Prop where
 pg:plainGet K C Str.empty=true
 hd:hasDictIn K C=true
 po:plainOver K C=true
 sa:findIn K (.ref C) "__setattr__" =some (some (.builtin "object.__setattr__"))
theorem uN.get{K:FG0}{C:Addr}(c:uN K C)(f:Str):plainGet K C f=true:=c.pg
def gq(K:FG0)(C:Addr)(f:Str):Prop:=findIn K (.ref C) f=some none
theorem gq.Jt{K:FG0}{C:Addr}{f:Str}(n:gq K C f):takerIn K C f=some none:=by
 unfold takerIn;rw[show findIn K (.ref C) f=some none from n];rfl
structure Nh(K:FG0)(C:Addr)(f:Str)(v:V)(u:Value):Prop where
 at_:findIn K (.ref C) f=some (some u)
 rel:RelV v u
 get:specialIn K u "__get__" =some none
 cp:PySem.W.copiedNames.contains f=false
structure Meth(K:FG0)(C:Addr)(m:Str)(f:Addr):Prop where
 at_:findIn K (.ref C) m=some (some (.ref f))
 fn:isFn K (.ref f)=true
 kp:keepIn K (.ref f)=true
section
variable {X:Cx}{pins:List (Addr×Obj)}{σ:St}{H:Hp}{s:Shared}{a C dx:Addr}{fs:List (Str×V)}{f:Str}{v:V}{A:Around}{E:Value->Shared->Prop}
theorem uY{b:Bool}{Q:Value->Shared->Prop}(I:Inv X pins σ H s)(e:H a=some (.ins C dx fs))(c:uN X.K C)(n:gq X.K C f)(l:fs.lookup f=some v)
  (h:∀u s',Inv X pins σ H s'->RelV v u->Q u s'):wpAny (model X.prog X.w) A (getAttr (.ref a) f b) Q E s:=by
 obtain⟨mA,O,r,_,_,_⟩:=nH I.hok e;obtain⟨u,hu,ru⟩:=iU.some_of (v:=v) (o:=mA f) (by rw[<-l];exact r f);exact get_map I.m7 O (c.get f) c.hd n hu (y9 ru) (h u _ (I.tok _) ru)
theorem u0{m:Str}{g:Addr}{pl:Sem Bool}{Q:Value×List Value->Shared->Prop}(I:Inv X pins σ H s)(e:H a=some (.ins C dx fs))(c:uN X.K C)(k:Meth X.K C m g)(l:fs.lookup m=none)
  (h:Q (.ref g,[.ref a]) s):wpAny (model X.prog X.w) A (getMethod (.ref a) m pl) Q E s:=by
 obtain⟨mA,O,r,_,_,_⟩:=nH I.hok e;have hn:mA m=none:=iU.none_of (by rw[<-l];exact r m);exact Bo I.m7 O (c.get m) k.at_ k.fn hn h
theorem vH{y:V}{u:Value}{Q:Unit->Shared->Prop}(I:Inv X pins σ H s)(e:H a=some (.ins C dx fs))(c:uN X.K C)(n:gq X.K C f)(hl:fs.length < 1000)(ry:RelV y u)
  (h:∀s',Inv X pins σ (upd H a (.ins C dx (fF f y fs))) s'->Q () s'):wpAny (model X.prog X.w) A (setAttr (.ref a) f u) Q E s:=by
 obtain⟨mA,O,r,wi,_,ho⟩:=nH I.hok e;have hz:(fs.map (·.1)).length<=sizeLine:=by rw[length_map,sizeLine_eq];omega
 refine Cc I.m7 O c.sa c.po n.Jt c.hd wi hz λh' O' sb=>h _ ?_;have hd:∃o,h'.get? dx=some o:=let ⟨o,_,_,e',_⟩:=O'.ns;⟨o,e'⟩;refine I.write (x:=a) (e:=dx) (by rw[e];exact True.intro) (.inr ho) (λb q hb z=>(sb.2 b hb).trans z) hd ?_;refine⟨by rw[cG O.ne];exact ho,?_,O.ne,O'.obj,_,O'.ns,λg=>?_,λg hg=>?_⟩
 ·have:=mP f y fs;omega
 ·show iU ((fF f y fs).lookup g) (if g=f then some u else mA g)
  rw[cR];by_cases q:g=f
  ·rw[if_pos q,if_pos q];exact ry
  ·rw[if_neg q,if_neg q];exact r g
 ·by_cases q:g=f
  ·rw[q];exact(mi f y fs).1
  ·refine(mi f y fs).2 g (wi g λz=>hg ?_)
   show(if g=f then some u else mA g)=none;rw[if_neg q];exact z
theorem Inv.made(I:Inv X pins σ H s):Inv X pins σ (upd (upd H s.heap.objs.size (.own (s.heap.objs.size+1))) (s.heap.objs.size+1) (.ins C s.heap.objs.size []))
  { s with heap:=(s.heap.push emptyDict).push (instObj C s.heap.objs.size) }:=by
 have e1:(s.heap.push emptyDict).get? s.heap.objs.size=some emptyDict:=get?_push_size s.heap rfl;have e2:((s.heap.push emptyDict).push (instObj C s.heap.objs.size)).get? (s.heap.objs.size+1)=some (instObj C s.heap.objs.size):=by
  have:=get?_push_size (s.heap.push emptyDict) (o:=instObj C s.heap.objs.size) rfl
  rwa [size_push]at this
 have e3:(s.heap.push emptyDict).Ns s.heap.objs.size (λ_=>none):=⟨emptyDict,#[],_,e1,rfl,(λe he=>absurd he (by simp)),λ_=>rfl⟩;have I1:=I.laid (a:=s.heap.objs.size) (o:=.own (s.heap.objs.size+1)) (h':=s.heap.push emptyDict) (t':=s.toks) (λb u q=>get?_push_of_some _ q) (le_refl _) ⟨_,e1⟩;refine I1.laid (a:=s.heap.objs.size+1) (o:=.ins C s.heap.objs.size []) (t':=s.toks) (λb u q=>get?_push_of_some _ q) (le_of_eq (size_push _ _)) ?_;have ne:s.heap.objs.size≠s.heap.objs.size+1:=ne_of_lt (lt_succ_self _);refine⟨by rw[cG ne,cD],zero_le _,ne,e2,λ_=>none,(Heap.Ns1.of_empty e3).at λo q=>get?_push_of_some _ q,λ_=>True.intro,λy hy=>absurd rfl hy⟩
theorem Dk{prog:Program}{w:World}{env:Env}{e:Expr}{f:Str}{pos:Pos}{s:Shared}{Q:Value->Shared->Prop}(hb:attributeBase e f env (eval e env)=eval e env)
  (h:wpAny (model prog w) A (eval e env) (λo s₁=>wpAny (model prog w) A (getAttr o f true) Q E s₁) E s):wpAny (model prog w) A (eval (.Attribute e f pos) env) Q E s:=
 Attribute_any_ h (by rw[arm_eval_Attribute,hb])
end
inductive Lb(K:FG0)(f:Str)(x:V)(H:Hp)(Q:VK):Prop
 |mk(a C dx:Addr)(fs:List (Str×V))(v:V)(hx:x=.ref a)(h:H a=some (.ins C dx fs))(c:uN K C)(n:gq K C f)(l:fs.lookup f=some v)(q:Q v H)
def HQ(K:FG0)(ta:TE)(f:Str):TE:=λσ H Q=>ta σ H λx H1=>Lb K f x H1 Q
def NS(K:FG0)(ta:TE)(f:Str):TE:=λσ H Q=>ta σ H λx H1=>∃a C dx fs v u,x=.ref a/\H1 a=some (.ins C dx fs)/\uN K C/\Nh K C f v u/\fs.lookup f=none/\Q v H1
def Jr(K:FG0)(ta tv:TE)(f:Str):TS:=λD σ H=>tv σ H λy H1=>ta σ H1 λx H2=>∃a C dx fs,x=.ref a/\H2 a=some (.ins C dx fs)/\uN K C/\gq K C f/\fs.length < 1000/\
 D.nx σ (upd H2 a (.ins C dx (fF f y fs)))
def MO(X:Cx)(op:Operator)(rd:V->V->Hp->VK->Prop):Prop:=
 ∀(pins:List (Addr×Obj)) (s:Shared) (σ:St) (H:Hp) (x y:V) (u v:Value) (Q:VK),Inv X pins σ H s->RelV x u->RelV y v->rd x y H Q->wpAny (model X.prog X.w) X.A (inplaceOp op u v) (EP X pins σ Q) X.xe s
def Ko(K:FG0)(ta tv:TE)(rd:V->V->Hp->VK->Prop)(f:Str):TS:=λD σ H=>ta σ H λx H1=>∃a C dx fs v,x=.ref a/\H1 a=some (.ins C dx fs)/\uN K C/\gq K C f/\fs.lookup f=some v/\
 tv σ H1 λy H2=>rd v y H2 λz H3=>∃dx' fs',H3 a=some (.ins C dx' fs')/\fs'.length < 1000/\D.nx σ (upd H3 a (.ins C dx' (fF f z fs')))
section
variable {X:Cx}{o e value:Expr}{f:Str}{pos pos' tpos:Pos}{ta tv:TE}
theorem FZ(he:PE X e ta)(hb:attributeBase e f X.env (eval e X.env)=eval e X.env):PE X (.Attribute e f pos) (HQ X.K ta f):=by
 intro pins s σ H Q I h;refine Dk hb (dz (he pins s σ H _ I h) λu s1 hpat=>?_);obtain⟨x,H1,I1,rx,a,C,dx,fs,v,ex,ea,c,n,l,q⟩:=hpat;subst ex;obtain rfl:u=Value.ref a:=rx;exact uY I1 ea c n l λu' s2 I2 ru=>⟨v,H1,I2,ru,q⟩
theorem lO(ha:PE X o ta)(hv:PE X value tv)(hs:swapsWith value (some (.Attribute o f pos')) pos.line X.env=pure false):PS X (.Assign [.Attribute o f pos'] value pos) (Jr X.K ta tv f):=by
 intro pins s σ H D I h;refine plainObj_wpAny_Assign_Attribute (dz (hv pins s σ H _ I h) λu s1 ⟨y,H1,I1,ry,q⟩=>dz (ha pins s1 σ H1 _ I1 q) λov s2 hpat=>?_) hs;obtain⟨x,H2,I2,rx,a,C,dx,fs,ex,ea,c,n,l,q2⟩:=hpat;subst ex;obtain rfl:ov=Value.ref a:=rx;exact vH I2 ea c n l ry λs3 I3=>⟨σ,_,I3,q2⟩
def NO:V->V->Hp->VK->Prop:=λx y H Q=>∃i j,x=.int i/\y=.int j/\Q (.int (i+j)) H
def Nz:V->V->Hp->VK->Prop:=λx y H Q=>∃i j,x=.int i/\y=.int j/\Q (.int (i - j)) H
end
section
variable {X:Cx}{pins:List (Addr×Obj)}{σ:St}{H:Hp}{s:Shared}{A:Around}{E:Value->Shared->Prop}{Q:Value->Shared->Prop}{c:Value}{b:Bool}
inductive fQ(K:FG0)(H:Hp):V->Value->Prop where
 |non:fQ K H .non (.type "NoneType")
 |bl (x:Bool):fQ K H (.bl x) (.type "bool")
 |int (i:Int):fQ K H (.int i) (.type "int")
 |str (x:Str):fQ K H (.str x) (.type "str")
 |flt (x:UInt64):fQ K H (.flt x) (.type "float")
 |lst {a:Addr}{xs:List V}(e:H a=some (.lst xs)):fQ K H (.ref a) (.type "list")
 |frz {a:Addr}{o:Obj}{xs:List V}(e:H a=some (.frz o (.lst xs))):fQ K H (.ref a) (.type "list")
 |tup {a:Addr}{xs:List V}(e:H a=some (.tup xs)):fQ K H (.ref a) (.type "tuple")
 |dK {a:Addr}{kvs:List (Key×V)}(e:H a=some (.dK kvs)):fQ K H (.ref a) (.type "dict")
 |dT {a:Addr}{kvs:List (List Key×V)}(e:H a=some (.dT kvs)):fQ K H (.ref a) (.type "dict")
 |ins {a C dx:Addr}{fs:List (Str×V)}(e:H a=some (.ins C dx fs)) (cl:uN K C) (ha:findIn K (.ref C) "__class__" =some (some (.builtin "object.__class__")))
   (hn:specialIn K (.builtin "object.__class__") "__get__" =some (some (.builtin "getset_descriptor.__get__"))) (htk:PySem.W.takesIn K (.builtin "object.__class__")=some true)
   (hm:PySem.W.mroIn K C (.type "object")=some true):fQ K H (.ref a) (.ref C)
theorem yT{x:V}{u t:Value}(I:Inv X pins σ H s)(rx:RelV x u)(ty:fQ X.K H x t)(e:kitOne X.K t c=some b)(h:∀tk,Q (.bool b) { s with toks:=tk }):
  wpAny (model X.prog X.w) A (call (.builtin "isinstance") [u,c]) Q E s:=by
 cases ty with
 |non=>cases (show u=Value.none from rx);exact kia_one PySem.W.kitx_none I.m7 True.intro e (λz=>nomatch z) h
 |bl y=>cases (show u=Value.bool y from rx);exact kia_one PySem.W.kitx_bool I.m7 True.intro e (λz=>nomatch z) h
 |int i=>obtain⟨t,q⟩:=(show ∃t,u=Value.int i t from rx);cases q;exact kia_one PySem.W.kitx_int I.m7 True.intro e (λz=>nomatch z) h
 |str y=>obtain⟨t,q⟩:=(show ∃t,u=Value.str y t from rx);cases q;exact kia_one PySem.W.kitx_str I.m7 True.intro e (λz=>nomatch z) h
 |flt y=>obtain⟨t,q⟩:=(show ∃t,u=Value.float y t from rx);cases q;exact kia_one PySem.W.kitx_float I.m7 True.intro e (λz=>nomatch z) h
 | @lst a xs ea=>
  cases (show u=Value.ref a from rx);obtain⟨_,_,n,_,h1⟩:=(show dy X.prog X.w H s.heap a (.lst xs) from I.hok a _ ea);exact kia_one kitx_list I.m7 ⟨_,h1,rfl⟩ e (λz=>nomatch z) h
 | @frz a ob xs ea=>
  cases (show u=Value.ref a from rx);obtain⟨_,_,_,n,_,h1⟩:=(show dy X.prog X.w H s.heap a (.frz ob (.lst xs)) from I.hok a _ ea);exact kia_one kitx_list I.m7 ⟨_,h1,rfl⟩ e (λz=>nomatch z) h
 | @tup a xs ea=>
  cases (show u=Value.ref a from rx);obtain⟨_,_,_,p⟩:=(show dy X.prog X.w H s.heap a (.tup xs) from I.hok a _ ea);obtain⟨o,h1,h2,_⟩:=p;exact kia_one PySem.W.kitx_tuple I.m7 ⟨o,h1,h2⟩ e (λz=>nomatch z) h
 | @dK a kvs ea=>
  cases (show u=Value.ref a from rx);obtain⟨_,_,vs,_,p⟩:=(show dy X.prog X.w H s.heap a (.dK kvs) from I.hok a _ ea);obtain⟨o,es,ep,h1,h2,_⟩:=p;exact kia_one kitx_dict I.m7 ⟨o,h1,h2.1⟩ e (λz=>nomatch z) h
 | @dT a kvs ea=>
  cases (show u=Value.ref a from rx);obtain⟨_,_,xs,_,o,es,ep,h1,h2,_⟩:=(show dy X.prog X.w H s.heap a (.dT kvs) from I.hok a _ ea);exact kia_one kitx_dict I.m7 ⟨o,h1,h2.1⟩ e (λz=>nomatch z) h
 | @ins a C dx fs ea cl ha hn htk hm=>
  cases (show u=Value.ref a from rx);obtain⟨mA,O,_⟩:=nH I.hok ea;obtain⟨od,J,_⟩:=O.look;exact kia_one (PySem.W.kitx_own (cl.get _) cl.hd ha hn htk hm) I.m7 J e (λz=>nomatch z) h
end
end L2
namespace L2
open PySem PySem.Spec PyProof.Rows
structure dC(k:Nat)(A:Around):Prop where
 hd:A.handled=none
 dp:A.depth+3 * k+5 < recursionLimit
 un:A.units+16 * k+200 < cLine
theorem dC.mono{j k:Nat}{A:Around}(r:dC k A)(h:j<=k):dC j A:=⟨r.hd,by have:=r.dp;omega,by have:=r.un;omega⟩
theorem dC.deeper{k:Nat}{A:Around}(r:dC (k+1) A)(env:Env):dC k (A.deeper env):=
 ⟨r.hd,by have:=r.dp;show A.depth+1+3 * k+5 < _;omega,by have:=r.un;show A.units+3+16 * k+200 < _;omega⟩
theorem dC.in1{k:Nat}{A:Around}(r:dC (k+1) A):dC k A.in1:=
 ⟨r.hd,by have:=r.dp;show A.depth+3 * k+5 < _;omega,by have:=r.un;show A.units+1+16 * k+200 < _;omega⟩
theorem vM{A:Around}{C:Addr}{us:List Value}{kw:List (Str×Value)}:(A.under (.builtin "type.__call__" ⟨.ref C::us,kw⟩)).depth=A.depth+1:=by
 first|rfl|simp[Around.under,Code.weight,Code.isCreation,Code.isGuard,Code.isCaller,Code.frames,Code.isFrame,guardIds]
theorem vx{A:Around}{C:Addr}{us:List Value}{kw:List (Str×Value)}:(A.under (.builtin "type.__call__" ⟨.ref C::us,kw⟩)).units=A.units+1:=by
 first|rfl|simp[Around.under,Code.cUnits,Code.frames,Code.isFrame]
theorem dC.make{k:Nat}{A:Around}(r:dC (k+1) A)(C:Addr)(us:List Value)(kw:List (Str×Value)):dC k (A.under (.builtin "type.__call__" ⟨.ref C::us,kw⟩)):=
 ⟨r.hd,by have:=r.dp;rw[vM];omega,by have:=r.un;rw[vx];omega⟩
theorem dC.depth{k:Nat}{A:Around}(r:dC k A):A.depth < recursionLimit:=by have:=r.dp;omega
theorem dC.units{k:Nat}{A:Around}(r:dC k A):A.units+64 < cLine:=by have:=r.un;omega
def m8:TA:=λ_ H Q=>Q [] H
def dR(ta:TE)(tr:TA):TA:=λσ H Q=>ta σ H λx H1=>tr σ H1 λxs H2=>Q (x::xs) H2
section
variable {X:Cx}{e:Expr}{es:List Expr}{te:TE}{t:TA}{pos:Pos}
theorem j9:PA X [] m8:=λ_ _ _ _ H Q I h=>Calls.spliced_nil ⟨[],H,I,.nil,h⟩
theorem fw(ha:PE X e te)(hr:PA X es t)(hs:starEach (e::es) X.env=(false,eval e X.env)::starEach es X.env:=by rfl):PA X (e::es) (dR te t):=by
 intro pos pins s σ H Q I h;rw[hs];show wpAny _ _ (spliced ((false,eval e X.env)::backTo pos (starEach es X.env))) _ _ s;refine Calls.spliced_cons (dz (ha pins s σ H _ I h) λu s1 hpat=>?_);obtain⟨x,H1,I1,r1,q1⟩:=hpat;exact dz (hr pos pins s1 σ H1 _ I1 q1) λus s2 ⟨xs,H2,I2,r2,q2⟩=>⟨x::xs,H2,I2,.cons r1 r2,q2⟩
def Iq(t:TA):TE:=λσ H Q=>t σ H λxs H1=>xs.length<=sizeLine/\∀p,H1 p=none->Q (.ref p) (upd H1 p (.tup xs))
def JY(t:TA):TE:=λσ H Q=>t σ H λxs H1=>xs.length<=sizeLine/\∀p,H1 p=none->Q (.ref p) (upd H1 p (.lst xs))
theorem Fz{x1}(h:PA X es t):PE X (.Tuple es x1 pos) (Iq t):=by
 intro pins s σ H Q I hq;refine wpAny_Tuple_spliced (dz (h pos pins s σ H _ I hq) λus s1 ⟨xs,H1,I1,r,z,q⟩=>⟨by rw[<-r.length];exact z,?_⟩);have hf:H1 s1.heap.objs.size=none:=I1.hok.fresh (le_refl _);refine⟨.ref s1.heap.objs.size,upd H1 s1.heap.objs.size (.tup xs),I1.laid (t':=s1.toks) (λb u e=>get?_push_of_some _ e) (le_refl _) ?_,rfl,q _ hf⟩;exact⟨z,us,r,⟨_,get?_push_size _ rfl,rfl,_,rfl⟩⟩
theorem E4(h:PA X es t):PE X (.List es pos) (JY t):=by
 intro pins s σ H Q I hq;refine wpAny_List_spliced (dz (h pos pins s σ H _ I hq) λus s1 ⟨xs,H1,I1,r,z,q⟩=>⟨by rw[<-r.length];exact z,?_⟩);have hf:H1 s1.heap.objs.size=none:=I1.hok.fresh (le_refl _);refine⟨.ref s1.heap.objs.size,upd H1 s1.heap.objs.size (.lst xs),I1.laid (t':=s1.toks) (λb u e=>get?_push_of_some _ e) (le_refl _) ?_,rfl,q _ hf⟩;exact⟨z,us,0,r,get?_push_size _ rfl⟩
end
abbrev Sp:=List V->Hp->VK->XK->Prop
abbrev zp:=List Env->Hp->Shared->XK->Value->Shared->Prop
structure m6(P:Program)(w:World)(K:FG0)(mg:Str->Option Value)(base:Heap)(A:Around)(outer:List Env)(s:Shared)(H:Hp):Prop where
 frames:A.frames=some outer
 mod:Mod K mg base
 bs:∀b o,base.get? b=some o->s.heap.get? b=some o/\H b=none
 bsz:base.objs.size<=s.heap.objs.size
 lq:s.heap.FunFrames base outer
 frf:∀b∈sE outer,H b=none
 hok:gB P w H s.heap
 bare:AllBare s.gens
def CE(outer:List Env)(P:Program)(w:World)(H:Hp)(s:Shared)(Q:VK)(u:Value)(s':Shared):Prop:=
 ∃v H',s'.os=s.os/\AllBare s'.gens/\Un (sE outer) [] H H' s.heap s'.heap/\gB P w H' s'.heap/\RelV v u/\Q v H'
def CR(CX:zp)(outer:List Env)(P:Program)(w:World)(H:Hp)(s:Shared)(Q:VK)(E:XK)(r:Result)(s':Shared):Prop:=
 match r with
 |.ok (.ret u)=>CE outer P w H s Q u s'
 |.ok _=>False
 |.error e=>CX outer H s E e s'
structure eD(P:Program)(w:World)(K:FG0)(mg:Str->Option Value)(base:Heap)(CX:zp)(k:Nat)(f:Addr)(fd:FuncData)(ps:List Str)(sp:Sp):Prop where
 len:∀vs H Q E,sp vs H Q E->vs.length=ps.length
 run:∀(A:Around) (outer:List Env) (s:Shared) (H:Hp) (args:Args) (us:List Value) (vs:List V) (Q:VK) (E:XK),dC k A->m6 P w K mg base A outer s H->BindsTo s fd args (ps.zip us)->Vals vs us->sp vs H Q E->
  codeAny (model P w) A (.call (.ref f) args) (CR CX outer P w H s Q E) s
theorem m6.make{P:Program}{w:World}{K:FG0}{mg:Str->Option Value}{base:Heap}{A:Around}{outer:List Env}{s:Shared}{H:Hp}(e:m6 P w K mg base A outer s H)(C:Addr)(us:List Value)(kw:List (Str×Value)):
  m6 P w K mg base (A.under (.builtin "type.__call__" ⟨.ref C::us,kw⟩)) outer s H:=⟨by first|exact e.frames| (simpa [Around.under,Code.envs,Code.isFrame,pushEnvs] using e.frames),e.mod,e.bs,e.bsz,e.lq,e.frf,e.hok,e.bare⟩
theorem m6.in1{P:Program}{w:World}{K:FG0}{mg:Str->Option Value}{base:Heap}{A:Around}{outer:List Env}{s:Shared}{H:Hp}(e:m6 P w K mg base A outer s H):
  m6 P w K mg base A.in1 outer s H:=⟨e.frames,e.mod,e.bs,e.bsz,e.lq,e.frf,e.hok,e.bare⟩
section
variable {X:Cx}{pins:List (Addr×Obj)}{σ:St}{H:Hp}{s s':Shared}
theorem Inv.C7(I:Inv X pins σ H s):m6 X.prog X.w X.K X.mg X.base X.A X.stack s H:=
 ⟨I.ok.frames,I.ok.mod,I.bs,le_trans I.ok.bsz I.sz,I.stack,I.xH,I.hok,I.bare⟩
theorem Inv.after{Q:VK}{u:Value}(I:Inv X pins σ H s)(h:CE X.stack X.prog X.w H s Q u s'):EP X pins σ Q u s':=by
 obtain⟨v,H',os,bare,un,hok,r,q⟩:=h;obtain⟨hh,g,d,t,os'⟩:=s';obtain rfl:os'=s.os:=os;exact⟨v,H',I.call (h':=hh) (g':=g) (d':=d) (t':=t) (ch:=[]) un hok bare (λb z=>absurd z (by simp)),r,q⟩
end
def tj(sp:Sp)(dvs:List V)(E:XK)(t:TA):TE:=λσ H Q=>t σ H λvs H1=>sp (vs++dvs) H1 Q E
inductive MethP(C:Addr)(m:Str)(x:V)(H:Hp)(G:Prop):Prop
 |mk(a dx:Addr)(fs:List (Str×V))(hx:x=.ref a)(h:H a=some (.ins C dx fs))(l:fs.lookup m=none)(q:G)
def En(C:Addr)(m:Str)(sp:Sp)(dvs:List V)(E:XK)(ta:TE)(t:TA):TE:=λσ H Q=>ta σ H λx H1=>MethP C m x H1 (t σ H1 λvs H2=>sp (x::(vs++dvs)) H2 Q E)
def Ew(C:Addr)(sp:Sp)(dvs:List V)(E:XK)(t:TA):TE:=λσ H Q=>t σ H λvs H1=>∀x dx,H1 x=none->H1 dx=none->dx≠x->
 sp (.ref x::(vs++dvs)) (upd (upd H1 dx (.own x)) x (.ins C dx [])) (λv H2=>v=.non/\Q (.ref x) H2) E
def Binds(K:FG0)(fd:FuncData)(ps:List Str)(ds:List Value):Prop:=
 ∀(s:Shared) (us:List Value),K.In s.heap->(us++ds).length=ps.length->BindsTo s fd ⟨us,[]⟩ (ps.zip (us++ds))
theorem Binds.all{K:FG0}{fd:FuncData}{ps:List Str}(h:∀us:List Value,us.length=ps.length->bindArgs fd ⟨us,[]⟩=pure (ps.zip us)):Binds K fd ps []:=λs us _ hl=>by
 rw[append_nil]at hl ⊢;exact .of_eq (h us hl)
def Passes(CX:zp)(X:Cx)(E:XK):Prop:=∀(pins:List (Addr×Obj)) (σ:St) (H:Hp) (s:Shared) (e:Value) (s':Shared),Inv X pins σ H s->CX X.stack H s E e s'->X.xe e s'
section
variable {X:Cx}{CX:zp}{k:Nat}{f C:Addr}{fd:FuncData}{ps:List Str}{sp:Sp}{dvs:List V}{ds:List Value}{E:XK}{x m:Str}{p pos apos:Pos}{e o:Expr}{es:List Expr}{ta:TE}{t:TA}
theorem AB{pins:List (Addr×Obj)}{σ:St}{H:Hp}{s:Shared}{Q:VK}{us:List Value}{vs:List V}(F:eD X.prog X.w X.K X.mg X.base CX k f fd ps sp)(hr:dC k X.A)(hb:Binds X.K fd ps ds)(hd:Vals dvs ds)(hx:Passes CX X E)
  (I:Inv X pins σ H s)(r:Vals vs us)(h:sp (vs++dvs) H Q E):wpAny (model X.prog X.w) X.A (call (.ref f) us) (EP X pins σ Q) X.xe s:=by
 have r2:Vals (vs++dvs) (us++ds):=r.append hd;have hl:(us++ds).length=ps.length:=by rw[<-r2.length];exact F.len _ _ _ _ h
 refine wpAny_call (codeAny_mono (F.run X.A X.stack s H ⟨us,[]⟩ (us++ds) (vs++dvs) Q E hr I.C7 (hb s us I.m7 hl) r2 h) λr s' hq=>?_);cases r with
 |error e=>exact hx pins σ H s e s' I hq
 |ok fl=>
  cases fl with
  |ret u=>exact I.after hq
  |next=>exact False.elim hq
  |brk=>exact False.elim hq
  |cont=>exact False.elim hq
theorem xV(F:eD X.prog X.w X.K X.mg X.base CX k f fd ps sp)(hr:dC k X.A)(hg:Gl X x)(hm:X.mg x=some (.ref f))(hk:keepIn X.K (.ref f)=true)(hb:Binds X.K fd ps ds)(hd:Vals dvs ds)(hx:Passes CX X E)
  (ha:PA X (e::es) t) (hdb:(x == ("__debug__" :Str))=false:=by decide) (he:starEach (e::es) X.env=(false,eval e X.env)::starEach es X.env:=by rfl) (hpl:(backTo pos (starEach es X.env)).any (·.1)=false:=by rfl):
  PE X (.Call (.Name x p) (e::es) [] pos) (tj sp dvs E t):=by
 intro pins s σ H Q I h;refine wpAny_Call_Name_kw (nu I hg hm ?_ hdb);refine callWith_K (h₀:=X.base) I.ok.mod.kin hk (dz (ha pos pins s σ H _ I h) λus s1 ⟨vs,H1,I1,r,q⟩=>⟨I1.m7,?_⟩) he hpl;exact AB F hr hb hd hx I1 r q
theorem Aw{pl:Sem Bool}(he:PE X o ta)(c:uN X.K C)(hm:Meth X.K C m f)(F:eD X.prog X.w X.K X.mg X.base CX k f fd ps sp)(hr:dC k X.A)(hb:Binds X.K fd ps ds)(hd:Vals dvs ds)(hx:Passes CX X E)
  (ht:eval (.Call (.Attribute o m apos) [] [] pos) X.env=(do
   let ov <-eval o X.env
   standAt apos.atName
   let (f,first) <-holding [ov] (getMethod ov m pl)
   callWith pos f first (backTo pos (starEach [] X.env)) (backToKw pos (keywordEach [] X.env))):=by rfl):
  PE X (.Call (.Attribute o m apos) [] [] pos) (En C m sp dvs E ta m8):=by
 intro pins s σ H Q I h;refine PySem.W.methodCall_KW (pl:=pl) (dz (he pins s σ H _ I h) λu s1 hpat=>?_) ht;obtain⟨x,H1,I1,rx,a,dx,fs,ex,ea,l,q⟩:=hpat;subst ex;obtain rfl:u=Value.ref a:=rx;refine u0 I1 ea c hm l ?_;exact PySem.W.callWith_K0 (first:=[.ref a]) I1.m7 hm.kp (AB (us:=[.ref a]) (vs:=[.ref a]) F hr hb hd hx I1 (.cons rfl .nil) q)
structure Mk(K:FG0)(C f:Addr):Prop where
 makes:makesIn K C=true
 init:findIn K (.ref C) "__init__" =some (some (.ref f))
 fn:isFn K (.ref f)=true
 kp:keepIn K (.ref C)=true
theorem Ab{pins:List (Addr×Obj)}{σ:St}{H:Hp}{s:Shared}{Q:VK}{us:List Value}{vs:List V}(M:Mk X.K C f)(F:eD X.prog X.w X.K X.mg X.base CX k f fd ps sp)(hr:dC (k+1) X.A)(hb:Binds X.K fd ps ds)(hd:Vals dvs ds)
  (hx:Passes CX X E)(I:Inv X pins σ H s)(r:Vals vs us)
  (h:∀x dx,H x=none->H dx=none->dx≠x->sp (.ref x::(vs++dvs)) (upd (upd H dx (.own x)) x (.ins C dx [])) (λv H2=>v=.non/\Q (.ref x) H2) E):
  wpAny (model X.prog X.w) X.A (call (.ref C) us) (EP X pins σ Q) X.xe s:=by
 have hq:=h (s.heap.objs.size+1) s.heap.objs.size (I.hok.fresh (le_succ _)) (I.hok.fresh (le_refl _)) (ne_of_lt (lt_succ_self _));have I2:=Inv.made (C:=C) I;have r2:Vals (V.ref (s.heap.objs.size+1)::(vs++dvs)) (Value.ref (s.heap.objs.size+1)::(us++ds)):=.cons rfl (r.append hd);have hl:(Value.ref (s.heap.objs.size+1)::us++ds).length=ps.length:=by
  have e:=r2.length;rw[F.len _ _ _ _ hq]at e;exact e.symm
 refine wpAny_call (AF (f:=f) I.m7 M.makes M.init (beq_iff_eq.mp M.fn) (codeAny_mono (F.run _ X.stack _ _ ⟨Value.ref (s.heap.objs.size+1)::us,[]⟩ (Value.ref (s.heap.objs.size+1)::(us++ds)) _ _ E (hr.make C us [])
  (I2.C7.make C us []) (hb _ (Value.ref (s.heap.objs.size+1)::us) I2.m7 hl) r2 hq) λr s' hq'=>?_))
 cases r with
 |error e=>exact hx pins σ _ _ e s' I2 hq'
 |ok fl=>
  cases fl with
  |ret u=>
   obtain⟨v,H',I3,rv,ev,q3⟩:=I2.after hq';subst ev;exact⟨rv,⟨V.ref (s.heap.objs.size+1),H',I3,rfl,q3⟩⟩
  |next=>exact False.elim hq'
  |brk=>exact False.elim hq'
  |cont=>exact False.elim hq'
theorem DG(M:Mk X.K C f)(F:eD X.prog X.w X.K X.mg X.base CX k f fd ps sp)(hr:dC (k+1) X.A)(hg:Gl X x)(hm:X.mg x=some (.ref C))(hb:Binds X.K fd ps ds)(hd:Vals dvs ds)(hx:Passes CX X E)
  (ha:PA X (e::es) t) (hdb:(x == ("__debug__" :Str))=false:=by decide) (he:starEach (e::es) X.env=(false,eval e X.env)::starEach es X.env:=by rfl) (hpl:(backTo pos (starEach es X.env)).any (·.1)=false:=by rfl):
  PE X (.Call (.Name x p) (e::es) [] pos) (Ew C sp dvs E t):=by
 intro pins s σ H Q I h;refine wpAny_Call_Name_kw (nu I hg hm ?_ hdb);refine callWith_K (h₀:=X.base) I.ok.mod.kin M.kp (dz (ha pos pins s σ H _ I h) λus s1 ⟨vs,H1,I1,r,q⟩=>⟨I1.m7,?_⟩) he hpl;exact Ab M F hr hb hd hx I1 r q
end
def PK(X:Cx)(kws:List Keyword)(t:TA):Prop:=
 ∀(pos:Pos) (pins:List (Addr×Obj)) (s:Shared) (σ:St) (H:Hp) (Q:List V->Hp->Prop),Inv X pins σ H s->t σ H Q->wpAny (model X.prog X.w) X.A (evalAll ((backToKw pos (keywordEach kws X.env)).map (·.2))) (AP X pins σ Q) X.xe s
section
variable {X:Cx}{CX:zp}{k:Nat}{f C:Addr}{fd:FuncData}{ps ks:List Str}{sp:Sp}{E:XK}{x m:Str}{p pos apos kpos:Pos}{e o:Expr}{es:List Expr}{kws:List Keyword}{te ta:TE}{t tk:TA}{nm:Option Str}
structure LW(K:FG0)(fd:FuncData)(ps ks:List Str)(g:List Value->List Value->List Value)(gV:List V->List V->List V):Prop where
 to:∀(s:Shared) (us ws:List Value),K.In s.heap->(g us ws).length=ps.length->BindsTo s fd ⟨us,ks.zip ws⟩ (ps.zip (g us ws))
 rel:∀{vs:List V}{us:List Value}{zs:List V}{ws:List Value},Vals vs us->Vals zs ws->Vals (gV vs zs) (g us ws)
def Ln(sp:Sp)(gV:List V->List V->List V)(E:XK)(t tk:TA):TE:=λσ H Q=>t σ H λvs H1=>tk σ H1 λzs H2=>sp (gV vs zs) H2 Q E
variable {g:List Value->List Value->List Value}{gV:List V->List V->List V}
end
structure cI(N P:List Str)(sc:Scope):Prop where
 kind:sc.kind=.function:=by rfl
 co:sc.isCoroutine=false:=by rfl
 gen:sc.isGenerator=false:=by rfl
 nd:N.Nodup:=by decide+kernel
 pre:N.take P.length=P:=by rfl
 par:∀x∈P,sc.names.lookup x=some .local\/sc.names.lookup x=some .cell:=by decide+kernel
 nofree:∀y∈sc.names,y.2≠.free:=by decide+kernel
theorem qt{kindOf:Str->Option NameKind}{x:Str}:∀{binds:List (Str×Value)}{m:Str->Option Value},(∀v,(x,v) ∉ binds)->bindL kindOf binds m x=m x
 |[],_,_=>rfl
 | (n,v)::r,m,h=>by
  unfold bindL;rw[qt λw hw=>h w (mem_cons_of_mem _ hw)];split
  ·have:x≠n:=by rintro rfl;exact h v mem_cons_self
   simp[this]
  ·rfl
theorem qw{kindOf:Str->Option NameKind}{x:Str}:∀{binds:List (Str×Value)}{m:Str->Option Value},(∀v,(x,v) ∉ binds)->bindC kindOf binds m x=m x
 |[],_,_=>rfl
 | (n,v)::r,m,h=>by
  unfold bindC;rw[qw λw hw=>h w (mem_cons_of_mem _ hw)];split
  ·rfl
  ·have:x≠n:=by rintro rfl;exact h v mem_cons_self
   simp[this]
theorem qx{kindOf:Str->Option NameKind}{x:Str}{v:Value}:∀{P:List Str}{vs:List Value}{i:Nat}{m:Str->Option Value},P.Nodup->P[i]? =some x->vs[i]? =some v->kindOf x=some .local->
  bindL kindOf (P.zip vs) m x=some v
 |[],_,_,_,_,h,_,_=>by simp at h
 |_::_,[],_,_,_,_,h,_=>by simp at h
 |p::P,w::vs,0,m,nd,h1,h2,hk=>by
  simp at h1 h2;subst h1;subst h2;show bindL kindOf ((p,w)::P.zip vs) m p=_;unfold bindL;rw[qt λv hv=>(nodup_cons.mp nd).1 (of_mem_zip hv).1,if_pos hk];simp
 |p::P,w::vs,i+1,m,nd,h1,h2,hk=>by
  show bindL kindOf ((p,w)::P.zip vs) m x=_;unfold bindL;exact qx (i:=i) (nodup_cons.mp nd).2 (by simpa using h1) (by simpa using h2) hk
theorem p7{kindOf:Str->Option NameKind}{x:Str}{v:Value}:∀{P:List Str}{vs:List Value}{i:Nat}{m:Str->Option Value},P.Nodup->P[i]? =some x->vs[i]? =some v->kindOf x≠some .local->
  bindC kindOf (P.zip vs) m x=some v
 |[],_,_,_,_,h,_,_=>by simp at h
 |_::_,[],_,_,_,_,h,_=>by simp at h
 |p::P,w::vs,0,m,nd,h1,h2,hk=>by
  simp at h1 h2;subst h1;subst h2;show bindC kindOf ((p,w)::P.zip vs) m p=_;unfold bindC;rw[qw λv hv=>(nodup_cons.mp nd).1 (of_mem_zip hv).1,if_neg hk];simp
 |p::P,w::vs,i+1,m,nd,h1,h2,hk=>by
  show bindC kindOf ((p,w)::P.zip vs) m x=_;unfold bindC;exact p7 (i:=i) (nodup_cons.mp nd).2 (by simpa using h1) (by simpa using h2) hk
def start(N:List Str)(vs:List V):St:=vs.map some++List.replicate (N.length - vs.length) none
def uK(CX:zp)(P:Program)(w:World)(K:FG0)(mg:Str->Option Value)(base:Heap)(N:List Str)(qual:Str)(scope:Scope)(f:Addr)(cd:Value)(A:Around)(outer:List Env)(s:Shared)(H:Hp)(E:XK):Cx where
 prog:=P
 w:=w
 K:=K
 mg:=mg
 base:=base
 A:=A.deeper (envOfC qual scope s.heap.objs.size f cd)
 N:=N
 s₀:=s
 H₀:=H
 env:=envOfC qual scope s.heap.objs.size f cd
 outer:=outer
 stack:=envOfC qual scope s.heap.objs.size f cd::outer
 ex:=[]
 calm:=true
 fn:=λ_=>true
 pn:=[]
 xe:=λe s'=>wpAny (model P w) (A.deeper (envOfC qual scope s.heap.objs.size f cd)) (leaving (envOfC qual scope s.heap.objs.size f cd) e) (λ_ s''=>CX outer H s E e s'') (λe' s''=>CX outer H s E e' s'') s'
theorem uE{sc:Scope}{n:Nat}{x:Str}(h:sc.names.lookup x=some .cell):∃c,(cellsFrom n sc.names []).lookup x=some c:=by
 have q:=PySem.W.cellsFrom_some sc.names n [] (.inl h);exact isSome_iff_exists.mp q
theorem yc{CX:zp}{P:Program}{w:World}{K:FG0}{mg:Str->Option Value}{base:Heap}{N ps:List Str}{qual:Str}{scope:Scope}{f:Addr}{cd:Value}{A:Around}{outer:List Env}{s s1:Shared}{H:Hp}{E:XK}{us:List Value}{vs:List V}
  (S:cI N ps scope)(hd:A.handled=none)(e0:m6 P w K mg base A outer s H)(hl:vs.length=ps.length)(r:Vals vs us)
  (x:InCallC s s.heap.objs.size (bindL (envOfC qual scope s.heap.objs.size f cd).kindOf (ps.zip us) λ_=>none) (cellsFrom (s.heap.objs.size+1) scope.names []) (bindC (envOfC qual scope s.heap.objs.size f cd).kindOf (ps.zip us) λ_=>none) s1):
  Inv (uK CX P w K mg base N qual scope f cd A outer s H E) [] (start N vs) H s1:=by
 have hpl:ps.length<=N.length:=by have:=congrArg List.length S.pre;rw[length_take]at this;omega
 obtain⟨h1,tk,rfl,hk⟩:=x.done;have noA:∀b:Addr,b ∉ (uK CX P w K mg base N qual scope f cd A outer s H E).ex:=λb z=>absurd (show b∈([]:List Addr) from z) (by simp);refine⟨⟨e0.mod,S.kind,rfl,rfl,le_refl _,λy z c h1 h2=>?_,λy hy=>?_,λy c _ h=>?_,λ_=>hd,Around.frames_deeper e0.frames,.inr ⟨rfl,rfl⟩,λb z=>absurd z (noA b),e0.bs,e0.bsz,λb _ _=>noA b,λb z=>absurd z (noA b),e0.lq,e0.frf⟩,
  rfl,e0.bare,Un.kept hk,⟨_,x.toInCall.ns,λi y v h1 h2 h3=>?_⟩,λy c h=>⟨_,x.cell y c h⟩,e0.hok.fresh (le_refl _),λy c h=>?_,λp hp=>absurd (show p∈([]:List (Addr×Obj)) from hp) (by simp),e0.hok.kept hk,?_⟩
 ·exact name_of_addr x.apart (PySem.mem_of_lookup h1) (PySem.mem_of_lookup h2)
 ·have hy:scope.names.lookup y=some .cell\/scope.names.lookup y=some .free:=hy
  rcases hy with hy|hy
  ·exact uE hy
  ·exact absurd rfl (S.nofree _ (PySem.mem_of_lookup hy))
 ·exact le_of_lt (x.above y c (PySem.mem_of_lookup h))
 ·have hi:i < vs.length:=by
   unfold start at h2;by_cases hi:i < vs.length
   ·exact hi
   ·rw[getElem?_append_right (by simpa using hi)]at h2
    rw[List.getElem?_replicate]at h2;split at h2<;>cases h2
  have ha:vs[i]? =some v:=by
   unfold start at h2;rw[getElem?_append_left (by simpa using hi),getElem?_map]at h2;cases e:vs[i]? with
   |none=>rw[e]at h2;cases h2
   |some a=>rw[e]at h2;cases h2;rfl
  obtain⟨u,hu,rv⟩:=r.get ha;have hp:ps[i]? =some y:=by
   rw[<-S.pre,getElem?_take_of_lt (by omega)];exact h1
  have ndP:ps.Nodup:=by rw[<-S.pre];exact S.nd.sublist (List.take_sublist _ _)
  refine⟨u,rv,?_⟩;rcases S.par y (mem_of_getElem? hp) with k|k
  ·exact .inl ⟨k,qx ndP hp hu k⟩
  ·obtain⟨c,e⟩:=uE (n:=s.heap.objs.size+1) k
   refine .inr ⟨.inl k,c,e,?_⟩;have q:=x.cell y c e;rw[p7 ndP hp hu (by show scope.names.lookup y≠_;rw[k];decide)]at q;exact q
 ·exact e0.hok.fresh (le_of_lt (x.above y c (PySem.mem_of_lookup h)))
 ·unfold start
  show _=N.length;rw[length_append,length_map,length_replicate];omega
theorem Ek{CX:zp}{P:Program}{w:World}{K:FG0}{mg:Str->Option Value}{base:Heap}{k:Nat}{f:Addr}{name qual:Str}{params:Arguments}{body:List Stmt}{scope:Scope}{dV kV doc pm cdv ct oc:Value}{an od:Option Addr}
  {osl:Array (Option Value)}{N ps:List Str}{sp:Sp}(lk:K.lookup f=some ⟨oc,od,.func (fnOf name qual params body scope dV kV doc pm an cdv ct),osl⟩) (hcd:codeIn K cdv qual=true) (S:cI N ps scope)
  (len:∀vs H Q E,sp vs H Q E->vs.length=ps.length)
  (hbody:∀(A:Around) (outer:List Env) (s:Shared) (H:Hp) (vs:List V) (Q:VK) (E:XK),dC k (A.deeper (envOfC qual scope s.heap.objs.size f cdv))->sp vs H Q E->
   ∃t,sW (uK CX P w K mg base N qual scope f cdv A outer s H E) body t/\t { nx:=λ_ H'=>Q .non H',rt:=Q } (start N vs) H):
  eD P w K mg base CX (k+1) f (fnOf name qual params body scope dV kV doc pm an cdv ct) ps sp:=by
 refine⟨len,λA outer s H args us vs Q E hr e0 hb r hsp=>?_⟩;have hl:=len _ _ _ _ hsp;have KX:K.In s.heap:=e0.mod.kin.keeps λb o e=>(e0.bs b o e).1;have lim:s.heap.NoLimit:=e0.mod.nolimit.keeps λb o e=>(e0.bs b o e).1;have hkind:∀y∈ps.zip us,scope.names.lookup y.1=some .local\/(scope.names.lookup y.1=some .cell/\((cellsFrom (s.heap.objs.size+1) scope.names []).lookup y.1).isSome=true):=λ⟨n,v⟩ hy=>by
  rcases S.par n (of_mem_zip hy).1 with q|q
  ·exact .inl q
  ·exact .inr ⟨q,PySem.W.cellsFrom_some _ _ _ (.inl q)⟩
 refine codeAny_call_function hr.depth (KX _ _ lk) rfl S.co S.gen rfl (PySem.W.codeRec_of KX hcd) (hb _ _ _ _ ?_);refine wpAny_newFunctionEnv_cells S.kind hkind λenv he s1 x=>?_;subst he;refine⟨lim.keeps x.toInCall.keep,codeAny_func ?_⟩;obtain⟨t,ht,hq⟩:=hbody A outer s H vs Q E (hr.deeper _) hsp;have I:Inv (uK CX P w K mg base N qual scope f cdv A outer s H E) [] (start N vs) H s1:=yc S hr.hd e0 hl r x;refine wpAny_mono (ht [] s1 (start N vs) H _ I hq) (λfl s' hs=>?_) λe s' hs=>hs;have fin:∀{σ':St}{H':Hp}{v:V}{u:Value},Inv (uK CX P w K mg base N qual scope f cdv A outer s H E) [] σ' H' s'->RelV v u->Q v H'->CE outer P w H s Q u s':=
  λ{σ' H' v u} J rv q=>⟨v,H',J.os,J.bare,J.base,J.hok,rv,q⟩
 cases fl with
 |ret u=>
  obtain⟨v,σ',H',J,rv,q⟩:=hs;exact fin J rv q
 |next=>
  obtain⟨σ',H',J,q⟩:=hs;exact fin (v:=V.non) (u:=Value.none) J rfl q
 |brk=>
  obtain⟨_,_,_,q⟩:=hs;exact False.elim q
 |cont=>
  obtain⟨_,_,_,q⟩:=hs;exact False.elim q
end L2
namespace L2
open PySem PySem.Spec PyProof.Rows
section
variable {X:Cx}{x:Str}{p pos:Pos}{e:Expr}{es:List Expr}{t:TA}{id T:String}{r:List V->Hp->VK->Prop}
def Hl(r:List V->Hp->VK->Prop)(t:TA):TE:=λσ H Q=>t σ H λvs H1=>r vs H1 Q
theorem gZ (hc:eR X (.builtin id) r) (hg:Gl X x) (hm:X.mg x=none) (hv:bootBuiltins x=some (.builtin id)) (ha:PA X (e::es) t) (hn:x≠ "__name__" :=by decide) (hdb:(x == ("__debug__" :Str))=false:=by decide)
  (he:starEach (e::es) X.env=(false,eval e X.env)::starEach es X.env:=by rfl)(hpl:(backTo pos (starEach es X.env)).any (·.1)=false:=by rfl):PE X (.Call (.Name x p) (e::es) [] pos) (Hl r t):=by
 intro pins s σ H Q I h;refine wpAny_Call_Name_kw (l7 I hg hm hv ?_ hn hdb);exact PyProof.Rows.callWith_builtin1 (dz (ha pos pins s σ H _ I h) λus s1 ⟨vs,H1,I1,r1,q1⟩=>hc pins s1 σ H1 vs us Q I1 r1 q1) he hpl
theorem xW (hc:eR X (.type T) r) (hg:Gl X x) (hm:X.mg x=none) (hv:bootBuiltins x=some (.type T)) (ha:PA X (e::es) t) (hn:x≠ "__name__" :=by decide) (hdb:(x == ("__debug__" :Str))=false:=by decide)
  (he:starEach (e::es) X.env=(false,eval e X.env)::starEach es X.env:=by rfl)(hpl:(backTo pos (starEach es X.env)).any (·.1)=false:=by rfl):PE X (.Call (.Name x p) (e::es) [] pos) (Hl r t):=by
 intro pins s σ H Q I h;refine wpAny_Call_Name_kw (l7 I hg hm hv ?_ hn hdb);exact PyProof.Rows.callWith_type1 (dz (ha pos pins s σ H _ I h) λus s1 ⟨vs,H1,I1,r1,q1⟩=>hc pins s1 σ H1 vs us Q I1 r1 q1) he hpl
end
end L2
namespace HT
open PySem PyProof.Rows
def lexLt:List Int->List Int->Bool
 |[],[]=>false
 |[],_::_=>true
 |_::_,[]=>false
 |x::xs,y::ys=>if x=y then lexLt xs ys else decide (x < y)
section
open PySem.SeqAt
open PySem.AutoSeq1 (wpAny_loadPart')
open PySem.MeetsSeq PySem.MeetsSeq2 PySem.MeetsSeq3
end
section
variable {prog:Program}{w:World}{A:Around}{E:Value->Shared->Prop}{s:Shared}
def nC(n d:Nat):Option Int->Nat
 |none=>d
 |some v=>if v < 0 then(v+(n:Int)).toNat else min v.toNat n
theorem BB(n d:Nat):nC n d none=d:=rfl
theorem B7(a b:Nat):((min a b:Nat):Int)=min (a:Int) (b:Int):=by omega
end
end HT
namespace L2
open PySem PySem.Spec PyProof.Rows
abbrev TO:=St->Hp->(Option Int->Hp->Prop)->Prop
def PO(X:Cx)(e:Option Expr)(t:TO):Prop:=
 ∀(pins:List (Addr×Obj)) (s:Shared) (σ:St) (H:Hp) (Q:Option Int->Hp->Prop),Inv X pins σ H s->t σ H Q->
  wpAny (model X.prog X.w) X.A (evalPart e X.env) (λu s'=>∃o H',Inv X pins σ H' s'/\IsPart u o/\Q o H') X.xe s
def xM:TO:=λ_ H Q=>Q none H
inductive Kw(x:V)(H:Hp)(Q:Option Int->Hp->Prop):Prop
 |mk(i:Int)(h:x=.int i)(q:Q (some i) H)
def Ey(t:TE):TO:=λσ H Q=>t σ H λx H1=>Kw x H1 Q
theorem intsAre_of{ns:List Int}:∀{us:List Value},Vals (ns.map V.int) us->IntsAre us ns:=by
 induction ns with
 |nil=>intro us r;rw[map_nil]at r;cases r;exact .nil
 |cons n ns ih=>
  intro us r;rw[map_cons]at r;cases r with
  |cons r1 r2=>
   obtain⟨t,e⟩:=r1;subst e;exact .cons n t (ih r2)
section
variable {X:Cx}{e:Expr}{te:TE}{lo hi:Option Expr}{tl th:TO}{pos p2:Pos}
theorem jB:PO X none xM:=by
 intro pins s σ H Q I h;rw[evalPart_none];exact wpAny_pure ⟨none,H,I,.none,h⟩
theorem jx(h:PE X e te):PO X (some e) (Ey te):=by
 intro pins s σ H Q I hw;rw[evalPart_some];refine dz (h pins s σ H _ I hw) λu s1 hpat=>?_;obtain⟨x,H1,I1,r1,q1⟩:=hpat;obtain⟨i,rfl,q⟩:=q1;obtain⟨t,rfl⟩:=r1;exact⟨some i,H1,I1,.int i t,q⟩
def LA(X:Cx)(r:V->Option Int->Option Int->Hp->VK->Prop):Prop:=
 ∀(pins:List (Addr×Obj)) (s:Shared) (σ:St) (H:Hp) (x:V) (v vl vu:Value) (lo hi:Option Int) (sl:Addr) (Q:VK),Inv X pins σ H s->RelV x v->s.heap.IsSliceOf sl vl vu .none->IsPart vl lo->IsPart vu hi->r x lo hi H Q->
  ∃T id,typeLookup (.type T) "__getitem__" =pure (some (.builtin id))/\s.TypeIs v T/\wpAny (model X.prog X.w) X.A (getItem v (.ref sl)) (EP X pins σ Q) X.xe s
def Mi(r:V->Option Int->Option Int->Hp->VK->Prop)(te:TE)(tl th:TO):TE:=λσ H Q=>te σ H λx H1=>tl σ H1 λl H2=>th σ H2 λu H3=>r x l u H3 Q
theorem hU{r:V->Option Int->Option Int->Hp->VK->Prop}(hr:LA X r)(he:PE X e te)(hl:PO X lo tl)(hu:PO X hi th):PE X (.Subscript e (.Slice lo hi none p2) pos) (Mi r te tl th):=by
 intro pins s σ H Q I h;refine Subscript_ (dz (he pins s σ H _ I h) λv s1 hpat=>?_);obtain⟨x,H1,I1,r1,q1⟩:=hpat;refine wpAny_Slice (dz (hl pins s1 σ H1 _ I1 q1) λvl s2 ⟨l,H2,I2,pl,q2⟩=>dz (hu pins s2 σ H2 _ I2 q2) λvu s3 hpat=>?_);obtain⟨u,H3,I3,pu,q3⟩:=hpat;rw[evalPart_none];refine wpAny_pure ?_;have I4:Inv X pins σ H3 { s3 with heap:=s3.heap.push { cls:=.type "slice",data:=.fields #[vl,vu,.none] } }:=I3.kept (t':=s3.toks) λb ob q=>get?_push_of_some _ q;obtain⟨T,id,hT,ht,hg⟩:=hr pins { s3 with heap:=s3.heap.push { cls:=.type "slice",data:=.fields #[vl,vu,.none] } } σ H3 x v vl vu l u s3.heap.objs.size Q I4 r1 (Heap.IsSliceOf.new ..) pl pu q3;show wpAny (model X.prog X.w) X.A (subscriptTail e (.Slice lo hi none p2) v (.ref s3.heap.objs.size)) (EP X pins σ Q) X.xe { s3 with heap:=s3.heap.push { cls:=.type "slice",data:=.fields #[vl,vu,.none] } };exact tail_any (ops:=[.ref s3.heap.objs.size,v]) ht hT hg (by with_unfolding_all rfl)
def jm(xs:List V)(lo hi:Option Int):List V:=(xs.drop (HT.nC xs.length 0 lo)).take (HT.nC xs.length xs.length hi - HT.nC xs.length 0 lo)
theorem uj(xs:List V)(lo hi:Option Int):(jm xs lo hi).length<=xs.length:=by
 unfold jm;rw[length_take,length_drop];exact le_trans (Nat.min_le_right _ _) (Nat.sub_le _ _)
def NC(K:FG0):V->Option Int->Option Int->Hp->VK->Prop:=λx lo hi H Q=>∃a xs,x=.ref a/\dv K H a xs/\
 ¬(HT.nC xs.length 0 lo=0/\HT.nC xs.length xs.length hi=xs.length)/\∀p,H p=none->Q (.ref p) (upd H p (.tup (jm xs lo hi)))
def M6(K:FG0):R2:=λx y H Q=>∃a b ns ms,x=.ref a/\y=.ref b/\dv K H a (ns.map V.int)/\dv K H b (ms.map V.int)/\Q (.bl (HT.lexLt ns ms)) H
def L0(K:FG0):R2:=λx y H Q=>∃a b xs ys,x=.ref a/\y=.ref b/\dv K H a xs/\dv K H b ys/\xs≠[]/\xs.length+ys.length<=sizeLine/\
 (ys=[]->Q (.ref a) H)/\(ys≠[]->∀p,H p=none->Q (.ref p) (upd H p (.tup (xs++ys))))
end
end L2
namespace L2
open PySem PySem.Spec PyProof.Rows
def Gh(n:Nat)(i:Int):Option Nat:=if 0<=i then(if i < n then some i.toNat else none) else if -(n:Int)<=i then some (i+n).toNat else none
def pj{α:Type}(xs:List α)(i:Int):Option α:=(Gh xs.length i).bind λj=>xs[j]?
theorem Cv{n:Nat}{i:Int}{j:Nat}(h:Gh n i=some j):seqIndex? i n=some j/\j < n/\ -(n:Int)<=i/\i < n:=by
 unfold Gh at h;by_cases h0:0<=i
 ·rw[if_pos h0]at h
  by_cases h1:i < n
  ·rw[if_pos h1]at h
   have e:i.toNat=j:=Option.some.inj h;exact⟨by rw[seqIndex_of h0 h1,e],by omega,by omega,h1⟩
  ·rw[if_neg h1]at h;cases h
 ·rw[if_neg h0]at h
  by_cases h1: -(n:Int)<=i
  ·rw[if_pos h1]at h
   have e:(i+n).toNat=j:=Option.some.inj h;exact⟨by rw[seqIndex_neg (by omega) h1,e],by omega,h1,by omega⟩
  ·rw[if_neg h1]at h;cases h
theorem qY{α:Type}{xs:List α}{i:Int}{v:α}(h:pj xs i=some v):∃j,seqIndex? i xs.length=some j/\xs[j]? =some v/\j < xs.length/\ -(xs.length:Int)<=i/\i < xs.length:=by
 unfold pj at h;cases e:Gh xs.length i with
 |none=>rw[e]at h;cases h
 |some j=>
  rw[e]at h;obtain⟨h1,h2,h3,h4⟩:=Cv e;exact⟨j,h1,h,h2,h3,h4⟩
theorem cN{α:Type}{xs:List α}{j:Nat}{v:α}(h:xs[j]? =some v):pj xs (j:Int)=some v:=by
 have hj:j < xs.length:=(gI0.mp h).1;have e:Gh xs.length (j:Int)=some j:=by
  unfold Gh;rw[if_pos (by omega),if_pos (by omega)];simp
 unfold pj;rw[e];exact h
def ef(b:Expr):Prop:=∀o i,subscripted b false o i=operate [o,i] (getItem o i)
def HZ(X:Cx)(r:R2):Prop:=
 ∀(value slice:Expr) (pins:List (Addr×Obj)) (s:Shared) (σ:St) (H:Hp) (x y:V) (v u:Value) (Q:VK),Inv X pins σ H s->RelV x v->RelV y u->r x y H Q->
  subscripted slice false v u=operate [v,u] (getItem v u)->wpAny (model X.prog X.w) X.A (subscriptTail value slice v u) (EP X pins σ Q) X.xe s
def J6(X:Cx)(id:String)(r:V->List V->Hp->VK->Prop):Prop:=
 ∀(pins:List (Addr×Obj)) (s:Shared) (σ:St) (H:Hp) (x:V) (xs:List V) (v:Value) (us:List Value) (Q:VK),Inv X pins σ H s->RelV x v->Vals xs us->r x xs H Q->
  wpAny (model X.prog X.w) X.A (call (.builtin id) (v::us)) (EP X pins σ Q) X.xe s
section
variable {X:Cx}{a b:Expr}{ta tb:TE}{pos:Pos}
theorem Jg{r:R2}(hr:HZ X r)(ha:PE X a ta)(hb:PE X b tb)(hs:ef b):PE X (.Subscript a b pos) (Ea r ta tb):=by
 intro pins s σ H Q I h;exact Subscript_ (FQ ha hb I h λv u s2 x y H2 I2 rx ry q=>hr a b pins s2 σ H2 x y v u Q I2 rx ry q (hs _ _))
inductive J5(S:Addr->List V->Prop)(x y:V)(H:Hp)(Q:VK):Prop
 |mk(p:Addr)(xs:List V)(i:Int)(v:V)(hx:x=.ref p)(hy:y=.int i)(s:S p xs)(e:pj xs i=some v)(q:Q v H)
inductive Lx(x y:V)(H:Hp)(Q:VK):Prop
 |mk(z:Str)(i:Int)(c:Nat)(hx:x=.str z)(hy:y=.int i)(s:z.length<=sizeLine)(e:pj z.cps.toList i=some c)(q:Q (.str ⟨#[c]⟩) H)
theorem xT{K:FG0}{H:Hp}{p:Addr}{xs:List V}{i:Int}{v:V}{Q:VK}(h:H p=some (.tup xs))(e:pj xs i=some v)(q:Q v H):J5 (dv K H) (.ref p) (.int i) H Q:=⟨p,xs,i,v,rfl,rfl,dv.of h,e,q⟩
theorem xL{K:FG0}{H:Hp}{p:Addr}{xs:List V}{i:Int}{v:V}{Q:VK}(h:H p=some (.lst xs))(e:pj xs i=some v)(q:Q v H):J5 (cK K H) (.ref p) (.int i) H Q:=⟨p,xs,i,v,rfl,rfl,cK.of h,e,q⟩
def AL(K:FG0):R2:=λx y H Q=>J5 (cK K H) x y H Q
def Bl(K:FG0):R2:=λx y H Q=>J5 (dv K H) x y H Q
def Fg:R2:=λx y H Q=>Lx x y H Q
theorem q9:HZ X (AL X.K):=by
 intro value slice pins s σ H x y v u Q I rx ry h hs;obtain⟨p,xs,i,z,rfl,rfl,hq,he,q⟩:=h;cases rx;obtain⟨t,rfl⟩:=ry;obtain⟨its,r,pl,hz⟩:=I.list hq;obtain⟨j,h1,h2,h3,h4,h5⟩:=qY he;obtain⟨w,ew,rw'⟩:=r.get h2;have hl:=r.length;have hn:=n8;have fin:EP X pins σ Q w s:=⟨z,H,I,rw',q⟩;by_cases h0:0<=i
 ·have hj:i.toNat=j:=by
   rw[seqIndex_of h0 h5]at h1;exact Option.some.inj h1
  exact item_listR pl.isList h0 (by omega) (by rw[hj];simpa using ew) fin hs
 ·have hj:(i+(its.toArray.size:Int)).toNat=j:=by
   rw[seqIndex_neg (by omega) h4]at h1;rw[size_toArray,<-hl];exact Option.some.inj h1
  exact subscriptTail_builtinR (x:=w) pl.isList.typeIs slot_list_getitem.lookup
   (wpAny_getItem_list_neg (Q:=λr s'=>r=w/\EP X pins σ Q r s') pl.isList (by omega) (by rw[size_toArray]<;>omega) (by omega) (by rw[hj];simpa using ew) ⟨rfl,fin⟩) hs
theorem vU:HZ X (Bl X.K):=by
 intro value slice pins s σ H x y v u Q I rx ry h hs;obtain⟨p,xs,i,z,rfl,rfl,hq,he,q⟩:=h;cases rx;obtain⟨t,rfl⟩:=ry;obtain⟨its,r,pl,hz⟩:=I.tuple hq;obtain⟨j,h1,h2,h3,h4,h5⟩:=qY he;obtain⟨w,ew,rw'⟩:=r.get h2;have hl:=r.length;have hn:=n8;have fin:EP X pins σ Q w s:=⟨z,H,I,rw',q⟩;exact subscriptTail_builtinR (x:=w) pl.typeIs slot_tuple_getitem.lookup
  (getItem_tuple (j:=j) (Q:=λr s'=>r=w/\EP X pins σ Q r s') pl (by omega) (by omega) (by rw[size_toArray,<-hl];exact h1) (by simpa using ew) ⟨rfl,fin⟩) hs
theorem u3:HZ X Fg:=by
 intro value slice pins s σ H x y v u Q I rx ry h hs;obtain⟨z,i,c,rfl,rfl,hz,he,q⟩:=h;obtain⟨t,rfl⟩:=rx;obtain⟨t',rfl⟩:=ry;obtain⟨j,h1,h2,h3,h4,h5⟩:=qY he;have hl:z.cps.toList.length=z.length:=by simp[Str.length]
 rw[hl]at h1 h4 h5;have hn:=n8;exact tail_any (typeIs_str s z t) slot_str_getitem.lookup (getItem_str (c:=c) (by
  have e1:decide (i < -(2 ^ 63:Int))=false:=decide_eq_false (by omega);have e2:decide (i ≥ 2 ^ 63)=false:=decide_eq_false (by omega);rw[e1,e2,Bool.or_false]) (by rw[h1];simpa using h2) ⟨.str ⟨#[c]⟩,H,I.tok _,⟨_,rfl⟩,q⟩) hs
def N1(K:FG0):R2:=λx y H Q=>AL K x y H Q\/Bl K x y H Q\/Fg x y H Q
inductive FY(o i v:V)(H:Hp)(Q:Hp->Prop):Prop
 |mk(p:Addr)(xs:List V)(k:Int)(j:Nat)(ho:o=.ref p)(hi:i=.int k)(s:H p=some (.lst xs))(e:Gh xs.length k=some j)(q:Q (upd H p (.lst (xs.set j v))))
def Mn:V->V->V->Hp->(Hp->Prop)->Prop:=λo i v H Q=>FY o i v H Q
theorem D9(v:Int)(n d:Nat):max 0 (min (if v < 0 then v+(n:Int) else v) (n:Int))=((HT.nC n d (some v):Nat):Int):=by
 show _=(((if v < 0 then(v+(n:Int)).toNat else min v.toNat n):Nat):Int);by_cases hv:v < 0
 ·rw[if_pos hv,if_pos hv,Int.toNat_eq_max,Int.max_comm,Int.min_eq_left (by omega)]
 ·rw[if_neg hv,if_neg hv,HT.B7,Int.toNat_of_nonneg (Int.not_lt.mp hv)]
  exact Int.max_eq_right (Int.le_min.mpr ⟨Int.not_lt.mp hv,Int.natCast_nonneg n⟩)
theorem rR(lo hi:Option Int)(n:Nat):(sliceBounds lo hi none n).1=((HT.nC n 0 lo:Nat):Int)/\(sliceBounds lo hi none n).2.1=((HT.nC n n hi:Nat):Int)/\(sliceBounds lo hi none n).2.2=1:=by
 refine⟨?_,?_,rfl⟩
 ·cases lo with
  |none=>simp[sliceBounds,HT.nC]
  |some i=>
   simp only[sliceBounds,Option.getD_none,show(1:Int) > 0 by decide,if_true];exact D9 i n 0
 ·cases hi with
  |none=>simp[sliceBounds,HT.nC]
  |some i=>
   simp only[sliceBounds,Option.getD_none,show(1:Int) > 0 by decide,if_true];exact D9 i n n
theorem pO(its:List Value)(lo hi:Option Int):slicePick its.toArray lo hi none=((its.drop (HT.nC its.length 0 lo)).take (HT.nC its.length its.length hi - HT.nC its.length 0 lo)).toArray:=by
 obtain⟨h1,h2,h3⟩:=rR lo hi its.toArray.size;unfold slicePick;rw[h1,h2,h3];simp only[sliceRange_one,pick_run,size_toArray]<;>rfl
inductive MX(K:FG0)(x:V)(lo hi:Option Int)(H:Hp)(Q:VK):Prop
 |mk(a:Addr)(xs:List V)(hx:x=.ref a)(s:cK K H a xs)(q:∀p,H p=none->Q (.ref p) (upd H p (.lst (jm xs lo hi))))
def J3(K:FG0):V->Option Int->Option Int->Hp->VK->Prop:=λx lo hi H Q=>MX K x lo hi H Q
theorem jF:LA X (J3 X.K):=by
 intro pins s σ H x v vl vu lo hi sl Q I rx hs pl pu h;obtain⟨a,xs,rfl,hx,q⟩:=h;cases rx;obtain⟨its,r,ht,hz⟩:=I.list hx;have hlen:=r.length;refine⟨"list",_,slot_list_getitem.lookup,ht.isList.typeIs,?_⟩;refine wpAny_getItem_list_slice ht.isList hs pl pu .none (by simp) ?_ (by rw[size_toArray]<;>omega);rw[pO,<-hlen];refine⟨.ref s.heap.objs.size,_,I.laid (t':=s.toks) (o:=.lst (jm xs lo hi)) (λb ob q=>get?_push_of_some _ q) (le_refl _) ?_,rfl,q _ (I.hok.fresh (le_refl _))⟩;exact⟨le_trans (uj xs lo hi) hz,_,0,(r.drop (HT.nC xs.length 0 lo)).take (HT.nC xs.length xs.length hi - HT.nC xs.length 0 lo),get?_push_size _ rfl⟩
def dE:V->Bool
 |.non=>true
 |.bl _=>true
 |.int _=>true
 |.str _=>true
 |_=>false
def uO:V->V->Bool
 |.non,.non=>true
 |.bl a,.bl b=>a == b
 |.bl a,.int b=>(if a then 1 else 0) == b
 |.int a,.bl b=>a == (if b then 1 else 0)
 |.int a,.int b=>a == b
 |.str a,.str b=>a == b
 |_,_=>false
theorem rV{A:Around}{s:Shared}{y x:V}{u v:Value}(ry:RelV y u)(rx:RelV x v)(fy:dE y=true)(fx:dE x=true):SeqAt.EqAt A s u v (uO y x):=by
 cases y with
 |non=>
  cases ry;cases x with
  |non=>cases rx;exact SeqAt.EqAt.same _
  |bl b=>cases rx;exact SeqAt.EqAt.none_bool b
  |int b=>obtain⟨t,rfl⟩:=rx;exact SeqAt.EqAt.none_int b t
  |str b=>obtain⟨t,rfl⟩:=rx;exact SeqAt.EqAt.none_str b t
  |_=>exact absurd (show false=true from fx) bF0
 |bl a=>
  cases ry;cases x with
  |non=>cases rx;exact SeqAt.EqAt.bool_none a
  |bl b=>cases rx;exact SeqAt.EqAt.bool_bool a b
  |int b=>obtain⟨t,rfl⟩:=rx;exact SeqAt.EqAt.bool_int a b t
  |str b=>obtain⟨t,rfl⟩:=rx;exact SeqAt.EqAt.bool_str a b t
  |_=>exact absurd (show false=true from fx) bF0
 |int a=>
  obtain⟨t',rfl⟩:=ry;cases x with
  |non=>cases rx;exact SeqAt.EqAt.int_none a t'
  |bl b=>cases rx;exact SeqAt.EqAt.int_bool a t' b
  |int b=>obtain⟨t,rfl⟩:=rx;exact SeqAt.EqAt.int_int a t' b t
  |str b=>obtain⟨t,rfl⟩:=rx;exact SeqAt.EqAt.int_str a t' b t
  |_=>exact absurd (show false=true from fx) bF0
 |str a=>
  obtain⟨t',rfl⟩:=ry;cases x with
  |non=>cases rx;exact SeqAt.EqAt.str_none a t'
  |bl b=>cases rx;exact SeqAt.EqAt.str_bool a t' b
  |int b=>obtain⟨t,rfl⟩:=rx;exact SeqAt.EqAt.str_int a t' b t
  |str b=>obtain⟨t,rfl⟩:=rx;exact SeqAt.EqAt.str_str a t' b t
  |_=>exact absurd (show false=true from fx) bF0
 |_=>exact absurd (show false=true from fy) bF0
def vt(x:V)(u:Value):Bool:=match u with
 |.none=>uO .non x
 |.bool b=>uO (.bl b) x
 |.int i _=>uO (.int i) x
 |.str z _=>uO (.str z) x
 |_=>false
theorem BN{x y:V}{u:Value}(r:RelV y u)(f:dE y=true):vt x u=uO y x:=by
 cases y with
 |non=>cases r;rfl
 |bl b=>cases r;rfl
 |int i=>obtain⟨t,rfl⟩:=r;rfl
 |str z=>obtain⟨t,rfl⟩:=r;rfl
 |_=>exact absurd (show false=true from f) bF0
theorem ki{x:V}:∀{xs:List V}{us:List Value},Vals xs us->xs.all dE=true->us.any (vt x)=xs.any λy=>uO y x
 |_,_,.nil,_=>rfl
 |y::xs,u::us,.cons r t,f=>by
  rw[all_cons,and_eq_true]at f;rw[any_cons,any_cons,BN r f.1,ki t f.2]
theorem jf{A:Around}{s:Shared}{x:V}{v:Value}(rx:RelV x v)(fx:dE x=true):∀{xs:List V}{us:List Value},Vals xs us->xs.all dE=true->∀u∈us,SeqAt.EqAt A s u v (vt x u)
 |_,_,.nil,_=>λu hu=>by cases hu
 |y::xs,u::us,.cons r t,f=>λu' hu=>by
  rw[all_cons,and_eq_true]at f;rcases mem_cons.mp hu with rfl|hu
  ·rw[BN r f.1];exact rV r rx f.1 fx
  ·exact jf rx fx t f.2 u' hu
def zu(x:V)(xs:List V):Bool:=xs.any λy=>uO y x
inductive ML(K:FG0)(neg:Bool)(x y:V)(H:Hp)(Q:VK):Prop
 |mk(p:Addr)(xs:List V)(hy:y=.ref p)(s:cK K H p xs\/dv K H p xs)(f:dE x=true)(fs:xs.all dE=true)(q:Q (.bl (if neg then !zu x xs else zu x xs)) H)
def KH(K:FG0)(neg:Bool):R2:=λx y H Q=>ML K neg x y H Q
theorem hJ:iS X (compareOp .In) (KH X.K false):=by
 intro pins s σ H x y v u Q I rx ry h;obtain⟨p,xs,rfl,hq,fx,fs,q⟩:=h;cases ry;rcases hq with hq|hq
 ·obtain⟨its,r,pl,hz⟩:=I.list hq
  refine SeqAt.in_listAt (vt x) pl.isList (λw hw=>jf rx fx r fs w (by simpa using hw)) ⟨.bl _,H,I,rfl,?_⟩;rw[show its.toArray.any (vt x)=its.any (vt x) by simp,ki r fs];exact q
 ·obtain⟨its,r,pl,hz⟩:=I.tuple hq
  refine SeqAt.in_tupleAt (vt x) pl (λw hw=>jf rx fx r fs w (by simpa using hw)) ⟨.bl _,H,I,rfl,?_⟩;rw[show its.toArray.any (vt x)=its.any (vt x) by simp,ki r fs];exact q
theorem rT:iS X (compareOp .NotIn) (KH X.K true):=by
 intro pins s σ H x y v u Q I rx ry h;obtain⟨p,xs,rfl,hq,fx,fs,q⟩:=h;cases ry;rcases hq with hq|hq
 ·obtain⟨its,r,pl,hz⟩:=I.list hq
  refine SeqAt.notIn_listAt (vt x) pl.isList (λw hw=>jf rx fx r fs w (by simpa using hw)) ⟨.bl _,H,I,rfl,?_⟩;rw[show its.toArray.any (vt x)=its.any (vt x) by simp,ki r fs];exact q
 ·obtain⟨its,r,pl,hz⟩:=I.tuple hq
  refine SeqAt.notIn_tupleAt (vt x) pl (λw hw=>jf rx fx r fs w (by simpa using hw)) ⟨.bl _,H,I,rfl,?_⟩;rw[show its.toArray.any (vt x)=its.any (vt x) by simp,ki r fs];exact q
inductive IX(K:FG0)(xs:List V)(H:Hp)(Q:VK):Prop
 |mk(p:Addr)(ys:List V)(e:xs=[.ref p])(s:cK K H p ys\/dv K H p ys)(q:Q (.int ys.length) H)
theorem qL:eR X (.builtin "len") (λxs H Q=>L2.IX X.K xs H Q):=by
 intro pins s σ H xs us Q I r h;obtain⟨p,ys,rfl,hq,q⟩:=h;obtain⟨u,rfl,rx⟩:=vals1 r;cases rx;have hn:=n8;rcases hq with hq|hq
 ·obtain⟨its,r',pl,hz⟩:=I.list hq
  have hlen:=r'.length;exact Calls.call_len_list pl.isList (by simp only[size_toArray]<;>omega) ⟨.int ys.length,H,I.tok _,⟨s.toks+1,by rw[size_toArray,hlen]⟩,q⟩
 ·obtain⟨its,r',pl,hz⟩:=I.tuple hq
  have hlen:=r'.length;exact len_tuple pl (by simp only[size_toArray]<;>omega) ⟨.int ys.length,H,I.tok _,⟨s.toks+1,by rw[size_toArray,hlen]⟩,q⟩
theorem sq:eR X (.builtin "len") (λxs H Q=>∃z,xs=[.str z]/\z.length<=sizeLine/\Q (.int z.length) H):=by
 intro pins s σ H xs us Q I r h;obtain⟨z,rfl,hz,q⟩:=h;obtain⟨u,rfl,t,rfl⟩:=vals1 r;have hn:=n8;exact len_str (by omega) ⟨.int z.length,H,I.tok _,⟨_,rfl⟩,q⟩
theorem sj:eR X (.type "list") (λxs H Q=>∃p ys,xs=[.ref p]/\(cK X.K H p ys\/dv X.K H p ys)/\∀l,H l=none->Q (.ref l) (upd H l (.lst ys))):=by
 intro pins s σ H xs us Q I r h;obtain⟨p,ys,rfl,hq,q⟩:=h;obtain⟨u,rfl,rx⟩:=vals1 r;cases rx;have fin:∀(its:List Value),Vals ys its->ys.length<=sizeLine->∀(h':Heap) (c':Nat),(∀b o',s.heap.get? b=some o'->h'.get? b=some o')->
   h'.get? s.heap.objs.size=some { cls:=.type "list",dict:=none,data:=.seq its.toArray c',slots:= #[] }->EP X pins σ Q (.ref s.heap.objs.size) { s with heap:=h' }:=λits r' hz h' c' kp e=>
  ⟨.ref s.heap.objs.size,_,I.laid (t':=s.toks) kp (le_refl _) (show dy X.prog X.w _ h' _ (.lst ys) from ⟨hz,its,c',r',e⟩),rfl,q _ (I.hok.fresh (le_refl _))⟩
 rcases hq with hq|hq
 ·obtain⟨its,r',pl,hz⟩:=I.list hq
  have hlen:=r'.length;obtain⟨o,ho,hc,n,hd⟩:=pl.isList;exact call_list_seq p (.inl rfl) ho hc hd (λh' c' kp e=>fin its r' hz h' c' kp e) (by simp only[size_toArray]<;>omega)
 ·obtain⟨its,r',pl,hz⟩:=I.tuple hq
  have hlen:=r'.length;obtain⟨o,ho,hc,n,hd⟩:=pl;exact call_list_seq p (.inr rfl) ho hc hd (λh' c' kp e=>fin its r' hz h' c' kp e) (by simp only[size_toArray]<;>omega)
def Kx(K:FG0)(T:String)(x:V)(H:Hp):Prop:=match x with
 |.str _=>T= "str"
 |.int _=>T= "int"
 |.ref p=>(T= "list" /\∃xs,cK K H p xs)\/(T= "tuple" /\∃o,K.lookup p=some o/\o.cls=.type "tuple" /\o.dict=none)\/
   (T= "dict" /\((∃kvs,H p=some (.dK kvs))\/∃kvs,H p=some (.dT kvs)))\/(T= "set" /\∃S n,H p=some (.set S n))
 |_=>False
theorem zX{pins:List (Addr×Obj)}{σ:St}{H:Hp}{s:Shared}{T:String}{x:V}{v:Value}(I:Inv X pins σ H s)(r:RelV x v)(ty:Kx X.K T x H):
  s.TypeIs v T/\∀a,v=.ref a->∃ob,s.heap.get? a=some ob/\ob.dict=none:=by
 cases x with
 |str z=>
  obtain⟨t,rfl⟩:=r;cases (show T= "str" from ty);exact⟨typeIs_str s z t,λ_ e=>nomatch e⟩
 |int i=>
  obtain⟨t,rfl⟩:=r;cases (show T= "int" from ty);exact⟨typeIs_int s i t,λ_ e=>nomatch e⟩
 |ref p=>
  cases r;rcases ty with ⟨rfl,xs,hq⟩|⟨rfl,o,hk,hc,hd⟩|⟨rfl,hk⟩|⟨rfl,S,n,hk⟩
  ·obtain⟨its,_,pl,_⟩:=I.list hq
   refine⟨pl.isList.typeIs,λa e=>?_⟩;cases e;obtain⟨o,n,e,c,hd,_⟩:=pl;exact⟨o,e,hd⟩
  ·refine⟨⟨o,I.m7 p o hk,hc⟩,λa e=>?_⟩
   cases e;exact⟨o,I.m7 _ o hk,hd⟩
  ·have z:∃o,s.heap.get? p=some o/\o.ExactDict:=by
    rcases hk with ⟨kvs,hk⟩|⟨kvs,hk⟩
    ·obtain⟨_,_,_,_,o,_,_,e,ex,_⟩:=I.hok p _ hk
     exact⟨o,e,ex⟩
    ·obtain⟨_,_,_,_,o,_,_,e,ex,_⟩:=I.hok p _ hk
     exact⟨o,e,ex⟩
   obtain⟨o,e,ex⟩:=z;refine⟨⟨o,e,ex.1⟩,λa e2=>?_⟩;cases e2;exact⟨o,e,ex.2.1⟩
  ·obtain⟨o,_,_,_,e,ex,_⟩:=I.hok p _ hk
   refine⟨⟨o,e,ex.1⟩,λa e2=>?_⟩;cases e2;exact⟨o,e,ex.2.1⟩
 |_=>exact False.elim ty
def IL(K:FG0)(T:String)(r:V->List V->Hp->VK->Prop)(to:TE):TE:=λσ H Q=>to σ H λx H1=>Kx K T x H1/\r x [] H1 Q
def Li(K:FG0)(T:String)(r:V->List V->Hp->VK->Prop)(to:TE)(t:TA):TE:=λσ H Q=>to σ H λx H1=>Kx K T x H1/\t σ H1 λxs H2=>r x xs H2 Q
variable {o e:Expr}{es:List Expr}{to:TE}{t:TA}{name:Str}{apos cpos:Pos}{T id:String}{r:V->List V->Hp->VK->Prop}
theorem FG (pa:PlainAttrs T) (slot:Slot T name id) (hty:typeOf (.builtin id)=pure (.type "method_descriptor")) (hm:J6 X id r) (ho:PE X o to)
  (hbase:attributeBase o name X.env (eval o X.env)=eval o X.env:=by rfl)(hline:(apos.endLine == cpos.line)=true:=by rfl):PE X (.Call (.Attribute o name apos) [] [] cpos) (IL X.K T r to):=by
 intro pins s σ H Q I h;refine wpAny_Call_method0_late hbase hline (dz (ho pins s σ H _ I h) λv s1 hpat=>?_);obtain⟨x,H1,I1,r1,ty,q1⟩:=hpat;obtain⟨h1,h2⟩:=zX I1 r1 ty;exact⟨T,id,pa,slot,hty,h1,h2,Calls.callWith_builtin rfl (PySem.evalArgs_none (hm pins s1 σ H1 x [] v [] Q I1 r1 .nil q1))⟩
theorem Jn (pa:PlainAttrs T) (slot:Slot T name id) (hty:typeOf (.builtin id)=pure (.type "method_descriptor")) (hm:J6 X id r) (ho:PE X o to) (ha:PA X (e::es) t)
  (hbase:attributeBase o name X.env (eval o X.env)=eval o X.env:=by rfl)
  (hfew:((backTo cpos (starEach (e::es) X.env)).all (λx=> !x.1) && (backToKw cpos (keywordEach [] X.env)).all (λx=>x.1.isSome)
   && decide ((e::es).length+([]:List Keyword).length+(if([]:List Keyword).isEmpty then 0 else 1) < 30))=true:=by rfl)
  (hline:(apos.endLine == cpos.line)=true:=by rfl) (hs:starEach (e::es) X.env=(false,eval e X.env)::starEach es X.env:=by rfl) (hplain:(backTo cpos (starEach es X.env)).any (·.1)=false:=by rfl):
  PE X (.Call (.Attribute o name apos) (e::es) [] cpos) (Li X.K T r to t):=by
 intro pins s σ H Q I h;refine wpAny_Call_method_late hbase hfew hline rfl (dz (ho pins s σ H _ I h) λv s1 hpat=>?_);obtain⟨x,H1,I1,r1,ty,q1⟩:=hpat;obtain⟨h1,h2⟩:=zX I1 r1 ty;refine⟨T,id,pa,slot,hty,h1,h2,?_⟩;have hA:=ha cpos pins s1 σ H1 _ I1 q1;rw[hs]at hA ⊢;refine Calls.callWith_builtin (by show(false || (backTo cpos (starEach es X.env)).any (·.1))=false;rw[hplain]<;>rfl) (Calls.evalArgs_plain ?_);exact dz hA λus s2 ⟨vs,H2,I2,r2,q2⟩=>hm pins s2 σ H2 x vs v us Q I2 r1 r2 q2
end
end L2
namespace L2
open PySem PySem.Spec PyProof.Rows
def Me(X:Cx)(id:String)(r:V->List V->Hp->VK->Prop):Prop:=
 ∀(pins:List (Addr×Obj)) (s:Shared) (σ:St) (H:Hp) (x:V) (xs:List V) (v:Value) (us:List Value) (Q:VK),Inv X pins σ H s->RelV x v->Vals xs us->r x xs H Q->
  wpAny (model X.prog X.w) X.A (call (.builtin id) (v::us)) (EP X pins σ Q) X.xe s
theorem Vals.one:∀{x:V}{us:List Value},Vals [x] us->∃u,us=[u]/\RelV x u
 |_,_,.cons r .nil=>⟨_,rfl,r⟩
theorem Vals.zero:∀{us:List Value},Vals [] us->us=[]
 |_,.nil=>rfl
theorem Vals.reverse{xs:List V}{us:List Value}(h:Vals xs us):Vals xs.reverse us.reverse:=by
 induction h with
 |nil=>exact .nil
 |cons r t ih=>rw[List.reverse_cons,List.reverse_cons];exact Vals.append ih (.cons r .nil)
section
variable {X:Cx}{pins:List (Addr×Obj)}{σ:St}{H:Hp}{s:Shared}{l b:Addr}{xs ys zs:List V}
theorem Inv.IE{its its':List Value}{n:Nat}{f:Array Value->Array Value}{t':Nat}(I:Inv X pins σ H s)(hH:H l=some (.lst xs))
  (e:s.heap.get? l=some { cls:=.type "list",data:=.seq its.toArray n }) (hf:f its.toArray=its'.toArray) (hv:Vals ys its') (hz:ys.length<=sizeLine):
  Inv X pins σ (upd H l (.lst ys)) { s with heap:=s.heap.update l (Obj.mapSeq f),toks:=t' }:=by
 have q:=PySem.IsL.update e f;rw[hf]at q;refine I.write (x:=l) (e:=l) (by rw[hH];exact trivial) (.inl rfl) (λb' u hb hu=>(Heap.get?_update_other s.heap (Obj.mapSeq f) (Ne.symm hb)).trans hu) ⟨_,q⟩ ?_;exact⟨hz,its',_,hv,q⟩
theorem Inv.Jb(I:Inv X pins σ H s)(hH:H l=some (.lst xs)):xs.length<=sizeLine/\∃(its:List Value) (n:Nat),Vals xs its/\xs.length=its.length/\s.heap.get? l=some { cls:=.type "list",data:=.seq its.toArray n }:=by
 obtain⟨z,its,n,r,e⟩:=I.hok l _ hH;exact⟨z,its,n,r,r.length,e⟩
end
section
variable {X:Cx}
inductive LD(x:V)(vs:List V)(H:Hp)(Q:VK):Prop
 |mk(l:Addr)(xs:List V)(y:V)(hx:x=.ref l)(hv:vs=[y])(s:H l=some (.lst xs))(b:xs.length < sizeLine)(q:Q .non (upd H l (.lst (xs++[y]))))
def rM:V->List V->Hp->VK->Prop:=λx vs H Q=>LD x vs H Q
theorem qv:Me X "list.append" rM:=by
 intro pins s σ H x vs v us Q I rx rv h;obtain⟨l,xs,y,rfl,rfl,hH,hz,q⟩:=h;cases rx;obtain⟨u,rfl,ru⟩:=rv.one;obtain⟨z,its,n,r,hl,e⟩:=I.Jb hH;refine call_meets F.slot_list_append ⟨_,e,rfl⟩ F.entry_list_append (F.args_list_append_2 _ _) (PySem.list_append l its.toArray n u (by rw[size_toArray];omega)) ⟨e,?_⟩;refine⟨.non,_,I.IE (its':=its++[u]) hH e (by simp) (r.append (.cons ru .nil)) ?_,rfl,q⟩;rw[length_append,List.length_singleton];omega
def J9:V->List V->Hp->VK->Prop:=λx vs H Q=>∃l b xs zs,x=.ref l/\vs=[.ref b]/\H l=some (.lst xs)/\H b=some (.lst zs)/\xs.length+zs.length<=sizeLine/\Q .non (upd H l (.lst (xs++zs)))
def Nf:V->List V->Hp->VK->Prop:=λx vs H Q=>∃l xs y,x=.ref l/\vs=[]/\H l=some (.lst xs)/\xs[xs.length - 1]? =some y/\Q y (upd H l (.lst xs.dropLast))
def Kz:V->List V->Hp->VK->Prop:=λx vs H Q=>∃l xs i k y,x=.ref l/\vs=[.int i]/\H l=some (.lst xs)/\ -(2 ^ 63)<=i/\i < 2 ^ 63/\seqIndex? i xs.length=some k/\xs[k]? =some y/\Q y (upd H l (.lst (xs.eraseIdx k)))
def uf:V->List V->Hp->VK->Prop:=λx vs H Q=>∃l xs,x=.ref l/\vs=[]/\H l=some (.lst xs)/\Q .non (upd H l (.lst xs.reverse))
theorem jX:Me X "list.reverse" uf:=by
 intro pins s σ H x vs v us Q I rx rv h;obtain⟨l,xs,rfl,rfl,hH,q⟩:=h;cases rx;have hus:=rv.zero;subst hus;obtain⟨z,its,n,r,hl,e⟩:=I.Jb hH;refine call_meets F.slot_list_reverse ⟨_,e,rfl⟩ F.entry_list_reverse (F.args_list_reverse_1 _) (AutoSeq1.list_reverse_list_0 l its.toArray n (by rw[size_toArray];omega)) ⟨e,?_⟩;refine⟨.non,_,I.IE (its':=its.reverse) hH e (by simp) r.reverse ?_,rfl,q⟩;rw[length_reverse];omega
def LB:V->List V->Hp->VK->Prop:=λx vs H Q=>∃l xs,x=.ref l/\vs=[]/\H l=some (.lst xs)/\Q .non (upd H l (.lst []))
def Nl:R2:=λx y H Q=>∃l b xs zs,x=.ref l/\y=.ref b/\H l=some (.lst xs)/\H b=some (.lst zs)/\xs.length+zs.length<=sizeLine/\∀p,H p=none->Q (.ref p) (upd H p (.lst (xs++zs)))
def NF:R2:=λx y H Q=>∃l k xs,x=.ref l/\y=.int k/\H l=some (.lst xs)/\ -(2 ^ 63)<=k/\k < 2 ^ 63/\xs.length * k.toNat<=sizeLine/\
 ∀p,H p=none->Q (.ref p) (upd H p (.lst (List.replicate k.toNat xs).flatten))
end
section
variable {prog:Program}{w:World}{A:Around}{E:Value->Shared->Prop}{s:Shared}
set_option maxRecDepth 100000 in
end
section
variable {X:Cx}
end
end L2
namespace Att
open PySem PySem.W PySem.Calls PyProof.Rows
theorem mW{P:Params}{h:Heap}:∀(ns:List Int) (vs:List Value),WellAll P h vs (ns.map WData.int)->IntsAre vs ns:=by
 intro ns
 induction ns with
 |nil=>
  intro vs w;rw[map_nil]at w;cases w;exact .nil
 |cons n ns ih=>
  intro vs w;rw[map_cons]at w;cases w with
  |cons a b=>
   cases a;exact .cons _ _ (ih _ b)
theorem yU{l:OpenLaw}{n:Nat}(hn:l.most=some n){P:Params}{h:Heap}{args:List WData}{vals:List Value}
  (hpre:l.row.toRowW.claim.pre args=true)(hwl:WellAll P h vals args):
  ∃a vs ns,vals=[Value.ref a]/\args=[WData.list (ns.map WData.int)]/\h.get? a=some { cls:=.type "list",data:=.seq vs.toArray }/\IntsAre vs ns/\ns.length<=n:=by
 have hsh:WShape.hasAll [] args [.list .int]=true:=(pre_splitW hpre).1;have hc:l.pre.holds [] { args:=args }=true:=(pre_splitW hpre).2;obtain⟨d,r,rfl,h1,h2⟩:=hasAllW_cons hsh;obtain rfl:=hasAllW_nil h2;obtain⟨xs,rfl,h3⟩:=hasW_list h1;obtain⟨ns,rfl⟩:=items_int h3;have hlen:ns.length<=n:=by
  unfold OpenLaw.pre at hc;have h4:(WTm.not (.lt (.lit (.int (n:Int))) (.len (.arg 0)))).holds [] { args:=[.list (ns.map .int)] }=true:=by
   have h4:=(holds_andW hc).1;rw[hn]at h4;exact h4
  have h5:=condW_of h4 (w_not (w_lt w_lit (w_len_list (w_arg rfl))));rw[length_map]at h5;refine Nat.le_of_not_lt λq=>?_;have q':(n:Int) < ((ns.length:Nat):Int):=by omega
  first
   | (rw[dT0 q']at h5;exact absurd h5 (by decide))
   | (simp at h5;omega)
 cases hwl with
 |cons w1 w2=>
  cases w2;cases w1 with
  |list ho hall=>exact⟨_,_,ns,rfl,rfl,ho,mW ns _ hall,hlen⟩
theorem xX(l:OpenLaw)(args:List WData):l.row.toRowW.claim.post args (.bool true) args=true:=
 postW_of (r:=l.row.toRowW) (X:=(true == true))
  (show WShape.has [] (.bool true) .bool=true by first|rfl|decide|simp[WShape.has,WShape.arms,WShape.armsAll])
  (show(WTm.eq .res (.lit (.bool true))).value [] { args:=args,res:=some (.bool true),after:=args }=some (.bool (true == true)) from w_eq_bool (w_res rfl) w_lit) rfl
theorem ue{l:OpenLaw}{n:Nat}{q:Program}{loose:List Str}{XP:(Str->Option Value)->Heap->Prop}{YP:World->Heap->Prop}{d:DefRec}
  (hn:l.most=some n)(hdf:d.params.defaults=[])
  (call:∀(w:World)(s₀ s₁:Shared)(mg mb:Str->Option Value)(fa:Addr)(o:Obj)(pm cd doc:Value)(a:Addr)(vs:List Value)(ns:List Int),
   Ground q loose [] XP w s₀ mg mb s₁.heap->YP w s₁.heap->
   s₁.heap.get? fa=some o->o.data=.func (docDef d.name d.params d.body d.scope pm cd doc)->s₁.heap.CodeRec cd d.name->mg d.name=some (.ref fa)->
   s₁.heap.get? a=some { cls:=.type "list",data:=.seq vs.toArray }->IntsAre vs ns->ns.length<=n->s₁.gens= #[]->
   codeAny (model l.prog w) callerA (.call (.ref fa) ⟨[.ref a],[]⟩) (λr s'=>r=.ok (.ret (.bool true))/\OldK s₁.heap s'.heap/\s'.os=s₁.os/\AllBare s'.gens) s₁):
  WalkO q loose XP YP l.row.toRowW d [] (λf vs=>PySem.call f vs):=by
 intro w s₀ s₁ mg mb G Y fa o pm cd doc dV kV ho hd hcd hD hmg hg args vals as hpre hlay hrd hwl hlo;obtain rfl:dV=.none:=Dflts.none hD hdf;obtain rfl:kV=.none:=Dflts.noKw hD;obtain⟨a,vs,ns,rfl,rfl,hobj,hints,hlen⟩:=yU hn hpre hwl;refine enter_call (codeAny_mono (call w s₀ s₁ mg mb fa o pm cd doc a vs ns G Y ho (fd_plain hd) hcd hmg hobj hints hlen hg) λr s' hq=>?_);obtain⟨rfl,h2,h3,h4⟩:=hq;exact⟨.inl ⟨.bool true,.bool true,[],rfl,λ_=>rfl,.bool true,xX l _,λ_=>⟨List.Pairwise.nil,λ_ hm=>(nomatch hm)⟩⟩,h2,h3,h4⟩
section
variable {prog:Program}{w:World}{A:Around}{E:Value->Shared->Prop}{s:Shared}{K:Frag}
def Lq(h:Heap):Heap:={ h with objs:= #[] }
def ledger(h:Heap)(L d:Addr):List (Addr×Obj):=(List.range h.objs.size).filterMap λa=>if a=L\/a=d then none else(h.get? a).map λo=>(a,o)
end
end Att
namespace L2
open PySem PySem.Spec PyProof.Rows
theorem qm:∀{vs:List Value}{ns:List Int},IntsAre vs ns->Vals (ns.map V.int) vs
 |_,_,.nil=>.nil
 |_,_,.cons n t h=>.cons ⟨t,rfl⟩ (qm h)
def NN(H:Hp):Prop:=∀b,H b=none\/∃o xs,H b=some (.frz o (.lst xs))
end L2
namespace L2
open PySem PySem.Spec PyProof.Rows
abbrev NZ{K:FG0}{h:Heap}(_:K.In h):FG0:=K
end L2
namespace L2
open PySem PySem.Spec PyProof.Rows
abbrev kg:zp:=λ_ _ _ _ _ _=>False
abbrev E0:XK:=λ_ _ _=>False
theorem xI{X:Cx}:Passes kg X E0:=λ_ _ _ _ _ _ _ h=>h.elim
structure o7(K:FG0)(x qual:Str)(st:Stmt)(f:Addr)(fd:FuncData):Prop where
 ex:∃(oc:Value) (od:Option Addr) (kV doc pm:Value) (an:Option Addr) (cdv ct:Value) (osl:Array (Option Value)),
  fd=fnOf x qual (di st) (cP st) (cF st) .none kV doc pm an cdv ct/\K.lookup f=some ⟨oc,od,.func fd,osl⟩/\codeIn K cdv qual=true
 kp:keepIn K (.ref f)=true
section
variable {P:Program}{w:World}{K:FG0}{mg:Str->Option Value}{base:Heap}
theorem o7.ok{x qual:Str}{st:Stmt}{f:Addr}{fd:FuncData}{N ps:List Str}{k:Nat}{sp:Sp}(F:o7 K x qual st f fd)(S:cI N ps (cF st))(len:∀vs H Q E,sp vs H Q E->vs.length=ps.length)
  (hbody:∀(cdv:Value)(A:Around)(outer:List Env)(s:Shared)(H:Hp)(vs:List V)(Q:VK)(E:XK),dC k (A.deeper (envOfC qual (cF st) s.heap.objs.size f cdv))->sp vs H Q E->
   ∃t,sW (uK kg P w K mg base N qual (cF st) f cdv A outer s H E).BX (cP st) t/\t { nx:=λ_ H'=>Q .non H',rt:=Q } (start N vs) H):eD P w K mg base kg (k+1) f fd ps sp:=by
 obtain⟨oc,od,kV,doc,pm,an,cdv,ct,osl,rfl,lk,hcd⟩:=F.ex;refine Ek lk hcd S len λA outer s H vs Q E hr hsp=>?_;obtain⟨t,h,q⟩:=hbody cdv A outer s H vs Q E hr hsp;exact⟨t,h.BX,q⟩
theorem o7.binds{x qual:Str}{st:Stmt}{f:Addr}{fd:FuncData}{ps:List Str}(F:o7 K x qual st f fd)
  (h:∀(kV doc pm:Value)(an:Option Addr)(cdv ct:Value)(us:List Value),us.length=ps.length->bindArgs (fnOf x qual (di st) (cP st) (cF st) .none kV doc pm an cdv ct) ⟨us,[]⟩=pure (ps.zip us)):Binds K fd ps []:=by
 obtain⟨oc,od,kV,doc,pm,an,cdv,ct,osl,rfl,lk,hcd⟩:=F.ex;exact .all (h kV doc pm an cdv ct)
theorem jg{x qual:Str}{st:Stmt}{f:Addr}{oc:Value}{od an:Option Addr}{osl:Array (Option Value)}{kV doc pm cdv ct:Value}(l:K.lookup f=some ⟨oc,od,.func (fnOf x qual (di st) (cP st) (cF st) .none kV doc pm an cdv ct),osl⟩)
  (c:codeIn K cdv qual=true)(k:keepIn K (.ref f)=true):o7 K x qual st f (fnOf x qual (di st) (cP st) (cF st) .none kV doc pm an cdv ct):=⟨⟨oc,od,kV,doc,pm,an,cdv,ct,osl,rfl,l,c⟩,k⟩
end
theorem dY{A:Around}{k:Nat}(hr:dC k A):A.units+1 < cLine:=Nat.lt_of_le_of_lt (Nat.add_le_add_left (by decide:1<=64) _) hr.units
section
variable {X:Cx}
theorem pv (i:Nat){x:Str}{pos:Pos}(hN:X.N[i]? =some x:=by rfl) (hv:KL X.env.scope x:=by first|exact Or.inl rfl|exact Or.inr (Or.inl rfl)|exact Or.inr (Or.inr rfl)) (hd:(x == ("__debug__" :Str))=false:=by decide)
  (hcd:(x == ("__classdict__" :Str))=false:=by decide):PE X (.Name x pos) (gx i):=jP hN hv hd hcd
end
theorem cW{A B:Prop}(h:B):if false=true then A else B:=by
 rw[if_neg bF0];exact h
theorem dk{A B:Prop}(h:A):if true=true then A else B:=by
 rw[if_pos rfl];exact h
theorem du{c A B:Prop} [Decidable c] (h1:c->A)(h2:¬c->B):if c then A else B:=by
 by_cases h:c
 ·rw[if_pos h]
  exact h1 h
 ·rw[if_neg h]
  exact h2 h
def cH(H H':Hp):Prop:=∀b o,H b=some o->H' b=some o
theorem cH.refl(H:Hp):cH H H:=λ_ _ h=>h
theorem cH.trans{H H1 H2:Hp}(a:cH H H1)(b:cH H1 H2):cH H H2:=λc o h=>b c o (a c o h)
theorem cH.free{H H':Hp}(e:cH H H'){l:Addr}(h:H' l=Option.none):H l=Option.none:=by
 cases q:H l with
 |none=>rfl
 |some o=>
  rw[e l o q]at h;cases h
theorem cH.seq{K:FG0}{H H':Hp}{a:Addr}{xs:List V}(e:cH H H')(h:cK K H a xs):cK K H' a xs:=by
 rcases h with (h|⟨o,h⟩)|h
 ·exact .inl (.inl (e _ _ h))
 ·exact .inl (.inr ⟨o,e _ _ h⟩)
 ·exact .inr h
end L2
namespace L2
open PySem PySem.Builtin.Str
end L2
namespace L2
open PySem PySem.Spec PyProof.Rows
theorem oX{env:Env}{scope:Scope}(h:∀y∈scope.names,y.2=.free->∃c,env.cells.lookup y.1=some c):
  ∃cl,closureFor scope env=pure cl/\(∀y c,cl.lookup y=some c->env.cells.lookup y=some c)/\(∀y∈scope.names,y.2=.free->cl.lookup y.1=env.cells.lookup y.1):=by
 have gen:∀(names:List (Str×NameKind)) (acc:List (Str×Addr)),(∀y∈names,y.2=.free->∃c,env.cells.lookup y.1=some c)->(∀y c,acc.lookup y=some c->env.cells.lookup y=some c)->
   ∃cl,(forIn (m:=Sem) names acc λx r=>match x with
    | (name,kind)=>if(kind == NameKind.free)=true then do
      let a <-cellOf env name
      pure (ForInStep.yield ((name,a)::r))
     else pure (ForInStep.yield r))=pure cl/\(∀y c,cl.lookup y=some c->env.cells.lookup y=some c)/\(∀y c,acc.lookup y=some c->cl.lookup y=some c)/\(∀y∈names,y.2=.free->cl.lookup y.1=env.cells.lookup y.1):=by
  intro names
  induction names with
  |nil=>intro acc _ ha;exact⟨acc,rfl,ha,λ_ _ e=>e,λy hy=>nomatch hy⟩
  |cons x r ih=>
   intro acc hn ha;obtain⟨n,k⟩:=x;by_cases hk:k=.free
   ·subst hk
    obtain⟨c,hc⟩:=hn (n,.free) mem_cons_self rfl;have hc':cellOf env n=pure c:=by
     unfold cellOf;rw[show env.cells.lookup n=some c from hc]
    have ha':∀y d,((n,c)::acc).lookup y=some d->env.cells.lookup y=some d:=λy d e=>by
     rw[lookup_cons]at e;cases q:y == n with
     |true=>rw[q]at e;cases e;rw[eq_of_beq q];exact hc
     |false=>rw[q]at e;exact ha y d e
    obtain⟨cl,e,h1,h2,h3⟩:=ih ((n,c)::acc) (λy hy=>hn y (mem_cons_of_mem _ hy)) ha';refine⟨cl,?_,h1,λy d q=>?_,λy hy hf=>?_⟩
    ·rw[forIn_cons]
     simp only[beq_self_eq_true,if_true,hc'];exact e
    ·cases z:y == n with
     |true=>
      have:y=n:=eq_of_beq z;subst this;have q1:=ha y d q;rw[hc]at q1;cases q1;exact h2 y c (by rw[lookup_cons,z])
     |false=>exact h2 y d (by rw[lookup_cons,z];exact q)
    ·rcases mem_cons.mp hy with rfl|hy
     ·have:=h2 n c (by rw[lookup_cons,beq_self_eq_true])
      rw[this,hc]
     ·exact h3 y hy hf
   ·have hb:(k == NameKind.free)=false:=by simpa using hk
    obtain⟨cl,e,h1,h2,h3⟩:=ih acc (λy hy=>hn y (mem_cons_of_mem _ hy)) ha;refine⟨cl,?_,h1,h2,λy hy hf=>?_⟩
    ·rw[forIn_cons]
     simp only[hb,false_eq_true,if_false];exact e
    ·rcases mem_cons.mp hy with rfl|hy
     ·exact absurd hf hk
     ·exact h3 y hy hf
 obtain⟨cl,e,h1,_,h3⟩:=gen scope.names [] h (λy c e=>by cases e);refine⟨cl,?_,h1,h3⟩;simp only[closureFor];rw[show(forIn scope.names ([]:List (Str×Addr)) _:Sem _)=pure cl from e];rfl
theorem kC{env:Env}(hk:env.scope.kind=.function):∀{names:List (Str×NameKind)}{x:Str},names.lookup x=some .free->env.kindOf x=some .cell->
  (names.map λ(n,k)=>if(k == NameKind.free && env.scope.kind == .function && env.kindOf n == some .cell) then(n,NameKind.cell) else(n,k)).lookup x=some .cell
 |[],_,h,_=>by simp at h
 | (n,k)::r,x,h,hc=>by
  have ih:=@kC env hk r x;show List.lookup x ((if(k == NameKind.free && env.scope.kind == .function && env.kindOf n == some .cell)=true then(n,NameKind.cell) else(n,k))::_)=_;cases hx:x == n with
  |true=>
   simp only[lookup_cons,hx]at h;cases h;have e:x=n:=eq_of_beq hx;subst e;rw[if_pos (by simp[hk,hc])];simp[lookup_cons]
  |false=>
   simp only[lookup_cons,hx]at h;by_cases hc':(k == NameKind.free && env.scope.kind == .function && env.kindOf n == some .cell)=true
   ·rw[if_pos hc'];simp only[lookup_cons,hx];exact ih h hc
   ·rw[if_neg hc'];simp only[lookup_cons,hx];exact ih h hc
theorem kK{env:Env}{scope:Scope}{y:Str}{k':NameKind}(h:(relabel scope env).names.lookup y=some k')(hk':k'=.cell\/k'=.free)(nocell:∀z∈scope.names,z.2≠.cell):(y,NameKind.free)∈scope.names:=by
 have hm:=PySem.mem_of_lookup h;obtain⟨⟨n,k⟩,hm',e⟩:=mem_map.mp hm;dsimp only at e;split at e
 ·rename_i c
  cases e;rw[and_eq_true,and_eq_true]at c;have e2:k=.free:=by simpa using c.1.1
  subst e2;exact hm'
 ·cases e
  rcases hk' with rfl|rfl
  ·exact absurd rfl (nocell _ hm')
  ·exact hm'
def dq(X:Cx)(N':List Str)(scope:Scope)(cl:List (Str×Addr))(fp:List Addr)(s3:Shared)(H3:Hp)(C:Addr):Cx:=
 { X with N:=N',s₀:=s3,H₀:=H3,env:=compEnvC scope cl C X.env,outer:=X.stack,ex:=fp,fn:=λ_=>false,pn:=[],xe:=λ_ _=>False }
def dP(is:List Nat)(σ:St):St:=is.map λi=>(σ[i]?).join
def gQ(J:It)(is:List Nat)(te:TE)(σ:St)(H1:Hp)(Q:VK):Prop:=∀D,H1 D=none->∃W:Nat->Nat->List V->Hp->Prop,(∃m,W 0 m [] (upd H1 D (.lst [])))/\
 ∀i m ys H2,W i m ys H2->H2 D=some (.lst ys)/\((J.stop i H2/\Q (.ref D) H2)\/(J.go i H2/\∀v H3,J.yld i H2 v H3->te (some v::dP is σ) H3 λy H4=>
  H4 D=some (.lst ys)/\ys.length < sizeLine/\∃m',m' < m/\W (i+1) m' (ys++[y]) (upd H4 D (.lst (ys++[y])))))
def Ma(wi:TI)(is:List Nat)(te:TE):TE:=λσ H Q=>wi σ H λJ H1=>gQ J is te σ H1 Q
structure IT(sc:Scope)(N:List Str)(x:Str)(scope:Scope)(is:List Nat)(ns:List Str):Prop where
 kind:scope.kind=.function:=by rfl
 nocell:∀y∈scope.names,y.2≠.cell:=by decide+kernel
 names:∀y∈scope.names,y.2=.local->scope.names.lookup y.1=some .local:=by decide+kernel
 free:∀y∈scope.names,y.2=.free->sc.names.lookup y.1=some .cell:=by decide+kernel
 hx:scope.names.lookup x=some .local:=by rfl
 cap:ns.map some=is.map λi=>N[i]? :=by rfl
 nd:(x::ns).Nodup:=by decide+kernel
 capf:∀y∈ns,scope.names.lookup y=some .free/\sc.names.lookup y=some .cell:=by decide+kernel
section
variable {X:Cx}{x:Str}{px pos:Pos}{elt iter:Expr}{scope:Scope}{wi:TI}{te:TE}{is:List Nat}{ns:List Str}
end
end L2
namespace L2
open PySem PySem.Spec PyProof.Rows
section
variable {K:FG0}{is:List Nat}{te:TE}{σ:St}{H:Hp}{Q:VK}
theorem cH.upd{H:Hp}{D:Addr}{o:HO}(h:H D=none):cH H (upd H D o):=λb u e=>by
 rw[cG (cE e h)];exact e
theorem wm{J:It}{xs:List V}(f:V->V)(hz:xs.length<=sizeLine)(hgo:∀i H2,cH H H2->i < xs.length->J.go i H2)(hstop:∀H2,cH H H2->J.stop xs.length H2)
  (hy:∀i H2 v H3,cH H H2->i < xs.length->J.yld i H2 v H3->H3=H2/\xs[i]? =some v)
  (he:∀v H2 Q',v∈xs->cH H H2->Q' (f v) H2->te (some v::dP is σ) H2 Q')(q:∀D,H D=none->Q (.ref D) (upd H D (.lst (xs.map f)))):gQ J is te σ H Q:=by
 intro D hD;refine⟨λi m ys H2=>m=xs.length - i/\i<=xs.length/\ys=(xs.take i).map f/\H2=upd H D (.lst ys),⟨_,rfl,zero_le _,by simp,rfl⟩,?_⟩;rintro i m ys H2 ⟨rfl,hi,hys,rfl⟩;have sm:cH H (upd H D (.lst ys)):=cH.upd hD;refine⟨cD,?_⟩;by_cases hlt:i < xs.length
 ·refine .inr ⟨hgo i _ sm hlt,λv H3 y=>?_⟩
  obtain⟨rfl,hv⟩:=hy i _ v H3 sm hlt y;refine he v _ _ (mem_of_getElem? hv) sm ⟨cD,?_,xs.length - (i+1),by omega,rfl,hlt,?_,Di⟩
  ·rw[hys,length_map,length_take]
   omega
  ·rw[hys,take_add_one,hv,map_append]
   rfl
 ·have e:i=xs.length:=by omega
  subst e;refine .inl ⟨hstop _ sm,?_⟩;rw[hys,take_length];exact q D hD
theorem Ce{a:Addr}{xs:List V}(f:V->V)(hq:cK K H a xs)(hz:xs.length<=sizeLine)(he:∀v H2 Q',v∈xs->cH H H2->Q' (f v) H2->te (some v::dP is σ) H2 Q')
  (q:∀D,H D=none->Q (.ref D) (upd H D (.lst (xs.map f)))):gQ (BW K a) is te σ H Q:=
 wm f hz (λi H2 sm hi=>⟨xs,xs[i],sm.seq hq,by simp[hi]⟩) (λH2 sm=>⟨xs,sm.seq hq,le_refl _⟩) (λi H2 v H3 sm hi y=>⟨y.1,y.2 xs (sm.seq hq)⟩) he q
theorem cH.Fp{K:FG0}{H H':Hp}{a:Addr}{xs:List V}(e:cH H H')(h:dv K H a xs):dv K H' a xs:=by
 rcases h with (h|⟨o,h⟩)|h
 ·exact .inl (.inl (e _ _ h))
 ·exact .inl (.inr ⟨o,e _ _ h⟩)
 ·exact .inr h
theorem zI{lo:Int}{n:Nat}(f:V->V)(hz:n<=sizeLine)(he:∀(i:Nat) H2 Q',i < n->cH H H2->Q' (f (.int (lo+i))) H2->te (some (.int (lo+i))::dP is σ) H2 Q')
  (q:∀D,H D=none->Q (.ref D) (upd H D (.lst ((List.range n).map λ(i:Nat)=>f (.int (lo+i)))))):gQ (CC lo n) is te σ H Q:=by
 refine wm (xs:=(List.range n).map λ(i:Nat)=>V.int (lo+i)) f (by simpa using hz) (λi H2 _ hi=>?_) (λH2 _=>?_) (λi H2 v H3 _ hi y=>?_) (λv H2 Q' hv sm q'=>?_) (λD hD=>?_)
 ·show i < n
  simpa using hi
 ·show n<=_
  simp
 ·obtain⟨rfl,rfl⟩:=y
  have hi':i < n:=by simpa using hi
  exact⟨rfl,by simp[hi']⟩
 ·obtain⟨i,hi,rfl⟩:=mem_map.mp hv
  exact he i H2 Q' (mem_range.mp hi) sm q'
 ·rw[map_map]
  exact q D hD
end
def signs(z:Str):List V:=z.cps.toList.map λc=>V.str ⟨#[c]⟩
theorem signs_length(z:Str):(signs z).length=z.cps.size:=by simp[signs]
def LQ(z:Str):It:=⟨λi _=>i < z.cps.size,λi H x H'=>H'=H/\(signs z)[i]? =some x,λi _=>i=z.cps.size⟩
theorem AD{P:Program}{w:World}{K:FG0}{tg:Expr}{ty:String}{z:Str}{t:Tok}(it:Addr)(hW:∀A:Around,A.handled=none->Walks P w A it [it] [it] z.cps.size (SignAt z) (λi h=>h.IsStrIter it ty z t i))
  (hS:∀(A:Around)(i:Nat)(s:Shared)(Q:Value->Shared->Prop)(E:Value->Shared->Prop),s.heap.IsStrIter it ty z t i->Q (.ref it) s->wpAny (model P w) A (pyIter (.ref it)) Q E s)
  (hn:["enumerate", "zip", "dict_itemiterator", "dict_reverseitemiterator", "odict_iterator", "itertools.zip_longest", "itertools.pairwise"].contains ty=false):Turn P w K tg (LQ z) [it] it (λi h=>h.IsStrIter it ty z t i) where
 mem:=by simp
 obj:=λi h st b hb=>by
  have e:b=it:=by simpa using hb
  subst e;obtain⟨o,e,c,d⟩:=st;exact⟨o,e,λv z=>by rw[d]at z;cases z⟩
 keep:=λi h h' st k=>by
  obtain⟨o,e,r⟩:=st;exact⟨o,k it (by simp) o e,r⟩
 item:=by
  intro X hP hw hK hc i pins s σ H E I hf st hg;subst hP hw hK;obtain⟨f0,f1,f2,f3,f4,f5⟩:=hf it (by simp);refine(hW X.A (I.ok.hd hc)).item i s _ _ hg st λv h' tk hv st' kk=>?_;obtain⟨c,u,hcp,rfl⟩:=hv;have I1:Inv X pins σ H { s with heap:=h',toks:=tk }:=I.turned (λb o hb e=>kk b o (by simpa using hb) e) f0 f1 f3 f4 f5;obtain⟨o,e,cc,d⟩:=id st';refine⟨_,rfl,wR (s:={ s with heap:=h',toks:=tk }) e cc d hn ⟨.str ⟨#[c]⟩,H,I1,⟨u,rfl⟩,⟨rfl,?_⟩,st',λb hb=>(hf b hb).1⟩⟩;unfold signs;rw[getElem?_map,getElem?_toList,hcp];rfl
 done:=by
  intro X hP hw hK hc i pins s σ H E I hf st hg;subst hP hw hK;obtain⟨f0,f1,f2,f3,f4,f5⟩:=hf it (by simp);have hg':i=z.cps.size:=hg;subst hg';exact(hW X.A (I.ok.hd hc)).done s _ _ st λh' tk kk=>⟨rfl,I.turned (λb o hb e=>kk b o (by simpa using hb) e) f0 f1 f3 f4 f5⟩
 self:=hS
section
variable {X:Cx}{tg:Expr}
def K5(tl:TE):TI:=λσ H R=>tl σ H λx H1=>∃z,x=.str z/\R (LQ z) H1
theorem Fv{l:Expr}{tl:TE}(hl:PE X l tl):PI X tg l (K5 tl):=by
 intro pins s σ H R I h;refine dz (hl pins s σ H _ I h) λv s1 hpat=>?_;obtain⟨x,H1,I1,r1,q1⟩:=hpat;obtain⟨z,e,q⟩:=q1;subst e;obtain⟨t,rfl⟩:=r1;have fin:∀(ty:String) (hW:∀A:Around,A.handled=none->Walks X.prog X.w A s1.heap.objs.size [s1.heap.objs.size] [s1.heap.objs.size] z.cps.size (SignAt z) (λi h=>h.IsStrIter s1.heap.objs.size ty z t i))
   (hS:∀(A:Around) (i:Nat) (s:Shared) (Q:Value->Shared->Prop) (E:Value->Shared->Prop),s.heap.IsStrIter s1.heap.objs.size ty z t i->Q (.ref s1.heap.objs.size) s->wpAny (model X.prog X.w) A (pyIter (.ref s1.heap.objs.size)) Q E s)
   (hn:["enumerate", "zip", "dict_itemiterator", "dict_reverseitemiterator", "odict_iterator", "itertools.zip_longest", "itertools.pairwise"].contains ty=false),
   Lu X pins σ tg R (.ref s1.heap.objs.size) { s1 with heap:=s1.heap.push { cls:=.type ty,data:=.fields #[.str z t,.int 0 0] } }:=λty hW hS hn=>by
  refine⟨s1.heap.objs.size,[s1.heap.objs.size],_,_,H1,rfl,I1.kept (t':=s1.toks) λb o e=>get?_push_of_some _ e,AD _ hW hS hn,⟨_,get?_push_size _ rfl,rfl,rfl⟩,λb hb=>?_,q⟩;have e:b=s1.heap.objs.size:=by simpa using hb
  subst e;exact I1.zd (le_refl _) (I1.hok.fresh (le_refl _))
 cases ha:z.cps.all (· < 128)
 ·exact wpAny_pyIter_wide ha (fin "str_iterator" (λA hA=>Walks.strWide hA _ z t) (λA i s Q E st h=>wpAny_pyIter_striter_wide st h) (by decide))
 ·exact wpAny_pyIter_ascii ha (fin "str_ascii_iterator" (λA hA=>Walks.strAscii hA _ z t) (λA i s Q E st h=>wpAny_pyIter_striter_ascii st h) (by decide))
theorem Gb{z:Str}{is:List Nat}{te:TE}{σ:St}{H:Hp}{Q:VK}(f:V->V)(hz:z.length<=sizeLine)(he:∀v H2 Q',v∈signs z->cH H H2->Q' (f v) H2->te (some v::dP is σ) H2 Q')
  (q:∀D,H D=none->Q (.ref D) (upd H D (.lst ((signs z).map f)))):gQ (LQ z) is te σ H Q:=
 wm f (by rw[signs_length];exact hz) (λi H2 _ hi=>by rw[signs_length]at hi;exact hi) (λH2 _=>signs_length z) (λi H2 v H3 _ hi y=>y) he q
theorem uo:∀bs:List Bool,((List.range bs.length).all λi=>bs.getD i false)=bs.all id
 |[]=>rfl
 |b::r=>by
  rw[length_cons,List.range_succ_eq_map,all_cons,all_map,all_cons,<-uo r];rfl
theorem qF(hc:X.calm=true):eR X (.builtin "all") (λxs H Q=>∃(p:Addr) (bs:List Bool),xs=[.ref p]/\cK X.K H p (bs.map V.bl)/\Q (.bl (bs.all id)) H):=by
 intro pins s σ H xs us Q I r h;obtain⟨p,bs,rfl,hq,q⟩:=h;obtain⟨u,rfl,rx⟩:=vals1 r;cases rx;obtain⟨its,rv,pl,hz⟩:=I.list hq;have hl:=rv.length;rw[length_map]at hl;have hlt:p < s.heap.objs.size:=by obtain⟨o,n,e,_⟩:=pl;exact lt_size e
 refine call_all_walk (wpAny_pyIter_list pl.isList ?_);refine⟨s.heap.objs.size,[s.heap.objs.size,p],[s.heap.objs.size],its.toArray.size,_,_,λi=>bs.getD i false,rfl,Walks.list (show X.A.in1.handled=none from I.ok.hd hc) s.heap.objs.size p (ne_of_lt hlt) its.toArray,
  ⟨⟨_,get?_push_size _ rfl,rfl,rfl⟩,?_⟩,λi v s' Q' E' hv hQ=>?_,λh' tk kk=>?_⟩
 ·obtain⟨o,e,r⟩:=pl.isList
  exact⟨o,get?_push_of_some _ e,r⟩
 ·have hi:i < bs.length:=by
   have:i < its.length:=by
    have:=(Array.getElem?_eq_some_iff.mp hv).1
    simpa using this
   omega
  have hb:(bs.map V.bl)[i]? =some (V.bl bs[i]):=by simp[hi]
  obtain⟨u,hu,ru⟩:=rv.get hb;have hv':its[i]? =some v:=by simpa using hv
  rw[hu]at hv';cases hv';obtain rfl:v=Value.bool bs[i]:=ru;refine wpAny_truthy_bool ?_;have e:bs.getD i false=bs[i]:=by simp[List.getD,hi]
  rw[<-e];exact hQ
 ·refine⟨.bl (bs.all id),H,?_,?_,q⟩
  ·have I1:Inv X pins σ H { s with heap:=s.heap.push { cls:=.type "list_iterator",data:=.fields #[.ref p,.int 0 0] } }:=I.kept (t':=s.toks) λb o e=>get?_push_of_some _ e
   have I2:Inv X pins σ H { s with heap:=h',toks:=tk }:=I.kept (t':=tk) λb o e=>kk b o (by
    intro z;have z':b=s.heap.objs.size:=by simpa using z
    exact absurd (lt_size e) (by rw[z'];exact lt_irrefl _)) (get?_push_of_some _ e)
   exact I2
  ·show Value.bool _=Value.bool _
   congr 1
   rw[size_toArray,<-hl];exact uo bs
inductive Jf(K:FG0)(xs:List V)(H:Hp)(Q:VK):Prop
 |mk(x:V)(t:Value)(n:String)(b:Bool)(e:xs=[x,.ty n])(ty:fQ K H x t)(k:kitOne K t (.type n)=some b)(q:Q (.bl b) H)
theorem k6:eR X (.builtin "isinstance") (λxs H Q=>L2.Jf X.K xs H Q):=by
 intro pins s σ H xs us Q I r h;obtain⟨x,t,n,b,rfl,ty,e,q⟩:=h;obtain⟨u,c,rfl,rx,rc⟩:=vals2 r;obtain rfl:c=Value.type n:=rc;exact yT I rx ty e λtk=>⟨.bl b,H,I.tok _,rfl,q⟩
theorem qi:iS X (compareOp .LtE) (λx y H Q=>∃i j,x=.str i/\y=.str j/\Q (.bl (!decide (j.cps.toList < i.cps.toList))) H):=by
 intro pins s σ H x y v u Q I rx ry h;obtain⟨i,j,rfl,rfl,q⟩:=h;obtain⟨t,rfl⟩:=rx;obtain⟨t',rfl⟩:=ry;exact PySem.P.le_str ⟨.bl _,H,I,rfl,q⟩
def FA(z:Str)(lo hi:Option Int):Str:=⟨((z.cps.toList.drop (HT.nC z.length 0 lo)).take (HT.nC z.length z.length hi - HT.nC z.length 0 lo)).toArray⟩
inductive KJ(x:V)(lo hi:Option Int)(H:Hp)(Q:VK):Prop
 |mk(z:Str)(hx:x=.str z)(b:z.length<=sizeLine)(q:Q (.str (FA z lo hi)) H)
def MT:V->Option Int->Option Int->Hp->VK->Prop:=λx lo hi H Q=>KJ x lo hi H Q
end
end L2
namespace L2
open PySem PySem.Spec PyProof.Rows
theorem Inv.KW{X:Cx}{pins:List (Addr×Obj)}{σ:St}{H:Hp}{s:Shared}(I:Inv X pins σ H s):sysModules < s.heap.objs.size:=by
 have h:mainGlobals < s.heap.objs.size:=(I.mod.glob.keeps I.bk).lt;exact lt_trans (by decide) h
theorem CK{P:Program}{w:World}{H:Hp}(h:Heap)(hb:sysModules < h.objs.size):dy P w H (h.push { cls:=.type "dict",data:=.dict #[] }) h.objs.size (.dK []):=
 ⟨zero_le _,beq_eq_false_iff_ne.mpr (Ne.symm (ne_of_lt hb)),[],.nil,Heap.DictOf.new h⟩
def Eb:TE:=λ_ H Q=>∀p,H p=none->Q (.ref p) (upd H p (.dK []))
theorem Ds{X:Cx}{pos:Pos}:PE X (.Dict [] [] pos) Eb:=λpins s σ H Q I h=>
 wpAny_Dict_empty ⟨.ref s.heap.objs.size,_,I.laid (a:=s.heap.objs.size) (o:=.dK []) (t':=s.toks) (λ_ _ q=>get?_push_of_some _ q) (le_refl _) (CK s.heap I.KW),rfl,h _ (I.hok.fresh (le_refl _))⟩
structure Df(K:FG0)(mg:Str->Option Value)(x:Str)(st:Stmt)(ps:List Str)(f:Addr)(fd:FuncData):Prop where
 fn:o7 K x x st f fd
 nm:mg x=some (.ref f)
 bi:Binds K fd ps []
def tys:List String:=["NoneType", "bool", "int", "str", "list", "tuple", "dict"]
def yR(T n:String):Bool:=T == n || (T == "bool" && n == "int")
theorem dF {K:FG0}{T n:String}(hT:T∈tys) (hn:n∈["int", "bool", "str", "list", "tuple"]):kitOne K (.type T) (.type n)=some (yR T n):=by
 simp only[tys,mem_cons,not_mem_nil,or_false]at hT hn;rcases hT with rfl|rfl|rfl|rfl|rfl|rfl|rfl<;>rcases hn with rfl|rfl|rfl|rfl|rfl<;>rfl
section
variable {K:FG0}{H:Hp}{x:V}{T:String}
theorem ty_int (ty:fQ K H x (.type "int")):∃i,x=.int i:=by
 generalize h:Value.type "int" =t at ty;cases ty<;>first|exact⟨_,rfl⟩| (injection h with h';exact absurd h' (by decide))|cases h
theorem ty_str (ty:fQ K H x (.type "str")):∃z,x=.str z:=by
 generalize h:Value.type "str" =t at ty;cases ty<;>first|exact⟨_,rfl⟩| (injection h with h';exact absurd h' (by decide))|cases h
theorem ym{i:Int}(ty:fQ K H (.int i) (.type T)):T= "int" :=by
 generalize h:Value.type T=t at ty;cases ty;injection h
theorem zh{z:Str}(ty:fQ K H (.str z) (.type T)):T= "str" :=by
 generalize h:Value.type T=t at ty;cases ty;injection h
end
theorem df:bootBuiltins "isinstance" =some (.builtin "isinstance"):=by decide+kernel
theorem v7:bootBuiltins "int" =some (.type "int"):=by decide+kernel
theorem C4:bootBuiltins "bool" =some (.type "bool"):=by decide+kernel
theorem uZ:bootBuiltins "str" =some (.type "str"):=by decide+kernel
theorem iz:bootBuiltins "all" =some (.builtin "all"):=by decide+kernel
theorem dA:bootBuiltins "len" =some (.builtin "len"):=by decide+kernel
theorem ei:bootBuiltins "list" =some (.type "list"):=by decide+kernel
theorem oM:bootBuiltins "tuple" =some (.type "tuple"):=by decide+kernel
end L2
namespace L2
open PySem PySem.Spec PyProof.Rows
def notStar(e:Expr):Bool:=match e with
 |.Starred _ _=>false
 |_=>true
theorem cZ{e:Expr}{rest:List Expr}{env:Env}(h:notStar e=true):starEach (e::rest) env=(false,eval e env)::starEach rest env:=by
 cases e<;>first|rfl|cases h
theorem fg{env:Env}{pos:Pos}:∀{es:List Expr},es.all notStar=true->(backTo pos (starEach es env)).any (·.1)=false
 |[],_=>rfl
 |e::es,h=>by
  rw[all_cons,and_eq_true]at h;rw[cZ h.1];exact fg h.2
theorem wx{X:Cx}{e:Expr}{es:List Expr}{te:TE}{t:TA}(ha:PE X e te)(hr:PA X es t)(h:notStar e=true:=by rfl):PA X (e::es) (dR te t):=fw ha hr (cZ h)
def j7(e:Expr):Bool:=match e with
 |.ListComp .. =>true
 |.SetComp .. =>true
 |.DictComp .. =>true
 |_=>false
theorem kr{e:Expr}{tg:Option Expr}{n:Nat}{env:Env}(h:j7 e=false):swapsWith e tg n env=pure false:=by
 cases e<;>first|rfl|cases h
theorem CU{X:Cx}{f:Expr}{as:List Expr}{kw:List Keyword}{p:Pos}{t:TE}(h:PE X (.Call f as kw p) t):PT X (.Call f as kw p) (tB t):=vS h (λ_=>rfl)
theorem Jj{l r:Expr}{op:Operator}{p:Pos}:ef (.BinOp l op r p):=λ_ _=>rfl
theorem CO{x:Str}{p:Pos}:ef (.Name x p):=λ_ _=>rfl
theorem FR{c:Const}{k:Nat}{p:Pos}:ef (.Constant c k p):=λ_ _=>rfl
theorem iK{op op':CmpOp}{b c:Expr}(h:op'≠.In:=by decide)(h2:op'≠.NotIn:=by decide):lastMarks [op,op'] [b,c]=false:=by
 have e:lastMarks [op,op'] [b,c]=behindInMarks op' c:=by rfl
 rw[e];exact cJ c h h2
theorem IY{X:Cx}{e:Expr}{te:TE}{p:Pos}(he:PE X e te)(h:j7 e=false:=by rfl):PS X (.Expr e p) (xR te):=DO he (kr h)
structure Slot(X:Cx)(i:Nat)(x:Str):Prop where
 hN:X.N[i]? =some x
 lc:Loc X.env.scope x
 fn:X.fn x=true\/X.env.scope.names.lookup x=some .local
 db:(x == ("__debug__" :Str))=false
 cd:(x == ("__classdict__" :Str))=false
structure Bt(X:Cx)(x:Str):Prop where
 gl:Gl X x
 nm:X.mg x=none
 hn:x≠ "__name__"
 db:(x == ("__debug__" :Str))=false
structure DB(X:Cx)(x:Str)(sp:Sp):Prop where
 ex:∃(k:Nat) (f:Addr) (fd:FuncData) (ps:List Str),eD X.prog X.w X.K X.mg X.base kg k f fd ps sp/\dC k X.A/\X.mg x=some (.ref f)/\keepIn X.K (.ref f)=true/\Binds X.K fd ps []
 gl:Gl X x
 db:(x == ("__debug__" :Str))=false
section
variable {X:Cx}{i:Nat}{x:Str}{sp:Sp}{p pos pos':Pos}{e:Expr}{es:List Expr}{te:TE}{t:TA}
theorem Slot.rd(S:Slot X i x):PE X (.Name x p) (gx i):=jP S.hN (S.lc.elim .inl λh=>.inr (.inl h)) S.db S.cd
theorem Slot.set(S:Slot X i x)(nd:X.N.Nodup)(he:PE X e te)(h:j7 e=false:=by rfl):PS X (.Assign [.Name x pos'] e pos) (rJ te (eS i)):=Fj nd S.hN S.lc he (kr h) S.fn
theorem Slot.tg(S:Slot X i x)(nd:X.N.Nodup):PG X (.Name x p) (eS i):=nj nd S.hN S.lc S.fn
theorem Bt.call{id:String}{r:List V->Hp->VK->Prop}(B:Bt X x)(hc:eR X (.builtin id) r)(hv:bootBuiltins x=some (.builtin id))(ha:PA X (e::es) t)(h1:notStar e=true:=by rfl)
  (h2:es.all notStar=true:=by rfl):PE X (.Call (.Name x p) (e::es) [] pos) (Hl r t):=gZ hc B.gl B.nm hv ha B.hn B.db (cZ h1) (fg h2)
theorem Bt.Jh{T:String}{r:List V->Hp->VK->Prop}(B:Bt X x)(hc:eR X (.type T) r)(hv:bootBuiltins x=some (.type T))(ha:PA X (e::es) t)(h1:notStar e=true:=by rfl)
  (h2:es.all notStar=true:=by rfl):PE X (.Call (.Name x p) (e::es) [] pos) (Hl r t):=xW hc B.gl B.nm hv ha B.hn B.db (cZ h1) (fg h2)
theorem Bt.ty{n:String}(B:Bt X x)(hv:bootBuiltins x=some (.type n)):PE X (.Name x p) (tC (.ty n)):=nF (v:=.ty n) B.gl B.nm hv rfl B.hn B.db
theorem DB.call(C:DB X x sp)(ha:PA X (e::es) t)(h1:notStar e=true:=by rfl)
  (h2:es.all notStar=true:=by rfl):PE X (.Call (.Name x p) (e::es) [] pos) (tj sp [] E0 t):=by
 obtain⟨k,f,fd,ps,G,hr,nm,kp,bi⟩:=C.ex;exact xV G hr C.gl nm kp bi .nil xI ha C.db (cZ h1) (fg h2)
end
end L2
namespace J
open PySem PySem.Spec PyProof.Rows
open L2 (Cx V Hp St VK TE TT TA TS TG pK TI TO R2 Sp XK E0 kg eD dC Gl Binds RelV Vals cK dv fQ)
structure JE(X:Cx)(e:Expr)(t:TE):Prop where
 out:L2.PE X e t
structure JT(X:Cx)(e:Expr)(t:TT):Prop where
 out:L2.PT X e t
structure JW(X:Cx)(e:Expr)(t:TT):Prop where
 out:L2.PW X e t
structure JA(X:Cx)(es:List Expr)(t:TA):Prop where
 out:L2.PA X es t
structure JS(X:Cx)(st:Stmt)(t:TS):Prop where
 out:L2.PS X st t
structure sG(X:Cx)(st:List Stmt)(t:TS):Prop where
 out:L2.sW X st t
structure JG(X:Cx)(tg:Expr)(g:TG):Prop where
 out:L2.PG X tg g
structure Iu(X:Cx)(ts:List Expr)(g:pK):Prop where
 out:L2.Ih X ts g
structure JI(X:Cx)(tg it:Expr)(wi:TI):Prop where
 out:L2.PI X tg it wi
structure JO(X:Cx)(e:Option Expr)(t:TO):Prop where
 out:L2.PO X e t
structure JB(X:Cx)(op:Operator)(r:R2):Prop where
 out:L2.iS X (binaryOp op) r
structure JC(X:Cx)(op:CmpOp)(r:R2):Prop where
 out:L2.iS X (compareOp op) r
structure JU(X:Cx)(op:UnaryOp)(r:V->Hp->VK->Prop):Prop where
 out:L2.Kk X (unaryOp op) r
structure JF(X:Cx)(f:Value)(r:List V->Hp->VK->Prop):Prop where
 out:L2.eR X f r
structure JX(X:Cx)(r:R2):Prop where
 out:L2.HZ X r
structure JM(X:Cx)(id:String)(r:V->List V->Hp->VK->Prop):Prop where
 out:L2.J6 X id r
structure JL(X:Cx)(r:V->Option Int->Option Int->Hp->VK->Prop):Prop where
 out:L2.LA X r
structure ef(b:Expr):Prop where
 out:L2.ef b
section
variable {X:Cx}{a b c e:Expr}{es:List Expr}{ta tb tc te:TE}{t:TA}{tA tB':TT}{pos p2:Pos}{r r':R2}{u v:TS}{st:Stmt}{sts:List Stmt}{tg:Expr}
theorem _root_.bu:JB X .Add (L2.zq λi j=>.int (i+j)):=⟨L2.ER⟩
theorem lI:JB X .Sub (L2.zq λi j=>.int (i - j)):=⟨L2.lI⟩
theorem _root_.bP:JB X .Mult (L2.rI L2.C1 λi j=>.int (i * j)):=⟨L2.Fu⟩
theorem _root_.bf:JB X .FloorDiv (L2.rI L2.IW λi j=>.int (i / j)):=⟨L2.CM⟩
theorem _root_.aY:JB X .Mod (L2.rI (λ_ j=>0 < j) λi j=>.int (i % j)):=⟨L2.GU⟩
theorem lP:JB X .Pow (L2.rI L2.Iz λi j=>.int (i ^ j.toNat)):=⟨L2.lP⟩
theorem iG:JB X .Add (λx y H Q=>∃i j,x=.str i/\y=.str j/\i.length+j.length<=sizeLine/\Q (.str (i++j)) H):=⟨L2.iG⟩
theorem vN:JU X .USub (L2.rU λi=>.int (-i)):=⟨L2.vN⟩
theorem _root_.aL:JC X .Eq L2.LX:=⟨L2.Jw⟩
theorem _root_.bU:JC X .NotEq L2.LY:=⟨L2.Je⟩
theorem _root_.bO:JC X .Lt (L2.zq λi j=>.bl (decide (i < j))):=⟨L2.Ho⟩
theorem _root_.bD:JC X .LtE (L2.zq λi j=>.bl (decide (i<=j))):=⟨L2.uF⟩
theorem _root_.b9:JC X .Gt (L2.zq λi j=>.bl (decide (j < i))):=⟨L2.HN⟩
theorem _root_.cu:JC X .Is (λx y H Q=>y=.non/\Q (.bl (decide (x=.non))) H):=⟨L2.FW⟩
theorem _root_.cC:JC X .IsNot (λx y H Q=>y=.non/\Q (.bl (!decide (x=.non))) H):=⟨L2.DQ⟩
theorem hJ:JC X .In (L2.KH X.K false):=⟨L2.hJ⟩
theorem _root_.bp:JF X (.builtin "len") (λxs H Q=>L2.IX X.K xs H Q):=⟨L2.qL⟩
theorem _root_.bM:JF X (.type "list") (λxs H Q=>∃p ys,xs=[.ref p]/\(cK X.K H p ys\/dv X.K H p ys)/\∀l,H l=none->Q (.ref l) (L2.upd H l (.lst ys))):=⟨L2.sj⟩
theorem _root_.cm:JF X (.builtin "isinstance") (λxs H Q=>L2.Jf X.K xs H Q):=⟨L2.k6⟩
theorem _root_.bT(hc:X.calm=true):JF X (.builtin "all") (λxs H Q=>∃(p:Addr) (bs:List Bool),xs=[.ref p]/\cK X.K H p (bs.map V.bl)/\Q (.bl (bs.all id)) H):=⟨L2.qF hc⟩
theorem jE:JF X (.type "int") (λxs H Q=>(∃i,xs=[.int i]/\Q (.int i) H)\/∃k,xs=[.bl k]/\Q (.int (if k then 1 else 0)) H):=⟨L2.jE⟩
theorem ic(hc:X.calm=true):JF X (.builtin "max") (λxs H Q=>∃i j,xs=[.int i,.int j]/\Q (.int (if j > i then j else i)) H):=⟨L2.ic hc⟩
theorem f6(hc:X.calm=true):JF X (.builtin "min") (λxs H Q=>∃i j,xs=[.int i,.int j]/\Q (.int (if j < i then j else i)) H):=⟨L2.f6 hc⟩
theorem _root_.aR:JX X (L2.AL X.K):=⟨L2.q9⟩
theorem _root_.ao:JX X (L2.Bl X.K):=⟨L2.vU⟩
theorem u3:JX X L2.Fg:=⟨L2.u3⟩
theorem _root_.bV{l r:Expr}{op:Operator}{p:Pos}:ef (.BinOp l op r p):=⟨L2.Jj⟩
theorem _root_.aK{x:Str}{p:Pos}:ef (.Name x p):=⟨L2.CO⟩
theorem _root_.aj{c:Const}{k:Nat}{p:Pos}:ef (.Constant c k p):=⟨L2.FR⟩
theorem ro{f:Expr}{as:List Expr}{kw:List Keyword}{p:Pos}:ef (.Call f as kw p):=⟨λ_ _=>rfl⟩
theorem jF:JL X (L2.J3 X.K):=⟨L2.jF⟩
theorem jB:JO X none L2.xM:=⟨L2.jB⟩
theorem jx(h:JE X e te):JO X (some e) (L2.Ey te):=⟨L2.jx h.out⟩
theorem _root_.ae{i j pos}:JE X (.Constant (.int i) j pos) (L2.tC (.int i)):=⟨L2.l6⟩
theorem _root_.a5{b j pos}:JE X (.Constant (.bool b) j pos) (L2.tC (.bl b)):=⟨L2.Eu⟩
theorem _root_.bE{j pos}:JE X (.Constant .none j pos) (L2.tC .non):=⟨L2.GZ⟩
theorem _root_.aM{x j pos}:JE X (.Constant (.str x) j pos) (L2.tC (.str x)):=⟨L2.vC⟩
theorem _root_.az{op:Operator}(ho:JB X op r)(ha:JE X a ta)(hb:JE X b tb):JE X (.BinOp a op b pos) (L2.Ea r ta tb):=⟨L2.Eg ho.out ha.out hb.out⟩
theorem Bm{op:UnaryOp}{r:V->Hp->VK->Prop}(ho:JU X op r)(ha:JE X a ta):JE X (.UnaryOp op a pos) (L2.LZ r ta):=⟨L2.Bm ho.out ha.out⟩
theorem _root_.af(hr:JX X r)(ha:JE X a ta)(hb:JE X b tb)(hs:ef b):JE X (.Subscript a b pos) (L2.Ea r ta tb):=⟨L2.Jg hr.out ha.out hb.out hs.out⟩
theorem hU{r:V->Option Int->Option Int->Hp->VK->Prop}{lo hi:Option Expr}{tl th:TO}(hr:JL X r)(he:JE X e te)(hl:JO X lo tl)(hu:JO X hi th):JE X (.Subscript e (.Slice lo hi none p2) pos) (L2.Mi r te tl th):=⟨L2.hU hr.out he.out hl.out hu.out⟩
theorem _root_.aU{op:CmpOp}(ho:JC X op r)(ha:JE X a ta)(hb:JE X b tb)(hm:behindInMarks op b=false):JE X (.Compare a [op] [b] pos) (L2.Ea r ta tb):=⟨L2.xu ho.out ha.out hb.out hm⟩
theorem _root_.aB{op:CmpOp}(ho:JC X op r)(ha:JE X a ta)(hb:JE X b tb)(hm:behindInMarks op b=false):JT X (.Compare a [op] [b] pos) (L2.wL (L2.Ea r ta tb)):=⟨L2.Co ho.out ha.out hb.out hm⟩
theorem f9{op op':CmpOp}(ho:JC X op r)(ho':JC X op' r')(ha:JE X a ta)(hb:JE X b tb)(hc:JE X c tc)(hm:lastMarks [op,op'] [b,c]=false):JE X (.Compare a [op,op'] [b,c] pos) (L2.rD r r' ta tb tc):=⟨L2.f9 ho.out ho'.out ha.out hb.out hc.out hm⟩
theorem kF{op op':CmpOp}(ho:JC X op r)(ho':JC X op' r')(ha:JE X a ta)(hb:JE X b tb)(hc:JE X c tc)(hm:lastMarks [op,op'] [b,c]=false):JT X (.Compare a [op,op'] [b,c] pos) (L2.wL (L2.rD r r' ta tb tc)):=⟨L2.kF ho.out ho'.out ha.out hb.out hc.out hm⟩
theorem mK{op:CmpOp}{x:Str}{p:Pos}:behindInMarks op (.Name x p)=false:=rfl
theorem ze{op:CmpOp}{f:Expr}{as:List Expr}{kw:List Keyword}{p:Pos}:behindInMarks op (.Call f as kw p)=false:=rfl
theorem Am{op:CmpOp}{es:List Expr}{k:Nat}{p:Pos}:behindInMarks op (.Tuple es k p)=false:=rfl
theorem _root_.aZ{op}(h:JE X a te):JE X (.BoolOp op [a] pos) te:=⟨L2.rE h.out⟩
theorem _root_.aV(ha:JE X a ta)(hb:JE X (.BoolOp .And (b::es) pos) tb):JE X (.BoolOp .And (a::b::es) pos) (L2.BF ta tb):=⟨L2.qK ha.out hb.out⟩
theorem qp(ha:JE X a ta)(hb:JE X (.BoolOp .Or (b::es) pos) tb):JE X (.BoolOp .Or (a::b::es) pos) (L2.Dv ta tb):=⟨L2.qp ha.out hb.out⟩
theorem oq(ha:JE X a ta):JE X (.UnaryOp .Not a pos) (L2.EF ta):=⟨L2.oq ha.out⟩
theorem _root_.bz(ha:JT X a tA):JW X (.BoolOp .And [a] pos) tA:=⟨L2.Cy ha.out⟩
theorem _root_.bG(ha:JT X a tA):JW X (.BoolOp .Or [a] pos) tA:=⟨L2.AH ha.out⟩
theorem _root_.bg(ha:JT X a tA)(hb:JW X (.BoolOp .And (b::es) pos) tB'):JW X (.BoolOp .And (a::b::es) pos) (L2.IV tA tB'):=⟨L2.Fx ha.out hb.out⟩
theorem _root_.bF(ha:JT X a tA)(hb:JW X (.BoolOp .Or (b::es) pos) tB'):JW X (.BoolOp .Or (a::b::es) pos) (L2.Ly tA tB'):=⟨L2.Ec ha.out hb.out⟩
theorem _root_.aX(h:JW X e tA):JT X e tA:=⟨h.out.pt⟩
theorem _root_.bq(ha:JT X a tA):JT X (.UnaryOp .Not a pos) (L2.Jq tA):=⟨L2.uX ha.out⟩
theorem _root_.ba{f:Expr}{as:List Expr}{kw:List Keyword}{p:Pos}(h:JE X (.Call f as kw p) te):JT X (.Call f as kw p) (L2.tB te):=⟨L2.CU h.out⟩
theorem _root_.bK:JA X [] L2.m8:=⟨L2.j9⟩
theorem wx(ha:JE X e te)(hr:JA X es t)(h:L2.notStar e=true:=by rfl):JA X (e::es) (L2.dR te t):=⟨L2.wx ha.out hr.out h⟩
theorem _root_.ak(a:JE X e te)(i:L2.notStar e=true:=by rfl):JA X [e] (L2.dR te L2.m8):=wx a bK i
theorem _root_.aD{e₁:Expr}{t₁:TE}(a0:JE X e te)(a1:JE X e₁ t₁)(i0:L2.notStar e=true:=by rfl)(i1:L2.notStar e₁=true:=by rfl):JA X [e,e₁] (L2.dR te (L2.dR t₁ L2.m8)):=wx a0 (ak a1 i1) i0
theorem _root_.aP{e₁ e₂:Expr}{t₁ t₂:TE}(a0:JE X e te)(a1:JE X e₁ t₁)(a2:JE X e₂ t₂)(i0:L2.notStar e=true:=by rfl)(i1:L2.notStar e₁=true:=by rfl)(i2:L2.notStar e₂=true:=by rfl):JA X [e,e₁,e₂] (L2.dR te (L2.dR t₁ (L2.dR t₂ L2.m8))):=wx a0 (aD a1 a2 i1 i2) i0
theorem _root_.bS{e₁ e₂ e₃:Expr}{t₁ t₂ t₃:TE}(a0:JE X e te)(a1:JE X e₁ t₁)(a2:JE X e₂ t₂)(a3:JE X e₃ t₃)(i0:L2.notStar e=true:=by rfl)(i1:L2.notStar e₁=true:=by rfl)(i2:L2.notStar e₂=true:=by rfl)(i3:L2.notStar e₃=true:=by rfl):JA X [e,e₁,e₂,e₃] (L2.dR te (L2.dR t₁ (L2.dR t₂ (L2.dR t₃ L2.m8)))):=wx a0 (aP a1 a2 a3 i1 i2 i3) i0
theorem My{e₁ e₂ e₃ e₄:Expr}{t₁ t₂ t₃ t₄:TE}(a0:JE X e te)(a1:JE X e₁ t₁)(a2:JE X e₂ t₂)(a3:JE X e₃ t₃)(a4:JE X e₄ t₄)(i0:L2.notStar e=true:=by rfl)(i1:L2.notStar e₁=true:=by rfl)(i2:L2.notStar e₂=true:=by rfl)(i3:L2.notStar e₃=true:=by rfl)(i4:L2.notStar e₄=true:=by rfl):JA X [e,e₁,e₂,e₃,e₄] (L2.dR te (L2.dR t₁ (L2.dR t₂ (L2.dR t₃ (L2.dR t₄ L2.m8))))):=wx a0 (bS a1 a2 a3 a4 i1 i2 i3 i4) i0
theorem _root_.bA(h:JA X es t):JE X (.List es pos) (L2.JY t):=⟨L2.E4 h.out⟩
theorem _root_.aT{k}(h:JA X es t):JE X (.Tuple es k pos) (L2.Iq t):=⟨L2.Fz h.out⟩
theorem _root_.cv:JE X (.Dict [] [] pos) L2.Eb:=⟨L2.Ds⟩
theorem nR {x:Str}{v:V}{u:Value}(hg:Gl X x) (hm:X.mg x=some u) (r:RelV v u) (hd:(x == ("__debug__" :Str))=false):JE X (.Name x pos) (L2.tC v):=⟨L2.nR hg hm r hd⟩
theorem _root_.aQ(h:JE X e te):JI X tg e (L2.EA X.K te):=⟨L2.Ci h.out⟩
theorem ve(h:JE X e te):JI X tg e (L2.IH X.K te):=⟨L2.ve h.out⟩
theorem _root_.aI:sG X [] L2.p9:=⟨L2.xN⟩
theorem _root_.ah(h1:JS X st u)(h2:sG X sts v):sG X (st::sts) (L2.tX u v):=⟨L2.tJ h1.out h2.out⟩
theorem _root_.ag(h1:JS X st u):sG X [st] u:=⟨L2.kG h1.out⟩
theorem fX:sG X sts L2.Au:=⟨L2.fX⟩
theorem _root_.au(h:JE X e te):JS X (.Return (some e) pos) (L2.IZ te):=⟨L2.oU h.out⟩
theorem _root_.bH(h:JE X e te)(hc:L2.j7 e=false:=by rfl):JS X (.Expr e pos) (L2.xR te):=⟨L2.IY h.out hc⟩
theorem _root_.aH{c:Expr}{x y:List Stmt}{tc:TT}(hc:JT X c tc)(ha:sG X x u)(hb:sG X y v):JS X (.If c x y pos) (L2.y8 tc u v):=⟨L2.D8 hc.out ha.out hb.out⟩
theorem _root_.a9{it:Expr}{body:List Stmt}{wi:TI}{g:TG}{tb:TS}(hp:PassesOwn (model X.prog X.w) X.A X.env X.xe)(hc:X.calm=true)(hi:JI X tg it wi)(hg:JG X tg g)(hb:sG X body tb)
  (hs:∀x,foldedSetIterable it X.env x=pure x:=by intro _;rfl):JS X (.For tg it body [] pos) (L2.IQ wi g tb):=⟨L2.Ha hp hc hi.out hg.out hb.out hs⟩
end
section
variable {X:Cx}{i:Nat}{x:Str}{sp:Sp}{p pos pos':Pos}{e:Expr}{es:List Expr}{te:TE}{t:TA}{tg:Expr}
theorem _root_.aa(S:L2.Slot X i x):JE X (.Name x p) (L2.gx i):=⟨S.rd⟩
theorem _root_.aA(S:L2.Slot X i x)(nd:X.N.Nodup)(he:JE X e te)(h:L2.j7 e=false:=by rfl):JS X (.Assign [.Name x pos'] e pos) (L2.rJ te (L2.eS i)):=⟨S.set nd he.out h⟩
theorem _root_.aE(S:L2.Slot X i x)(nd:X.N.Nodup):JG X (.Name x p) (L2.eS i):=⟨S.tg nd⟩
theorem _root_.aJ{id:String}{r:List V->Hp->VK->Prop}(B:L2.Bt X x)(hc:JF X (.builtin id) r)(hv:bootBuiltins x=some (.builtin id))(ha:JA X (e::es) t)(h1:L2.notStar e=true:=by rfl)(h2:es.all L2.notStar=true:=by rfl):
  JE X (.Call (.Name x p) (e::es) [] pos) (L2.Hl r t):=⟨B.call hc.out hv ha.out h1 h2⟩
theorem _root_.bw{T:String}{r:List V->Hp->VK->Prop}(B:L2.Bt X x)(hc:JF X (.type T) r)(hv:bootBuiltins x=some (.type T))(ha:JA X (e::es) t)(h1:L2.notStar e=true:=by rfl)(h2:es.all L2.notStar=true:=by rfl):
  JE X (.Call (.Name x p) (e::es) [] pos) (L2.Hl r t):=⟨B.Jh hc.out hv ha.out h1 h2⟩
theorem ty{n:String}(B:L2.Bt X x)(hv:bootBuiltins x=some (.type n)):JE X (.Name x p) (L2.tC (.ty n)):=⟨B.ty hv⟩
theorem _root_.aw(C:L2.DB X x sp)(ha:JA X (e::es) t)(h1:L2.notStar e=true:=by rfl)(h2:es.all L2.notStar=true:=by rfl):JE X (.Call (.Name x p) (e::es) [] pos) (L2.tj sp [] E0 t):=⟨C.call ha.out h1 h2⟩
theorem _root_.bR (B:L2.Bt X "range") (ha:JA X [e] t) (h:L2.notStar e=true:=by rfl):JI X tg (.Call (.Name "range" p) [e] [] pos) (L2.Ep t):=⟨L2.yZ B.gl B.nm ha.out (L2.cZ h)⟩
end
theorem Hs{P:Program}{w:World}{K:FG0}{mg:Str->Option Value}{base:Heap}{x qual:Str}{st:Stmt}{f:Addr}{fd:FuncData}{N ps:List Str}{k:Nat}{sp:Sp}(F:L2.o7 K x qual st f fd)(S:L2.cI N ps (L2.cF st))(len:∀vs H Q E,sp vs H Q E->vs.length=ps.length)
  (hbody:∀(X:Cx)(cdv:Value)(A:Around)(outer:List Env)(s:Shared)(H:Hp)(vs:List V)(Q:VK)(E:XK),X=(L2.uK kg P w K mg base N qual (L2.cF st) f cdv A outer s H E).BX->dC k X.A->sp vs H Q E->
   ∃t,sG X (L2.cP st) t/\t { nx:=λ_ H'=>Q .non H',rt:=Q } (L2.start N vs) H):eD P w K mg base kg (k+1) f fd ps sp:=by
 refine F.ok S len (λcdv A outer s H vs Q E hr h=>?_);obtain⟨t,h1,h2⟩:=hbody _ cdv A outer s H vs Q E rfl hr h;exact⟨t,h1.out,h2⟩
end J
namespace Z
open PySem PySem.Spec PyProof.Rows
section
variable {prog:Program}{w:World}{A:Around}{E:Value->Shared->Prop}{s:Shared}
end
structure Ap(z TI TO i1 i2:Addr)(fp1 fp2:List Addr):Prop where
 TIz:TI≠z
 TOz:TO≠z
 TITO:TI≠TO
 TI1:TI≠i1
 TI2:TI≠i2
 z1:z ∉ fp1
 z2:z ∉ fp2
 o1:TO ∉ fp1
 o2:TO ∉ fp2
 m1:i1∈fp1
 m2:i2∈fp2
 x12:i1 ∉ fp2
 x21:i2 ∉ fp1
section
variable {prog:Program}{w:World}{A:Around}{E:Value->Shared->Prop}{s:Shared}{z TI TO i1 i2:Addr}{fp1 fp2:List Addr}{n1 n2:Nat}{P1 P2:Nat->Value->Prop}{S1 S2:Nat->Heap->Prop}
end
end Z
namespace L2
open PySem PySem.Spec PyProof.Rows
theorem Inv.yB{X:Cx}{pins:List (Addr×Obj)}{σ:St}{H:Hp}{s:Shared}{g:Heap}{t':Nat}{fp:List Addr}{T:Addr}{o:HO}(I:Inv X pins σ H s)(hf:∀b∈fp,iY X pins H b)
  (k:∀b u,b ∉ fp->s.heap.get? b=some u->g.get? b=some u)(hT:s.heap.objs.size<=T)(nf:∀b∈fp,∃u,s.heap.get? b=some u)(new:dy X.prog X.w (upd H T o) g T o):Inv X pins σ (upd H T o) { s with heap:=g,toks:=t' }:=by
 have hn:H T=none:=I.hok.fresh hT;have BY:∀b u,H b=some u->b ∉ fp:=λb u e z=>by rw[(hf b z).1]at e;cases e
 refine I.step (g':=s.gens) (d':=s.drawn) (ch:=fp) (λb hb=>⟨(hf b hb).2.2.2.1,(hf b hb).2.1,(hf b hb).2.2.2.2.1,(hf b hb).2.2.2.2.2⟩) (λb u _ _ hc e _=>k b u hc e) (λb u _ _ hc e _=>⟨u.slots,k b u hc e⟩) (λb u _ e n=>?_)
  (λb u hc e=>⟨u,k b u hc e⟩) (λb xs e=>?_) (λb u xs e=>?_) (λb ps e=>⟨#[],?_⟩) (λm hm=>?_) (λb u e=>?_) I.bare
 ·rw[cG (ne_of_lt (lt_of_lt_of_le (lt_size e) hT))]
  exact n
 ·rw[cG (cE e hn)]
  exact e
 ·rw[cG (cE e hn)]
  exact e
 ·rw[cG (cE e hn),e]
  simp
 ·obtain⟨ob,es,ep,ho,r⟩:=hm
  exact⟨ob,es,ep,k _ ob (λz=>(hf _ z).2.1 rfl) ho,r⟩
 ·by_cases hb:b=T
  ·subst hb
   rw[cD]at e;cases e;exact new
  ·rw[cG hb]at e
   refine(I.hok b u e).fJ (λc v hc q=>k c v ?_ q) (λc q=>by rw[cG (cE q hn)];exact q) λc xs q=>by rw[cG (cE q hn)];exact q
   rcases hc with rfl|hc
   ·exact BY c u e
   ·exact BY c _ hc
theorem Inv.mE{X:Cx}{pins:List (Addr×Obj)}{σ:St}{H:Hp}{s:Shared}{g:Heap}{t':Nat}{fp:List Addr}(I:Inv X pins σ H s)(hf:∀b∈fp,iY X pins H b)
  (k:∀b u,b ∉ fp->s.heap.get? b=some u->g.get? b=some u):Inv X pins σ H { s with heap:=g,toks:=t' }:=by
 have BY:∀b u,H b=some u->b ∉ fp:=λb u e z=>by rw[(hf b z).1]at e;cases e
 refine I.step (g':=s.gens) (d':=s.drawn) (ch:=fp) (λb hb=>⟨(hf b hb).2.2.2.1,(hf b hb).2.1,(hf b hb).2.2.2.2.1,(hf b hb).2.2.2.2.2⟩) (λb u _ _ hc e _=>k b u hc e) (λb u _ _ hc e _=>⟨u.slots,k b u hc e⟩) (λ_ _ _ _ n=>n)
  (λb u hc e=>⟨u,k b u hc e⟩) (λ_ _ e=>e) (λ_ _ _ e=>e) (λb ps e=>⟨#[],by rw[e];simp⟩) (λm hm=>?_) (λb u e=>?_) I.bare
 ·obtain⟨ob,es,ep,ho,r⟩:=hm
  exact⟨ob,es,ep,k _ ob (λz=>(hf _ z).2.1 rfl) ho,r⟩
 ·refine(I.hok b u e).fJ (λc v hc q=>k c v ?_ q) (λ_ q=>q) λ_ _ q=>q
  rcases hc with rfl|hc
  ·exact BY c u e
  ·exact BY c _ hc
def sN(q:Bool)(K:FG0)(H:Hp)(a:Addr)(xs:List V):Prop:=match q with
 |true=>cK K H a xs
 |false=>dv K H a xs
def GR(q:Bool)(h:Heap)(it a:Addr)(i:Nat):Prop:=match q with
 |true=>h.IsListIter it a i
 |false=>h.IsTupleIter it a i
def isAt(q:Bool)(h:Heap)(a:Addr)(its:Array Value):Prop:=match q with
 |true=>h.IsList a its
 |false=>h.IsTuple a its
def GN(q:Bool):String:=match q with
 |true=> "list_iterator"
 |false=> "tuple_iterator"
theorem tN{q:Bool}{h:Heap}{it a:Addr}{i:Nat}(p:GR q h it a i):∃o,h.get? it=some o/\∀v,o.data≠.cell v:=by
 cases q with
 |true=>obtain⟨o,e,c,d⟩:=p;exact⟨o,e,λv z=>by rw[d]at z;cases z⟩
 |false=>obtain⟨o,e,c,d⟩:=p;exact⟨o,e,λv z=>by rw[d]at z;cases z⟩
theorem y4{q:Bool}{h g:Heap}{it a:Addr}{i:Nat}(p:GR q h it a i)(k:∀o,h.get? it=some o->g.get? it=some o):GR q g it a i:=by
 cases q with
 |true=>obtain⟨o,e,r⟩:=p;exact⟨o,k o e,r⟩
 |false=>obtain⟨o,e,r⟩:=p;exact⟨o,k o e,r⟩
def M7(K:FG0)(q1 q2:Bool)(a1 a2:Addr):It:=
 ⟨λi H=>∃xs ys x y,sN q1 K H a1 xs/\sN q2 K H a2 ys/\xs[i]? =some x/\ys[i]? =some y,
  λi H v H'=>∃p x y,H p=none/\v=.ref p/\H'=upd H p (.tup [x,y])/\(∀xs,sN q1 K H a1 xs->xs[i]? =some x)/\(∀ys,sN q2 K H a2 ys->ys[i]? =some y),
  λi H=>∃xs,sN q1 K H a1 xs/\xs.length=i⟩
end L2
namespace L2
open PySem PySem.Spec PyProof.Rows
abbrev JH(q:Bool)(h:Heap)(a:Addr):Heap:=h.push { cls:=.type (GN q),data:=.fields #[.ref a,.int 0 0] }
abbrev L1(q1 q2:Bool)(h:Heap)(a b:Addr):Heap:=(JH q2 (JH q1 h a) b).push { cls:=.type "tuple",data:=.seq #[.ref h.objs.size,.ref (JH q1 h a).objs.size] }
abbrev Nn(q1 q2:Bool)(h:Heap)(a b:Addr):Heap:=(L1 q1 q2 h a b).push { cls:=.type "tuple",data:=.seq #[.none,.none] }
abbrev N2(q1 q2:Bool)(h:Heap)(a b:Addr):Heap:=(Nn q1 q2 h a b).push { cls:=.type "zip",data:=.fields #[.none,.bool false,.bool false,.ref (JH q2 (JH q1 h a) b).objs.size,.ref (L1 q1 q2 h a b).objs.size] }
theorem Le(n b:Nat)(h:b∈[n+1,n]):n<=b:=by
 simp only[mem_cons,not_mem_nil,or_false]at h;omega
theorem rp:bootBuiltins "enumerate" =some (.type "enumerate"):=by decide+kernel
def MG(K:FG0)(ta:TA):TI:=λσ H R=>ta σ H λvs H1=>∃q a1 a2,vs=[.ref a1,.ref a2]/\(∃xs,sN q K H1 a1 xs)/\(∃ys,sN q K H1 a2 ys)/\R (M7 K q q a1 a2) H1
theorem Dr{X:Cx}{pins:List (Addr×Obj)}{σ:St}{H:Hp}{s:Shared}{q:Bool}{a:Addr}{xs:List V}(I:Inv X pins σ H s)(h:sN q X.K H a xs):a < s.heap.objs.size:=by
 cases q with
 |true=>obtain⟨its,r,⟨o,n,e,_⟩,z⟩:=I.list h;exact lt_size e
 |false=>obtain⟨its,r,⟨o,e,_⟩,z⟩:=I.tuple h;exact lt_size e
section
variable {X:Cx}
end
def Hk(K:FG0)(a:Addr):It:=
 ⟨λi H=>∃xs x,cK K H a xs/\xs[i]? =some x,λi H v H'=>∃p x,H p=none/\v=.ref p/\H'=upd H p (.tup [.int i,x])/\∀xs,cK K H a xs->xs[i]? =some x,λi H=>∃xs,cK K H a xs/\xs.length=i⟩
theorem yz{P:Program}{w:World}{K:FG0}{es:List Expr}{kk:Nat}{tp:Pos}{a:Addr}(e it:Addr)(ne:e≠it)(n1:a≠e)(n2:a≠it):
  Turn P w K (.Tuple es kk tp) (Hk K a) [e,it] e (λi h=>(∃old,IsEnum h e it i old)/\h.IsListIter it a i):=by
 refine⟨by simp,λi h st b hb=>?_,λi h g st k=>?_,?_,?_,λA i s Q E st h=>?_⟩
 ·obtain⟨⟨old,ce⟩,c1⟩:=st
  simp only[mem_cons,not_mem_nil,or_false]at hb;rcases hb with rfl|rfl
  ·exact⟨_,ce,λv e=>by cases e⟩
  ·exact tN (q:=true) c1
 ·obtain⟨⟨old,ce⟩,c1⟩:=st
  exact⟨⟨old,k _ (by simp) _ ce⟩,y4 (q:=true) c1 λo e=>k _ (by simp) o e⟩
 ·intro X hP hw hK hc i pins s σ H E I hf st hg
  subst hP hw hK;obtain⟨⟨old,ce⟩,c1⟩:=st;obtain⟨xs,x,hx,ex⟩:=hg;obtain⟨its,r,p,l⟩:=I.list hx;obtain⟨u,eu,ru⟩:=r.get ex;have W:=WalksT.enumerate (prog:=X.prog) (w:=X.w) (A:=X.A) (I.ok.hd hc) e it a ne n1 n2 its.toArray;have hi:i < its.toArray.size:=by
   have:=(gI0.mp eu).1
   simpa using this
  refine W.item i s _ _ hi ⟨⟨old,ce⟩,c1,p.isList⟩ λT vals g tk hP hT hTup hM kp=>?_;obtain⟨t,v,hv,rfl⟩:=hP;have hvu:v=u:=by
   have:its[i]? =some v:=by simpa using hv
   rw[eu]at this;exact(Option.some.inj this).symm
  subst hvu;have hTw:T ∉ [e,it]:=W.apart i T g hM;refine⟨_,rfl,W.go es kk tp i T { s with heap:=g,toks:=tk } _ _ hM λg2 st2 kp2=>?_⟩;have hn:H T=none:=I.hok.fresh hT;have kk2:∀b u,b ∉ [e,it]->s.heap.get? b=some u->g2.get? b=some u:=λb u hb q=>kp2 b u hb (kp b u hb q);have I2:Inv X pins σ (upd H T (.tup [.int i,x])) { s with heap:=g2,toks:=tk }:=by
   refine I.yB hf kk2 hT (λb hb=>?_) ⟨by show 2<=sizeLine;decide,[.int i t,v],.cons ⟨t,rfl⟩ (.cons ru .nil),?_⟩
   ·simp only[mem_cons,not_mem_nil,or_false]at hb
    rcases hb with rfl|rfl
    ·exact⟨_,ce⟩
    ·obtain⟨o,q,_⟩:=tN (q:=true) c1;exact⟨o,q⟩
   ·obtain⟨o,q,rest⟩:=hTup
    exact⟨o,kp2 T o hTw q,rest⟩
  refine⟨.ref T,_,I2,rfl,⟨T,x,hn,rfl,rfl,λzs hz=>by rw[I.uI hz hx];exact ex⟩,⟨by simpa using st2.1,st2.2.1⟩,λb hb=>?_⟩;have hbT:b≠T:=by
   rintro rfl;exact hTw hb
  rw[cG hbT];exact(hf b hb).1
 ·intro X hP hw hK hc i pins s σ H E I hf st hg
  subst hP hw hK;obtain⟨⟨old,ce⟩,c1⟩:=st;obtain⟨xs,hx,rfl⟩:=hg;obtain⟨its,r,p,l⟩:=I.list hx;have W:=WalksT.enumerate (prog:=X.prog) (w:=X.w) (A:=X.A) (I.ok.hd hc) e it a ne n1 n2 its.toArray;have e1:xs.length=its.toArray.size:=by rw[size_toArray];exact r.length
  rw[e1]at ce c1;exact W.done s _ _ ⟨⟨old,ce⟩,c1,p.isList⟩ λg tk kp=>⟨rfl,I.mE hf kp⟩
 ·obtain⟨⟨old,ce⟩,c1⟩:=st
  exact wpAny_pyIter_enum ce h
def D5(K:FG0)(ta:TA):TI:=λσ H R=>ta σ H λvs H1=>∃a,vs=[.ref a]/\(∃xs,cK K H1 a xs)/\R (Hk K a) H1
section
variable {X:Cx}
theorem lx {e1:Expr}{es:List Expr}{kk:Nat}{tp p pos:Pos}{ta:TA}(B:Bt X "enumerate") (ha:PA X [e1] ta) (h1:notStar e1=true:=by rfl):PI X (.Tuple es kk tp) (.Call (.Name "enumerate" p) [e1] [] pos) (D5 X.K ta):=by
 intro pins s σ H R I h;refine wpAny_Call_Name_kw (l7 I B.gl B.nm rp ?_ B.hn B.db);refine PyProof.Rows.callWith_type1 (dz (ha pos pins s σ H _ I h) λus s1 hpat=>?_) (cZ h1) (fg rfl);obtain⟨vs,H1,I1,r1,a,e,⟨xs,m1⟩,q⟩:=hpat;subst e;obtain⟨u1,rfl,rx⟩:=vals1 r1;cases rx;obtain⟨its,v1,p1,l1⟩:=I1.list m1;have b1:a < s1.heap.objs.size:=Dr (q:=true) I1 m1;refine call_enumerate_list p1.isList λg ge gi _ kp=>?_;refine wpAny_pyIter_enum ge ?_;refine⟨_,_,_,_,H1,rfl,I1.kept (t':=s1.toks) kp,yz (a:=a) (s1.heap.objs.size+1) s1.heap.objs.size (ne_of_gt (lt_succ_self _)) (ne_of_lt (lt_succ_of_lt b1)) (ne_of_lt b1),⟨⟨_,ge⟩,gi⟩,λb hb=>?_,q⟩;have hle:s1.heap.objs.size<=b:=Le _ _ hb;exact I1.zd hle (I1.hok.fresh hle)
end
theorem AJ{K:FG0}{a:Addr}{xs:List V}{g:TG}{tb:TS}{D:Ends}{σ:St}{H:Hp}(Pv:Nat->St->Hp->Prop)(h0:Pv 0 σ H)(hq:∀i σ H,Pv i σ H->cK K H a xs)
  (hs:∀(i:Nat) x p σ H,xs[i]? =some x->H p=none->Pv i σ H->g (.ref p) σ (upd H p (.tup [.int i,x])) λσ2 H2=>tb { D with nx:=Pv (i+1),ct:=Pv (i+1),bk:=D.nx } σ2 H2)(hd:∀σ H,Pv xs.length σ H->D.nx σ H):
  ∃W:Nat->Nat->St->Hp->Prop,(∃m,W 0 m σ H)/\∀i m σ H,W i m σ H->
   ((Hk K a).stop i H/\D.nx σ H)\/((Hk K a).go i H/\∃N:St->Hp->Prop,(∀σ' H',N σ' H'->∃m',m' < m/\W (i+1) m' σ' H')/\∀x H',(Hk K a).yld i H x H'->g x σ H' λσ2 H2=>tb { D with nx:=N,ct:=N,bk:=D.nx } σ2 H2):=by
 refine⟨λi m σ H=>m=xs.length - i/\i<=xs.length/\Pv i σ H,⟨xs.length,by simp,zero_le _,h0⟩,?_⟩;rintro i m σ H ⟨rfl,hi,p⟩;have m1:=hq i σ H p;by_cases hlt:i < xs.length
 ·refine .inr ⟨⟨xs,xs[i],m1,by simp[hlt]⟩,Pv (i+1),λσ' H' p'=>⟨xs.length - (i+1),by omega,rfl,hlt,p'⟩,λv H' y=>?_⟩
  obtain⟨pp,x,hn,rfl,rfl,e1⟩:=y;exact hs i x pp σ H (e1 xs m1) hn p
 ·have e:i=xs.length:=by omega
  subst e;exact .inl ⟨⟨xs,m1,rfl⟩,hd σ H p⟩
theorem o9:∀{zs:List Str}{us:List Value},Vals (zs.map V.str) us->StrsAre us zs
 |[],_,r=>by cases r;exact .nil
 |z::zs,_,r=>by
  cases r with
  |cons r1 r2=>
   obtain⟨t,rfl⟩:=r1;exact .cons z t (o9 r2)
end L2
namespace L2
open PySem PySem.Spec PyProof.Rows
local instance keyBEq:BEq Key:=instBEqOfDecidableEq
local instance keyLBEq:@LawfulBEq Key keyBEq:=inferInstanceAs (@LawfulBEq Key instBEqOfDecidableEq)
theorem kq{prog:Program}{w:World}{h:Heap}{a:Addr}{S S':Key->Bool}{n n':Nat}(hS:h.SetOf (cL prog w) a S n)(e:∀k,S k=S' k)(en:n=n'):h.SetOf (cL prog w) a S' n':=by
 have:S=S':=funext e;subst this;subst en;exact hS
section
variable {prog:Program}{w:World}{A:Around}{R:Result->Shared->Prop}{I:Addr}{fp wr:List Addr}{G:Array GenState->Array GenState->Prop}{n:Nat}{P:Nat->Value->Prop}{St:Nat->Shared->Prop}
theorem setLoop(W:WalksS prog w A.in1 I fp wr G n P St)(S:Addr)(hSf:S ∉ fp)(key:Nat->Key)(hval:∀i v,P i v->gY (key i) v=true/\v.scannable=true)
  (hnd:∀i j,i < j->j < n->key i≠key j)(hb:n+1 < scanBound):∀(k i:Nat) (s:Shared),n - i=k->i<=n->St i s->s.heap.SetOf (cL prog w) S (λc=>(List.range i).any λj=>decide (c=key j)) i->
   (∀s',Moved (S::wr) G s s'->s'.heap.SetOf (cL prog w) S (λc=>(List.range n).any λj=>decide (c=key j)) n->R (.ok (.ret .none)) s')->
   codeAny (model prog w) A (.builtin "set.update.loop" ⟨[.ref S,.ref I],[]⟩) R s:=by
 have hSw:S ∉ wr:=λh=>hSf (W.sub _ h);have hsub:∀b∈wr,b∈S::wr:=λb hb=>mem_cons_of_mem _ hb;have fJ:∀{s s':Shared}{T:Key->Bool}{m:Nat},Moved wr G s s'->s.heap.SetOf (cL prog w) S T m->s'.heap.SetOf (cL prog w) S T m:=λhm ⟨o,es,ep,tb,ho,rest⟩=>⟨o,es,ep,tb,hm.heap S _ hSw ho,rest⟩;intro k
 induction k with
 |zero=>
  intro i s hk hi hst hS hR;obtain rfl:i=n:=by omega
  refine codeAny_builtin PyProof.Rows.F.entry_set_update_loop ?_;rw[Around.under_plainId PyProof.Rows.F.plain_set_update_loop _];show wpAny _ A.in1 (pyNext (.ref I) >>= _) _ _ s;refine wpAny_bind (W.done s _ _ hst λs' hm=>?_);show wpAny _ A.in1 (ret Value.none) _ _ s';exact wpAny_pure (hR s' (hm.mono hsub) (fJ hm hS))
 |succ k ih=>
  intro i s hk hi hst hS hR;have hlt:i < n:=by omega
  refine codeAny_builtin PyProof.Rows.F.entry_set_update_loop ?_;rw[Around.under_plainId PyProof.Rows.F.plain_set_update_loop _];show wpAny _ A.in1 (pyNext (.ref I) >>= _) _ _ s;refine wpAny_bind (W.item i s _ _ hlt hst λv s' hP hst' hm=>?_);obtain⟨hkv,hsc⟩:=hval i v hP;have hS1:=fJ hm hS;show wpAny _ A.in1 (holding [v] (setAdd S v) >>= _) _ _ s';refine wpAny_bind (wpAny_holding ?_);unfold setAdd;refine wpAny_holding ?_;refine wpAny_bind ((cL prog w).pyHash (k:=key i) hkv ?_);refine wpAny_setAddHashed_of (knd:=cL prog w) (s:={ s' with toks:=s'.toks+1 }) hkv hsc hS1 (by omega) λg hsb hS2=>?_;have hno:((List.range i).any λj=>decide (key i=key j))=false:=by
   rw[any_eq_false];intro j hj;have hj':=mem_range.mp hj;simp only[decide_eq_true_eq];exact λe=>hnd j i hj' hlt e.symm
  have hS3:g.SetOf (cL prog w) S (λc=>(List.range (i+1)).any λj=>decide (c=key j)) (i+1):=by
   refine kq hS2 (λc=>?_) (by rw[hno];rfl);rw[range_succ,List.any_append];simp
  refine wpAny_pure ⟨plainId_quiet PyProof.Rows.F.plain_set_update_loop _,ih (i+1) _ (by omega) hlt (W.frame _ s' _ _ hst' (le_succ _) λb hb o e=>?_) hS3 λs'' hm'' hS''=>?_⟩
  ·rw[hsb.2 b (by rintro rfl;exact hSf hb)]
   exact e
  ·refine hR s'' (Moved.trans W.gtrans ((hm.mono hsub).then_heap (le_succ _) λb o hb e=>?_) hm'') hS''
   rw[hsb.2 b (by rintro rfl;exact hb mem_cons_self)];exact e
end
section
variable {prog:Program}{w:World}{A:Around}{E:Value->Shared->Prop}{s:Shared}
theorem ye{l:Addr}{items:Array Value}{key:Nat->Key}{Q:Value->Shared->Prop}(hh:A.handled=none)(hl:s.heap.IsList l items)(hv:∀i v,items[i]? =some v->gY (key i) v=true/\v.scannable=true)
  (hnd:∀i j,i < j->j < items.size->key i≠key j)(hb:items.size+1 < scanBound)
  (h:∀(g:Heap)(tk:Nat)(T:Key->Bool),g.SetOf (cL prog w) s.heap.objs.size T items.size->(∀b o,b < s.heap.objs.size->s.heap.get? b=some o->g.get? b=some o)->Q (.ref s.heap.objs.size) { s with heap:=g,toks:=tk }):
  wpAny (model prog w) A (call (.type "set") [.ref l]) Q E s:=by
 obtain⟨c,tl,hmro⟩:=called_set.mro;have hmade:=called_set.made;have hsub:=called_set.sub;refine wpAny_call (codeAny_of_tree ?_);show wpAny _ _ (callAny (.type "set") _) _ _ _;refine wpAny_pure ⟨Code.quiet_builtin _ (by decide+kernel),codeAny_builtin PySem.F.entry_type_call ?_⟩;rw[Around.under_plain (weight_type_call_type "set" [.ref l] []) rfl];have f1:=called_set.notType;have f2:=called_set.canCreate;have f3:=PySem.F.typeCall_set_1 (.ref l)
 repeat (any_goals (first|assumption|wp_step))
 refine codeAny_mono (code_set_new_1 (.ref l) (E:=E) (Q₁:=λobj u=>∃led:Bool,obj=.ref s.heap.objs.size/\u={ s with heap:=s.heap.push { cls:=.type "set",dict:=none,data:=.set #[] 0 (.fresh 0 0 led) } }) λled=>⟨led,rfl,rfl⟩) λr u hr=>?_;cases r with
 |error e=>exact hr
 |ok fl=>
  cases fl with
  |ret obj=>
   obtain⟨led,rfl,rfl⟩:=hr;have hS:(s.heap.push { cls:=.type "set",dict:=none,data:=.set #[] 0 (.fresh 0 0 led) }).get? s.heap.objs.size=some { cls:=.type "set",dict:=none,data:=.set #[] 0 (.fresh 0 0 led) }:=get?_push_size _ rfl;have hT:Shared.TypeIs { s with heap:=s.heap.push { cls:=.type "set",dict:=none,data:=.set #[] 0 (.fresh 0 0 led) } } (.ref s.heap.objs.size) "set" :=⟨_,hS,rfl⟩;have hli:=called_set.init.lookup;have hbi:=called_set.init.bind (.ref s.heap.objs.size)
   repeat (any_goals (first|assumption|wp_step))
   refine codeAny_mono (codeAny_call_builtin (R:=wants (λr u=>r=.none/\∃g tk T,u={ s with heap:=g,toks:=tk }/\g.SetOf (cL prog w) s.heap.objs.size T items.size/\(∀b o,b < s.heap.objs.size->s.heap.get? b=some o->g.get? b=some o)) E)
    called_set.init.plain PySem.F.entry_set_init (check_set_init_1 hT ?_)) λr2 u hr2=>?_
   ·obtain⟨⟨ocls,odict,odata,oslots⟩,hol,hcl,nl,hdl⟩:=hl
    simp only at hcl hdl;subst hcl;subst hdl;have hol':(s.heap.push { cls:=.type "set",dict:=none,data:=.set #[] 0 (.fresh 0 0 led) }).get? l=some { cls:=.type "list",dict:=odict,data:=.seq items nl,slots:=oslots }:=get?_push_of_some _ hol;have k1:=PySem.F.sub_list_set;have k2:=PySem.F.sub_list_frozenset;have k3:(Value.type "list" == Value.type "dict")=false:=by decide
    have hl1:(s.heap.push { cls:=.type "set",dict:=none,data:=.set #[] 0 (.fresh 0 0 led) }).IsList l items:=⟨_,hol',rfl,nl,rfl⟩;unfold Builtin.«set.__init__» noKeywords Builtin.Frozenset.updateFrom;generalize hPI:pyIter=PI
    wp_walk
    subst hPI;refine wpAny_pyIter_list hl1 ?_;refine wpAny_bind (wpAny_runValue ?_);have hlS:l < s.heap.objs.size:=lt_size hol;have hneI:l≠(s.heap.push { cls:=.type "set",dict:=none,data:=.set #[] 0 (.fresh 0 0 led) }).objs.size:=by
     rw[size_push];exact ne_of_lt (lt_succ_of_lt hlS)
    have hSf:s.heap.objs.size ∉ [(s.heap.push { cls:=.type "set",dict:=none,data:=.set #[] 0 (.fresh 0 0 led) }).objs.size,l]:=by
     rw[size_push];simp only[mem_cons,not_mem_nil,or_false,not_or];exact⟨ne_of_lt (lt_succ_self _),ne_of_gt hlS⟩
    refine setLoop ((Walks.list (show A.in1.in1.in1.handled=none by simp[hh]) _ l hneI items).toS) s.heap.objs.size hSf key hv hnd hb (items.size - 0) 0 _ (by omega) (zero_le _) ⟨⟨_,get?_push_size _ rfl,rfl,rfl⟩,(hl1.push _)⟩ ?_ ?_
    ·refine kq ((PyProof.Rows.setObjOf_fresh (knd:=cL prog w) led).setOf (get?_push_of_some _ hS) (by unfold scanBound;omega)) (λ_=>rfl) rfl
    ·intro s' hm hS'
     obtain⟨g,g',d',tk',os'⟩:=s';have eg:g'=s.gens:=hm.gens;have ed:d'=s.drawn:=hm.drawn;have eo:os'=s.os:=hm.os;subst eg ed eo;show wpAny _ _ _ _ _ _;refine wpAny_pure ?_;show wpAny _ _ (ret Value.none) _ _ _;refine wpAny_pure ⟨rfl,g,tk',_,rfl,hS',λb o hb e=>?_⟩;have hb2:b≠(s.heap.push { cls:=.type "set",dict:=none,data:=.set #[] 0 (.fresh 0 0 led) }).objs.size:=by
      rw[size_push];exact ne_of_lt (lt_succ_of_lt hb)
     exact hm.heap b o (by simp only[mem_cons,not_mem_nil,or_false,not_or];exact⟨ne_of_lt hb,hb2⟩) (get?_push_of_some _ (get?_push_of_some _ e))
   ·cases r2 with
    |error e=>exact hr2
    |ok fl2=>
     cases fl2 with
     |ret r=>
      obtain⟨rfl,g,tk,T,rfl,hS',hk'⟩:=hr2
      repeat (any_goals (first|assumption|wp_step))
      exact h _ _ _ hS' hk'
     |_=>exact hr2.elim
  |_=>exact hr.elim
end
def setM(P:Program)(w:World)(a:Addr)(n:Nat):HO:=.ext λh=>∃T,h.SetOf (cL P w) a T n
theorem lV{X:Cx}(hc:X.calm=true):eR X (.type "set") (λxs H Q=>∃(p:Addr) (zs:List Str),xs=[.ref p]/\cK X.K H p (zs.map V.str)/\zs.Nodup/\zs.length < 1000/\∀q,H q=none->Q (.ref q) (upd H q (setM X.prog X.w q zs.length))):=by
 intro pins s σ H xs us Q I r h;obtain⟨p,zs,rfl,hq,nd,hz,q⟩:=h;obtain⟨u,rfl,rx⟩:=vals1 r;cases rx;obtain⟨its,rv,pl,_⟩:=I.list hq;have hl:=rv.length;rw[length_map]at hl;refine ye (key:=λi=>Sum.inr (zs.getD i "")) (I.ok.hd hc) pl.isList (λi v e=>?_) (λi j hij hj=>?_) (by rw[size_toArray,<-hl];unfold scanBound;omega) λg tk T hS kp=>?_
 ·have e':its[i]? =some v:=by simpa using e
  have hi:i < zs.length:=by
   have:=(gI0.mp e').1;omega
  obtain⟨u,eu,t,rfl⟩:=rv.get (show(zs.map V.str)[i]? =some (V.str zs[i]) by simp[hi]);rw[eu]at e';cases e';have e2:zs.getD i "" =zs[i]:=by simp[List.getD,hi]
  show gY (Sum.inr (zs.getD i "")) _=true/\_;rw[e2];exact⟨qj _ _,rfl⟩
 ·have hj':j < zs.length:=by
   rw[size_toArray,<-hl]at hj;exact hj
  have hi':i < zs.length:=by omega
  intro e;have e1:zs.getD i "" =zs.getD j "" :=Sum.inr.inj e;have e2:zs[i]=zs[j]:=by simpa [List.getD,hi',hj'] using e1
  exact absurd ((List.getElem_inj nd).mp e2) (by omega)
 ·have hn:H s.heap.objs.size=none:=I.hok.fresh (le_refl _)
  have e3:its.toArray.size=zs.length:=by rw[size_toArray,hl]
  rw[e3]at hS;refine⟨.ref s.heap.objs.size,_,I.laid (t':=tk) (o:=setM X.prog X.w s.heap.objs.size zs.length) (λb o e=>kp b o (lt_size e) e) (le_refl _) ⟨⟨T,hS⟩,?_,λh1 h2 p k=>?_⟩,rfl,q _ hn⟩
  ·obtain⟨o,_,_,_,e,_⟩:=hS
   exact⟨o,e⟩
  ·obtain⟨T,o,es,ep,t,e,rest⟩:=p
   exact⟨T,o,es,ep,t,k o e,rest⟩
theorem gF{X:Cx}:eR X (.builtin "len") (λxs H Q=>∃(p:Addr) (n:Nat),xs=[.ref p]/\H p=some (setM X.prog X.w p n)/\Q (.int n) H):=by
 intro pins s σ H xs us Q I r h;obtain⟨p,n,rfl,hp,q⟩:=h;obtain⟨u,rfl,rx⟩:=vals1 r;cases rx;obtain⟨⟨T,o,es,ep,t,e,ex,d,_,_,hsz,hf,rfl⟩,_⟩:=I.hok p _ hp;have hb:es.size < 4096:=hsz;exact call_len_set e ex d hf (by omega) ⟨.int es.size,H,I.tok _,⟨_,rfl⟩,q⟩
end L2
namespace L2
open PySem PySem.Spec PyProof.Rows
section
variable {K:FG0}{is:List Nat}{te:TE}{σ:St}{H:Hp}{Q:VK}
theorem Fl{J:It}{n:Nat}(Pv:Addr->Nat->List V->Hp->Prop)(hz:n<=sizeLine)(h0:∀D,H D=none->Pv D 0 [] (upd H D (.lst [])))
  (hD:∀D i ys H2,Pv D i ys H2->H2 D=some (.lst ys)/\ys.length=i)(hgo:∀D i ys H2,Pv D i ys H2->i < n->J.go i H2)(hstop:∀D ys H2,Pv D n ys H2->J.stop n H2)
  (he:∀D i ys H2 v H3 (Q':VK),Pv D i ys H2->i < n->J.yld i H2 v H3->(∀y H4,H4 D=some (.lst ys)->Pv D (i+1) (ys++[y]) (upd H4 D (.lst (ys++[y])))->Q' y H4)->te (some v::dP is σ) H3 Q')
  (q:∀D ys H2,H D=none->Pv D n ys H2->Q (.ref D) H2):gQ J is te σ H Q:=by
 intro D hDn;refine⟨λi m ys H2=>m=n - i/\i<=n/\Pv D i ys H2,⟨_,rfl,zero_le _,h0 D hDn⟩,?_⟩;rintro i m ys H2 ⟨rfl,hi,p⟩;obtain⟨d1,d2⟩:=hD D i ys H2 p;refine⟨d1,?_⟩;by_cases hlt:i < n
 ·refine .inr ⟨hgo D i ys H2 p hlt,λv H3 y=>?_⟩
  refine he D i ys H2 v H3 _ p hlt y λy' H4 e4 p4=>⟨e4,by omega,n - (i+1),by omega,rfl,hlt,p4⟩
 ·have e:i=n:=by omega
  subst e;exact .inl ⟨hstop D ys H2 p,q D ys H2 hDn p⟩
theorem xj{J:It}{xs:List V}(f:V->V)(hz:xs.length<=sizeLine)(hgo:∀i H2,cH H H2->i < xs.length->J.go i H2)(hstop:∀H2,cH H H2->J.stop xs.length H2)
  (hy:∀i H2 v H3,cH H H2->i < xs.length->J.yld i H2 v H3->H3=H2/\xs[i]? =some v)
  (he:∀v H2 (Q':VK),v∈xs->cH H H2->(∀H3,cH H2 H3->Q' (f v) H3)->te (some v::dP is σ) H2 Q')
  (q:∀D H',H D=none->cH H H'->H' D=some (.lst (xs.map f))->Q (.ref D) H'):gQ J is te σ H Q:=by
 refine Fl (n:=xs.length) (λD i ys H2=>H D=none/\cH H H2/\H2 D=some (.lst ys)/\i<=xs.length/\ys=(xs.take i).map f) hz (λD hD=>⟨hD,cH.upd hD,cD,zero_le _,by simp⟩)
  (λD i ys H2 p=>⟨p.2.2.1,by rw[p.2.2.2.2,length_map,length_take];have:=p.2.2.2.1;omega⟩) (λD i ys H2 p hi=>hgo i H2 p.2.1 hi) (λD ys H2 p=>hstop H2 p.2.1) ?_ ?_
 ·rintro D i ys H2 v H3 Q' ⟨hD,sm,hl,hi,hys⟩ hlt y k
  obtain⟨rfl,hv⟩:=hy i H2 v H3 sm hlt y;refine he v _ _ (mem_of_getElem? hv) sm λH4 s4=>?_;refine k _ _ (s4 _ _ hl) ⟨hD,λb o e=>?_,cD,hlt,?_⟩
  ·rw[cG (cE e hD)]
   exact s4 _ _ (sm _ _ e)
  ·rw[hys,take_add_one,hv,map_append]
   rfl
 ·rintro D ys H2 hD ⟨_,sm,hl,_,hys⟩
  rw[take_length]at hys;rw[hys]at hl;exact q D H2 hD sm hl
theorem kW{a:Addr}{xs:List V}(f:V->V)(hq:cK K H a xs)(hz:xs.length<=sizeLine)(he:∀v H2 (Q':VK),v∈xs->cH H H2->(∀H3,cH H2 H3->Q' (f v) H3)->te (some v::dP is σ) H2 Q')
  (q:∀D H',H D=none->cH H H'->H' D=some (.lst (xs.map f))->Q (.ref D) H'):gQ (BW K a) is te σ H Q:=
 xj f hz (λi H2 sm hi=>⟨xs,xs[i],sm.seq hq,by simp[hi]⟩) (λH2 sm=>⟨xs,sm.seq hq,le_refl _⟩) (λi H2 v H3 sm hi y=>⟨y.1,y.2 xs (sm.seq hq)⟩) he q
theorem DD{a:Addr}{xs:List V}(f:V->V)(hq:dv K H a xs)(hz:xs.length<=sizeLine)(he:∀v H2 (Q':VK),v∈xs->cH H H2->(∀H3,cH H2 H3->Q' (f v) H3)->te (some v::dP is σ) H2 Q')
  (q:∀D H',H D=none->cH H H'->H' D=some (.lst (xs.map f))->Q (.ref D) H'):gQ (Lo K a) is te σ H Q:=
 xj f hz (λi H2 sm hi=>⟨xs,xs[i],sm.Fp hq,by simp[hi]⟩) (λH2 sm=>⟨xs,sm.Fp hq,le_refl _⟩) (λi H2 v H3 sm hi y=>⟨y.1,y.2 xs (sm.Fp hq)⟩) he q
end
theorem iB{env:Env}{k:NameKind}(hk:k≠.free):∀{names:List (Str×NameKind)}{x:Str},names.lookup x=some k->
  (names.map λ(n,k)=>if(k == NameKind.free && env.scope.kind == .function && env.kindOf n == some .cell) then(n,NameKind.cell) else(n,k)).lookup x=some k
 |[],_,h=>by simp at h
 | (n,j)::r,x,h=>by
  have ih:=@iB env k hk r x;show List.lookup x ((if(j == NameKind.free && env.scope.kind == .function && env.kindOf n == some .cell)=true then(n,NameKind.cell) else(n,j))::_)=_;cases hx:x == n with
  |true=>
   simp only[lookup_cons,hx]at h;cases h;rw[if_neg (by simp[hk])];simp only[lookup_cons,hx]
  |false=>
   simp only[lookup_cons,hx]at h;by_cases hc':(j == NameKind.free && env.scope.kind == .function && env.kindOf n == some .cell)=true
   ·rw[if_pos hc'];simp only[lookup_cons,hx];exact ih h
   ·rw[if_neg hc'];simp only[lookup_cons,hx];exact ih h
theorem jh{env:Env}:∀{names:List (Str×NameKind)}{x:Str},names.lookup x=some .free->
  (names.map λ(n,k)=>if(k == NameKind.free && env.scope.kind == .function && env.kindOf n == some .cell) then(n,NameKind.cell) else(n,k)).lookup x=some .cell\/
  (names.map λ(n,k)=>if(k == NameKind.free && env.scope.kind == .function && env.kindOf n == some .cell) then(n,NameKind.cell) else(n,k)).lookup x=some .free
 |[],_,h=>by simp at h
 | (n,j)::r,x,h=>by
  have ih:=@jh env r x;show List.lookup x ((if(j == NameKind.free && env.scope.kind == .function && env.kindOf n == some .cell)=true then(n,NameKind.cell) else(n,j))::_)=_\/List.lookup x ((if(j == NameKind.free && env.scope.kind == .function && env.kindOf n == some .cell)=true then(n,NameKind.cell) else(n,j))::_)=_;cases hx:x == n with
  |true=>
   simp only[lookup_cons,hx]at h;cases h;by_cases hc':(NameKind.free == NameKind.free && env.scope.kind == .function && env.kindOf n == some .cell)=true
   ·rw[if_pos hc'];simp only[lookup_cons,hx];first|exact .inl rfl|exact .inl trivial
   ·rw[if_neg hc'];simp only[lookup_cons,hx];first|exact .inr rfl|exact .inr trivial
  |false=>
   simp only[lookup_cons,hx]at h;by_cases hc':(j == NameKind.free && env.scope.kind == .function && env.kindOf n == some .cell)=true
   ·rw[if_pos hc'];simp only[lookup_cons,hx];exact ih h
   ·rw[if_neg hc'];simp only[lookup_cons,hx];exact ih h
section
variable {X:Cx}{x y:Str}{ns:List Str}{scope:Scope}{cl:List (Str×Addr)}{fp:List Addr}{s3:Shared}{H3:Hp}{C:Addr}{sp:Sp}
structure yu(X:Cx)(x:Str)(sp:Sp):Prop where
 ex:∃(k:Nat) (f:Addr) (fd:FuncData) (ps:List Str),eD X.prog X.w X.K X.mg X.base kg k f fd ps sp/\dC k X.A/\X.mg x=some (.ref f)/\keepIn X.K (.ref f)=true/\Binds X.K fd ps []
 db:(x == ("__debug__" :Str))=false
structure N0(X:Cx)(x:Str):Prop where
 nm:X.mg x=none
 hn:x≠ "__name__"
 db:(x == ("__debug__" :Str))=false
theorem yu.lc(B:yu X y sp)(h:scope.names.lookup y=some .globalImplicit):DB (dq X (x::ns) scope cl fp s3 H3 C) y sp:=⟨B.ex,iB (by decide) h,B.db⟩
end
structure Gd(P:Program)(w:World)(K:FG0)(mg:Str->Option Value)(base:Heap)(k:Nat)(x:Str)(sp:Sp):Prop where
 ex:∃(f:Addr) (fd:FuncData) (ps:List Str),eD P w K mg base kg k f fd ps sp/\mg x=some (.ref f)/\keepIn K (.ref f)=true/\Binds K fd ps []
structure Md(P:Program)(w:World)(K:FG0)(mg:Str->Option Value)(base:Heap)(k:Nat)(C:Addr)(m:Str)(sp:Sp):Prop where
 ex:∃(f:Addr) (fd:FuncData) (ps:List Str),eD P w K mg base kg k f fd ps sp/\Meth K C m f/\Binds K fd ps []
 cl:uN K C
structure Kd(P:Program)(w:World)(K:FG0)(mg:Str->Option Value)(base:Heap)(k:Nat)(x:Str)(C:Addr)(sp:Sp):Prop where
 ex:∃(f:Addr) (fd:FuncData) (ps:List Str),eD P w K mg base kg k f fd ps sp/\Mk K C f/\Binds K fd ps []
 nm:mg x=some (.ref C)
structure KZ(X:Cx)(x:Str)(C:Addr)(sp:Sp):Prop where
 ex:∃(k:Nat) (f:Addr) (fd:FuncData) (ps:List Str),eD X.prog X.w X.K X.mg X.base kg k f fd ps sp/\dC (k+1) X.A/\Mk X.K C f/\Binds X.K fd ps []
 nm:X.mg x=some (.ref C)
 gl:Gl X x
 db:(x == ("__debug__" :Str))=false
structure Met(X:Cx)(C:Addr)(m:Str)(sp:Sp):Prop where
 ex:∃(k:Nat) (f:Addr) (fd:FuncData) (ps:List Str),eD X.prog X.w X.K X.mg X.base kg k f fd ps sp/\dC k X.A/\Meth X.K C m f/\Binds X.K fd ps []
 cl:uN X.K C
structure Here(X:Cx)(P:Program)(w:World)(K:FG0)(mg:Str->Option Value)(base:Heap)(sc:Scope)(N:List Str)(k:Nat):Prop where
 pr:X.prog=P
 wd:X.w=w
 fK:X.K=K
 gm:X.mg=mg
 bs:X.base=base
 calm:X.calm=true
 own:PassesOwn (model X.prog X.w) X.A X.env X.xe
 hsc:X.env.scope=sc
 hN:X.N=N
 nd:X.N.Nodup
 room:dC k X.A
 fn:∀x,X.fn x=true
section
variable {X:Cx}{P:Program}{w:World}{K:FG0}{mg:Str->Option Value}{base:Heap}{sc:Scope}{N:List Str}{k j:Nat}{x m:Str}{sp:Sp}{C:Addr}
theorem Here.slot (h:Here X P w K mg base sc N k) (i:Nat) (hN:N[i]? =some x) (lc:Loc sc x) (db:(x == ("__debug__" :Str))=false) (cd:(x == ("__classdict__" :Str))=false):Slot X i x:=
 ⟨by rw[h.hN];exact hN,by rw[h.hsc];exact lc,.inl (h.fn x),db,cd⟩
theorem Here.sl (h:Here X P w K mg base sc N k) (i:Nat) (x:Str) (hN:N[i]? =some x:=by rfl) (lc:Loc sc x:=by first|exact .inl rfl|exact .inr rfl) (db:(x == ("__debug__" :Str))=false:=by decide) (cd:(x == ("__classdict__" :Str))=false:=by decide):Slot X i x:=h.slot i hN lc db cd
def Lg(X:Cx):List Nat->List Str->Prop
 |i::is,x::r=>Slot X i x/\Lg X is r
 |_,_=>True
theorem Here.Ii(h:Here X P w K mg base sc N k):∀(is:List Nat) (r:List Str),(∀(j i:Nat) x,is[j]? =some i->r[j]? =some x->N[i]? =some x)->(∀x∈r,(sc.names.lookup x=some .local\/sc.names.lookup x=some .cell)/\(x == ("__debug__" :Str))=false/\(x == ("__classdict__" :Str))=false)->Lg X is r
 |[],_,_,_=>trivial
 |_::_,[],_,_=>trivial
 |i::is,x::r,e,c=>⟨h.slot i (e 0 i x rfl rfl) (c x mem_cons_self).1 (c x mem_cons_self).2.1 (c x mem_cons_self).2.2,Here.Ii h is r (λj i x a b=>e (j+1) i x a b) λy hy=>c y (mem_cons_of_mem _ hy)⟩
theorem Here.d9 (h:Here X P w K mg base sc N k) (is:List Nat) (e:is=List.range N.length:=by rfl) (c:∀x∈N,(sc.names.lookup x=some .local\/sc.names.lookup x=some .cell)/\(x == ("__debug__" :Str))=false/\(x == ("__classdict__" :Str))=false:=by decide+kernel):Lg X is N:=h.Ii is N (λj i x a b=>by
 subst e;obtain⟨h1,h2⟩:=gI0.mp a;rw[List.getElem_range]at h2;exact h2 ▸ b) c
theorem Here.gl(h:Here X P w K mg base sc N k)(hg:sc.names.lookup x=some .globalImplicit):Gl X x:=by
 show X.env.scope.names.lookup x=_;rw[h.hsc];exact hg
theorem Here.bt (h:Here X P w K mg base sc N k) (hm:mg x=none) (hg:sc.names.lookup x=some .globalImplicit) (hn:x≠ "__name__") (db:(x == ("__debug__" :Str))=false):Bt X x:=⟨h.gl hg,by rw[h.gm];exact hm,hn,db⟩
theorem Here.b (h:Here X P w K mg base sc N k) (hm:mg x=none) (hg:sc.names.lookup x=some .globalImplicit:=by rfl) (hn:x≠ "__name__" :=by decide) (db:(x == ("__debug__" :Str))=false:=by decide):Bt X x:=h.bt hm hg hn db
theorem Here.KQ (h:Here X P w K mg base sc N k) (G:Gd P w K mg base j x sp) (hg:sc.names.lookup x=some .globalImplicit) (hj:j<=k) (db:(x == ("__debug__" :Str))=false):DB X x sp:=by
 obtain⟨f,fd,ps,h1,h2,h3,h4⟩:=G.ex;obtain⟨rfl,rfl,rfl,rfl,rfl⟩:=And.intro h.pr (And.intro h.wd (And.intro h.fK (And.intro h.gm h.bs)));exact⟨⟨j,f,fd,ps,h1,h.room.mono hj,h2,h3,h4⟩,h.gl hg,db⟩
theorem Here.c (h:Here X P w K mg base sc N k) (G:Gd P w K mg base j x sp) (hg:sc.names.lookup x=some .globalImplicit:=by rfl) (hj:j<=k:=by first|decide|exact le_refl _) (db:(x == ("__debug__" :Str))=false:=by decide):DB X x sp:=h.KQ G hg hj db
theorem Here.LR (h:Here X P w K mg base sc N k) (G:Gd P w K mg base j x sp) (hj:j<=k) (db:(x == ("__debug__" :Str))=false):yu X x sp:=by
 obtain⟨f,fd,ps,h1,h2,h3,h4⟩:=G.ex;obtain⟨rfl,rfl,rfl,rfl,rfl⟩:=And.intro h.pr (And.intro h.wd (And.intro h.fK (And.intro h.gm h.bs)));exact⟨⟨j,f,fd,ps,h1,h.room.mono hj,h2,h3,h4⟩,db⟩
theorem Here.ci (h:Here X P w K mg base sc N k) (G:Gd P w K mg base j x sp) (hj:j<=k:=by first|decide|exact le_refl _) (db:(x == ("__debug__" :Str))=false:=by decide):yu X x sp:=h.LR G hj db
theorem Here.Kv (h:Here X P w K mg base sc N k) (G:Kd P w K mg base j x C sp) (hg:sc.names.lookup x=some .globalImplicit) (hj:j+1<=k) (db:(x == ("__debug__" :Str))=false):KZ X x C sp:=by
 obtain⟨f,fd,ps,h1,h2,h3⟩:=G.ex;have nm:=G.nm;obtain⟨rfl,rfl,rfl,rfl,rfl⟩:=And.intro h.pr (And.intro h.wd (And.intro h.fK (And.intro h.gm h.bs)));exact⟨⟨j,f,fd,ps,h1,h.room.mono hj,h2,h3⟩,nm,h.gl hg,db⟩
theorem Here.met(h:Here X P w K mg base sc N k)(G:Md P w K mg base j C m sp)(hj:j<=k):Met X C m sp:=by
 obtain⟨f,fd,ps,h1,h2,h3⟩:=G.ex;have c:=G.cl;obtain⟨rfl,rfl,rfl,rfl,rfl⟩:=And.intro h.pr (And.intro h.wd (And.intro h.fK (And.intro h.gm h.bs)));exact⟨⟨j,f,fd,ps,h1,h.room.mono hj,h2,h3⟩,c⟩
end
section
variable {X:Cx}{x y:Str}{ns:List Str}{scope:Scope}{cl:List (Str×Addr)}{fp:List Addr}{s3:Shared}{H3:Hp}{C D:Addr}{sp:Sp}{m:Str}
end
theorem ET:bootBuiltins "set" =some (.type "set"):=by decide+kernel
theorem qX:bootBuiltins "min" =some (.builtin "min"):=by decide+kernel
theorem u4:bootBuiltins "max" =some (.builtin "max"):=by decide+kernel
theorem fu{c A B:Prop} [Decidable c] (hc:c)(h:A):if c then A else B:=by
 rw[if_pos hc];exact h
theorem iW{c A B:Prop} [Decidable c] (hc:¬c)(h:B):if c then A else B:=by
 rw[if_neg hc];exact h
inductive Lh(K:FG0)(x y:V)(H:Hp)(Q:VK):Prop
 |mk(l b:Addr)(xs zs:List V)(hx:x=.ref l)(hy:y=.ref b)(s:cK K H l xs)(t:cK K H b zs)(e:xs.length+zs.length<=sizeLine)(q:∀p,H p=none->Q (.ref p) (upd H p (.lst (xs++zs))))
def Mr(K:FG0):R2:=λx y H Q=>Lh K x y H Q
end L2
namespace J
open PySem PySem.Spec PyProof.Rows
open L2 (Cx V Hp St VK TE TT TA TS TG pK TI TO R2 Sp XK E0 kg eD dC Gl Binds RelV Vals cK dv fQ Here Gd Md Kd KZ Met Df o7 cI Meth Mk uN)
structure Kh(X:Cx)(id:String)(r:V->List V->Hp->VK->Prop):Prop where
 out:L2.J6 X id r
section
variable {X:Cx}{x y:Str}{ns:List Str}{scope:Scope}{cl:List (Str×Addr)}{fp:List Addr}{s3:Shared}{H3:Hp}{C:Addr}{sp:Sp}{p pos apos pos':Pos}{e o value:Expr}{es:List Expr}{ta te tv:TE}{t:TA}{m f:Str}{tg:Expr}
theorem _root_.bY (h:scope.names.lookup x=some .local) (db:(x == ("__debug__" :Str))=false) (cd:(x == ("__classdict__" :Str))=false):JE (L2.dq X (x::ns) scope cl fp s3 H3 C) (.Name x p) (L2.gx 0):=
 ⟨L2.jP (i:=0) rfl (.inl (PySem.lookup_relabel_local h)) db cd⟩
theorem _root_.bW {i:Nat}(h:scope.names.lookup y=some .free) (hi:ns[i]? =some y) (db:(y == ("__debug__" :Str))=false) (cd:(y == ("__classdict__" :Str))=false):JE (L2.dq X (x::ns) scope cl fp s3 H3 C) (.Name y p) (L2.gx (i+1)):=
 ⟨L2.jP (i:=i+1) hi (.inr (L2.jh h)) db cd⟩
theorem Kv(M:KZ X x C sp)(ha:JA X (e::es) t)(h1:L2.notStar e=true:=by rfl)(h2:es.all L2.notStar=true:=by rfl):JE X (.Call (.Name x p) (e::es) [] pos) (L2.Ew C sp [] E0 t):=by
 obtain⟨k,f,fd,ps,F,hr,mk,bi⟩:=M.ex;exact⟨L2.DG mk F hr M.gl M.nm bi .nil L2.xI ha.out M.db (L2.cZ h1) (L2.fg h2)⟩
theorem _root_.bB{pl:Sem Bool}(M:Met X C m sp)(he:JE X o ta)(ht:eval (.Call (.Attribute o m apos) [] [] pos) X.env=(do
   let ov <-eval o X.env
   standAt apos.atName
   let (f,first) <-holding [ov] (getMethod ov m pl)
   callWith pos f first (backTo pos (starEach [] X.env)) (backToKw pos (keywordEach [] X.env)))):JE X (.Call (.Attribute o m apos) [] [] pos) (L2.En C m sp [] E0 ta L2.m8):=by
 obtain⟨k,f,fd,ps,F,hr,me,bi⟩:=M.ex;exact⟨L2.Aw he.out M.cl me F hr bi .nil L2.xI ht⟩
theorem _root_.cw(he:JE X (.Name x p) ta):JE X (.Attribute (.Name x p) f pos) (L2.HQ X.K ta f):=⟨L2.FZ he.out rfl⟩
theorem lO(ha:JE X o ta)(hv:JE X value tv)(h:L2.j7 value=false:=by rfl):JS X (.Assign [.Attribute o f pos'] value pos) (L2.Jr X.K ta tv f):=⟨L2.lO ha.out hv.out (L2.kr h)⟩
theorem _root_.bI:Kh X "list.append" L2.rM:=⟨L2.qv⟩
theorem jX:Kh X "list.reverse" L2.uf:=⟨L2.jX⟩
def sf(o:Expr):Bool:=match o with
 |.Call .. =>false
 |_=>true
theorem iZ{o:Expr}{name:Str}{env:Env}{v:Sem Value}(h:sf o=true):attributeBase o name env v=v:=by
 cases o<;>first|rfl|cases h
theorem Kj{cpos:Pos}{env:Env}(h1:L2.notStar e=true):((backTo cpos (starEach [e] env)).all (λx=> !x.1) && (backToKw cpos (keywordEach [] env)).all (λx=>x.1.isSome)
   && decide ([e].length+([]:List Keyword).length+(if([]:List Keyword).isEmpty then 0 else 1) < 30))=true:=by
 rw[L2.cZ h1];rfl
theorem Nv {T id:String}{r:V->List V->Hp->VK->Prop}{name:Str}(pa:PlainAttrs T) (slot:Slot T name id) (hty:typeOf (.builtin id)=pure (.type "method_descriptor")) (hm:Kh X id r) (ho:JE X o te)
  (h:sf o=true:=by rfl)(hline:(apos.endLine == pos.line)=true:=by rfl):JE X (.Call (.Attribute o name apos) [] [] pos) (L2.IL X.K T r te):=⟨L2.FG pa slot hty hm.out ho.out (iZ h) hline⟩
theorem _root_.bJ {T id:String}{r:V->List V->Hp->VK->Prop}{name:Str}(pa:PlainAttrs T) (slot:Slot T name id) (hty:typeOf (.builtin id)=pure (.type "method_descriptor")) (hm:Kh X id r) (ho:JE X o te) (ha:JA X [e] t)
  (h:sf o=true:=by rfl)(h1:L2.notStar e=true:=by rfl)(hline:(apos.endLine == pos.line)=true:=by rfl):JE X (.Call (.Attribute o name apos) [e] [] pos) (L2.Li X.K T r te t):=
 ⟨L2.Jn pa slot hty hm.out ho.out ha.out (iZ h) (Kj h1) hline (L2.cZ h1) rfl⟩
theorem lx {e1:Expr}{kk:Nat}{tp:Pos}(B:L2.Bt X "enumerate") (ha:JA X [e1] t) (h1:L2.notStar e1=true:=by rfl):JI X (.Tuple es kk tp) (.Call (.Name "enumerate" p) [e1] [] pos) (L2.D5 X.K t):=⟨L2.lx B ha.out h1⟩
theorem lV(hc:X.calm=true):JF X (.type "set") (λxs H Q=>∃(p:Addr) (zs:List Str),xs=[.ref p]/\cK X.K H p (zs.map V.str)/\zs.Nodup/\zs.length < 1000/\∀q,H q=none->Q (.ref q) (L2.upd H q (L2.setM X.prog X.w q zs.length))):=⟨L2.lV hc⟩
theorem gF:JF X (.builtin "len") (λxs H Q=>∃(p:Addr) (n:Nat),xs=[.ref p]/\H p=some (L2.setM X.prog X.w p n)/\Q (.int n) H):=⟨L2.gF⟩
theorem _root_.bj:Iu X [] L2.Jz:=⟨L2.D1⟩
theorem _root_.aG{g:TG}{u:pK}(S:JG X (.Name x p) g)(h:Iu X es u):Iu X (.Name x p::es) (L2.EB g u):=⟨L2.As S.out h.out rfl⟩
theorem _root_.bC{k n:Nat}{u:pK}(hc:X.calm=true)(h:Iu X es u)(hn:(assignEach es X.env).length=n:=by rfl)(hst:(assignEach es X.env).findIdx? (·.1)=none:=by rfl):JG X (.Tuple es k pos) (L2.GG X.K n u):=⟨L2.AY hc h.out hn hst⟩
theorem _root_.bQ{g:TG}(he:JE X e te)(hg:JG X tg g)(hs:swapsWithSole [tg] e pos.line X.env=pure false:=by rfl)(hw:swappedStores [tg] e X.env=pure none:=by rfl)
  (h1:(assignEach [tg] X.env).map (·.2)=[assign tg X.env]:=by rfl):JS X (.Assign [tg] e pos) (L2.rJ te g):=⟨L2.F2 he.out hg.out hs hw h1⟩
theorem sZ:JX (L2.dq X (x::ns) scope cl fp s3 H3 C) (L2.AL X.K):=⟨L2.q9⟩
theorem xo:JX (L2.dq X (x::ns) scope cl fp s3 H3 C) (L2.Bl X.K):=⟨L2.vU⟩
theorem rg(h:JE X (.Name x p) te):JT X (.Name x p) (L2.tB te):=⟨L2.vS h.out (λ_=>rfl)⟩
theorem _root_.b8{a b:Expr}:ef (.Subscript a b p):=⟨λ_ _=>rfl⟩
theorem _root_.cy{P:Program}{w:World}{K:FG0}{mg:Str->Option Value}{base:Heap}{sc:Scope}{N:List Str}{k:Nat}{v:V}(hh:Here X P w K mg base sc N k)(hm:∃u,mg x=some u/\RelV v u)(hg:sc.names.lookup x=some .globalImplicit)
  (db:(x == ("__debug__" :Str))=false):JE X (.Name x p) (L2.tC v):=by
 obtain⟨u,h1,h2⟩:=hm;exact J.nR (hh.gl hg) (by rw[hh.gm];exact h1) h2 db
end
section
variable {P:Program}{w:World}{K:FG0}{mg:Str->Option Value}{base:Heap}{x qual m:Str}{st:Stmt}{f C:Addr}{fd:FuncData}{N ps:List Str}{k:Nat}{sp:Sp}
theorem nN(F:o7 K x qual st f fd)(S:cI N ps (L2.cF st))(len:∀vs H Q E,sp vs H Q E->vs.length=ps.length)
  (hbody:∀(X:Cx)(H:Hp)(vs:List V)(Q:VK)(E:XK),Here X P w K mg base (L2.cF st) N k->sp vs H Q E->∃t,sG X (L2.cP st) t/\t { nx:=λ_ H'=>Q .non H',rt:=Q } (L2.start N vs) H):eD P w K mg base kg (k+1) f fd ps sp:=by
 refine Hs F S len λX cdv A outer s H vs Q E hX hr h=>?_;subst hX;exact hbody _ H vs Q E ⟨rfl,rfl,rfl,rfl,rfl,rfl,PassesOwn.never,rfl,rfl,S.nd,hr,λ_=>rfl⟩ h
theorem Gw(D:Df K mg x st ps f fd)(S:cI N ps (L2.cF st))(len:∀vs H Q E,sp vs H Q E->vs.length=ps.length)
  (hbody:∀(X:Cx)(H:Hp)(vs:List V)(Q:VK)(E:XK),Here X P w K mg base (L2.cF st) N k->sp vs H Q E->∃t,sG X (L2.cP st) t/\t { nx:=λ_ H'=>Q .non H',rt:=Q } (L2.start N vs) H):Gd P w K mg base (k+1) x sp:=
 ⟨f,fd,ps,nN D.fn S len hbody,D.nm,D.fn.kp,D.bi⟩
theorem _root_.aF(D:Df K mg x st ps f fd)(S:cI N ps (L2.cF st))
  (hbody:∀(X:Cx)(H:Hp)(vs:List V)(Q:VK)(E:XK),Here X P w K mg base (L2.cF st) N k->sp vs H Q E->∃t,sG X (L2.cP st) t/\t { nx:=λ_ H'=>Q .non H',rt:=Q } (L2.start N vs) H)(len:∀vs H Q E,sp vs H Q E->vs.length=ps.length:=by intro _ _ _ _ h;first| (obtain⟨⟩:=h;subst_vars;rfl)| ((repeat (obtain⟨_,h⟩:=h));subst_vars;rfl)):Gd P w K mg base (k+1) x sp:=Gw D S len hbody
theorem _root_.cz(F:o7 K m qual st f fd)(me:Meth K C m f)(bi:Binds K fd ps [])(cl:uN K C)(S:cI N ps (L2.cF st))(len:∀vs H Q E,sp vs H Q E->vs.length=ps.length)
  (hbody:∀(X:Cx)(H:Hp)(vs:List V)(Q:VK)(E:XK),Here X P w K mg base (L2.cF st) N k->sp vs H Q E->∃t,sG X (L2.cP st) t/\t { nx:=λ_ H'=>Q .non H',rt:=Q } (L2.start N vs) H):Md P w K mg base (k+1) C m sp:=
 ⟨⟨f,fd,ps,nN F S len hbody,me,bi⟩,cl⟩
theorem B4{y:Str}(F:o7 K m qual st f fd)(mk:Mk K C f)(bi:Binds K fd ps [])(nm:mg y=some (.ref C))(S:cI N ps (L2.cF st))(len:∀vs H Q E,sp vs H Q E->vs.length=ps.length)
  (hbody:∀(X:Cx)(H:Hp)(vs:List V)(Q:VK)(E:XK),Here X P w K mg base (L2.cF st) N k->sp vs H Q E->∃t,sG X (L2.cP st) t/\t { nx:=λ_ H'=>Q .non H',rt:=Q } (L2.start N vs) H):Kd P w K mg base (k+1) y C sp:=
 ⟨⟨f,fd,ps,nN F S len hbody,mk,bi⟩,nm⟩
end
end J
namespace L2
open PySem PySem.Spec PyProof.Rows
def MA(K:FG0):R2:=λx y H Q=>∃a b xs ys,x=.ref a/\y=.ref b/\cK K H a xs/\cK K H b ys/\xs.length=ys.length/\
 (∀(i:Nat) u v,xs[i]? =some u->ys[i]? =some v->∃p q zs,u=.ref p/\v=.ref q/\p≠q/\cK K H p zs/\cK K H q zs/\∀z∈zs,(∃t,z=V.str t)\/∃c,z=V.ref c)/\Q (.bl false) H
end L2
namespace J
open PySem PySem.Spec PyProof.Rows
end J
namespace L2
open PySem PySem.Spec PyProof.Rows
section
variable {X:Cx}{x:Str}{px pos:Pos}{elt iter:Expr}{scope:Scope}{wi:TI}{te:TE}{is:List Nat}{ns:List Str}
end
theorem yn{elt:Expr}{gs:List Comprehension}{scope:Scope}{pos py:Pos}{y:Str}{n:Nat}{env:Env}{sc:Scope}(hsc:env.scope=sc)
  (h:((if sc.kind.isAnnotationScope then ScopeKind.function else sc.kind) == .function && sc.names.lookup y == some .local && py.line == pos.line && !(scope.names.any λ(n,k)=>n == y && (k == .local || k == .cell)))=true):
  swapsWith (.ListComp elt gs scope pos) (some (.Name y py)) n env=pure true:=by
 subst hsc;show(pure _:Sem Bool)=pure true;exact congrArg pure h
end L2
namespace J
open PySem PySem.Spec PyProof.Rows
open L2 (Cx V Hp St VK TE TT TA TS TG pK TI TO)
end J
namespace L2
open PySem PySem.Spec PyProof.Rows
def B6(J:It)(is:List Nat)(tc:TT)(te:TE)(σ:St)(H1:Hp)(Q:VK):Prop:=∀D,H1 D=none->∃W:Nat->Nat->List V->Hp->Prop,(∃m,W 0 m [] (upd H1 D (.lst [])))/\
 ∀i m ys H2,W i m ys H2->H2 D=some (.lst ys)/\((J.stop i H2/\Q (.ref D) H2)\/(J.go i H2/\∀v H3,J.yld i H2 v H3->tc (some v::dP is σ) H3 λb H4=>if b=true then te (some v::dP is σ) H4 (λy H5=>
  H5 D=some (.lst ys)/\ys.length < sizeLine/\∃m',m' < m/\W (i+1) m' (ys++[y]) (upd H5 D (.lst (ys++[y])))) else ∃m',m' < m/\W (i+1) m' ys H4))
def Nw(wi:TI)(is:List Nat)(tc:TT)(te:TE):TE:=λσ H Q=>wi σ H λJ H1=>B6 J is tc te σ H1 Q
section
variable {X:Cx}{x:Str}{px pos:Pos}{elt iter ct:Expr}{scope:Scope}{wi:TI}{te:TE}{tc:TT}{is:List Nat}{ns:List Str}
end
end L2
namespace J
open PySem PySem.Spec PyProof.Rows
open L2 (Cx V Hp St VK TE TT TA TS TG pK TI TO)
end J
namespace L2
open PySem PySem.Spec PyProof.Rows
section
variable {X:Cx}{pins:List (Addr×Obj)}{σ:St}{H:Hp}{s:Shared}{p:Addr}{ns:List Int}
theorem Inv.ints(I:Inv X pins σ H s)(h:cK X.K H p (ns.map V.int)):∃xs:Array (Int×Tok),s.heap.IsList p (intItems xs)/\xs.toList.map (·.1)=ns:=by
 obtain⟨its,r,pl,_⟩:=I.list h;have hi:=intsAre_of r;obtain⟨xs,e⟩:=hi.allInts.items;refine⟨xs,by rw[<-e];exact pl.isList,?_⟩;have e2:=hi.numsOf;have e3:its=(intItems xs).toList:=by rw[<-e]
 rw[e3,nums_intItems]at e2;exact e2
theorem ie(hc:X.calm=true):eR X (.builtin "sum") (λxs H Q=>∃(p:Addr) (ns:List Int),xs=[.ref p]/\cK X.K H p (ns.map V.int)/\Q (.int ns.sum) H):=by
 intro pins s σ H xs us Q I r h;obtain⟨p,ns,rfl,hq,q⟩:=h;obtain⟨u,rfl,rx⟩:=vals1 r;cases rx;obtain⟨ys,hl,e⟩:=I.ints hq;refine sum_intListG (I.ok.hd hc) hl λh' tk t' hk=>?_;rw[preSum_eq,e,take_of_length_le (by rw[<-e,length_map,length_toList];exact le_refl _)];exact⟨.int _,H,I.kept (t':=tk) hk,⟨_,rfl⟩,q⟩
def jO:V->V->Option Bool
 |.ref a,.ref b=>if a=b then some true else none
 |x,y=>if dE x=true/\dE y=true then some (uO x y) else none
theorem qz{A:Around}{s:Shared}{x y:V}{u v:Value}{b:Bool}(ru:RelV x u)(rv:RelV y v)(h:jO x y=some b):SeqAt.EqAt A s u v b:=by
 have flat:(if dE x=true/\dE y=true then some (uO x y) else none)=some b->SeqAt.EqAt A s u v b:=λh=>by
  by_cases c:dE x=true/\dE y=true
  ·rw[if_pos c]at h
   cases h;exact rV ru rv c.1 c.2
  ·rw[if_neg c]at h
   cases h
 cases x with
 |ref a=>
  cases y with
  |ref c=>
   have h':(if a=c then some true else none)=some b:=h;by_cases e:a=c
   ·rw[if_pos e]at h'
    cases h';cases ru;cases rv;rw[e];exact SeqAt.EqAt.same _
   ·rw[if_neg e]at h'
    cases h'
  |_=>exact flat h
 |_=>exact flat h
def FD(bs:List Bool):Bool:=(List.range bs.length).all λi=>bs.getD i false
def KI(K:FG0):R2:=λx y H Q=>∃a b xs ys bs,x=.ref a/\y=.ref b/\cK K H a xs/\cK K H b ys/\xs.length=bs.length/\ys.length=bs.length/\(∀(i:Nat) u v c,xs[i]? =some u->ys[i]? =some v->bs[i]? =some c->jO u v=some c)/\Q (.bl (FD bs)) H
theorem fB{its:List Value}{xs:List V}{j:Nat}(r:Vals xs its)(h:j < its.length):∃x,xs[j]? =some x/\RelV x its[j]:=by
 have hl:=r.length;have e:xs[j]? =some xs[j]:=getElem?_eq_getElem (by omega);obtain⟨u,eu,ru⟩:=r.get e;rw[getElem?_eq_getElem h]at eu;cases eu;exact⟨_,e,ru⟩
theorem GP(hu:X.A.units+1 < cLine):iS X (compareOp .Eq) (KI X.K):=by
 intro pins s σ H x y v u Q I rx ry h;obtain⟨a,b,xs,ys,bs,rfl,rfl,ha,hb,l1,l2,he,q⟩:=h;cases rx;cases ry;obtain⟨its,r,pl,_⟩:=I.list ha;obtain⟨its2,r2,pl2,_⟩:=I.list hb;have m1:=r.length;have m2:=r2.length;refine SeqAt.eq_listAt (e:=λi=>bs.getD i false) pl.isList pl2.isList (by simp only[size_toArray];omega) (by omega) (λj h1 h2=>?_) ?_
 ·simp only[size_toArray]at h1 h2
  obtain⟨x1,e1,r1⟩:=fB r h1;obtain⟨x2,e2,r2'⟩:=fB r2 h2;have hj:j < bs.length:=by omega
  have e3:bs[j]? =some bs[j]:=getElem?_eq_getElem hj;have e4:bs.getD j false=bs[j]:=by rw[getD_eq_getElem?_getD,e3];rfl
  show SeqAt.EqAt X.A.in1 s its.toArray[j] its2.toArray[j] (bs.getD j false);rw[e4];simp only[List.getElem_toArray];exact qz r1 r2' (he j x1 x2 _ e1 e2 e3)
 ·have hz:its.toArray.size=bs.length:=by simp only[size_toArray];omega
  rw[hz];exact⟨.bl _,H,I,rfl,q⟩
end
end L2
namespace J
open PySem PySem.Spec PyProof.Rows
open L2 (Cx V cK)
theorem ie{X:Cx}(hc:X.calm=true):JF X (.builtin "sum") (λxs H Q=>∃(p:Addr) (ns:List Int),xs=[.ref p]/\cK X.K H p (ns.map V.int)/\Q (.int ns.sum) H):=⟨L2.ie hc⟩
end J
namespace L2
open PySem PySem.Spec PyProof.Rows
section
variable {X:Cx}
inductive Ig(vs:List V)(H:Hp)(Q:VK):Prop
 |mk(j:Int)(e:vs=[.int j])(lo: -(2 ^ 62)<=j)(hi:j<=sizeLine)(q:∀l,H l=none->Q (.ref l) (upd H l (.lst ((List.range j.toNat).map λ(i:Nat)=>V.int (i:Int)))))
def L5(ta:TA):TE:=λσ H Q=>ta σ H λvs H1=>Ig vs H1 Q
inductive E2(K:FG0)(x y:V)(H:Hp)(Q:VK):Prop
 |mk(a b:Addr)(xs ys:List V)(hx:x=.ref a)(hy:y=.ref b)(s:cK K H a xs)(t:cK K H b ys)(n:xs.length≠ys.length)(q:Q (.bl false) H)
theorem yX(hu:X.A.units+1 < cLine):iS X (compareOp .Eq) (λx y H Q=>E2 X.K x y H Q):=by
 intro pins s σ H x y v u Q I rx ry h;obtain⟨a,b,xs,ys,rfl,rfl,ha,hb,n,q⟩:=h;cases rx;cases ry;obtain⟨its,r,pl,_⟩:=I.list ha;obtain⟨its2,r2,pl2,_⟩:=I.list hb;have m1:=r.length;have m2:=r2.length;refine SeqAt.eq_list_lengthsAt pl.isList pl2.isList ?_ (by omega) ⟨.bl _,H,I,rfl,q⟩;rw[bne_iff_ne];simp only[size_toArray];omega
inductive Nj(K:FG0)(x y:V)(H:Hp)(Q:VK):Prop
 |mk(a b:Addr)(xs ys:List V)(bs:List Bool)(hx:x=.ref a)(hy:y=.ref b)(s:dv K H a xs)(t:dv K H b ys)(l1:xs.length=bs.length)(l2:ys.length=bs.length)
   (e:∀(i:Nat) u v c,xs[i]? =some u->ys[i]? =some v->bs[i]? =some c->jO u v=some c)(q:Q (.bl (FD bs)) H)
end
end L2
namespace J
open PySem PySem.Spec PyProof.Rows
open L2 (Cx V cK dv)
end J
namespace L2
open PySem PySem.Spec PyProof.Rows
theorem oW{prog:Program}{w:World}{A:Around}{R:Result->Shared->Prop}{s:Shared}{elt target iter:Expr}{cts:List Expr}{scope:Scope}{pos:Pos}{it acc:Value}{env:Env}(I:Nat->Shared->Prop)
  (turn:∀n s,I n s->wpAny (model prog w) A (pyNext it) (λr s₁=>match r with
   |none=>R (.ok .next) s₁
   |some v=>wpAny (model prog w) A (letOwnedTupleGo target it v) (λ_ s₁'=>wpAny (model prog w) A (assign target env v) (λ_ s₂=>wpAny (model prog w) A (forIn cts true λc r=>if r=true then do let ok <-isTrue c env (eval c env);pure (ForInStep.yield ok) else pure (ForInStep.yield r)) (λok s₂'=>if ok=true then wpAny (model prog w) A (eval elt env) (λx s₃=>
     wpAny (model prog w) A (call (.builtin "list.append") [acc,x]) (λ_ s₄=>∃m,m < n/\I m s₄) (notedBy (model prog w) A env λe s'=>R (.error e) s') s₃)
     (notedBy (model prog w) A env λe s'=>R (.error e) s') s₂' else ∃m,m < n/\I m s₂') (notedBy (model prog w) A env λe s'=>R (.error e) s') s₂) (notedBy (model prog w) A env λe s'=>R (.error e) s') s₁') (notedBy (model prog w) A env λe s'=>R (.error e) s') s₁) (notedBy (model prog w) A env λe s'=>R (.error e) s') s)
  (n:Nat) (h:I n s):
  codeAny (model prog w) A (.compLoop (.ListComp elt [⟨target,iter,cts,0⟩] scope pos) 0 it acc env) R s:=by
 refine codeAny_loop rfl I (λn s hI=>?_) n h;show wpAny _ _ ((compTurn (.ListComp elt [⟨target,iter,cts,0⟩] scope pos) 0 it acc env).onRaise (λx=>do noteFrame x env;theTreesLotGoes x)) _ _ s;refine wpAny_noted ?_;rw[compTurn_list];refine wpAny_bind (wpAny_standAt (wpAny_bind (wpAny_mono (turn n s hI) (λr s₁ h₁=>?_) λ_ _ h'=>h')));cases r with
 |none=>exact wpAny_pure h₁
 |some v=>
  refine wpAny_bind (wpAny_mono h₁ (λ_ s₁' h₁'=>?_) λ_ _ h'=>h');refine wpAny_bind (wpAny_mono h₁' (λ_ s₂ h₂=>wpAny_bind (wpAny_mono h₂ (λok s₃ h₃=>?_) λ_ _ h'=>h')) λ_ _ h'=>h');cases ok with
  |false=>exact wpAny_pure ⟨rfl,h₃⟩
  |true=>
   exact wpAny_bind (wpAny_bind (wpAny_mono h₃ (λx s₄ h₄=>wpAny_bind (wpAny_mono h₄ (λ_ s₅ h₅=>wpAny_pure (wpAny_pure ⟨rfl,h₅⟩)) λ_ _ h'=>h')) λ_ _ h'=>h'))
def Gk(X:Cx)(cts:List Expr)(t:TT):Prop:=
 ∀(pins:List (Addr×Obj)) (s:Shared) (σ:St) (H:Hp) (Q:Bool->Hp->Prop),Inv X pins σ H s->t σ H Q->wpAny (model X.prog X.w) X.A (forIn cts true λc r=>if r=true then do let ok <-isTrue c X.env (eval c X.env);pure (ForInStep.yield ok) else pure (ForInStep.yield r)) (TP X pins σ Q) X.xe s
def vZ:TT:=λ_ H Q=>Q true H
theorem wD{X:Cx}:Gk X [] vZ:=λ_ _ _ H _ I h=>wpAny_tests_nil ⟨H,I,h⟩
theorem DN{X:Cx}{ct:Expr}{t:TT}(h:PT X ct t):Gk X [ct] t:=λpins s σ H Q I q=>wpAny_tests_one (h pins s σ H Q I q)
inductive Hv(J:It)(n:Nat)(is:List Nat)(g:TG)(tc:TT)(te:TE)(σ:St)(W:Nat->Nat->List V->Hp->Prop)(D:Addr)(i m:Nat)(ys:List V)(H2:Hp):Prop
 |mk(go:J.go i H2)(nx:∀(os:St) v H3,os.length=n->J.yld i H2 v H3->g v (os++dP is σ) H3 λσ' H4=>(∃os':St,os'.length=n/\σ'=os'++dP is σ)/\tc σ' H4 λb H5=>if b=true then te σ' H5 (λy H6=>
  H6 D=some (.lst ys)/\ys.length < sizeLine/\∃m',m' < m/\W (i+1) m' (ys++[y]) (upd H6 D (.lst (ys++[y])))) else ∃m',m' < m/\W (i+1) m' ys H5)
def eZ(J:It)(n:Nat)(is:List Nat)(g:TG)(tc:TT)(te:TE)(σ:St)(H1:Hp)(Q:VK):Prop:=∀D,H1 D=none->∃W:Nat->Nat->List V->Hp->Prop,(∃m,W 0 m [] (upd H1 D (.lst [])))/\
 ∀i m ys H2,W i m ys H2->H2 D=some (.lst ys)/\((J.stop i H2/\Q (.ref D) H2)\/Hv J n is g tc te σ W D i m ys H2)
def C8(wi:TI)(n:Nat)(is:List Nat)(g:TG)(tc:TT)(te:TE):TE:=λσ H Q=>wi σ H λJ H1=>eZ J n is g tc te σ H1 Q
structure pD(sc:Scope)(N:List Str)(xs:List Str)(scope:Scope)(is:List Nat)(ns:List Str):Prop where
 kind:scope.kind=.function:=by rfl
 nocell:∀y∈scope.names,y.2≠.cell:=by decide+kernel
 names:∀y∈scope.names,y.2=.local->scope.names.lookup y.1=some .local:=by decide+kernel
 free:∀y∈scope.names,y.2=.free->sc.names.lookup y.1=some .cell:=by decide+kernel
 cap:ns.map some=is.map λi=>N[i]? :=by rfl
 capf:∀y∈ns,scope.names.lookup y=some .free/\sc.names.lookup y=some .cell:=by decide+kernel
section
variable {X:Cx}{xs:List Str}{tg:Expr}{pos:Pos}{elt iter:Expr}{cts:List Expr}{scope:Scope}{wi:TI}{g:TG}{tc:TT}{te:TE}{is:List Nat}{ns:List Str}
def Ah(X:Cx)(pins:List (Addr×Obj))(σ:St)(Qs:VK)(use:Option (Value->Sem Unit))(Qv:Value->Shared->Prop):Prop:=
 ∀(D C:Addr) (H5:Hp) (s6:Shared) (m:Str->Option Value),Qs (.ref D) H5->Inv X pins σ H5 s6->iY X pins H5 C->s6.heap.Ns C m->compPost (model X.prog X.w) X.A X.xe use Qv (.ref D) C (.ok .next) s6
theorem jD{sc:Scope}{N:List Str}{use:Option (Value->Sem Unit)}{Qv:Value->Shared->Prop}{Gf:It->Hp->Prop}{Qs:VK}{cp:Pos}{pins:List (Addr×Obj)}{s:Shared}{σ:St}{H:Hp}(I:Inv X pins σ H s)(h:wi σ H Gf)(hG:∀J H1,Gf J H1->eZ J xs.length is g tc te σ H1 Qs)
  (fin:Ah X pins σ Qs use Qv)(hc:X.calm=true)(hi:PI X tg iter wi)(L:pD sc N xs scope is ns)(hg:∀cl fp s3 H3 C,PG (dq X (xs++ns) scope cl fp s3 H3 C) tg g)(hct:∀cl fp s3 H3 C,Gk (dq X (xs++ns) scope cl fp s3 H3 C) cts tc)(he:∀cl fp s3 H3 C,Inv X pins σ H3 s3->(∀b∈fp,iY X pins H3 b)->PE (dq X (xs++ns) scope cl fp s3 H3 C) elt te)
  (hsc:X.env.scope=sc)(hN:X.N=N)(hs:∀x,foldedSetIterable iter X.env x=pure x):
  wpAny (model X.prog X.w) X.A (comprehension (.ListComp elt [⟨tg,iter,cts,0⟩] scope pos) scope X.env cp (newList []) false (eval iter X.env) use) Qv X.xe s:=by
 subst hsc hN;obtain⟨cl,hcl,cl1,cl2⟩:=oX (env:=X.env) (scope:=scope) (λy hy hf=>I.ok.has y.1 (.inl (L.free y hy hf)));refine wpAny_comprehension_free rfl hs hcl L.kind L.names (dz (hi pins s σ H _ I h) λv s1 h1=>dz h1 λitv s2 h2=>?_);obtain⟨it,fp,tn,J,H2,e,I2,T,st2,f2,h2⟩:=h2;subst e;refine wpAny_newObj_type (wpAny_newFunctionEnv L.nocell (by intro y hy;simp at hy) (λh₁ hns₁ hsb₁=>?_) L.kind);have hD:H2 s2.heap.objs.size=none:=I2.hok.fresh (le_refl _);have I3:Inv X pins σ (upd H2 s2.heap.objs.size (.lst [])) { s2 with heap:=s2.heap.push { cls:=.type "list",dict:=none,data:=.seq ([]:List Value).toArray } }:=
  I2.laid (t':=s2.toks) (λb u e=>get?_push_of_some _ e) (le_refl _) ⟨zero_le _,[],0,.nil,get?_push_size _ rfl⟩
 have kp23:∀b u,s2.heap.get? b=some u->(s2.heap.push { cls:=.type "list",dict:=none,data:=.seq ([]:List Value).toArray }).get? b=some u:=λb u e=>get?_push_of_some _ e;obtain⟨W,⟨m0,w0⟩,turn⟩:=hG J H2 h2 s2.heap.objs.size hD;dsimp only at hns₁ hsb₁ ⊢;generalize hD0:s2.heap.objs.size=D at *;generalize hp3:s2.heap.push { cls:=.type "list",dict:=none,data:=.seq ([]:List Value).toArray }=p3 at *;generalize hH3:upd H2 D (.lst [])=H3 at *;have fpD:∀b∈fp,b≠D:=λb hb=>by
  obtain⟨o,e,_⟩:=T.obj 0 s2.heap st2 b hb;rw[<-hD0];exact ne_of_lt (lt_size e)
 have fp3:∀b∈fp,iY X pins H3 b:=λb hb=>⟨by rw[<-hH3,cG (fpD b hb)];exact(f2 b hb).1,(f2 b hb).2⟩;have st3:tn 0 p3:=T.keep 0 s2.heap p3 st2 λb _ o e=>kp23 b o e;have fplt:∀b∈fp,b < p3.objs.size:=λb hb=>by
  obtain⟨o,e,_⟩:=T.obj 0 p3 st3 b hb;exact lt_size e
 have old:∀b u,p3.get? b=some u->h₁.get? b=some u:=λb u e=>hsb₁.extBut b u (ne_of_lt (lt_size e)) (get?_push_of_some _ e);generalize hC:p3.objs.size=C at *;have hfree:∀b∈fp,H3 b=none:=λb hb=>(fp3 b hb).1;have okX:(dq X (xs++ns) scope cl fp { s2 with heap:=p3 } H3 C).Ok:=by
  refine⟨I.ok.mod,L.kind,I.ok.glob,I.ok.blt,le_of_eq hC,λy z c e1 e2=>I.ok.inj y z c (cl1 y c e1) (cl1 z c e2),λy hy=>?_,λ_ _ z=>(by cases z),I.ok.hd,I.ok.frames,.inl rfl,λb hb=>⟨ne_of_lt (fplt b hb),λy c e=>(fp3 b hb).2.2.2.2.1 y c (cl1 y c e)⟩,I3.bs,le_trans I3.ok.bsz I3.sz,λb o e hb=>?_,λb hb z=>?_,I3.stack,I3.xH⟩
  ·have hm:(y,NameKind.free)∈scope.names:=by
    rcases hy with hy|hy
    ·exact kK hy (.inl rfl) L.nocell
    ·exact kK hy (.inr rfl) L.nocell
   obtain⟨c,hc'⟩:=I.ok.has y (.inl (L.free _ hm rfl));exact⟨c,(cl2 _ hm rfl).trans hc'⟩
  ·rcases (fp3 b hb).2.2.2.1 with z|z
   ·exact I.ok.noex b o e z
   ·exact absurd (lt_of_lt_of_le (lt_size e) (le_trans I.ok.bsz z)) (lt_irrefl _)
  ·exact(mem_cons.mp (I3.u5 b z)).elim (fp3 b hb).2.1 (fp3 b hb).2.2.1
 have hlen:(dP is σ).length=ns.length:=by
  have:=congrArg List.length L.cap;rw[length_map,length_map]at this;rw[dP,length_map];exact this.symm
 have rl:(List.replicate xs.length (none:Option V)).length=xs.length:=length_replicate ..;have I4:Inv (dq X (xs++ns) scope cl fp { s2 with heap:=p3 } H3 C) [] (List.replicate xs.length none++dP is σ) H3 { s2 with heap:=h₁,toks:=s2.toks+0 }:=by
  refine⟨okX,rfl,I3.bare,Un.kept old,⟨_,hns₁,λi y v e1 e2 e3=>?_⟩,λy c e=>?_,?_,λy c e=>I3.freeC y c (cl1 y c e),λp hp=>absurd (show p∈([]:List (Addr×Obj)) from hp) (by simp),I3.hok.kept old,by show(List.replicate xs.length none++dP is σ).length=(xs++ns).length;rw[length_append,length_append,hlen,rl]⟩
  ·have e1:(xs++ns)[i]? =some y:=e1
   by_cases hi:i < xs.length
   ·rw[getElem?_append_left (by rw[rl];exact hi),List.getElem?_replicate,if_pos hi]at e2
    cases e2
   ·rw[getElem?_append_right (by rw[rl];omega),rl]at e2
    rw[getElem?_append_right (by omega)]at e1;generalize i - xs.length=j at e1 e2;have e1':ns[j]? =some y:=e1;have e2':(dP is σ)[j]? =some (some v):=e2;have hy:=L.capf y (mem_of_getElem? e1');have hcap:(ns.map some)[j]? =(is.map λi=>X.N[i]?)[j]? :=by rw[L.cap]
    rw[getElem?_map,getElem?_map,e1']at hcap;rw[dP,getElem?_map]at e2';cases hk:is[j]? with
    |none=>rw[hk]at e2';cases e2'
    |some k=>
     rw[hk]at hcap e2';have hN:X.N[k]? =some y:=(Option.some.inj hcap).symm;have hσ:σ[k]? =some (some v):=by
      have q:(σ[k]?).join=some v:=Option.some.inj e2';cases z:σ[k]? with
      |none=>rw[z]at q;cases q
      |some o=>rw[z]at q;exact congrArg some q
     obtain⟨m,hn,hl⟩:=I3.loc;obtain⟨u,r,l⟩:=hl k y v hN hσ (.inr (.inl hy.2));refine⟨u,r,?_⟩;rcases l with ⟨hk',_⟩|⟨hk',c,ec,o,ho,hd⟩
     ·have hk2:X.env.scope.names.lookup y=some .local:=hk'
      rw[hy.2]at hk2;cases hk2
     ·exact .inr ⟨.inl (kC I.ok.kind hy.1 hy.2),c,(cl2 _ (PySem.mem_of_lookup hy.1) rfl).trans ec,o,old c o ho,hd⟩
  ·obtain⟨v,o,ho,hd⟩:=I3.cell y c (cl1 y c e)
   exact⟨v,o,old c o ho,hd⟩
  ·show H3 C=none
   rw[<-hC];exact I3.hok.fresh (le_refl _)
 have st4:tn 0 h₁:=T.keep 0 p3 h₁ st3 λb _ o e=>old b o e;have stat:∀{H':Hp},(∀b∈fp,H' b=none)->∀b∈fp,iY (dq X (xs++ns) scope cl fp { s2 with heap:=p3 } H3 C) [] H' b:=λ{H'} hn b hb=>
  ⟨hn b hb,ne_of_lt (fplt b hb),okX.exfs b hb,.inl hb,λy c e=>(fp3 b hb).2.2.2.2.1 y c (cl1 y c e),λp hp=>absurd (show p∈([]:List (Addr×Obj)) from hp) (by simp)⟩
 have loop:codeAny (model X.prog X.w) X.A (.compLoop (.ListComp elt [⟨tg,iter,cts,0⟩] scope pos) 0 (.ref it) (.ref D) (compEnvC scope cl C X.env))
   (compPost (model X.prog X.w) X.A X.xe use Qv (.ref D) C) { s2 with heap:=h₁,toks:=s2.toks+0 }:=by
  refine oW (λn s'=>∃i os ys H',os.length=xs.length/\Inv (dq X (xs++ns) scope cl fp { s2 with heap:=p3 } H3 C) [] (os++dP is σ) H' s'/\tn i s'.heap/\(∀b∈fp,H' b=none)/\W i n ys H') ?_ m0 ⟨0,List.replicate xs.length none,[],H3,rl,I4,st4,hfree,w0⟩;rintro n s5 ⟨i,os,ys,H5,hos,I5,st5,fr5,w5⟩;obtain⟨hD5,⟨stop,q⟩|⟨go,step⟩⟩:=turn i n ys H5 w5
  ·refine dz (T.done (dq X (xs++ns) scope cl fp { s2 with heap:=p3 } H3 C) rfl rfl rfl hc i [] s5 _ H5 _ I5 (stat fr5) st5 stop) λr s6 ⟨hr,I6⟩=>?_
   subst hr;obtain⟨m,hn,_⟩:=id I6.loc;have neC:∀b o,p3.get? b=some o->b≠C:=λb o e=>by rw[<-hC];exact ne_of_lt (lt_size e)
   have fC:H5 C=none:=I6.free;have I6X:Inv X pins σ H5 s6:=by
    refine I3.Be (s':=s6) (ch:=fp) I6.os ⟨λb o e nn hb hx=>?_,λb o e nn hb hx=>?_,I6.base.free,λb o e hx=>?_,I6.base.tups,I6.base.frzs,I6.base.tbls⟩ (λb ob e=>I6.hok b ob e) I6.bare λb hb=>⟨(fp3 b hb).2.2.2.1,(fp3 b hb).2.1,(fp3 b hb).2.2.2.2.1,(fp3 b hb).2.2.2.2.2⟩
    ·exact I6.base.keep b o e nn hb hx
    ·exact I6.base.slot b o e nn hb hx
    ·exact I6.base.there b o e hx
   exact fin D C H5 s6 m q I6X (I3.zd (le_of_eq hC) fC) hn
  ·refine dz (T.item (dq X (xs++ns) scope cl fp { s2 with heap:=p3 } H3 C) rfl rfl rfl hc i [] s5 _ H5 _ I5 (stat fr5) st5 go) λr s6 ⟨u,hr,h6⟩=>?_
   subst hr;refine dz h6 λ_ s7 hpat=>?_;obtain⟨v,H7,I7,r7,y7,st7,fr7⟩:=hpat;have I7':=I7.pinned (stat fr7) (T.obj _ _ st7);refine wpAny_mono (hg cl fp { s2 with heap:=p3 } H3 C _ s7 (os++dP is σ) H7 v u _ I7' r7 (step os v H7 hos y7)) (λ_ s8 ⟨σ8,H8,I8,⟨os',hos',e8⟩,q8⟩=>?_) λ_ _ z=>False.elim z;subst e8;refine wpAny_mono (hct cl fp { s2 with heap:=p3 } H3 C _ s8 _ H8 _ I8 q8) (λbb sb ⟨Hb,Ib,qb⟩=>?_) λ_ _ z=>False.elim z;cases bb with
   |false=>
    rw[if_neg bF0]at qb;rw[if_neg bF0];obtain⟨m',hm',w9⟩:=qb;refine⟨m',hm',i+1,os',ys,_,hos',Ib.gX,T.keep _ _ _ st7 λb hb o e=>(Ib.pin (b,o) (mem_append_right _ (mem_append_right _ (eN hb e)))).1,λb hb=>?_,w9⟩;obtain⟨o',e,d⟩:=T.obj _ _ st7 b hb;exact(Ib.pin (b,o') (mem_append_right _ (mem_append_right _ (eN hb e)))).2.1
   |true=>
    rw[if_pos rfl]at qb;rw[if_pos rfl];refine wpAny_mono (he cl fp { s2 with heap:=p3 } H3 C I3 fp3 _ sb _ Hb _ Ib qb) (λuy s9 ⟨y,H9,I9,r9,hD9,hl9,m',hm',w9⟩=>?_) λ_ _ z=>False.elim z;refine wpAny_mono (qv (X:=dq X (xs++ns) scope cl fp { s2 with heap:=p3 } H3 C) _ s9 _ H9 (.ref D) [y] (.ref D) [uy] (λ_ H'=>H'=upd H9 D (.lst (ys++[y]))) I9 rfl (.cons r9 .nil) ⟨D,ys,y,rfl,rfl,hD9,hl9,rfl⟩) (λ_ s10 ⟨_,H10,I10,_,e10⟩=>?_) λ_ _ z=>False.elim z;subst e10;refine⟨m',hm',i+1,os',ys++[y],_,hos',I10.gX,T.keep _ _ _ st7 λb hb o e=>(I10.pin (b,o) (mem_append_right _ (mem_append_right _ (eN hb e)))).1,λb hb=>?_,w9⟩;obtain⟨o',e,d⟩:=T.obj _ _ st7 b hb;exact(I10.pin (b,o') (mem_append_right _ (mem_append_right _ (eN hb e)))).2.1
 exact codeAny_compStart_list loop (T.self X.A 0 _ _ _ st4 loop)
theorem mD{pins:List (Addr×Obj)}{σ:St}{Q:VK}:Ah X pins σ Q none (EP X pins σ Q):=by
 intro D C H5 s6 m q I6 fC hn;refine⟨m,hn,λh' sb=>⟨.ref D,H5,I6.mE (t':=s6.toks) (fp:=[C]) (λb hb=>?_) (λb u nb e=>(sb.2 b (λz=>nb (mem_singleton.mpr z))).trans e),rfl,q⟩⟩;rw[mem_singleton]at hb;subst hb;exact fC
theorem yY{pins:List (Addr×Obj)}{σ:St}{Dn:Ends}{y:Str}{py:Pos}{iy:Nat}(hnd:X.N.Nodup)(hiy:X.N[iy]? =some y)(hly:Loc X.env.scope y)(hfy:X.fn y=true\/X.env.scope.names.lookup y=some .local):
  Ah X pins σ (λv H'=>Dn.nx (σ.set iy (some v)) H') (some (assign (.Name y py) X.env)) (λ_ s'=>SP X pins Dn .next s'):=by
 intro D C H5 s6 m q I6X fC hn;have fpC:∀b∈[C],iY X pins H5 b:=λb hb=>by
  rw[mem_singleton]at hb;subst hb;exact fC
 obtain⟨oC,esC,epC,hoC,rC⟩:=id hn;have obC:∀b∈[C],∃o,s6.heap.get? b=some o/\∀v,o.data≠.cell v:=λb hb=>by
  rw[mem_singleton]at hb;subst hb;exact⟨oC,hoC,λv z=>by rw[z]at rC;exact absurd rC.1 (λw=>nomatch w)⟩
 have IP:=I6X.pinned fpC obC;have hgy:PG X (.Name y py) (eS iy):=nj hnd hiy hly hfy;show wpAny _ _ (assign (.Name y py) X.env (.ref D)) _ _ s6;refine dz (hgy _ s6 σ H5 (.ref D) (.ref D) (λσ' H'=>σ'=σ.set iy (some (.ref D))/\H'=H5) IP rfl ⟨rfl,rfl⟩) λ_ s7 hpat=>?_;obtain⟨σ7,H7,I7,e1,e2⟩:=hpat;subst e1;subst e2;have hC7:s7.heap.get? C=some oC:=(I7.pin (C,oC) (mem_append_right _ (mem_append_right _ (eN (mem_singleton.mpr rfl) hoC)))).1;exact⟨m,⟨oC,esC,epC,hC7,rC⟩,λh' sb=>⟨_,H7,I7.gX.mE (t':=s7.toks) (fp:=[C]) fpC (λb u nb e=>(sb.2 b (λz=>nb (mem_singleton.mpr z))).trans e),q⟩⟩
theorem GC{sc:Scope}{N:List Str}(hc:X.calm=true)(hi:PI X tg iter wi)(L:pD sc N xs scope is ns)(hg:∀cl fp s3 H3 C,PG (dq X (xs++ns) scope cl fp s3 H3 C) tg g)(hct:∀cl fp s3 H3 C,Gk (dq X (xs++ns) scope cl fp s3 H3 C) cts tc)(he:∀cl fp s3 H3 C,PE (dq X (xs++ns) scope cl fp s3 H3 C) elt te)
  (hsc:X.env.scope=sc)(hN:X.N=N)(hs:∀x,foldedSetIterable iter X.env x=pure x):PE X (.ListComp elt [⟨tg,iter,cts,0⟩] scope pos) (C8 wi xs.length is g tc te):=by
 intro pins s σ H Q I h;rw[eval_ListComp];exact jD I h (λ_ _ z=>z) mD hc hi L hg hct (λcl fp s3 H3 C _ _=>he cl fp s3 H3 C) hsc hN hs
theorem yy{sc:Scope}{N:List Str}{y:Str}{py spos:Pos}{iy:Nat}(hnd:X.N.Nodup)(hiy:X.N[iy]? =some y)(hly:Loc X.env.scope y)(hfy:X.fn y=true\/X.env.scope.names.lookup y=some .local)(hsw:swapsWith (.ListComp elt [⟨tg,iter,cts,0⟩] scope pos) (some (.Name y py)) spos.line X.env=pure true)
  (hc:X.calm=true)(hi:PI X tg iter wi)(L:pD sc N xs scope is ns)(hg:∀cl fp s3 H3 C,PG (dq X (xs++ns) scope cl fp s3 H3 C) tg g)(hct:∀cl fp s3 H3 C,Gk (dq X (xs++ns) scope cl fp s3 H3 C) cts tc)(he:∀cl fp s3 H3 C,PE (dq X (xs++ns) scope cl fp s3 H3 C) elt te)
  (hsc:X.env.scope=sc)(hN:X.N=N)(hs:∀x,foldedSetIterable iter X.env x=pure x):PS X (.Assign [.Name y py] (.ListComp elt [⟨tg,iter,cts,0⟩] scope pos) spos) (rJ (C8 wi xs.length is g tc te) (eS iy)):=by
 intro pins s σ H Dn I h;rw[exec_Assign_Name_used _ _ _ _ hsw];refine wpAny_bind (wpAny_standAt (wpAny_bind ?_));show wpAny _ X.A (do let _ <-comprehension (.ListComp elt [⟨tg,iter,cts,0⟩] scope pos) scope X.env _ (newList []) false (eval iter X.env) (some (assign (.Name y py) X.env))) _ _ s;exact wpAny_bind (dz (Q:=λ_ s'=>SP X pins Dn .next s') (jD I h (λ_ _ z=>z) (yY hnd hiy hly hfy) hc hi L hg hct (λcl fp s3 H3 C _ _=>he cl fp s3 H3 C) hsc hN hs) λ_ s' hq=>wpAny_pure (wpAny_pure hq))
theorem Ik{J:It}{te:TE}{is:List Nat}{σ:St}{H1:Hp}{Q:VK}(h:gQ J is te σ H1 Q):eZ J 1 is (eS 0) vZ te σ H1 Q:=by
 intro D hD;obtain⟨W,w0,k⟩:=h D hD;refine⟨W,w0,λi m ys H2 w=>?_⟩;obtain⟨e,z|⟨go,nx⟩⟩:=k i m ys H2 w
 ·exact⟨e,.inl z⟩
 ·refine⟨e,.inr ⟨go,λos v H3 hos y=>?_⟩⟩
  match os,hos with
  |[o],_=>exact⟨⟨[some v],rfl,rfl⟩,dk (B:=∃m',m' < m/\W (i+1) m' ys H3) (nx v H3 y)⟩
theorem BE{sc:Scope}{N:List Str}{x:Str}{px:Pos}(hc:X.calm=true)(hi:PI X (.Name x px) iter wi)(L:IT sc N x scope is ns)(he:∀cl fp s3 H3 C,PE (dq X (x::ns) scope cl fp s3 H3 C) elt te)
  (hsc:X.env.scope=sc:=by rfl)(hN:X.N=N:=by rfl)(hs:∀x,foldedSetIterable iter X.env x=pure x:=by intro _;rfl):PE X (.ListComp elt [⟨.Name x px,iter,[],0⟩] scope pos) (Ma wi is te):=by
 intro pins s σ H Q I h;rw[eval_ListComp];exact jD (xs:=[x]) (g:=eS 0) (tc:=vZ) I h (λ_ _ z=>Ik z) mD hc hi ⟨L.kind,L.nocell,L.names,L.free,L.cap,L.capf⟩ (λ_ _ _ _ _=>nj (i:=0) L.nd rfl (.inl (lookup_relabel_local L.hx)) (.inr (lookup_relabel_local L.hx))) (λ_ _ _ _ _=>wD) (λcl fp s3 H3 C _ _=>he cl fp s3 H3 C) hsc hN hs
end
section
variable {K:FG0}{n:Nat}{is:List Nat}{g:TG}{tc:TT}{te:TE}{σ:St}{H:Hp}{Q:VK}
theorem gz(p:Nat->Bool)(f:Nat->V)(i:Nat):((List.range (i+1)).filter p).map f=((List.range i).filter p).map f++if p i=true then [f i] else []:=by
 rw[range_succ,filter_append,map_append];cases h:p i<;>simp[List.filter,h]
theorem wj{J:It}{N:Nat}(p:Nat->Bool)(f:Nat->V)(hz:N<=sizeLine)(hgo:∀i H2,cH H H2->i < N->J.go i H2)(hstop:∀H2,cH H H2->J.stop N H2)
  (he:∀(i:Nat)(os:St) v H2 H3 (K1:VK)(K2:Hp->Prop),i < N->os.length=n->cH H H2->J.yld i H2 v H3->(p i=true->∀H6,cH H2 H6->K1 (f i) H6)->(p i=false->∀H5,cH H2 H5->K2 H5)->
   g v (os++dP is σ) H3 λσ' H4=>(∃os':St,os'.length=n/\σ'=os'++dP is σ)/\tc σ' H4 λb H5=>if b=true then te σ' H5 K1 else K2 H5)
  (q:∀D H',H D=none->cH H H'->H' D=some (.lst (((List.range N).filter p).map f))->Q (.ref D) H'):eZ J n is g tc te σ H Q:=by
 intro D hDn;refine⟨λi m ys H2=>m=N - i/\i<=N/\cH H H2/\H2 D=some (.lst ys)/\ys=((List.range i).filter p).map f,⟨_,rfl,zero_le _,cH.upd hDn,cD,rfl⟩,?_⟩;rintro i m ys H2 ⟨rfl,hi,sm,hd,rfl⟩;refine⟨hd,?_⟩;by_cases hlt:i < N
 ·refine .inr ⟨hgo i H2 sm hlt,λos v H3 hos y=>?_⟩
  have hl:(((List.range i).filter p).map f).length<=i:=by
   rw[length_map];have:=length_filter_le p (List.range i);rw[length_range]at this;exact this
  refine he i os v H2 H3 _ _ hlt hos sm y (λhp H6 s6=>⟨s6 _ _ hd,by omega,N - (i+1),by omega,rfl,hlt,λb o e=>?_,cD,?_⟩) (λhp H5 s5=>⟨N - (i+1),by omega,rfl,hlt,sm.trans s5,s5 _ _ hd,?_⟩)
  ·rw[cG (cE e hDn)]
   exact s6 _ _ (sm _ _ e)
  ·rw[gz,if_pos hp]
  ·rw[gz,if_neg (by rw[hp];exact bF0),append_nil]
 ·have e:i=N:=by omega
  subst e;exact .inl ⟨hstop H2 sm,q D H2 hDn sm hd⟩
theorem eI{a:Addr}{xs:List V}(p:Nat->Bool)(f:Nat->V)(hq:cK K H a xs)(hz:xs.length<=sizeLine)
  (he:∀(i:Nat)(os:St) v H2 (K1:VK)(K2:Hp->Prop),xs[i]? =some v->os.length=n->cH H H2->(p i=true->∀H6,cH H2 H6->K1 (f i) H6)->(p i=false->∀H5,cH H2 H5->K2 H5)->
   g v (os++dP is σ) H2 λσ' H4=>(∃os':St,os'.length=n/\σ'=os'++dP is σ)/\tc σ' H4 λb H5=>if b=true then te σ' H5 K1 else K2 H5)
  (q:∀D H',H D=none->cH H H'->H' D=some (.lst (((List.range xs.length).filter p).map f))->Q (.ref D) H'):eZ (BW K a) n is g tc te σ H Q:=
 wj p f hz (λi H2 sm hi=>⟨xs,xs[i],sm.seq hq,by simp[hi]⟩) (λH2 sm=>⟨xs,sm.seq hq,le_refl _⟩) (λi os v H2 H3 K1 K2 hi hos sm y k1 k2=>by
  obtain⟨rfl,y⟩:=y;exact he i os v _ K1 K2 (y xs (sm.seq hq)) hos sm k1 k2) q
theorem qr{lo:Int}{N:Nat}(p:Nat->Bool)(f:Nat->V)(hz:N<=sizeLine)
  (he:∀(i:Nat)(os:St) H2 (K1:VK)(K2:Hp->Prop),i < N->os.length=n->cH H H2->(p i=true->∀H6,cH H2 H6->K1 (f i) H6)->(p i=false->∀H5,cH H2 H5->K2 H5)->
   g (.int (lo+i)) (os++dP is σ) H2 λσ' H4=>(∃os':St,os'.length=n/\σ'=os'++dP is σ)/\tc σ' H4 λb H5=>if b=true then te σ' H5 K1 else K2 H5)
  (q:∀D H',H D=none->cH H H'->H' D=some (.lst (((List.range N).filter p).map f))->Q (.ref D) H'):eZ (CC lo N) n is g tc te σ H Q:=
 wj p f hz (λi H2 _ hi=>hi) (λH2 _=>le_refl N) (λi os v H2 H3 K1 K2 hi hos sm y k1 k2=>by
  obtain⟨rfl,rfl⟩:=y;exact he i os _ K1 K2 hi hos sm k1 k2) q
theorem uJ{a:Addr}{xs:List V}(p:Nat->Bool)(f:Nat->V)(hq:cK K H a xs)(hz:xs.length<=sizeLine)
  (he:∀(i:Nat)(os:St) v (t:Addr) H2 (K1:VK)(K2:Hp->Prop),xs[i]? =some v->os.length=n->cH H H2->H2 t=none->(p i=true->∀H6,cH H2 H6->K1 (f i) H6)->(p i=false->∀H5,cH H2 H5->K2 H5)->
   g (.ref t) (os++dP is σ) (upd H2 t (.tup [.int i,v])) λσ' H4=>(∃os':St,os'.length=n/\σ'=os'++dP is σ)/\tc σ' H4 λb H5=>if b=true then te σ' H5 K1 else K2 H5)
  (q:∀D H',H D=none->cH H H'->H' D=some (.lst (((List.range xs.length).filter p).map f))->Q (.ref D) H'):eZ (Hk K a) n is g tc te σ H Q:=
 wj p f hz (λi H2 sm hi=>⟨xs,xs[i],sm.seq hq,by simp[hi]⟩) (λH2 sm=>⟨xs,sm.seq hq,rfl⟩) (λi os v H2 H3 K1 K2 hi hos sm y k1 k2=>by
  obtain⟨t,x,ht,rfl,rfl,y⟩:=y;exact he i os x t _ K1 K2 (y xs (sm.seq hq)) hos sm ht k1 k2) q
end
section
variable {X:Cx}
theorem uw:∀bs:List Bool,((List.range bs.length).any λi=>bs.getD i false)=bs.any id
 |[]=>rfl
 |b::r=>by
  rw[length_cons,List.range_succ_eq_map,any_cons,any_map,any_cons,<-uw r];rfl
theorem hZ(hc:X.calm=true):eR X (.builtin "any") (λxs H Q=>∃(p:Addr) (bs:List Bool),xs=[.ref p]/\cK X.K H p (bs.map V.bl)/\Q (.bl (bs.any id)) H):=by
 intro pins s σ H xs us Q I r h;obtain⟨p,bs,rfl,hq,q⟩:=h;obtain⟨u,rfl,rx⟩:=vals1 r;cases rx;obtain⟨its,rv,pl,hz⟩:=I.list hq;have hl:=rv.length;rw[length_map]at hl;have hlt:p < s.heap.objs.size:=by obtain⟨o,n,e,_⟩:=pl;exact lt_size e
 refine call_any_walk (wpAny_pyIter_list pl.isList ?_);refine⟨s.heap.objs.size,[s.heap.objs.size,p],[s.heap.objs.size],its.toArray.size,_,_,λi=>bs.getD i false,rfl,Walks.list (show X.A.in1.handled=none from I.ok.hd hc) s.heap.objs.size p (ne_of_lt hlt) its.toArray,
  ⟨⟨_,get?_push_size _ rfl,rfl,rfl⟩,?_⟩,λi v s' Q' E' hv hQ=>?_,λh' tk kk=>?_⟩
 ·obtain⟨o,e,r⟩:=pl.isList
  exact⟨o,get?_push_of_some _ e,r⟩
 ·have hi:i < bs.length:=by
   have:i < its.length:=by
    have:=(Array.getElem?_eq_some_iff.mp hv).1
    simpa using this
   omega
  have hb:(bs.map V.bl)[i]? =some (V.bl bs[i]):=by simp[hi]
  obtain⟨u,hu,ru⟩:=rv.get hb;have hv':its[i]? =some v:=by simpa using hv
  rw[hu]at hv';cases hv';obtain rfl:v=Value.bool bs[i]:=ru;refine wpAny_truthy_bool ?_;have e:bs.getD i false=bs[i]:=by simp[List.getD,hi]
  rw[<-e];exact hQ
 ·refine⟨.bl (bs.any id),H,?_,?_,q⟩
  ·have I1:Inv X pins σ H { s with heap:=s.heap.push { cls:=.type "list_iterator",data:=.fields #[.ref p,.int 0 0] } }:=I.kept (t':=s.toks) λb o e=>get?_push_of_some _ e
   have I2:Inv X pins σ H { s with heap:=h',toks:=tk }:=I.kept (t':=tk) λb o e=>kk b o (by
    intro z;have z':b=s.heap.objs.size:=by simpa using z
    exact absurd (lt_size e) (by rw[z'];exact lt_irrefl _)) (get?_push_of_some _ e)
   exact I2
  ·show Value.bool _=Value.bool _
   congr 1
   rw[size_toArray,<-hl];exact uw bs
end
end L2
namespace J
open PySem PySem.Spec PyProof.Rows
open L2 (Cx V Hp St VK TE TT TA TS TG pK TI TO cK)
structure Jl(X:Cx)(cts:List Expr)(t:TT):Prop where
 out:L2.Gk X cts t
section
variable {X:Cx}{x y:Str}{xs ns:List Str}{scope:Scope}{cl:List (Str×Addr)}{fp:List Addr}{s3:Shared}{H3:Hp}{C:Addr}{p pos spos py:Pos}{ct tg it elt:Expr}{cts:List Expr}{tc:TT}{te:TE}{wi:TI}{g:TG}{is:List Nat}{sc:Scope}{N:List Str}{iy:Nat}
theorem _root_.cb{x:Str}{px:Pos}(hc:X.calm=true)(hi:JI X (.Name x px) it wi)(L:L2.IT sc N x scope is ns)(he:∀cl fp s3 H3 C,JE (L2.dq X (x::ns) scope cl fp s3 H3 C) elt te)(hsc:X.env.scope=sc)(hN:X.N=N)(hs:∀x,foldedSetIterable it X.env x=pure x:=by intro _;rfl):
  JE X (.ListComp elt [⟨.Name x px,it,[],0⟩] scope pos) (L2.Ma wi is te):=⟨L2.BE hc hi.out L (λcl fp s3 H3 C=>(he cl fp s3 H3 C).out) hsc hN hs⟩
theorem _root_.bN:Jl X [] L2.vZ:=⟨L2.wD⟩
theorem _root_.bX(h:JT X ct tc):Jl X [ct] tc:=⟨L2.DN h.out⟩
theorem _root_.aO {i:Nat}(h:scope.names.lookup y=some .local) (hi:xs[i]? =some y) (db:(y == ("__debug__" :Str))=false) (cd:(y == ("__classdict__" :Str))=false):JE (L2.dq X xs scope cl fp s3 H3 C) (.Name y p) (L2.gx i):=
 ⟨L2.jP (i:=i) hi (.inl (PySem.lookup_relabel_local h)) db cd⟩
theorem _root_.a8 {i:Nat}(h:scope.names.lookup y=some .free) (hi:xs[i]? =some y) (db:(y == ("__debug__" :Str))=false) (cd:(y == ("__classdict__" :Str))=false):JE (L2.dq X xs scope cl fp s3 H3 C) (.Name y p) (L2.gx i):=
 ⟨L2.jP (i:=i) hi (.inr (L2.jh h)) db cd⟩
theorem _root_.a7{i:Nat}(nd:xs.Nodup)(h:scope.names.lookup y=some .local)(hi:xs[i]? =some y):JG (L2.dq X xs scope cl fp s3 H3 C) (.Name y p) (L2.eS i):=
 ⟨L2.nj (i:=i) nd hi (.inl (PySem.lookup_relabel_local h)) (.inr (PySem.lookup_relabel_local h))⟩
theorem _root_.bL(hc:X.calm=true)(hi:JI X tg it wi)(L:L2.pD sc N xs scope is ns)(hg:∀cl fp s3 H3 C,JG (L2.dq X (xs++ns) scope cl fp s3 H3 C) tg g)(hct:∀cl fp s3 H3 C,Jl (L2.dq X (xs++ns) scope cl fp s3 H3 C) cts tc)(he:∀cl fp s3 H3 C,JE (L2.dq X (xs++ns) scope cl fp s3 H3 C) elt te)
  (hsc:X.env.scope=sc)(hN:X.N=N)(hs:∀x,foldedSetIterable it X.env x=pure x:=by intro _;rfl):JE X (.ListComp elt [⟨tg,it,cts,0⟩] scope pos) (L2.C8 wi xs.length is g tc te):=
 ⟨L2.GC hc hi.out L (λcl fp s3 H3 C=>(hg cl fp s3 H3 C).out) (λcl fp s3 H3 C=>(hct cl fp s3 H3 C).out) (λcl fp s3 H3 C=>(he cl fp s3 H3 C).out) hsc hN hs⟩
theorem _root_.cn(S:L2.Slot X iy y)(hnd:X.N.Nodup)(hc:X.calm=true)(hi:JI X tg it wi)(L:L2.pD sc N xs scope is ns)(hg:∀cl fp s3 H3 C,JG (L2.dq X (xs++ns) scope cl fp s3 H3 C) tg g)(hct:∀cl fp s3 H3 C,Jl (L2.dq X (xs++ns) scope cl fp s3 H3 C) cts tc)(he:∀cl fp s3 H3 C,JE (L2.dq X (xs++ns) scope cl fp s3 H3 C) elt te)
  (hsc:X.env.scope=sc)(hN:X.N=N)
  (hw:((if sc.kind.isAnnotationScope then ScopeKind.function else sc.kind) == .function && sc.names.lookup y == some .local && py.line == pos.line && !(scope.names.any λ(n,k)=>n == y && (k == .local || k == .cell)))=true)
  (hs:∀x,foldedSetIterable it X.env x=pure x:=by intro _;rfl):
  JS X (.Assign [.Name y py] (.ListComp elt [⟨tg,it,cts,0⟩] scope pos) spos) (L2.rJ (L2.C8 wi xs.length is g tc te) (L2.eS iy)):=
 ⟨L2.yy hnd S.hN S.lc S.fn (L2.yn hsc hw) hc hi.out L (λcl fp s3 H3 C=>(hg cl fp s3 H3 C).out) (λcl fp s3 H3 C=>(hct cl fp s3 H3 C).out) (λcl fp s3 H3 C=>(he cl fp s3 H3 C).out) hsc hN hs⟩
theorem hZ(hc:X.calm=true):JF X (.builtin "any") (λxs H Q=>∃(p:Addr) (bs:List Bool),xs=[.ref p]/\cK X.K H p (bs.map V.bl)/\Q (.bl (bs.any id)) H):=⟨L2.hZ hc⟩
end
end J
namespace L2
open PySem PySem.Spec PyProof.Rows
section
variable {κ:Type} [DecidableEq κ]
def dr(kvs:List (κ×V))(k:κ):Option V:=(kvs.find? λkv=>decide (kv.1=k)).map (·.2)
def putK(kvs:List (κ×V))(k:κ)(v:V):List (κ×V):=
 if(kvs.any λkv=>decide (kv.1=k))=true then kvs.map (λkv=>if kv.1=k then(kv.1,v) else kv) else kvs++[(k,v)]
def zM(kvs:List (κ×V))(k:κ):List (κ×V):=kvs.filter λkv=>decide (kv.1≠k)
theorem d8{p:κ×V}{r:List (κ×V)}{k:κ}(e:p.1=k):dr (p::r) k=some p.2:=by simp[dr,find?_cons,e]
theorem d5{p:κ×V}{r:List (κ×V)}{k:κ}(e:¬p.1=k):dr (p::r) k=dr r k:=by simp[dr,find?_cons,e]
theorem gn(k:κ):∀kvs:List (κ×V),(kvs.any λkv=>decide (kv.1=k))=(dr kvs k).isSome
 |[]=>rfl
 |p::r=>by
  rw[any_cons];by_cases e:p.1=k
  ·simp only[d8 e,dT0 e,Bool.true_or,Option.isSome_some]
  ·rw[d5 e,decide_eq_false e,Bool.false_or];exact gn k r
theorem tU(k j:κ)(y:V):∀kvs:List (κ×V),dr (kvs.map λkv=>if kv.1=k then(kv.1,y) else kv) j=(dr kvs j).map λx=>if j=k then y else x
 |[]=>rfl
 |p::r=>by
  have ih:=tU k j y r;rw[map_cons];by_cases h:p.1=k
  ·rw[if_pos h]
   by_cases e:p.1=j
   ·rw[d8 (p:=(p.1,y)) e,d8 e,map_some,if_pos (e.symm.trans h)]
   ·rw[d5 (p:=(p.1,y)) e,d5 e,ih]
  ·rw[if_neg h]
   by_cases e:p.1=j
   ·rw[d8 (p:=p) e,d8 e,map_some,if_neg (λz=>h (e.trans z))]
   ·rw[d5 (p:=p) e,d5 e,ih]
theorem qa(k j:κ)(y:V):∀kvs:List (κ×V),dr kvs k=none->dr (kvs++[(k,y)]) j=if j=k then some y else dr kvs j
 |[],_=>by
  by_cases e:k=j
  ·rw[if_pos e.symm];exact d8 (p:=(k,y)) e
  ·rw[if_neg (λz=>e z.symm)];exact d5 (p:=(k,y)) e
 |p::r,hn=>by
  rw[List.cons_append];have hk:¬p.1=k:=λz=>by rw[d8 z]at hn;cases hn
  rw[d5 hk]at hn;have ih:=qa k j y r hn;by_cases e:p.1=j
  ·rw[d8 e,d8 e,if_neg (λz=>hk (e.trans z))]
  ·rw[d5 e,d5 e,ih]
theorem fb(kvs:List (κ×V))(k j:κ)(y:V):dr (putK kvs k y) j=if j=k then some y else dr kvs j:=by
 unfold putK;by_cases a:(kvs.any λkv=>decide (kv.1=k))=true
 ·rw[if_pos a,tU]
  rw[gn]at a;by_cases e:j=k
  ·obtain⟨x,hx⟩:=isSome_iff_exists.mp a
   rw[if_pos e,e,hx,map_some,if_pos rfl]
  ·rw[if_neg e]
   cases dr kvs j with
   |none=>rfl
   |some x=>rw[map_some,if_neg e]
 ·rw[if_neg a]
  refine qa k j y kvs ?_;rw[gn]at a;cases q:dr kvs k with
  |none=>rfl
  |some x=>rw[q]at a;exact(a rfl).elim
theorem eT(kvs:List (κ×V))(k:κ)(v:V):(putK kvs k v).length<=kvs.length+1:=by
 unfold putK;split
 ·rw[length_map];omega
 ·rw[length_append,length_cons,List.length_nil];omega
theorem iU.hV{o:Option V}{u:Option Value}(r:iU o u):o.isSome=u.isSome:=by
 cases o with
 |none=>cases u with
  |none=>rfl
  |some _=>exact(show False from r).elim
 |some _=>cases u with
  |none=>exact(show False from r).elim
  |some _=>rfl
theorem iU.getD{o:Option V}{u:Option Value}{d:V}{d':Value}(r:iU o u)(rd:RelV d d'):RelV (o.getD d) (u.getD d'):=by
 cases o with
 |none=>cases u with
  |none=>exact rd
  |some _=>exact(show False from r).elim
 |some _=>cases u with
  |none=>exact(show False from r).elim
  |some _=>exact r
theorem KV.val{kvs:List (κ×V)}{vs:List (κ×Value)}(r:KV kvs vs)(k:κ):iU (dr kvs k) (valueAt vs k):=by
 unfold KV at r
 induction r with
 |nil=>exact True.intro
 | @cons p q ps qs h t ih=>
  obtain⟨h1,h2⟩:=h;by_cases e:p.1=k
  ·have e':q.1=k:=h1.symm.trans e
   have b:valueAt (q::qs) k=some q.2:=by simp[valueAt,find?_cons,e']
   rw[d8 e,b];exact h2
  ·have e':¬q.1=k:=λz=>e (h1.trans z)
   have b:valueAt (q::qs) k=valueAt qs k:=by simp[valueAt,find?_cons,e']
   rw[d5 e,b];exact ih
theorem KV.any{kvs:List (κ×V)}{vs:List (κ×Value)}(r:KV kvs vs)(k:κ):(kvs.any λkv=>decide (kv.1=k))=vs.any λkv=>decide (kv.1=k):=by
 unfold KV at r
 induction r with
 |nil=>rfl
 |cons h t ih=>rw[any_cons,any_cons,ih,h.1]
theorem KV.FE{kvs:List (κ×V)}{vs:List (κ×Value)}(r:KV kvs vs)(k:κ){y:V}{u:Value}(ry:RelV y u):
  KV (kvs.map λkv=>if kv.1=k then(kv.1,y) else kv) (vs.map λkv=>if kv.1=k then(kv.1,u) else kv):=by
 unfold KV at r ⊢
 induction r with
 |nil=>exact .nil
 | @cons p q ps qs h t ih=>
  rw[map_cons,map_cons];refine .cons ?_ ih;obtain⟨h1,h2⟩:=h;by_cases e:p.1=k
  ·rw[if_pos e,if_pos (h1.symm.trans e)];exact⟨h1,ry⟩
  ·rw[if_neg e,if_neg (λz=>e (h1.trans z))];exact⟨h1,h2⟩
theorem KV.put{kvs:List (κ×V)}{vs:List (κ×Value)}(r:KV kvs vs)(k:κ){y:V}{u:Value}(ry:RelV y u):KV (putK kvs k y) (stored vs k u):=by
 unfold putK stored;rw[r.any k];by_cases e:(vs.any λkv=>decide (kv.1=k))=true
 ·rw[if_pos e,if_pos e];exact r.FE k ry
 ·rw[if_neg e,if_neg e];exact Paired.snoc r ⟨rfl,ry⟩
theorem KV.keys{kvs:List (κ×V)}{vs:List (κ×Value)}(r:KV kvs vs):kvs.map (·.1)=vs.map (·.1):=by
 unfold KV at r
 induction r with
 |nil=>rfl
 |cons h t ih=>rw[map_cons,map_cons,ih,h.1]
theorem KV.length{kvs:List (κ×V)}{vs:List (κ×Value)}(r:KV kvs vs):kvs.length=vs.length:=Paired.length r
end
theorem nU{P:Program}{w:World}{k:Key}{u:Value}(r:RelV (kV k) u):(cL P w).is k u=true:=by
 cases k with
 |inl i=>obtain⟨t,e⟩:=(show ∃t,u=Value.int i t from r);subst e;exact tF P w i t
 |inr x=>obtain⟨t,e⟩:=(show ∃t,u=Value.str x t from r);subst e;exact uz P w x t
theorem qc{P:Program}{w:World}:∀{ks:List Key}{us:List Value},Vals (ks.map kV) us->ItemsAre (cL P w) ks us
 |[],_,r=>by rw[map_nil]at r;cases r;exact .nil
 |k::ks,_,r=>by
  rw[map_cons]at r;cases r with
  |cons h t=>exact .cons (nU h) (qc t)
abbrev KT(H:Hp):List (List Key×V)->List (List Key×Addr×Value)->Prop:=Paired λp q=>p.1=q.1/\H q.2.1=some (.tup (p.1.map kV))/\RelV p.2 q.2.2
theorem KT.val{H:Hp}{kvs:List (List Key×V)}{xs:List (List Key×Addr×Value)}(r:KT H kvs xs)(k:List Key):iU (dr kvs k) ((atKey xs k).map (·.2)):=by
 induction r with
 |nil=>exact True.intro
 | @cons p q ps qs h t ih=>
  obtain⟨h1,_,h2⟩:=h;by_cases e:p.1=k
  ·have e':q.1=k:=h1.symm.trans e
   have b:atKey (q::qs) k=some q.2:=by simp[atKey,find?_cons,e']
   rw[d8 e,b];exact h2
  ·have e':¬q.1=k:=λz=>e (h1.trans z)
   have b:atKey (q::qs) k=atKey qs k:=by simp[atKey,find?_cons,e']
   rw[d5 e,b];exact ih
theorem KT.FE{H:Hp}{kvs:List (List Key×V)}{xs:List (List Key×Addr×Value)}(r:KT H kvs xs)(k:List Key){y:V}{u:Value}(ry:RelV y u):
  KT H (kvs.map λkv=>if kv.1=k then(kv.1,y) else kv) (xs.map (putAt k u)):=by
 induction r with
 |nil=>exact .nil
 | @cons p q ps qs h t ih=>
  rw[map_cons,map_cons];refine .cons ?_ ih;obtain⟨h1,h2,h3⟩:=h;unfold putAt;by_cases e:p.1=k
  ·rw[if_pos e,if_pos (h1.symm.trans e)];exact⟨h1,h2,ry⟩
  ·rw[if_neg e,if_neg (λz=>e (h1.trans z))];exact⟨h1,h2,h3⟩
theorem KT.put{H:Hp}{kvs:List (List Key×V)}{xs:List (List Key×Addr×Value)}(r:KT H kvs xs)(k:List Key){b:Addr}{y:V}{u:Value}(hb:H b=some (.tup (k.map kV)))(ry:RelV y u):
  KT H (putK kvs k y) (storedH xs k b u):=by
 have e:(kvs.any λkv=>decide (kv.1=k))=(atKey xs k).isSome:=by
  rw[gn,(r.val k).hV,isSome_map]
 unfold putK storedH;rw[e];by_cases q:(atKey xs k).isSome=true
 ·rw[if_pos q,if_pos q];exact r.FE k ry
 ·rw[if_neg q,if_neg q];exact Paired.snoc r ⟨rfl,hb,ry⟩
theorem KT.keeps{H H':Hp}{kvs:List (List Key×V)}{xs:List (List Key×Addr×Value)}(r:KT H kvs xs)(ht:∀b ys,H b=some (.tup ys)->H' b=some (.tup ys)):KT H' kvs xs:=
 Paired.Fn r λ_ _ z=>⟨z.1,ht _ _ z.2.1,z.2.2⟩
section
variable {P:Program}{w:World}{H:Hp}{h:Heap}{a:Addr}
theorem El{u:HO}(ok:gB P w H h)(e:Rd H a u):dy P w H h a u:=e.ok ok
theorem pI{kvs:List (Key×V)}(ok:gB P w H h)(e:Rd H a (.dK kvs)):kvs.length<=sizeLine/\(a == sysModules)=false/\∃vs,KV kvs vs/\h.DictOf (cL P w) a vs:=
 show dy P w H h a (.dK kvs) from El ok e
theorem EI{kvs:List (Key×V)}(ok:gB P w H h)(e:H a=some (.dK kvs)):kvs.length<=sizeLine/\(a == sysModules)=false/\∃vs,KV kvs vs/\h.DictOf (cL P w) a vs:=pI ok (.inl e)
theorem lL{ks:List Key}(ok:gB P w H h)(e:H a=some (.tup (ks.map kV))):(tupleKind (cL P w)).is h ks a:=by
 obtain⟨_,its,r,o,h1,h2,n,h3⟩:=(show dy P w H h a (.tup (ks.map kV)) from ok a _ e);exact⟨o,its.toArray,n,h1,h2,h3,by simpa using qc r⟩
theorem oh{kvs:List (List Key×V)}(ok:gB P w H h)(e:Rd H a (.dT kvs)):kvs.length<=sizeLine/\(a == sysModules)=false/\
  ∃xs,KT H kvs xs/\h.DictOfH (tupleKind (cL P w)) a xs:=by
 obtain⟨z,y,xs,r,o,es,ep,h1,h2,h3,h4,h5⟩:=(show dy P w H h a (.dT kvs) from El ok e);refine⟨z,y,xs,r,o,es,ep,h1,h2,h3,h4,λx hx=>?_,h5⟩;have all:∀{l:List (List Key×V)}{m:List (List Key×Addr×Value)},KT H l m->∀x∈m,(tupleKind (cL P w)).is h x.1 x.2.1:=by
  intro l m q
  induction q with
  |nil=>intro x hx;exact nomatch hx
  | @cons p q ps qs hq t ih=>
   intro x hx;rcases mem_cons.mp hx with e|hx
   ·subst e
    exact lL ok (by rw[<-hq.1];exact hq.2.1)
   ·exact ih x hx
 exact all r x hx
theorem Ia{kvs:List (List Key×V)}(ok:gB P w H h)(e:H a=some (.dT kvs)):kvs.length<=sizeLine/\(a == sysModules)=false/\
  ∃xs,KT H kvs xs/\h.DictOfH (tupleKind (cL P w)) a xs:=oh ok (.inl e)
end
def dN(H:Hp)(a:Addr)(y:V)(r:Option V):Prop:=
 (∃kvs k,Rd H a (.dK kvs)/\y=kV k/\r=dr kvs k)\/∃kvs k b,Rd H a (.dT kvs)/\y=.ref b/\H b=some (.tup (k.map kV))/\r=dr kvs k
def jc(H:Hp)(a:Addr)(y v:V)(H':Hp):Prop:=
 (∃kvs k,H a=some (.dK kvs)/\y=kV k/\kvs.length < sizeLine/\H'=upd H a (.dK (putK kvs k v)))\/
 ∃kvs k b,H a=some (.dT kvs)/\y=.ref b/\H b=some (.tup (k.map kV))/\kvs.length < sizeLine/\H'=upd H a (.dT (putK kvs k v))
theorem dN.k{H:Hp}{a:Addr}{kvs:List (Key×V)}{k:Key}(e:H a=some (.dK kvs)):dN H a (kV k) (dr kvs k):=.inl ⟨kvs,k,.inl e,rfl,rfl⟩
theorem dN.t{H:Hp}{a b:Addr}{kvs:List (List Key×V)}{k:List Key}(e:H a=some (.dT kvs))(eb:H b=some (.tup (k.map kV))):dN H a (.ref b) (dr kvs k):=.inr ⟨kvs,k,b,.inl e,rfl,eb,rfl⟩
theorem jc.k{H:Hp}{a:Addr}{kvs:List (Key×V)}{k:Key}{v:V}(e:H a=some (.dK kvs))(hl:kvs.length < sizeLine):jc H a (kV k) v (upd H a (.dK (putK kvs k v))):=.inl ⟨kvs,k,e,rfl,hl,rfl⟩
theorem jc.t{H:Hp}{a b:Addr}{kvs:List (List Key×V)}{k:List Key}{v:V}(e:H a=some (.dT kvs))(eb:H b=some (.tup (k.map kV)))(hl:kvs.length < sizeLine):
  jc H a (.ref b) v (upd H a (.dT (putK kvs k v))):=.inr ⟨kvs,k,b,e,rfl,eb,hl,rfl⟩
section
variable {X:Cx}{pins:List (Addr×Obj)}{σ:St}{H:Hp}{s:Shared}{a:Addr}{y v:V}{u r:Value}{o:Option V}{A:Around}{E:Value->Shared->Prop}
theorem Inv.big(I:Inv X pins σ H s):sysModules < s.heap.objs.size:=by
 have h:mainGlobals < s.heap.objs.size:=(I.mod.glob.keeps I.bk).lt;exact lt_trans (by decide) h
theorem yM{Q:Value->Shared->Prop}(hu:A.units+1 < cLine)(I:Inv X pins σ H s)(g:dN H a y (some v))(ry:RelV y u)(h:∀w' s',Inv X pins σ H s'->RelV v w'->Q w' s'):
  wpAny (model X.prog X.w) A (getItem (.ref a) u) Q E s:=by
 rcases g with ⟨kvs,k,e,ey,l⟩|⟨kvs,k,b,e,ey,eb,l⟩
 ·subst ey
  obtain⟨z,hd,vs,rel,dd⟩:=pI I.hok e;obtain⟨w',hw,rw'⟩:=iU.some_of (v:=v) (o:=valueAt vs k) (by rw[l];exact rel.val k);exact wpAny_getItem_of (nU ry) dd.mapOf hw (h w' _ (I.tok _) rw')
 ·subst ey
  cases (show u=Value.ref b from ry);obtain⟨z,hd,xs,rel,dd⟩:=oh I.hok e;obtain⟨w',hw,rw'⟩:=iU.some_of (v:=v) (o:=(atKey xs k).map (·.2)) (by rw[l];exact rel.val k);obtain⟨p,hp,hp2⟩:=map_eq_some_iff.mp hw;refine wpAny_getItem_heap (tupleKind_room_in1 hu) (lL I.hok eb) dd hp ?_;rw[hp2];exact h w' _ (I.tok _) rw'
theorem K3{Q:Value->Shared->Prop}(hu:A.units+1 < cLine)(I:Inv X pins σ H s)(g:dN H a y o)(ry:RelV y u)(h:∀s',Inv X pins σ H s'->Q (.bool o.isSome) s'):
  wpAny (model X.prog X.w) A (compareOp .In u (.ref a)) Q E s:=by
 rcases g with ⟨kvs,k,e,ey,l⟩|⟨kvs,k,b,e,ey,eb,l⟩
 ·subst ey
  obtain⟨z,hd,vs,rel,dd⟩:=pI I.hok e;refine wpAny_in_of (nU ry) hd dd.mapOf ?_;rw[<-(rel.val k).hV,<-l];exact h _ (I.tok _)
 ·subst ey
  cases (show u=Value.ref b from ry);obtain⟨z,hd,xs,rel,dd⟩:=oh I.hok e;refine wpAny_in_heap (tupleKind_room_in1 hu) (lL I.hok eb) hd dd ?_;have q:=(rel.val k).hV;rw[isSome_map]at q;rw[<-q,<-l];exact h _ (I.tok _)
theorem Cm{Q:Value->Shared->Prop}(hu:A.units+1 < cLine)(I:Inv X pins σ H s)(g:dN H a y o)(ry:RelV y u)(h:∀s',Inv X pins σ H s'->Q (.bool (!o.isSome)) s'):
  wpAny (model X.prog X.w) A (compareOp .NotIn u (.ref a)) Q E s:=by
 rcases g with ⟨kvs,k,e,ey,l⟩|⟨kvs,k,b,e,ey,eb,l⟩
 ·subst ey
  obtain⟨z,hd,vs,rel,dd⟩:=pI I.hok e;refine wpAny_notIn_of (nU ry) hd dd.mapOf ?_;rw[<-(rel.val k).hV,<-l];exact h _ (I.tok _)
 ·subst ey
  cases (show u=Value.ref b from ry);obtain⟨z,hd,xs,rel,dd⟩:=oh I.hok e;refine wpAny_notIn_heap (tupleKind_room_in1 hu) (lL I.hok eb) hd dd ?_;have q:=(rel.val k).hV;rw[isSome_map]at q;rw[<-q,<-l];exact h _ (I.tok _)
theorem wU{h':Heap}{t':Nat}{ob:HO}(I:Inv X pins σ H s)(mu:HS (H a))(hs:Heap.SameBut a s.heap h')(he:∃q,h'.get? a=some q)(new:dy X.prog X.w (upd H a ob) h' a ob):
  Inv X pins σ (upd H a ob) { s with heap:=h',toks:=t' }:=
 I.write (x:=a) (e:=a) mu (.inl rfl) (λb q hb z=>(hs.2 b hb).trans z) he new
theorem zz{P:Program}{w:World}{H':Hp}{h':Heap}{kvs:List (Key×V)}{vs:List (Key×Value)}(z:kvs.length<=sizeLine)(hd:(a == sysModules)=false)(rel:KV kvs vs)(dd:h'.DictOf (cL P w) a vs):
  dy P w H' h' a (.dK kvs):=⟨z,hd,vs,rel,dd⟩
theorem yr{H':Hp}{Q:Unit->Shared->Prop}(hu:A.units+1 < cLine)(I:Inv X pins σ H s)(g:jc H a y v H')(ry:RelV y u)(rv:RelV v r)(h:∀s',Inv X pins σ H' s'->Q () s'):
  wpAny (model X.prog X.w) A (setItem (.ref a) u r) Q E s:=by
 rcases g with ⟨kvs,k,e,ey,l,eH⟩|⟨kvs,k,b,e,ey,eb,l,eH⟩
 ·subst ey eH
  obtain⟨z,hd,vs,rel,dd⟩:=EI I.hok e;have hz:vs.length<=sizeLine:=by rw[<-rel.length];exact z
  have hl:(putK kvs k v).length<=sizeLine:=by have:=eT kvs k v;omega
  refine wpAny_setItem_pairs (hsz:=hz) (nU ry) dd λh' dd' hs=>h _ ?_;have he:∃q,h'.get? a=some q:=let ⟨q,_,_,hq,_⟩:=dd';⟨q,hq⟩;exact wU I (by rw[e];exact True.intro) hs he (zz hl hd (rel.put k rv) dd')
 ·subst ey eH
  cases (show u=Value.ref b from ry);obtain⟨z,hd,xs,rel,dd⟩:=Ia I.hok e;have hz:xs.length<=sizeLine:=by rw[<-Paired.length rel];exact z
  have hl:(putK kvs k v).length<=sizeLine:=by have:=eT kvs k v;omega
  refine wpAny_setItem_heap (hsz:=hz) (tupleKind_room_in1 hu) (lL I.hok eb) dd λh' dd' hs=>h _ ?_;obtain⟨q,es,ep,hq,h2,h3,h4,_,h5⟩:=dd';refine wU I (by rw[e];exact True.intro) hs ⟨q,hq⟩ ⟨hl,hd,_,(rel.put k eb rv).keeps λc ys ec=>?_,q,es,ep,hq,h2,h3,h4,h5⟩;rw[cG (mO ec e (λz=>nomatch z))];exact ec
end
section
variable {X:Cx}{pins:List (Addr×Obj)}{σ:St}{H:Hp}{s:Shared}{a:Addr}{kvs:List (Key×V)}{k:Key}{u:Value}{A:Around}{E:Value->Shared->Prop}
end
def JD(i:Expr):Prop:=∀ov iv,subscripted i false ov iv=operate [ov,iv] (getItem ov iv)
theorem DZ{prog:Program}{w:World}{A:Around}{E:Value->Shared->Prop}{s:Shared}{env:Env}{value slice:Expr}{pos:Pos}{T id:String}{Q:Value->Shared->Prop}
  (hl:typeLookup (.type T) "__getitem__" =pure (some (.builtin id))) (hs:JD slice)
  (h:wpAny (model prog w) A (eval value env) (λo s₁=>wpAny (model prog w) A (eval slice env) (λi s₂=>s₂.TypeIs o T/\wpAny (model prog w) A (getItem o i) Q E s₂) E s₁) E s):
  wpAny (model prog w) A (eval (.Subscript value slice pos) env) Q E s:=by
 refine Subscript_ (wpAny_mono h (λo s₁ h₁=>wpAny_mono h₁ (λi s₂ h₂=>?_) λ_ _ x=>x) λ_ _ x=>x);obtain⟨hT,h₂⟩:=h₂;unfold subscriptTail;refine wpAny_bind ?_;rw[getitemInPython_of_ne hT.not_modules];refine wpAny_bind (wpAny_specialOf hT hl ?_);have fin:wpAny (model prog w) A (subscripted slice false o i) (λr s₃=>wpAny (model prog w) A (letTemporaryGo value o r >>= λ_=>pure r) Q E s₃) E s₂:=by
  rw[hs o i];exact wpAny_operating (wpAny_mono h₂ (λr s₃ h₃=>wpAny_bind (wpAny_letTemporaryGo (wpAny_pure h₃))) λ_ _ x=>x)
 first
  |exact wpAny_pure (wpAny_bind fin)
  |exact wpAny_bind (wpAny_pure (wpAny_bind fin))
  |exact wpAny_bind fin
theorem sO{X:Cx}{pins:List (Addr×Obj)}{σ:St}{H:Hp}{s:Shared}{a:Addr}{y:V}{o:Option V}(I:Inv X pins σ H s)(g:dN H a y o):s.TypeIs (.ref a) "dict" :=by
 rcases g with ⟨kvs,k,e,_,_⟩|⟨kvs,k,b,e,_,_,_⟩
 ·obtain⟨_,_,vs,_,dd⟩:=pI I.hok e
  exact dd.typeIs
 ·obtain⟨_,_,xs,_,dd⟩:=oh I.hok e
  exact dd.typeIs
def Es(td ty:TE):TE:=λσ H Q=>td σ H λx H1=>ty σ H1 λy H2=>∃a v,x=.ref a/\dN H2 a y (some v)/\Q v H2
def DY(ty td:TE):TE:=λσ H Q=>ty σ H λy H1=>td σ H1 λx H2=>∃a o,x=.ref a/\dN H2 a y o/\Q (.bl o.isSome) H2
def nE(ty td:TE):TE:=λσ H Q=>ty σ H λy H1=>td σ H1 λx H2=>∃a o,x=.ref a/\dN H2 a y o/\Q (.bl (!o.isSome)) H2
def Ee(td ty tv:TE):TS:=λD σ H=>tv σ H λv H1=>td σ H1 λx H2=>ty σ H2 λy H3=>∃a H4,x=.ref a/\jc H3 a y v H4/\D.nx σ H4
def L8(td ty tv:TE)(rd:V->V->Hp->VK->Prop):TS:=λD σ H=>td σ H λx H1=>ty σ H1 λy H2=>∃a v,x=.ref a/\dN H2 a y (some v)/\
 tv σ H2 λy2 H3=>rd v y2 H3 λz H4=>∃H5,jc H4 a y z H5/\D.nx σ H5
def Mq(td ty:TE):TS:=λD σ H=>td σ H λx H1=>ty σ H1 λy H2=>∃a kvs k,x=.ref a/\H2 a=some (.dK kvs)/\y=kV k/\(dr kvs k).isSome=true/\D.nx σ (upd H2 a (.dK (zM kvs k)))
section
variable {X:Cx}{o i e value:Expr}{pos pos' tpos:Pos}{td ty tv:TE}
theorem C3(hu:X.A.units+1 < cLine)(ho:PE X o td)(hi:PE X i ty)(hs:JD i):PE X (.Subscript o i pos) (Es td ty):=by
 intro pins s σ H Q I h;refine DZ PySem.F.slot_dict_getitem.lookup hs (dz (ho pins s σ H _ I h) λu s1 ⟨x,H1,I1,rx,q1⟩=>dz (hi pins s1 σ H1 _ I1 q1) λiv s2 hpat=>?_);obtain⟨y,H2,I2,ry,a,v,ex,g,q2⟩:=hpat;subst ex;obtain rfl:u=Value.ref a:=rx;exact⟨sO I2 g,yM hu I2 g ry λw' s3 I3 rw'=>⟨v,H2,I3,rw',q2⟩⟩
theorem Az(hu:X.A.units+1 < cLine)(hi:PE X i ty)(ho:PE X o td):PC X .In i o (DY ty td):=by
 intro pins s σ H Q I h;refine dz (hi pins s σ H _ I h) λiv s1 ⟨y,H1,I1,ry,q1⟩=>dz (ho pins s1 σ H1 _ I1 q1) λu s2 hpat=>?_;obtain⟨x,H2,I2,rx,a,ov,ex,g,q2⟩:=hpat;subst ex;obtain rfl:u=Value.ref a:=rx;exact K3 hu I2 g ry λs3 I3=>⟨.bl ov.isSome,H2,I3,rfl,q2⟩
theorem qD(hu:X.A.units+1 < cLine)(hi:PE X i ty)(ho:PE X o td):PC X .NotIn i o (nE ty td):=by
 intro pins s σ H Q I h;refine dz (hi pins s σ H _ I h) λiv s1 ⟨y,H1,I1,ry,q1⟩=>dz (ho pins s1 σ H1 _ I1 q1) λu s2 hpat=>?_;obtain⟨x,H2,I2,rx,a,ov,ex,g,q2⟩:=hpat;subst ex;obtain rfl:u=Value.ref a:=rx;exact Cm hu I2 g ry λs3 I3=>⟨.bl (!ov.isSome),H2,I3,rfl,q2⟩
theorem Cj(hu:X.A.units+1 < cLine)(ho:PE X o td)(hi:PE X i ty)(hv:PE X value tv)(hs:swapsWith value (some (.Subscript o i pos')) pos.line X.env=pure false):
  PS X (.Assign [.Subscript o i pos'] value pos) (Ee td ty tv):=by
 intro pins s σ H D I h;refine wpAny_Assign_Subscript (dz (hv pins s σ H _ I h) λr s1 ⟨v,H1,I1,rv,q1⟩=>dz (ho pins s1 σ H1 _ I1 q1) λu s2 ⟨x,H2,I2,rx,q2⟩=>dz (hi pins s2 σ H2 _ I2 q2) λiv s3 hpat=>?_) hs;obtain⟨y,H3,I3,ry,a,H4,ex,g,q3⟩:=hpat;subst ex;obtain rfl:u=Value.ref a:=rx;exact yr hu I3 g ry rv λs4 I4=>⟨σ,H4,I4,q3⟩
end
theorem zS{P:Program}{w:World}{H:Hp}(h:Heap)(hb:sysModules < h.objs.size):dy P w H (h.push { cls:=.type "dict",data:=.dict #[] }) h.objs.size (.dT []):=
 ⟨zero_le _,beq_eq_false_iff_ne.mpr (Ne.symm (ne_of_lt hb)),[],.nil,_,#[],0,get?_push_size _ rfl,⟨rfl,rfl,rfl⟩,rfl,rfl,nodup_nil⟩
def Lr:TE:=λ_ H Q=>∀p,H p=none->Q (.ref p) (upd H p (.dK []))
def Bu:TE:=λ_ H Q=>∀p,H p=none->Q (.ref p) (upd H p (.dT []))
section
variable {X:Cx}{pos:Pos}
theorem zR:PE X (.Dict [] [] pos) Bu:=λpins s σ H Q I h=>
 wpAny_Dict_empty ⟨.ref s.heap.objs.size,_,I.laid (a:=s.heap.objs.size) (o:=.dT []) (t':=s.toks) (λ_ _ q=>get?_push_of_some _ q) (le_refl _) (zS s.heap I.big),rfl,h _ (I.hok.fresh (le_refl _))⟩
end
def vI:List (TE×TE)->St->Hp->(List (V×V)->Hp->Prop)->Prop
 |[],_,H,Q=>Q [] H
 | (tk,tv)::r,σ,H,Q=>tk σ H λx H1=>tv σ H1 λy H2=>vI r σ H2 λps H3=>Q ((x,y)::ps) H3
abbrev VV:List (V×V)->List (Value×Value)->Prop:=Paired λp q=>RelV p.1 q.1/\RelV p.2 q.2
def NY(X:Cx)(pos:Pos)(keys:List (Option Expr))(values:List Expr)(trs:List (TE×TE)):Prop:=
 ∀(pins:List (Addr×Obj)) (s:Shared) (σ:St) (H:Hp) (Q:List (V×V)->Hp->Prop),Inv X pins σ H s->vI trs σ H Q->
  wpAny (model X.prog X.w) X.A (evalPairs (pairTrees keys values X.env pos)) (λvs s'=>∃ps H',Inv X pins σ H' s'/\VV ps vs/\Q ps H') X.xe s
def dQ(kvs more:List (Key×V)):List (Key×V):=more.foldl (λacc kv=>putK acc kv.1 kv.2) kvs
theorem KV.merge:∀{more:List (Key×V)}{rs:List (Key×Value)}{kvs:List (Key×V)}{vs:List (Key×Value)},KV more rs->KV kvs vs->KV (dQ kvs more) (merged vs rs):=by
 intro more rs kvs vs r;unfold KV at r
 induction r generalizing kvs vs with
 |nil=>intro q;exact q
 | @cons p q ps qs h t ih=>
  intro r0;have e:KV (putK kvs p.1 p.2) (stored vs q.1 q.2):=by
   have:=r0.put p.1 h.2;rw[<-h.1];exact this
  exact ih e
theorem jL:∀(more kvs:List (Key×V)),(dQ kvs more).length<=kvs.length+more.length
 |[],kvs=>by show kvs.length<=kvs.length+0;omega
 |p::r,kvs=>by
  have h1:=jL r (putK kvs p.1 p.2);have h2:=eT kvs p.1 p.2;show(dQ (putK kvs p.1 p.2) r).length<=_;rw[length_cons];omega
def L4(trs:List (TE×TE)):TE:=λσ H Q=>∀p,H p=none->vI trs σ (upd H p (.dK [])) λps H2=>H2 p=some (.dK [])/\∃kvs:List (Key×V),ps=kvs.map (λkv=>(kV kv.1,kv.2))/\kvs.length<=15/\Q (.ref p) (upd H2 p (.dK (dQ [] kvs)))
structure M1(X:Cx)(o:Expr)(m:Str)(apos:Pos)(e:Expr)(cpos:Pos):Prop where
 base:attributeBase o m X.env (eval o X.env)=eval o X.env
 Kj:((backTo cpos (starEach [e] X.env)).all (λx=> !x.1) && (backToKw cpos (keywordEach [] X.env)).all (λx=>x.1.isSome)
  && decide (([e]:List Expr).length+([]:List Keyword).length+(if([]:List Keyword).isEmpty then 0 else 1) < 30))=true
 line:(apos.endLine == cpos.line)=true
 trees:backTo cpos (starEach [e] X.env)=[(false,eval e X.env)]
structure M2(X:Cx)(o:Expr)(m:Str)(apos:Pos)(e f:Expr)(cpos:Pos):Prop where
 base:attributeBase o m X.env (eval o X.env)=eval o X.env
 Kj:((backTo cpos (starEach [e,f] X.env)).all (λx=> !x.1) && (backToKw cpos (keywordEach [] X.env)).all (λx=>x.1.isSome)
  && decide (([e,f]:List Expr).length+([]:List Keyword).length+(if([]:List Keyword).isEmpty then 0 else 1) < 30))=true
 line:(apos.endLine == cpos.line)=true
 trees:backTo cpos (starEach [e,f] X.env)=[(false,eval e X.env),(false,eval f X.env)]
def HP(H:Hp)(a:Addr):Prop:=(∃kvs,Rd H a (.dK kvs))\/∃kvs,Rd H a (.dT kvs)
theorem GO{X:Cx}{pins:List (Addr×Obj)}{σ:St}{H:Hp}{s:Shared}{a:Addr}(I:Inv X pins σ H s)(d:HP H a):
  s.TypeIs (.ref a) "dict" /\(∀b,Value.ref a=.ref b->∃ob,s.heap.get? b=some ob/\ob.dict=none)/\(a == sysModules)=false:=by
 rcases d with ⟨kvs,e⟩|⟨kvs,e⟩
 ·obtain⟨_,hd,vs,_,dd⟩:=pI I.hok e
  refine⟨dd.typeIs,λb q=>?_,hd⟩;cases q;obtain⟨ob,_,_,h1,h2,_⟩:=dd;exact⟨ob,h1,h2.2.1⟩
 ·obtain⟨_,hd,xs,_,dd⟩:=oh I.hok e
  refine⟨dd.typeIs,λb q=>?_,hd⟩;cases q;obtain⟨ob,_,_,h1,h2,_⟩:=dd;exact⟨ob,h1,h2.2.1⟩
section
variable {X:Cx}{pins:List (Addr×Obj)}{σ:St}{H:Hp}{s:Shared}{a:Addr}{y d:V}{u r:Value}{o:Option V}{A:Around}{E:Value->Shared->Prop}
theorem ES{Q:Value->Shared->Prop}(hu:A.units+1 < cLine)(I:Inv X pins σ H s)(g:dN H a y o)(ry:RelV y u)(rd:RelV d r)(h:∀w' s',Inv X pins σ H s'->RelV (o.getD d) w'->Q w' s'):
  wpAny (model X.prog X.w) A (call (.builtin "dict.get") [.ref a,u,r]) Q E s:=by
 rcases g with ⟨kvs,k,e,ey,l⟩|⟨kvs,k,b,e,ey,eb,l⟩
 ·subst ey
  obtain⟨z,hd,vs,rel,dd⟩:=pI I.hok e;refine call_meetsIn slot_dict_get dd.typeIs PySem.F.entry_dict_get (PySem.F.args_dict_get_3 _ _ _) (meets_dict_get_default (cL X.prog X.w) a (nU ry) hd r) ⟨_,dd.mapOf,h _ _ (I.tok _) ?_⟩;rw[l];exact(rel.val k).getD rd
 ·subst ey
  cases (show u=Value.ref b from ry);obtain⟨z,hd,xs,rel,dd⟩:=oh I.hok e;refine call_meetsIn slot_dict_get dd.typeIs PySem.F.entry_dict_get (PySem.F.args_dict_get_3 _ _ _) (meetsH_dict_get_default (tupleKind (cL X.prog X.w)) a b hd r) ⟨tupleKind_room_in1 hu,k,xs,lL I.hok eb,dd,h _ _ (I.tok _) ?_⟩;rw[l];exact(rel.val k).getD rd
end
def Lw(td ty:TE):TE:=λσ H Q=>td σ H λx H1=>∃a,x=.ref a/\HP H1 a/\ty σ H1 λy H2=>∃o,dN H2 a y o/\Q (o.getD .non) H2
def zH(td ty tx:TE):TE:=λσ H Q=>td σ H λx H1=>∃a,x=.ref a/\HP H1 a/\ty σ H1 λy H2=>tx σ H2 λz H3=>∃o,dN H3 a y o/\Q (o.getD z) H3
def LJ(td ty:TE):TE:=λσ H Q=>td σ H λx H1=>∃a,x=.ref a/\HP H1 a/\ty σ H1 λy H2=>∃kvs k v,H2 a=some (.dK kvs)/\y=kV k/\dr kvs k=some v/\Q v (upd H2 a (.dK (zM kvs k)))
def Lc(td ty tx:TE):TE:=λσ H Q=>td σ H λx H1=>∃a,x=.ref a/\HP H1 a/\ty σ H1 λy H2=>tx σ H2 λz H3=>∃kvs k,H3 a=some (.dK kvs)/\y=kV k/\
 (∀v,dr kvs k=some v->Q v (upd H3 a (.dK (zM kvs k))))/\(dr kvs k=none->Q z H3)
section
variable {X:Cx}{o e f:Expr}{apos cpos:Pos}{td ty tx:TE}
theorem BG (hu:X.A.units+1 < cLine) (ho:PE X o td) (he:PE X e ty) (hf:PE X f tx) (m:M2 X o "get" apos e f cpos):PE X (.Call (.Attribute o "get" apos) [e,f] [] cpos) (zH td ty tx):=by
 intro pins s σ H Q I h;refine wpAny_Call_method m.base m.Kj m.line PySem.F.plainAttrs_dict slot_dict_get PySem.F.type_dict_get (dz (ho pins s σ H _ I h) λu s1 hpat=>?_);obtain⟨x,H1,I1,rx,a,ex,d,q1⟩:=hpat;subst ex;obtain rfl:u=Value.ref a:=rx;obtain⟨t1,t2,_⟩:=GO I1 d;refine⟨t1,t2,?_⟩;rw[m.trees];refine Calls.callWith_builtin rfl (Calls.evalArgs_plain (Calls.spliced_cons (dz (he pins s1 σ H1 _ I1 q1) λiv s2 ⟨y,H2,I2,ry,q2⟩=>
  Calls.spliced_cons (dz (hf pins s2 σ H2 _ I2 q2) λfv s3 ⟨z,H3,I3,rz,ov,g,q3⟩=>Calls.spliced_nil ?_))))
 exact ES hu I3 g ry rz λw' s4 I4 rw'=>⟨_,H3,I4,rw',q3⟩
end
section
variable {X:Cx}{pins:List (Addr×Obj)}{σ:St}{H:Hp}{s:Shared}{a:Addr}{kvs:List (Key×V)}{A:Around}{E:Value->Shared->Prop}
end
section
variable {X:Cx}{pins:List (Addr×Obj)}{σ:St}{H:Hp}{s:Shared}{a:Addr}{y:V}{u:Value}{A:Around}{E:Value->Shared->Prop}
end
end L2
namespace L2
open PySem PySem.Spec PyProof.Rows
theorem vB:bootBuiltins "any" =some (.builtin "any"):=by decide+kernel
section
variable {X:Cx}{y m:Str}{N':List Str}{scope:Scope}{cl:List (Str×Addr)}{fp:List Addr}{s3:Shared}{H3:Hp}{C D:Addr}{sp:Sp}
theorem yu.lg(B:yu X y sp)(h:scope.names.lookup y=some .globalImplicit):DB (dq X N' scope cl fp s3 H3 C) y sp:=⟨B.ex,iB (by decide) h,B.db⟩
end
def zK(zs xs:List V):Bool:=(List.range (min zs.length xs.length)).all (λi=>uO (zs.getD i .non) (xs.getD i .non)) && zs.length == xs.length
def J2(H:Hp)(xs:List V)(v:V):Bool:=match v with
 |.ref c=>match H c with
  |some (.tup zs)=>zK zs xs
  |_=>false
 |_=>false
theorem Af{x:V}(f:dE x=true):uO x x=true:=by
 cases x with
 |non=>rfl
 |bl b=>exact beq_self_eq_true b
 |int i=>exact beq_self_eq_true i
 |str z=>exact beq_self_eq_true z
 |_=>exact absurd (show false=true from f) bF0
theorem yG{xs:List V}(f:xs.all dE=true)(i:Nat):dE (xs.getD i .non)=true:=by
 rw[getD_eq_getElem?_getD];cases h:xs[i]? with
 |none=>rfl
 |some v=>exact all_eq_true.mp f v (mem_of_getElem? h)
theorem Bh{xs:List V}(f:xs.all dE=true):zK xs xs=true:=by
 unfold zK;rw[beq_self_eq_true,Bool.and_true,all_eq_true];exact λi _=>Af (yG f i)
inductive JV(K:FG0)(x y:V)(H:Hp)(Q:VK):Prop
 |mk(a b:Addr)(xs ys:List V)(hx:x=.ref a)(hy:y=.ref b)(s:H a=some (.tup xs))(t:cK K H b ys)(f:xs.all dE=true)(g:∀v∈ys,∃c zs,v=.ref c/\H c=some (.tup zs)/\zs.all dE=true)(q:Q (.bl (ys.any (J2 H xs))) H)
def IJ(H:Hp)(xs:List V)(u:Value):Bool:=match u with
 |.ref c=>J2 H xs (.ref c)
 |_=>false
theorem xl{H:Hp}{xs:List V}:∀{ys:List V}{us:List Value},Vals ys us->(∀v∈ys,∃c zs,v=.ref c/\H c=some (.tup zs)/\zs.all dE=true)->us.any (IJ H xs)=ys.any (J2 H xs)
 |_,_,.nil,_=>rfl
 |y::_,u::_,.cons r t,g=>by
  obtain⟨c,zs,rfl,_⟩:=g y (mem_cons_self ..);cases r;rw[any_cons,any_cons,xl t λv hv=>g v (mem_cons_of_mem _ hv)];rfl
theorem tL:∀{ys:List V}{us:List Value}{u:Value},Vals ys us->u∈us->∃y∈ys,RelV y u
 |_,_,_,.nil,h=>by cases h
 |y::_,_::_,u,.cons r t,h=>by
  rcases mem_cons.mp h with rfl|h
  ·exact⟨y,mem_cons_self ..,r⟩
  ·obtain⟨z,hz,q⟩:=tL t h
   exact⟨z,mem_cons_of_mem _ hz,q⟩
theorem yJ{X:Cx}{pins:List (Addr×Obj)}{σ:St}{H:Hp}{s:Shared}{A:Around}{c a:Addr}{zs xs:List V}(I:Inv X pins σ H s)(hu:A.units < cLine)(hc:H c=some (.tup zs))(ha:H a=some (.tup xs))(fz:zs.all dE=true)(fx:xs.all dE=true):SeqAt.EqAt A s (.ref c) (.ref a) (zK zs xs):=by
 by_cases e:c=a
 ·subst e
  rw[hc]at ha;cases ha;rw[Bh fx];exact SeqAt.EqAt.same _
 ·obtain⟨its,r,pl,_⟩:=I.tuple (dv.of (K:=X.K) hc)
  obtain⟨its2,r2,pl2,_⟩:=I.tuple (dv.of (K:=X.K) ha);have m1:=r.length;have m2:=r2.length;have:=SeqAt.RcAt.tuples (A:=A) (e:=λi=>uO (zs.getD i .non) (xs.getD i .non)) pl pl2 hu (λj h1 h2=>by
   simp only[size_toArray]at h1 h2;obtain⟨x1,e1,r1⟩:=fB r h1;obtain⟨x2,e2,r2'⟩:=fB r2 h2;simp only[List.getElem_toArray];rw[getD_eq_getElem?_getD,getD_eq_getElem?_getD,e1,e2];exact rV r1 r2' (all_eq_true.mp fz _ (mem_of_getElem? e1)) (all_eq_true.mp fx _ (mem_of_getElem? e2)))
  refine SeqAt.EqAt.of_refs e ?_;simp only[size_toArray]at this;rw[<-m1,<-m2]at this;exact this
theorem jS{X:Cx}(hu:X.A.units+1 < cLine):iS X (compareOp .In) (λx y H Q=>JV X.K x y H Q):=by
 intro pins s σ H x y v u Q I rx ry h;obtain⟨a,b,xs,ys,rfl,rfl,ha,hb,fx,g,q⟩:=h;cases rx;cases ry;obtain⟨its,r,pl,_⟩:=I.list hb;refine SeqAt.in_listAt (IJ H xs) pl.isList (λw hw=>?_) ⟨.bl _,H,I,rfl,?_⟩
 ·obtain⟨z,hz,rz⟩:=tL r (by simpa using hw)
  obtain⟨c,zs,rfl,hc,fz⟩:=g z hz;cases rz;have e:IJ H xs (.ref c)=zK zs xs:=by
   show(match H c with|some (.tup zs)=>zK zs xs|_=>false)=_;rw[hc]
  rw[e];exact yJ I hu hc ha fz fx
 ·rw[show its.toArray.any (IJ H xs)=its.any (IJ H xs) by simp,xl r g]
  exact q
end L2
namespace J
open PySem PySem.Spec PyProof.Rows
open L2 (Cx V Hp St VK TE TT TA TS TG pK TI TO cK dv)
section
variable {X:Cx}{N':List Str}{scope:Scope}{cl:List (Str×Addr)}{fp:List Addr}{s3:Shared}{H3:Hp}{C:Addr}{o i e value:Expr}{es:List Expr}{pos pos':Pos}{td ty tv:TE}
theorem _root_.cj:JX (L2.dq X N' scope cl fp s3 H3 C) (L2.AL X.K):=⟨L2.q9⟩
theorem _root_.br:JX (L2.dq X N' scope cl fp s3 H3 C) (L2.Bl X.K):=⟨L2.vU⟩
theorem _root_.cq{k n:Nat}{u:pK}(hc:X.calm=true)(h:Iu (L2.dq X N' scope cl fp s3 H3 C) es u)(hn:(assignEach es (L2.dq X N' scope cl fp s3 H3 C).env).length=n:=by rfl)(hst:(assignEach es (L2.dq X N' scope cl fp s3 H3 C).env).findIdx? (·.1)=none:=by rfl):
  JG (L2.dq X N' scope cl fp s3 H3 C) (.Tuple es k pos) (L2.GG X.K n u):=⟨L2.AY (X:=L2.dq X N' scope cl fp s3 H3 C) hc h.out hn hst⟩
theorem jS(hu:X.A.units+1 < cLine):JC X .In (λx y H Q=>L2.JV X.K x y H Q):=⟨L2.jS hu⟩
theorem _root_.bh(hu:X.A.units+1 < cLine)(ho:JE X o td)(hi:JE X i ty)(hs:ef i):JE X (.Subscript o i pos) (L2.Es td ty):=⟨L2.C3 hu ho.out hi.out (λov iv=>hs.out ov iv)⟩
theorem uS(hu:X.A.units+1 < cLine)(hi:JE X i ty)(ho:JE X o td)(hm:behindInMarks .In o=false:=by rfl):JT X (.Compare i [.In] [o] pos) (L2.tB (L2.DY ty td)):=⟨L2.BU (L2.Az hu hi.out ho.out) hm⟩
theorem jw(hu:X.A.units+1 < cLine)(hi:JE X i ty)(ho:JE X o td)(hm:behindInMarks .NotIn o=false:=by rfl):JT X (.Compare i [.NotIn] [o] pos) (L2.tB (L2.nE ty td)):=⟨L2.BU (L2.qD hu hi.out ho.out) hm⟩
theorem _root_.bZ(hu:X.A.units+1 < cLine)(ho:JE X o td)(hi:JE X i ty)(hv:JE X value tv)(h:L2.j7 value=false:=by rfl):JS X (.Assign [.Subscript o i pos'] value pos) (L2.Ee td ty tv):=⟨L2.Cj hu ho.out hi.out hv.out (L2.kr h)⟩
theorem HB:JE X (.Dict [] [] pos) L2.Bu:=⟨L2.zR⟩
end
end J
namespace L2
open PySem PySem.Spec PyProof.Rows
section
variable {X:Cx}
inductive EE(x y:V)(H:Hp)(Q:VK):Prop
 |mk(a b:Addr)(xs ys:List V)(hx:x=.ref a)(hy:y=.ref b)(s:H a=some (.tup xs))(t:H b=some (.tup ys))(f:xs.all dE=true)(g:ys.all dE=true)(q:Q (.bl (zK xs ys)) H)
theorem qP(hu:X.A.units+1 < cLine):iS X (compareOp .Eq) (λx y H Q=>EE x y H Q):=by
 intro pins s σ H x y v u Q I rx ry h;obtain⟨a,b,xs,ys,rfl,rfl,ha,hb,fx,fy,q⟩:=h;cases rx;cases ry;obtain⟨its,r,pl,_⟩:=I.tuple (dv.of (K:=X.K) ha);obtain⟨its2,r2,pl2,_⟩:=I.tuple (dv.of (K:=X.K) hb);have m1:=r.length;have m2:=r2.length;refine SeqAt.eq_tupleAt (e:=λi=>uO (xs.getD i .non) (ys.getD i .non)) pl pl2 (by omega) (λj h1 h2=>?_) ?_
 ·simp only[size_toArray]at h1 h2
  obtain⟨x1,e1,r1⟩:=fB r h1;obtain⟨x2,e2,r2'⟩:=fB r2 h2;simp only[List.getElem_toArray];rw[getD_eq_getElem?_getD,getD_eq_getElem?_getD,e1,e2];exact rV r1 r2' (all_eq_true.mp fx _ (mem_of_getElem? e1)) (all_eq_true.mp fy _ (mem_of_getElem? e2))
 ·simp only[size_toArray]
  rw[<-m1,<-m2];exact⟨.bl _,H,I,rfl,q⟩
inductive Ef(x y:V)(H:Hp)(Q:VK):Prop
 |mk(z:Str)(n:Int)(hx:x=.str z)(hy:y=.int n)(n01:n=0\/n=1)(q:Q (.str (Txt.mul z n)) H)
theorem r6:iS X (binaryOp .Mult) (λx y H Q=>Ef x y H Q):=by
 intro pins s σ H x y v u Q I rx ry h;obtain⟨z,n,rfl,rfl,n01,q⟩:=h;obtain⟨t,rfl⟩:=rx;obtain⟨t',rfl⟩:=ry;refine SB.mul ?_ λtk k=>⟨.str _,H,I.tok k,⟨_,rfl⟩,q⟩;rcases n01 with rfl|rfl
 ·exact⟨by decide,λh=>absurd (by decide) h,λh=>absurd (by decide) h⟩
 ·exact⟨by decide,λ_ h=>absurd h (by simp),λ_ h=>absurd h (by simp)⟩
end
end L2
namespace J
open PySem PySem.Spec PyProof.Rows
open L2 (Cx V Hp St VK TE TT TA TS TG pK TI TO)
section
variable {X:Cx}{o e f c:Expr}{body:List Stmt}{apos cpos pos:Pos}{td ty tx:TE}{tc:TT}{tb:TS}
theorem qP(hu:X.A.units+1 < cLine):JC X .Eq (λx y H Q=>L2.EE x y H Q):=⟨L2.qP hu⟩
theorem r6:JB X .Mult (λx y H Q=>L2.Ef x y H Q):=⟨L2.r6⟩
theorem HR{env:Env}(h1:L2.notStar e=true)(h2:L2.notStar f=true):backTo cpos (starEach [e,f] env)=[(false,eval e env),(false,eval f env)]:=by
 rw[L2.cZ h1,L2.cZ h2];rfl
theorem K8(hp:PassesOwn (model X.prog X.w) X.A X.env X.xe)(hc:JT X c tc)(hb:sG X body tb):JS X (.While c body [] pos) (L2.Aj tc tb):=⟨L2.zO hp hc.out hb.out⟩
end
end J
namespace L2
open PySem PySem.Spec PyProof.Rows
section
variable {X:Cx}
theorem lZ:∀{us:List Value}{zs:List Str},StrsAre us zs->Vals (zs.map V.str) us
 |_,_,.nil=>.nil
 |_,_,.cons _ _ r=>.cons ⟨_,rfl⟩ (lZ r)
inductive Js(K:FG0)(xs:List V)(H:Hp)(Q:VK):Prop
 |mk(p:Addr)(zs:List Str)(e:xs=[.ref p])(s:cK K H p (zs.map V.str))(l:zs.length < 64)(q:∀l zs',H l=none->zs'.Perm zs->sortedS zs'=true->Q (.ref l) (upd H l (.lst (zs'.map V.str))))
theorem fR:eR X (.builtin "sorted") (λxs H Q=>Js X.K xs H Q):=by
 intro pins s σ H xs us Q I r h;obtain⟨p,zs,rfl,hq,l64,q⟩:=h;obtain⟨u,rfl,rx⟩:=vals1 r;cases rx;obtain⟨its,rv,pl,hz⟩:=I.list hq;have hl:=rv.length;rw[length_map]at hl hz;refine sorted_strs pl.isList (o9 rv) (by omega) λout ss' a1 a2 a3=>?_;obtain⟨e,he⟩:=sortedAll_at s.heap its out;refine⟨.ref _,_,I.laid (t':=s.toks) (λb o hb=>sortedAll_old hb) (le_succ _) (show dy X.prog X.w _ _ _ (.lst (ss'.map V.str)) from ⟨by rw[length_map,a2.length_eq];exact hz,out.toList,e,lZ a1,he⟩),rfl,q _ _ (I.hok.fresh (le_succ _)) a2 a3⟩
theorem qC{a b:List Nat}(h1:ltCps a b=false)(h2:ltCps b a=false):a=b:=by
 rw[ltCps_eq,decide_eq_false_iff_not]at h1 h2;exact List.le_antisymm (not_lt.mp h2) (not_lt.mp h1)
theorem le_trans'{a b c:List Nat}(h1:ltCps b a=false)(h2:ltCps c b=false):ltCps c a=false:=by
 rw[ltCps_eq,decide_eq_false_iff_not]at *;exact not_lt.mpr (List.le_trans (not_lt.mp h1) (not_lt.mp h2))
theorem iM:∀{l:List Str}{p:Str},risingS p l=true->∀y∈l,ltCps y.cps.toList p.cps.toList=false
 |x::r,p,h,y,hy=>by
  have h':(!ltCps x.cps.toList p.cps.toList && risingS x r)=true:=h;rw[and_eq_true,not_eq_true']at h';rcases mem_cons.mp hy with rfl|hy
  ·exact h'.1
  ·exact le_trans' h'.1 (iM h'.2 y hy)
theorem i9{x:Str}{r:List Str}(h:sortedS (x::r)=true):sortedS r=true:=by
 cases r with
 |nil=>rfl
 |cons y t=>
  have h':(!ltCps y.cps.toList x.cps.toList && risingS y t)=true:=h;rw[and_eq_true]at h';exact h'.2
theorem su{a b:Str}(h:a.cps.toList=b.cps.toList):a=b:=by
 obtain⟨x⟩:=a;obtain⟨y⟩:=b;have h':x.toList=y.toList:=h;rw[Array.toList_inj.mp h']
theorem oI:∀{l m:List Str},l.Perm m->sortedS l=true->sortedS m=true->l=m
 |[],m,p,_,_=>(List.nil_perm.mp p).symm ▸ rfl
 |x::r,m,p,h1,h2=>by
  cases m with
  |nil=>exact absurd (List.perm_nil.mp p) (by simp)
  |cons y t=>
   have e:x=y:=by
    have mx:x∈y::t:=p.mem_iff.mp mem_cons_self;have my:y∈x::r:=p.mem_iff.mpr mem_cons_self;rcases mem_cons.mp mx with e|mx
    ·exact e
    ·rcases mem_cons.mp my with e|my
     ·exact e.symm
     ·exact su (qC (iM h2 x mx) (iM h1 y my))
   subst e;rw[oI (List.perm_cons x |>.mp p) (i9 h1) (i9 h2)]
inductive Dq(K:FG0)(x y:V)(H:Hp)(Q:VK):Prop
 |same (a b:Addr)(xs ys:List V)(bs:List Bool)(hx:x=.ref a)(hy:y=.ref b)(s:cK K H a xs)(t:cK K H b ys)(l1:xs.length=bs.length)(l2:ys.length=bs.length)(e:∀(i:Nat) u v c,xs[i]? =some u->ys[i]? =some v->bs[i]? =some c->jO u v=some c)(q:Q (.bl (!(FD bs))) H)
 |other (a b:Addr)(xs ys:List V)(hx:x=.ref a)(hy:y=.ref b)(s:cK K H a xs)(t:cK K H b ys)(n:xs.length≠ys.length)(q:Q (.bl true) H)
theorem kj(hu:X.A.units+1 < cLine):iS X (compareOp .NotEq) (λx y H Q=>Dq X.K x y H Q):=by
 intro pins s σ H x y v u Q I rx ry h;rcases h with ⟨a,b,xs,ys,bs,rfl,rfl,ha,hb,l1,l2,he,q⟩|⟨a,b,xs,ys,rfl,rfl,ha,hb,n,q⟩
 ·cases rx
  cases ry;obtain⟨its,r,pl,_⟩:=I.list ha;obtain⟨its2,r2,pl2,_⟩:=I.list hb;have m1:=r.length;have m2:=r2.length;have key:SeqAt.RcNeAt X.A s (.ref a) (.ref b) (!((List.range its.toArray.size).all λi=>bs.getD i false)):=by
   refine SeqAt.RcNeAt.lists pl.isList pl2.isList (by simp only[size_toArray];omega) (by omega) λj h1 h2=>?_;simp only[size_toArray]at h1 h2;obtain⟨x1,e1,r1⟩:=fB r h1;obtain⟨x2,e2,r2'⟩:=fB r2 h2;have hj:j < bs.length:=by omega
   have e3:bs[j]? =some bs[j]:=getElem?_eq_getElem hj;have e4:bs.getD j false=bs[j]:=by rw[getD_eq_getElem?_getD,e3];rfl
   show SeqAt.EqAt X.A.in1 s its.toArray[j] its2.toArray[j] (bs.getD j false);rw[e4];simp only[List.getElem_toArray];exact qz r1 r2' (he j x1 x2 _ e1 e2 e3)
  have hz:its.toArray.size=bs.length:=by simp only[size_toArray];omega
  rw[hz]at key;exact key X.prog X.w X.xe _ ⟨.bl _,H,I,rfl,q⟩
 ·cases rx
  cases ry;obtain⟨its,r,pl,_⟩:=I.list ha;obtain⟨its2,r2,pl2,_⟩:=I.list hb;have m1:=r.length;have m2:=r2.length;have key:SeqAt.RcNeAt X.A s (.ref a) (.ref b) true:=SeqAt.RcNeAt.lists_lengths pl.isList pl2.isList (by rw[bne_iff_ne];simp only[size_toArray];omega) (by omega);exact key X.prog X.w X.xe _ ⟨.bl _,H,I,rfl,q⟩
theorem AQ:typeLookup (.type "list") "keys" =pure none:=by rw[typeLookup_type,builtinLookup_eq_fast];kernel_rfl
theorem eK:plainId "dict.update.loop" =true:=by decide+kernel
theorem iR:entryFor table "dict.update.loop" =some Builtin.«dict.update.loop» :=entryFor_of_tree (by kernel_rfl)
end
section
variable {prog:Program}{w:World}{A:Around}{E:Value->Shared->Prop}{s:Shared}
theorem pZ {a:Addr}{o:Obj}{xs:Array Value}{k:Nat}{Q:Option Value->Shared->Prop}(hx:s.heap.get? a=some o) (hc:o.cls=.type "list") (hdat:o.data=.seq xs k) (hd:o.dict=none) (hA:A.handled=none)
  (h:∀h' tk,(∀b u,s.heap.get? b=some u->h'.get? b=some u)->Q none { s with heap:=h',toks:=tk }):wpAny (model prog w) A (getAttr? (.ref a) "keys") Q E s:=by
 obtain⟨c,dct,dat,sl⟩:=o;simp only at hc hdat hd;subst hc hdat hd;obtain⟨hp,g,d,tk,os⟩:=s;have hT:∀tk',(⟨hp,g,d,tk',os⟩:Shared).TypeIs (.ref a) "list" :=λ_=>⟨_,hx,rfl⟩;have f1:=sub_AttributeError;have f3:=PySem.F.slot_list_getattribute.lookup;have f4:=PySem.F.slot_list_getattribute.bind (.ref a);have f5:=am_list_getattr_none;unfold getAttr? getAttrBy? getAttrBy
 repeat (any_goals (first|assumption|exact hT _| ((with_reducible show wpAny _ _ (call (Value.builtin "list.__getattribute__") _ _) _ _ _);refine call_meets PySem.F.slot_list_getattribute (hT _) am_entry_list_getattribute (PySem.F.args_list_getattribute_2 _ _) (meets_getattribute_miss_list a xs k sl "keys" _ AQ (by decide+kernel) (by decide+kernel)) ⟨hx,hA,λh' tk' e hx'=>?_⟩)|wp_step))
 obtain⟨t',u',he⟩:=hx'.there;show wpAny _ _ (getattributeRaised _ _ _ _ _ _ _) _ _ _;unfold getattributeRaised
 repeat (any_goals (first|assumption|wp_step))
 exact h _ _ hx'.of.keeps
end
section
variable {prog:Program}{w:World}{A:Around}{R:Result->Shared->Prop}{I:Addr}{fp wr:List Addr}{G:Array GenState->Array GenState->Prop}{n:Nat}{P:Nat->Value->Prop}{St:Nat->Shared->Prop}
theorem AR(W:WalksS prog w A.in1 I fp wr G n P St)(D:Addr)(hDf:D ∉ fp)(ps:List (Key×Value))(T:Nat->Addr)(kk:Nat->Value)(hn:ps.length=n)(hb:n<=sizeLine)
  (hP:∀i v,P i v->v=.ref (T i))(hT:∀i,i < n->T i≠D/\T i ∉ wr)(hk:∀i kv,ps[i]? =some kv->gY kv.1 (kk i)=true):
  ∀(k i:Nat) (s:Shared),n - i=k->i<=n->St i s->s.heap.DictOf (cL prog w) D (merged [] (ps.take i))->(∀i kv,ps[i]? =some kv->IsTup s.heap (T i) #[kk i,kv.2])->
   (∀s',Moved (D::wr) G s s'->s'.heap.DictOf (cL prog w) D (merged [] ps)->R (.ok (.ret .none)) s')->
   codeAny (model prog w) A (.builtin "dict.update.loop" ⟨[.ref D,.ref I,rawInt i,.none],[]⟩) R s:=by
 have hDw:D ∉ wr:=λh=>hDf (W.sub _ h);have hsub:∀b∈wr,b∈D::wr:=λb hb=>mem_cons_of_mem _ hb;have fJ:∀{s s':Shared}{kvs:List (Key×Value)},Moved wr G s s'->s.heap.DictOf (cL prog w) D kvs->s'.heap.DictOf (cL prog w) D kvs:=λhm ⟨o,es,ep,ho,r⟩=>⟨o,es,ep,hm.heap D _ hDw ho,r⟩;intro k
 induction k with
 |zero=>
  intro i s hk' hi hst hD ht hR;obtain rfl:i=n:=by omega
  refine codeAny_builtin iR ?_;rw[Around.under_plainId eK _];show wpAny _ A.in1 (pyNext (.ref I) >>= _) _ _ s;refine wpAny_bind (W.done s _ _ hst λs' hm=>?_);rw[<-hn,take_length]at hD;show wpAny _ A.in1 (Builtin.Dict.addKeywords D [] >>= _) _ _ s';exact wpAny_bind (wpAny_pure (wpAny_pure (hR s' (hm.mono hsub) (fJ hm hD))))
 |succ k ih=>
  intro i s hk' hi hst hD ht hR;have hlt:i < n:=by omega
  obtain⟨kv,hkv⟩:∃kv,ps[i]? =some kv:=⟨_,getElem?_eq_getElem (by rw[hn];exact hlt)⟩;refine codeAny_builtin iR ?_;rw[Around.under_plainId eK _];show wpAny _ A.in1 (pyNext (.ref I) >>= _) _ _ s;refine wpAny_bind (W.item i s _ _ hlt hst λv s' hv hst' hm=>?_);cases hP i v hv;have hD1:=fJ hm hD;have ht1:∀i kv,ps[i]? =some kv->IsTup s'.heap (T i) #[kk i,kv.2]:=λj kv hj=>by
   obtain⟨o,ho,r⟩:=ht j kv hj;exact⟨o,hm.heap _ _ (hT j (by rw[<-hn];exact(gI0.mp hj).1)).2 ho,r⟩
  obtain⟨o,ho,hc,m,hd⟩:=ht1 i kv hkv;show wpAny _ A.in1 (holding [.ref (T i)] _ >>= _) _ _ s';refine wpAny_bind (wpAny_holding ?_);refine wpAny_bind (wpAny_tryCatch ?_);unfold Builtin.Dict.pairItems;refine wpAny_bind (wpAny_typeOf (T:= "tuple") ⟨_,ho,hc⟩ ?_);rw[if_pos (by decide)];refine wpAny_bind (wpAny_seqItems ho hd (wpAny_pure ?_));show wpAny _ A.in1 (holding [kk i,kv.2] (dictSet D (kk i) kv.2)) _ _ s';have hl:(merged [] (ps.take i)).length<=sizeLine:=by
   have:=merged_length_le [] (ps.take i);have e:(ps.take i).length<=i:=by rw[length_take];omega
   have z:([]:List (Key×Value)).length=0:=rfl;omega
  refine wpAny_holding (wpAny_dictSet_pairs (knd:=cL prog w) (hsz:=hl) (hk i kv hkv) hD1 λh' hd' hs=>?_);rw[<-merged_take_succ [] ps i kv hkv]at hd';have hc1:((i:Int)+1)=((i+1:Nat):Int):=by push_cast;rfl
  refine wpAny_pure ⟨plainId_quiet eK _,?_⟩;show codeAny _ A (.builtin "dict.update.loop" ⟨[.ref D,.ref I,rawInt ((i:Int)+1),.none],[]⟩) R _;rw[hc1];refine ih (i+1) _ (by omega) hlt (W.frame _ s' _ _ hst' (le_succ _) λb hb o e=>?_) hd' (λj kv hj=>?_) λs'' hm'' hS''=>?_
  ·rw[hs.2 b (by rintro rfl;exact hDf hb)]
   exact e
  ·obtain⟨o,ho,r⟩:=ht1 j kv hj
   exact⟨o,(hs.2 _ (hT j (by rw[<-hn];exact(gI0.mp hj).1)).1).trans ho,r⟩
  ·refine hR s'' (Moved.trans W.gtrans ((hm.mono hsub).then_heap (le_succ _) λb o hb e=>?_) hm'') hS''
   rw[hs.2 b (by rintro rfl;exact hb mem_cons_self)];exact e
end
section
variable {prog:Program}{w:World}{A:Around}{E:Value->Shared->Prop}{s:Shared}
theorem wA {l:Addr}{o:Obj}{items:Array Value}{c:Nat}{Q:Value->Shared->Prop}(ps:List (Key×Value)) (T:Nat->Addr) (kk:Nat->Value) (hh:A.handled=none) (hx:s.heap.get? l=some o) (hc:o.cls=.type "list") (hdat:o.data=.seq items c) (hd:o.dict=none) (hsz:ps.length=items.size) (hb:ps.length<=sizeLine)
  (hi:∀(i:Nat)(v:Value),items[i]? =some v->v=.ref (T i))(hk:∀i kv,ps[i]? =some kv->gY kv.1 (kk i)=true)(ht:∀i kv,ps[i]? =some kv->IsTup s.heap (T i) #[kk i,kv.2])
  (h:∀h' tk,h'.DictOf (cL prog w) s.heap.objs.size (merged [] ps)->(∀b o,s.heap.get? b=some o->h'.get? b=some o)->Q (.ref s.heap.objs.size) { s with heap:=h',toks:=tk }):
  wpAny (model prog w) A (call (.type "dict") [.ref l]) Q E s:=by
 refine callType_codes (Q₁:=λobj s₁=>obj=.ref s.heap.objs.size/\s₁={ s with heap:=s.heap.push { cls:=.type "dict",data:=.dict #[] } }) PySem.F.kt_called_dict (PySem.F.kt_typeCall_dict_1 _) PySem.F.entry_dict_init (kt_code_dict_new _ ⟨rfl,rfl⟩) ?_;rintro obj s₁ ⟨rfl,rfl⟩;have hnew:=Heap.DictOf.new (knd:=cL prog w) s.heap;have hx1:=get?_push_of_some { cls:=.type "dict",data:=.dict #[] } hx;refine⟨hnew.typeIs,PySem.F.args_dict_init_2 _ _,?_⟩;unfold Builtin.«dict.__init__»;refine wpAny_bind ?_;unfold Builtin.Dict.selfAndRest;refine wpAny_bind (wpAny_notOrdered_dict hnew.typeIs ?_);show wpAny _ _ (pure (s.heap.objs.size,[Value.ref l])) _ _ _;refine wpAny_pure ?_;show wpAny _ _ (Builtin.Dict.updateFrom "dict.__init__" s.heap.objs.size (.ref l) [] .none) _ _ _;unfold Builtin.Dict.updateFrom;refine wpAny_bind (wpAny_typeOf (T:= "list") ⟨_,hx1,hc⟩ ?_);rw[if_pos (by decide)];refine wpAny_bind (pZ hx1 hc hdat hd hh λh1 tk kp1=>?_);rw[if_pos (show Option.isNone (none:Option Value)=true from rfl)];refine wpAny_bind (wpAny_rule ?_);have hx2:=kp1 _ _ hx1;have hl2:h1.IsList l items:=⟨o,hx2,hc,c,hdat⟩;have kp2:∀b u,s.heap.get? b=some u->h1.get? b=some u:=λb u e=>kp1 _ _ (get?_push_of_some _ e);have lD:s.heap.objs.size < h1.objs.size:=lt_size (kp1 _ _ (get?_push_size _ rfl));refine wpAny_bind (wpAny_pyIter_list hl2 ?_);refine wpAny_pure ⟨plainId_quiet eK _,?_⟩;have hlS:l < s.heap.objs.size:=lt_size hx;have hDf:s.heap.objs.size ∉ [h1.objs.size,l]:=by
  simp only[mem_cons,not_mem_nil,or_false,not_or];exact⟨ne_of_lt lD,ne_of_gt hlS⟩
 have hT:∀i,i < items.size->T i≠s.heap.objs.size/\T i ∉ [h1.objs.size]:=λi hi'=>by
  obtain⟨kv,hkv⟩:∃kv,ps[i]? =some kv:=⟨_,getElem?_eq_getElem (by rw[hsz];exact hi')⟩;obtain⟨o',ho',_⟩:=ht i kv hkv;have lt:=lt_size ho';rw[mem_singleton];exact⟨ne_of_lt lt,ne_of_lt (lt_trans lt lD)⟩
 have dn:h1.DictOf (cL prog w) s.heap.objs.size []:=by
  obtain⟨o',es,ep,ho',r⟩:=hnew;exact⟨o',es,ep,kp1 _ _ ho',r⟩
 refine AR ((Walks.list (show A.in1.in1.handled=none by simp[hh]) h1.objs.size l (ne_of_lt (lt_trans hlS lD)) items).toS) s.heap.objs.size hDf ps T kk hsz (by rw[<-hsz];exact hb) hi hT hk (items.size - 0) 0 _ (by omega) (zero_le _) ⟨⟨_,get?_push_size _ rfl,rfl,rfl⟩,hl2.push _⟩ (dn.push _) (λi kv e=>?_) ?_
 ·obtain⟨o',ho',r⟩:=ht i kv e
  exact⟨o',get?_push_of_some _ (kp2 _ _ ho'),r⟩
 ·intro s' hm hS'
  obtain⟨g,g',d',tk',os'⟩:=s';have eg:g'=s.gens:=hm.gens;have ed:d'=s.drawn:=hm.drawn;have eo:os'=s.os:=hm.os;subst eg ed eo;refine⟨rfl,h g tk' hS' λb u e=>?_⟩;have lt:=lt_size e;refine hm.heap b u ?_ (get?_push_of_some _ (kp2 _ _ e));simp only[mem_cons,not_mem_nil,or_false,not_or];exact⟨ne_of_lt lt,ne_of_lt (lt_trans lt lD)⟩
end
theorem kZ{α β:Type}{R:α->β->Prop}:∀{xs:List α}{us:List β},xs.length=us.length->(∀(i:Nat) x v,xs[i]? =some x->us[i]? =some v->R x v)->Paired R xs us
 |[],[],_,_=>.nil
 |_::_,[],h,_=>by cases h
 |[],_::_,h,_=>by cases h
 |x::_,u::_,h,k=>.cons (k 0 x u rfl rfl) (kZ (Nat.succ.inj h) λi y v hy hv=>k (i+1) y v hy hv)
section
variable {X:Cx}
inductive Jd(K:FG0)(vs:List V)(H:Hp)(Q:VK):Prop
 |mk(p:Addr)(xs:List V)(kvs:List (Key×V))(e:vs=[.ref p])(s:cK K H p xs)(l:xs.length=kvs.length)(t:∀(i:Nat) x kv,xs[i]? =some x->kvs[i]? =some kv->∃a,x=.ref a/\H a=some (.tup [kV kv.1,kv.2]))(q:∀d,H d=none->Q (.ref d) (upd H d (.dK (dQ [] kvs))))
theorem eJ(hc:X.calm=true):eR X (.type "dict") (λvs H Q=>Jd X.K vs H Q):=by
 intro pins s σ H vs us Q I r h;obtain⟨p,xs,kvs,rfl,hq,ll,ht,q⟩:=h;obtain⟨u,rfl,rx⟩:=vals1 r;cases rx;obtain⟨its,rv,⟨o,c,ho,hcl,hd,hdat⟩,hz⟩:=I.list hq;have hl:=rv.length;have row:∀i:Nat,∃t:Addr×Value×Value,i < its.length->its[i]? =some (.ref t.1)/\∀kv,kvs[i]? =some kv->IsTup s.heap t.1 #[t.2.1,t.2.2]/\RelV (kV kv.1) t.2.1/\RelV kv.2 t.2.2:=λi=>by
  by_cases hi:i < its.length
  ·obtain⟨kv,hkv⟩:∃kv,kvs[i]? =some kv:=⟨_,getElem?_eq_getElem (by omega)⟩
   obtain⟨x,hx⟩:∃x,xs[i]? =some x:=⟨_,getElem?_eq_getElem (by omega)⟩;obtain⟨a,rfl,ha⟩:=ht i x kv hx hkv;obtain⟨u,eu,ru⟩:=rv.get hx;cases ru;obtain⟨jts,rj,tp,_⟩:=I.tuple (dv.of (K:=X.K) ha);cases rj with
   |cons r1 rest=>
    cases rest with
    |cons r2 rest2=>
     cases rest2;exact⟨(a,_,_),λ_=>⟨eu,λkv' e=>by rw[hkv]at e;cases e;exact⟨tp,r1,r2⟩⟩⟩
  ·exact⟨(0,.none,.none),λh=>absurd h hi⟩
 obtain⟨f,hf⟩:=Classical.axiomOfChoice row;have hps:∀(i:Nat) q,(kvs.mapIdx λi kv=>(kv.1,(f i).2.2))[i]? =some q->∃kv,kvs[i]? =some kv/\q=(kv.1,(f i).2.2):=λi q e=>by
  rw[List.getElem?_mapIdx]at e;obtain⟨kv,e1,rfl⟩:=map_eq_some_iff.mp e;exact⟨kv,e1,rfl⟩
 have hlt:∀{i:Nat}{kv:Key×V},kvs[i]? =some kv->i < its.length:=λe=>by
  have:=(gI0.mp e).1;omega
 have hpl:(kvs.mapIdx λi kv=>(kv.1,(f i).2.2)).length=kvs.length:=List.length_mapIdx;refine wA (kvs.mapIdx λi kv=>(kv.1,(f i).2.2)) (λi=>(f i).1) (λi=>(f i).2.1) (I.ok.hd hc) ho hcl hdat hd (by rw[hpl,size_toArray];omega) (by rw[hpl];omega) (λi v e=>?_) (λi q e=>?_) (λi q e=>?_) λh' tk hD kp=>?_
 ·have e':its[i]? =some v:=by simpa using e
  have:=(hf i (gI0.mp e').1).1;rw[e']at this;exact Option.some.inj this
 ·obtain⟨kv,e1,rfl⟩:=hps i q e
  exact nU (P:=X.prog) (w:=X.w) ((hf i (hlt e1)).2 kv e1).2.1
 ·obtain⟨kv,e1,rfl⟩:=hps i q e
  exact((hf i (hlt e1)).2 kv e1).1
 ·have rel:KV kvs (kvs.mapIdx λi kv=>(kv.1,(f i).2.2)):=kZ hpl.symm λi p q e1 e2=>by
   obtain⟨kv,e3,rfl⟩:=hps i q e2;rw[e1]at e3;cases e3;exact⟨rfl,((hf i (hlt e1)).2 _ e1).2.2⟩
  have rel2:KV (dQ [] kvs) (merged [] (kvs.mapIdx λi kv=>(kv.1,(f i).2.2))):=KV.merge rel .nil;have ml:=jL kvs [];have z:([]:List (Key×V)).length=0:=rfl;refine⟨.ref _,_,I.laid (a:=s.heap.objs.size) (o:=.dK (dQ [] kvs)) (t':=tk) kp (le_refl _) (zz (by omega) (beq_eq_false_iff_ne.mpr (Ne.symm (ne_of_lt I.big))) rel2 hD),rfl,q _ (I.hok.fresh (le_refl _))⟩
end
section
variable {prog:Program}{w:World}{A:Around}{E:Value->Shared->Prop}{s:Shared}
end
section
variable {X:Cx}
inductive IU(K:FG0)(vs:List V)(H:Hp)(Q:VK):Prop
 |mk(p:Addr)(xs:List V)(e:vs=[.ref p])(s:cK K H p xs)(q:∀l,H l=none->Q (.ref l) (upd H l (.lst xs.reverse)))
def Mj(K:FG0)(ta:TA):TE:=λσ H Q=>ta σ H λvs H1=>IU K vs H1 Q
theorem hE:bootBuiltins "sorted" =some (.builtin "sorted"):=by decide+kernel
theorem xJ:bootBuiltins "dict" =some (.type "dict"):=by decide+kernel
theorem vn:bootBuiltins "sum" =some (.builtin "sum"):=by decide+kernel
end
end L2
namespace J
open PySem PySem.Spec PyProof.Rows
open L2 (Cx V cK dv)
theorem fR{X:Cx}:JF X (.builtin "sorted") (λxs H Q=>L2.Js X.K xs H Q):=⟨L2.fR⟩
theorem kj{X:Cx}(hu:X.A.units+1 < cLine):JC X .NotEq (λx y H Q=>L2.Dq X.K x y H Q):=⟨L2.kj hu⟩
theorem eJ{X:Cx}(hc:X.calm=true):JF X (.type "dict") (λvs H Q=>L2.Jd X.K vs H Q):=⟨L2.eJ hc⟩
end J
namespace L2
open PySem PySem.Spec PyProof.Rows
section
variable {X:Cx}
inductive HU(K:FG0)(x y:V)(H:Hp)(Q:VK):Prop
 |same (a b:Addr)(xs ys:List V)(bs:List Bool)(hx:x=.ref a)(hy:y=.ref b)(s:cK K H a xs)(t:cK K H b ys)(l1:xs.length=bs.length)(l2:ys.length=bs.length)(e:∀(i:Nat) u v c,xs[i]? =some u->ys[i]? =some v->bs[i]? =some c->jO u v=some c)(q:Q (.bl (FD bs)) H)
 |other (a b:Addr)(xs ys:List V)(hx:x=.ref a)(hy:y=.ref b)(s:cK K H a xs)(t:cK K H b ys)(n:xs.length≠ys.length)(q:Q (.bl false) H)
theorem sh(hu:X.A.units+1 < cLine):iS X (compareOp .Eq) (λx y H Q=>HU X.K x y H Q):=by
 intro pins s σ H x y v u Q I rx ry h;rcases h with ⟨a,b,xs,ys,bs,hx,hy,s1,t1,l1,l2,e,q⟩|⟨a,b,xs,ys,hx,hy,s1,t1,n,q⟩
 ·exact GP hu pins s σ H x y v u Q I rx ry ⟨a,b,xs,ys,bs,hx,hy,s1,t1,l1,l2,e,q⟩
 ·exact yX hu pins s σ H x y v u Q I rx ry ⟨a,b,xs,ys,hx,hy,s1,t1,n,q⟩
inductive Ms(K:FG0)(x y:V)(H:Hp)(Q:VK):Prop
 |mk(a b:Addr)(xs ys:List V)(hx:x=.ref a)(hy:y=.ref b)(s:H a=some (.tup xs))(t:cK K H b ys)(f:xs.all dE=true)(g:∀v∈ys,∃c zs,v=.ref c/\H c=some (.tup zs)/\zs.all dE=true)(q:Q (.bl (!(ys.any (J2 H xs)))) H)
theorem qZ:iS X (compareOp .IsNot) (λx y H Q=>∃b c,x=.bl b/\y=.bl c/\Q (.bl (!(b == c))) H):=by
 intro pins s σ H x y v u Q I rx ry h;obtain⟨b,c,rfl,rfl,q⟩:=h;cases rx;cases ry;cases b<;>cases c<;>exact wpAny_pure ⟨.bl _,H,I,rfl,q⟩
inductive Hc(K:FG0)(x:V)(st:Option Int)(H:Hp)(Q:VK):Prop
 |mk(a:Addr)(xs:List V)(hx:x=.ref a)(hst:st=some (-1))(s:cK K H a xs)(q:∀p ys,H p=none->ys.length<=xs.length->(∀v∈ys,v∈xs)->Q (.ref p) (upd H p (.lst ys)))
def KD(K:FG0)(te:TE)(ts:TO):TE:=λσ H Q=>te σ H λx H1=>ts σ H1 λst H2=>Hc K x st H2 Q
theorem lN{e d:Expr}{ty td:TE}{pos:Pos}(hu:X.A.units+1 < cLine)(hi:PE X e ty)(ho:PE X d td)(hm:behindInMarks .In d=false:=by rfl):PE X (.Compare e [.In] [d] pos) (DY ty td):=AU (Az hu hi ho) hm
end
section
variable {prog:Program}{w:World}{A:Around}{R:Result->Shared->Prop}{I:Addr}{fp wr:List Addr}{G:Array GenState->Array GenState->Prop}{n:Nat}{P:Nat->Value->Prop}{St:Nat->Shared->Prop}
def Kt(xs ps:List (List Key×Addr×Value)):List (List Key×Addr×Value):=ps.foldl (λacc q=>storedH acc q.1 q.2.1 q.2.2) xs
end
section
variable {prog:Program}{w:World}{A:Around}{E:Value->Shared->Prop}{s:Shared}
end
def EN(kvs more:List (List Key×V)):List (List Key×V):=more.foldl (λacc kv=>putK acc kv.1 kv.2) kvs
section
variable {X:Cx}
inductive Ml(K:FG0)(vs:List V)(H:Hp)(Q:VK):Prop
 |mk(p:Addr)(xs:List V)(kvs:List (List Key×V))(e:vs=[.ref p])(s:cK K H p xs)(l:xs.length=kvs.length)(t:∀(i:Nat) x kv,xs[i]? =some x->kvs[i]? =some kv->∃a b,x=.ref a/\H a=some (.tup [.ref b,kv.2])/\H b=some (.tup (kv.1.map kV)))(q:∀d,H d=none->Q (.ref d) (upd H d (.dT (EN [] kvs))))
end
end L2
namespace J
open PySem PySem.Spec PyProof.Rows
open L2 (Cx V Hp St VK TE TT TA TS TG pK TI TO cK dv)
section
variable {X:Cx}{e d st:Expr}{ty td te:TE}{ts:TO}{pos p2:Pos}
theorem Hq{o f:Expr}{apos cpos:Pos}{tx:TE}(hu:X.A.units+1 < cLine)(ho:JE X o td)(he:JE X e ty)(hf:JE X f tx)(h:sf o=true:=by rfl)(h1:L2.notStar e=true:=by rfl)(h2:L2.notStar f=true:=by rfl)(hline:(apos.endLine == cpos.line)=true:=by rfl):JE X (.Call (.Attribute o "get" apos) [e,f] [] cpos) (L2.zH td ty tx):=
 ⟨L2.BG hu ho.out he.out hf.out ⟨iZ h,by rw[HR h1 h2];rfl,hline,HR h1 h2⟩⟩
theorem sh(hu:X.A.units+1 < cLine):JC X .Eq (λx y H Q=>L2.HU X.K x y H Q):=⟨L2.sh hu⟩
theorem qZ:JC X .IsNot (λx y H Q=>∃b c,x=.bl b/\y=.bl c/\Q (.bl (!(b == c))) H):=⟨L2.qZ⟩
theorem lN(hu:X.A.units+1 < cLine)(hi:JE X e ty)(ho:JE X d td)(hm:behindInMarks .In d=false:=by rfl):JE X (.Compare e [.In] [d] pos) (L2.DY ty td):=⟨L2.lN hu hi.out ho.out hm⟩
end
end J
namespace TS
open PySem PyProof.Rows
def ni:Bool->Keyed->Array Keyed->Nat->Nat->Nat->StateT SortSt Sem (Option Nat):=sortPriv% PySem.Builtin.gallop
def key(κ:KeyKind)(p:Keyed):κ.α:=(κ.keyOf p.1).getD κ.dflt
def ip(κ:KeyKind)(p:Keyed):Prop:=∃a,κ.keyOf p.1=some a
def kJ(prog:Program)(w:World)(A:Around)(E:Value->Shared->Prop)(s:Shared)(κ:KeyKind)(kd:SortKind):Prop:=
 ∀(x y:Keyed) (st:SortSt) (Q:Option Bool->SortSt->Prop),kindOf st=kd->ip κ x->ip κ y->Q (some (κ.blt (key κ x) (key κ y))) st->wpS (model prog w) A E s (lt' x y) Q st
section
variable {prog:Program}{w:World}{A:Around}{E:Value->Shared->Prop}{s:Shared}{κ:KeyKind}{kd:SortKind}
theorem cV{arr:Array Keyed}{i:Nat}{x:Keyed}{st:SortSt}{Q:Keyed->SortSt->Prop}(h:arr[i]? =some x)(q:Q x st):wpS (model prog w) A E s (elem' arr i) Q st:=by
 rw[elem'_eq,h];exact wpS_pure q
def Fi(κ:KeyKind)(left:Bool)(k x:Keyed):Bool:=if left then κ.blt (key κ x) (key κ k) else !(κ.blt (key κ k) (key κ x))
theorem Dj(hL:kJ prog w A E s κ kd){left:Bool}{k x:Keyed}{arr:Array Keyed}{i:Nat}{st:SortSt}{Q:Option Bool->SortSt->Prop}(hk:kindOf st=kd)(kk:ip κ k)(hx:arr[i]? =some x)(kx:ip κ x)(q:Q (some (Fi κ left k x)) st):
  wpS (model prog w) A E s (elem' arr i >>= λx=>if left=true then lt' x k else lt' k x >>= λr=>pure (Option.map (λy=> !y) r)) Q st:=by
 refine wpS_bind (cV hx ?_);cases left with
 |true=>
  rw[if_pos rfl];exact hL x k st Q hk kx kk q
 |false=>
  rw[if_neg bF0];exact wpS_bind (hL k x st _ hk kk kx (wpS_pure q))
theorem uU(hL:kJ prog w A E s κ kd){left:Bool}{k:Keyed}{arr:Array Keyed}{base n hint:Nat}{st:SortSt}{Q:Option Nat->SortSt->Prop}(hk:kindOf st=kd)(kk:ip κ k)(f:Nat->Bool)(hf:∀i,i < n->∃x,arr[base+i]? =some x/\ip κ x/\Fi κ left k x=f i)(mono:∀i j,i<=j->j < n->f j=true->f i=true)(hh:hint < n)
  (q:∀m,m<=n->(∀i,i < m->f i=true)->(∀i,m<=i->i < n->f i=false)->Q (some m) st):wpS (model prog w) A E s (ni left k arr base n hint) Q st:=by
 have beyond:∀{i:Nat}{R:Option Bool->SortSt->Prop},i < n->R (some (f i)) st->wpS (model prog w) A E s (elem' arr (base+i) >>= λx=>if left=true then lt' x k else lt' k x >>= λr=>pure (Option.map (λy=> !y) r)) R st:=λ{i R} hi hR=>by
  obtain⟨x,hx,kx,e⟩:=hf i hi;exact Dj hL hk kk hx kx (e ▸ hR)
 have up:∀i j,i<=j->j < n->f i=false->f j=false:=λi j h1 h2 h3=>by
  cases h:f j with
  |false=>rfl
  |true=>rw[mono i j h1 h2 h]at h3;cases h3
 refine wpS_bind (beyond hh ?_);dsimp only;by_cases hr:f hint=true
 ·rw[if_pos hr]
  refine wpS_bind (wpS_mono (wpS_forRange (I:=λx c st'=>st'=st/\∃la o,c=(none,la,o)/\la < o/\x+1<=o/\hint+la < n/\f (hint+la)=true)
   (Q:=λc st'=>st'=st/\∃la o,c=(none,la,o)/\la < o/\hint+la < n/\f (hint+la)=true/\(n - hint<=o\/(hint+o < n/\f (hint+o)=false))) ?step ?fin ⟨rfl,0,1,rfl,by omega,by omega,by omega,hr⟩) ?post)
  case step=>
   rintro x c st' _ hx ⟨rfl,la,o,rfl,h1,h2,h3,h4⟩;dsimp only;by_cases c1:o ≥ n - hint
   ·rw[if_pos c1]
    exact wpS_pure ⟨rfl,la,o,rfl,h1,h3,h4,.inl c1⟩
   ·rw[if_neg c1]
    refine wpS_bind (beyond (by omega) ?_);dsimp only;cases hm:f (hint+o) with
    |false=>exact wpS_pure ⟨rfl,la,o,rfl,h1,h3,h4,.inr ⟨by omega,hm⟩⟩
    |true=>exact wpS_pure ⟨rfl,o,2 * o+1,rfl,by omega,by omega,by omega,hm⟩
  case fin=>
   rintro c st' ⟨rfl,la,o,rfl,h1,h2,h3,h4⟩;exact⟨rfl,la,o,rfl,h1,h3,h4,.inl (by omega)⟩
  case post=>
   rintro c st' ⟨e0,la,o,rfl,h1,h3,h4,h5⟩;rw[e0];clear e0 st';dsimp only;have d:∀i,hint+min o (n - hint)<=i->i < n->f i=false:=λi i1 i2=>by
    rcases h5 with h5|⟨h5,h6⟩
    ·omega
    ·exact up _ i (by omega) i2 h6
   refine wpS_bind (wpS_mono (wpS_forRange (I:=λx c st''=>st''=st/\∃lo hi,c=(none,lo,hi)/\lo<=hi/\hi<=n/\hi - lo<=n - x/\(∀i,i < lo->f i=true)/\(∀i,hi<=i->i < n->f i=false))
    (Q:=λc st''=>st''=st/\∃hi,c=(none,hi,hi)/\hi<=n/\(∀i,i < hi->f i=true)/\(∀i,hi<=i->i < n->f i=false)) ?sstep ?sfin ⟨rfl,_,_,rfl,(by omega),(by omega),by omega,(λi hi=>mono i _ (by omega) h3 h4),d⟩) ?spost)
   case sstep=>
    rintro x c st'' _ hx ⟨rfl,lo,hi,rfl,g1,g2,g3,g4,g5⟩;dsimp only;by_cases c1:lo ≥ hi
    ·rw[if_pos c1]
     have e:lo=hi:=by omega
     subst e;exact wpS_pure ⟨rfl,lo,rfl,g2,g4,g5⟩
    ·rw[if_neg c1]
     refine wpS_bind (beyond (by omega) ?_);dsimp only;cases hm:f (lo+(hi - lo) / 2) with
     |true=>exact wpS_pure ⟨rfl,_,_,rfl,by omega,by omega,by omega,λi hi'=>mono i _ (by omega) (by omega) hm,g5⟩
     |false=>exact wpS_pure ⟨rfl,_,_,rfl,by omega,by omega,by omega,g4,λi h1 h2=>up _ i h1 h2 hm⟩
   case sfin=>
    rintro c st'' ⟨rfl,lo,hi,rfl,g1,g2,g3,g4,g5⟩;have e:lo=hi:=by omega
    subst e;exact⟨rfl,lo,rfl,g2,g4,g5⟩
   case spost=>
    rintro c st'' ⟨rfl,hi,rfl,g2,g4,g5⟩;exact wpS_pure (q hi g2 g4 g5)
 ·rw[if_neg hr]
  have hr':f hint=false:=eF0 hr;refine wpS_bind (wpS_mono (wpS_forRange (I:=λx c st'=>st'=st/\∃la o,c=(none,la,o)/\la < o/\x+1<=o/\la<=hint/\f (hint - la)=false)
   (Q:=λc st'=>st'=st/\∃la o,c=(none,la,o)/\la < o/\la<=hint/\f (hint - la)=false/\(hint+1<=o\/(o<=hint/\f (hint - o)=true))) ?step ?fin ⟨rfl,0,1,rfl,by omega,by omega,by omega,hr'⟩) ?post)
  case step=>
   rintro x c st' _ hx ⟨rfl,la,o,rfl,h1,h2,h3,h4⟩;dsimp only;by_cases c1:o ≥ hint+1
   ·rw[if_pos c1]
    exact wpS_pure ⟨rfl,la,o,rfl,h1,h3,h4,.inl c1⟩
   ·rw[if_neg c1]
    refine wpS_bind (beyond (by omega) ?_);dsimp only;cases hm:f (hint - o) with
    |true=>exact wpS_pure ⟨rfl,la,o,rfl,h1,h3,h4,.inr ⟨by omega,hm⟩⟩
    |false=>exact wpS_pure ⟨rfl,o,2 * o+1,rfl,by omega,by omega,by omega,hm⟩
  case fin=>
   rintro c st' ⟨rfl,la,o,rfl,h1,h2,h3,h4⟩;exact⟨rfl,la,o,rfl,h1,h3,h4,.inl (by omega)⟩
  case post=>
   rintro c st' ⟨e0,la,o,rfl,h1,h3,h4,h5⟩;rw[e0];clear e0 st';dsimp only;have d:∀i,i < hint+1 - min o (hint+1)->f i=true:=λi i1=>by
    rcases h5 with h5|⟨h5,h6⟩
    ·omega
    ·exact mono i _ (by omega) (by omega) h6
   refine wpS_bind (wpS_mono (wpS_forRange (I:=λx c st''=>st''=st/\∃lo hi,c=(none,lo,hi)/\lo<=hi/\hi<=n/\hi - lo<=n - x/\(∀i,i < lo->f i=true)/\(∀i,hi<=i->i < n->f i=false))
    (Q:=λc st''=>st''=st/\∃hi,c=(none,hi,hi)/\hi<=n/\(∀i,i < hi->f i=true)/\(∀i,hi<=i->i < n->f i=false)) ?sstep ?sfin ⟨rfl,_,_,rfl,(by omega),(by omega),by omega,d,(λi i1 i2=>up _ i i1 i2 h4)⟩) ?spost)
   case sstep=>
    rintro x c st'' _ hx ⟨rfl,lo,hi,rfl,g1,g2,g3,g4,g5⟩;dsimp only;by_cases c1:lo ≥ hi
    ·rw[if_pos c1]
     have e:lo=hi:=by omega
     subst e;exact wpS_pure ⟨rfl,lo,rfl,g2,g4,g5⟩
    ·rw[if_neg c1]
     refine wpS_bind (beyond (by omega) ?_);dsimp only;cases hm:f (lo+(hi - lo) / 2) with
     |true=>exact wpS_pure ⟨rfl,_,_,rfl,by omega,by omega,by omega,λi hi'=>mono i _ (by omega) (by omega) hm,g5⟩
     |false=>exact wpS_pure ⟨rfl,_,_,rfl,by omega,by omega,by omega,g4,λi h1 h2=>up _ i h1 h2 hm⟩
   case sfin=>
    rintro c st'' ⟨rfl,lo,hi,rfl,g1,g2,g3,g4,g5⟩;have e:lo=hi:=by omega
    subst e;exact⟨rfl,lo,rfl,g2,g4,g5⟩
   case spost=>
    rintro c st'' ⟨rfl,hi,rfl,g2,g4,g5⟩;exact wpS_pure (q hi g2 g4 g5)
end
end TS
namespace TS
open PySem PyProof.Rows
variable {κ:KeyKind}
def dB(κ:KeyKind)(l:List Keyed):Prop:=l.Pairwise λx y=>κ.kle (key κ x) (key κ y)
def HD(κ:KeyKind)(v:κ.α)(p:Keyed):Bool:= !κ.blt (key κ p) v && !κ.blt v (key κ p)
def fk(κ:KeyKind)(v:κ.α)(l:List Keyed):List Keyed:=l.filter (HD κ v)
def Below(κ:KeyKind)(l m:List Keyed):Prop:=∀x∈l,∀y∈m,κ.kle (key κ x) (key κ y)
def Under(κ:KeyKind)(l m:List Keyed):Prop:=∀x∈l,∀y∈m,κ.klt (key κ x) (key κ y)
def cQ(κ:KeyKind)(l m:List Keyed):Prop:=∀v,fk κ v l=fk κ v m
theorem Under.below{l m:List Keyed}(h:Under κ l m):Below κ l m:=λx hx y hy=>KeyOrd.kle_of_klt (h x hx y hy)
theorem jC(v:κ.α)(l m:List Keyed):fk κ v (l++m)=fk κ v l++fk κ v m:=filter_append ..
theorem tV(p:Keyed):HD κ (key κ p) p=true:=by
 unfold HD;rw[κ.irrefl];rfl
theorem zJ{v:κ.α}{p:Keyed}(h:HD κ v p=true):key κ p=v:=by
 unfold HD at h;rw[and_eq_true,not_eq_true',not_eq_true']at h;exact κ.total _ _ h.1 h.2
theorem cQ.refl(l:List Keyed):cQ κ l l:=λ_=>rfl
theorem cQ.trans{l m n:List Keyed}(h:cQ κ l m)(h':cQ κ m n):cQ κ l n:=λv=>(h v).trans (h' v)
theorem cQ.append{l m l' m':List Keyed}(h:cQ κ l l')(h':cQ κ m m'):cQ κ (l++m) (l'++m'):=λv=>by
 rw[jC,jC,h v,h' v]
theorem cQ.perm{l m:List Keyed}(h:cQ κ l m):l.Perm m:=by
 classical
 refine List.perm_iff_count.mpr λx=>?_;have e:=congrArg (List.count x) (h (key κ x));unfold fk at e
 rwa [List.count_filter (tV x),List.count_filter (tV x)]at e
theorem cQ.mem{l m:List Keyed}(h:cQ κ l m){x:Keyed}:x∈l↔x∈m:=h.perm.mem_iff
theorem cQ.swap{l m:List Keyed}(h:Under κ l m):cQ κ (l++m) (m++l):=λv=>by
 rw[jC,jC];by_cases e:fk κ v l=[]
 ·rw[e,append_nil,nil_append]
 ·obtain⟨x,hx⟩:=List.exists_mem_of_ne_nil _ e
  obtain⟨x1,x2⟩:=mem_filter.mp hx;have e2:fk κ v m=[]:=List.eq_nil_iff_forall_not_mem.mpr λy hy=>by
   obtain⟨y1,y2⟩:=mem_filter.mp hy;have:=h x x1 y y1;rw[zJ x2,zJ y2]at this;unfold KeyOrd.klt at this;rw[κ.irrefl]at this;cases this
  rw[e2,append_nil,nil_append]
theorem dB.append{l m:List Keyed}(h:dB κ l)(h':dB κ m)(b:Below κ l m):dB κ (l++m):=List.pairwise_append.mpr ⟨h,h',b⟩
theorem dB.left{l m:List Keyed}(h:dB κ (l++m)):dB κ l:=(List.pairwise_append.mp h).1
theorem dB.right{l m:List Keyed}(h:dB κ (l++m)):dB κ m:=(List.pairwise_append.mp h).2.1
theorem dB.mid{l m:List Keyed}(h:dB κ (l++m)):Below κ l m:=(List.pairwise_append.mp h).2.2
theorem dB.drop{l:List Keyed}(h:dB κ l)(i:Nat):dB κ (l.drop i):=List.Pairwise.sublist (List.drop_sublist i l) h
theorem Below.append{l m n:List Keyed}(h:Below κ l n)(h':Below κ m n):Below κ (l++m) n:=λx hx=>(mem_append.mp hx).elim (h x) (h' x)
theorem Below.left{l m n:List Keyed}(h:Below κ l (m++n)):Below κ l m:=λx hx y hy=>h x hx y (mem_append_left _ hy)
theorem Below.right{l m n:List Keyed}(h:Below κ l (m++n)):Below κ l n:=λx hx y hy=>h x hx y (mem_append_right _ hy)
theorem Below.nil{l:List Keyed}:Below κ l []:=λ_ _ _ h=>by cases h
theorem oz(l:List Keyed)(i k:Nat):l.drop i=(l.drop i).take k++l.drop (i+k):=by
 rw[<-List.drop_drop,take_append_drop]
structure jG(κ:KeyKind)(al bl out:List Keyed)(ia ib:Nat):Prop where
 so:dB κ out
 oa:Below κ out (al.drop ia)
 ob:Below κ out (bl.drop ib)
 st:cQ κ (out++(al.drop ia++bl.drop ib)) (al++bl)
theorem jG.uW{al bl out:List Keyed}{ia ib k:Nat}(sa:dB κ al)(h:jG κ al bl out ia ib)(b:Below κ ((al.drop ia).take k) (bl.drop ib)):jG κ al bl (out++(al.drop ia).take k) (ia+k) ib:=by
 have e:=oz al ia k;have s:=sa.drop ia;have oa:=h.oa;have st:=h.st;rw[e]at s oa st;refine⟨h.so.append s.left oa.left,oa.right.append s.mid,h.ob.append b,?_⟩;rw[append_assoc,<-append_assoc _ (al.drop (ia+k))];exact st
theorem jG.vF{al bl out:List Keyed}{ia ib k:Nat}(sb:dB κ bl)(h:jG κ al bl out ia ib)(b:Under κ ((bl.drop ib).take k) (al.drop ia)):jG κ al bl (out++(bl.drop ib).take k) ia (ib+k):=by
 have e:=oz bl ib k;have s:=sb.drop ib;have ob:=h.ob;have st:=h.st;rw[e]at s ob st;refine⟨h.so.append s.left ob.left,h.oa.append b.below,ob.right.append s.mid,?_⟩;refine cQ.trans ?_ st;rw[append_assoc];refine(cQ.refl _).append ?_;rw[<-append_assoc,<-append_assoc];exact(cQ.swap b).append (cQ.refl _)
theorem jG.done{al bl out:List Keyed}{ia ib:Nat}(sa:dB κ al)(sb:dB κ bl)(h:jG κ al bl out ia ib)(e:al.drop ia=[]\/bl.drop ib=[]):dB κ (out++al.drop ia++bl.drop ib)/\cQ κ (out++al.drop ia++bl.drop ib) (al++bl):=by
 refine⟨?_,by rw[append_assoc];exact h.st⟩;rcases e with e|e
 ·rw[e,append_nil]
  exact h.so.append (sb.drop ib) h.ob
 ·rw[e,append_nil]
  exact h.so.append (sa.drop ia) h.oa
theorem jG.last{al bl out:List Keyed}{ia ib:Nat}(sa:dB κ al)(sb:dB κ bl)(h:jG κ al bl out ia ib)(u:Under κ (bl.drop ib) (al.drop ia)):dB κ (out++bl.drop ib++al.drop ia)/\cQ κ (out++bl.drop ib++al.drop ia) (al++bl):=by
 refine⟨(h.so.append (sb.drop ib) h.ob).append (sa.drop ia) (h.oa.append u.below),cQ.trans ?_ h.st⟩;rw[append_assoc];exact(cQ.refl _).append (cQ.swap u)
def zD:Array Keyed->Array Keyed->StateT SortSt Sem (Array Keyed):=sortPriv% PySem.Builtin.mergeLo
section
variable {prog:Program}{w:World}{A:Around}{E:Value->Shared->Prop}{s:Shared}{kd:SortKind}
structure Kept(st st':SortSt):Prop where
 kind:kindOf st'=kindOf st
 arr:arrOf st'=arrOf st
 pend:pendingOf st'=pendingOf st
 failed:failedOf st'=failedOf st
theorem Kept.refl(st:SortSt):Kept st st:=⟨rfl,rfl,rfl,rfl⟩
theorem Kept.trans{a b c:SortSt}(h:Kept a b)(h':Kept b c):Kept a c:=⟨h'.kind.trans h.kind,h'.arr.trans h.arr,h'.pend.trans h.pend,h'.failed.trans h.failed⟩
def pV:Nat->StateT SortSt Sem Unit:=sortPriv% PySem.Builtin.setMinGallop
theorem lC{g:Nat}{st:SortSt}{Q:Unit->SortSt->Prop}(q:∀st',Kept st st'->Q () st'):wpS (model prog w) A E s (pV g) Q st:=by
 exact wpS_modify (q _ ⟨rfl,rfl,rfl,rfl⟩)
theorem xx{l:List Keyed}{b m:Nat}{x:Keyed}:x∈(l.drop b).take m↔∃i,i < m/\l[b+i]? =some x:=by
 constructor
 ·intro h
  obtain⟨i,hi⟩:=getElem?_of_mem h;have hl:=(gI0.mp hi).1;rw[length_take]at hl;rw[getElem?_take_of_lt (by omega),getElem?_drop]at hi;exact⟨i,by omega,hi⟩
 ·rintro⟨i,h1,h2⟩
  refine mem_of_getElem? (i:=i) ?_;rw[getElem?_take_of_lt h1,getElem?_drop];exact h2
theorem dB.at{l:List Keyed}{b n i j:Nat}{x y:Keyed}(h:dB κ ((l.drop b).take n))(ij:i<=j)(jn:j < n)(hx:l[b+i]? =some x)(hy:l[b+j]? =some y):κ.kle (key κ x) (key κ y):=by
 by_cases e:i=j
 ·subst e
  rw[hx]at hy;cases hy;exact KeyOrd.kle_refl _
 ·have h1:((l.drop b).take n)[i]? =some x:=by rw[getElem?_take_of_lt (by omega),getElem?_drop];exact hx
  have h2:((l.drop b).take n)[j]? =some y:=by rw[getElem?_take_of_lt jn,getElem?_drop];exact hy
  obtain⟨i1,e1⟩:=gI0.mp h1;obtain⟨j1,e2⟩:=gI0.mp h2;have:=List.pairwise_iff_getElem.mp h i j i1 j1 (by omega)
  rwa [e1,e2]at this
theorem xq(hL:kJ prog w A E s κ kd){left:Bool}{k:Keyed}{arr:Array Keyed}{base n hint:Nat}{st:SortSt}{Q:Option Nat->SortSt->Prop}(hk:kindOf st=kd)(kk:ip κ k)(ks:∀x∈arr.toList,ip κ x)(sz:base+n<=arr.size)(ss:dB κ ((arr.toList.drop base).take n))(hh:hint < n)
  (q:∀m,m<=n->(∀x∈(arr.toList.drop base).take m,Fi κ left k x=true)->(∀x∈(arr.toList.drop (base+m)).take (n - m),Fi κ left k x=false)->Q (some m) st):wpS (model prog w) A E s (ni left k arr base n hint) Q st:=by
 have ex:∀i,i < n->∃x,arr.toList[base+i]? =some x/\ip κ x:=λi hi=>by
  have:base+i < arr.toList.length:=by rw[length_toList];omega
  exact⟨_,getElem?_eq_getElem this,ks _ (getElem_mem this)⟩
 refine uU hL hk kk (λi=>match arr.toList[base+i]? with|some x=>Fi κ left k x|none=>false) (λi hi=>?_) (λi j ij jn hj=>?_) hh λm hm m1 m2=>q m hm (λx hx=>?_) (λx hx=>?_)
 ·obtain⟨x,hx,kx⟩:=ex i hi
  exact⟨x,by rw[<-hx,getElem?_toList],kx,by rw[hx]⟩
 ·obtain⟨x,hx,kx⟩:=ex i (by omega)
  obtain⟨y,hy,ky⟩:=ex j jn;have le:=ss.at ij jn hx hy;rw[hy]at hj;rw[hx];dsimp only at hj ⊢;cases left with
  |true=>exact KeyOrd.klt_of_kle_of_klt le (show κ.klt _ _ from hj)
  |false=>
   have hj':κ.blt (key κ k) (key κ y)=false:=by
    have:(!κ.blt (key κ k) (key κ y))=true:=hj
    rwa [not_eq_true']at this
   have:κ.kle (key κ x) (key κ k):=KeyOrd.kle_trans le hj';show(!κ.blt (key κ k) (key κ x))=true;rw[not_eq_true'];exact this
 ·obtain⟨i,hi,hx'⟩:=xx.mp hx
  have:=m1 i hi
  rwa [hx']at this
 ·obtain⟨i,hi,hx'⟩:=xx.mp hx
  rw[Nat.add_assoc]at hx';have:=m2 (m+i) (by omega) (by omega)
  rwa [hx']at this
theorem fA(l:List Keyed)(b:Nat){n:Nat}(h:l.length - b<=n):(l.drop b).take n=l.drop b:=take_of_length_le (by rw[length_drop];exact h)
theorem oO(hL:kJ prog w A E s κ kd){k:Keyed}{arr:Array Keyed}{base n hint:Nat}{st:SortSt}{Q:Option Nat->SortSt->Prop}(hk:kindOf st=kd)(kk:ip κ k)(ks:∀x∈arr.toList,ip κ x)(sz:base+n<=arr.size)(ss:dB κ ((arr.toList.drop base).take n))(hh:hint < n)
  (q:∀m,m<=n->Below κ ((arr.toList.drop base).take m) [k]->Under κ [k] ((arr.toList.drop (base+m)).take (n - m))->Q (some m) st):wpS (model prog w) A E s (ni false k arr base n hint) Q st:=
 xq hL hk kk ks sz ss hh λm hm m1 m2=>q m hm (λx hx y hy=>by
  cases mem_singleton.mp hy;have:=m1 x hx;unfold Fi at this;rw[if_neg bF0,not_eq_true']at this;exact this) (λy hy x hx=>by
  cases mem_singleton.mp hy;have:=m2 x hx;unfold Fi at this;rw[if_neg bF0,Bool.not_eq_false']at this;exact this)
theorem nV(hL:kJ prog w A E s κ kd){k:Keyed}{arr:Array Keyed}{base n hint:Nat}{st:SortSt}{Q:Option Nat->SortSt->Prop}(hk:kindOf st=kd)(kk:ip κ k)(ks:∀x∈arr.toList,ip κ x)(sz:base+n<=arr.size)(ss:dB κ ((arr.toList.drop base).take n))(hh:hint < n)
  (q:∀m,m<=n->Under κ ((arr.toList.drop base).take m) [k]->Below κ [k] ((arr.toList.drop (base+m)).take (n - m))->Q (some m) st):wpS (model prog w) A E s (ni true k arr base n hint) Q st:=
 xq hL hk kk ks sz ss hh λm hm m1 m2=>q m hm (λx hx y hy=>by
  cases mem_singleton.mp hy;exact m1 x hx) (λy hy x hx=>by
  cases mem_singleton.mp hy;exact m2 x hx)
def jH(κ:KeyKind)(a b r:Array Keyed):Prop:=dB κ r.toList/\cQ κ r.toList (a.toList++b.toList)
theorem kO(a:Array Keyed)(i:Nat):(a.extract i a.size).toList=a.toList.drop i:=by
 rw[toList_extract];exact fA _ _ (by rw[length_toList];exact le_refl _)
theorem oo(a:Array Keyed)(i k:Nat):(a.extract i (i+k)).toList=(a.toList.drop i).take k:=by
 rw[toList_extract];show(a.toList.drop i).take (i+k - i)=_;rw[Nat.add_sub_cancel_left]
theorem dW{a:Array Keyed}{i:Nat}{x:Keyed}(h:a[i]? =some x):a.toList.drop i=x::a.toList.drop (i+1):=by
 rw[<-getElem?_toList]at h;obtain⟨h1,h2⟩:=gI0.mp h;rw[List.drop_eq_getElem_cons h1,h2]
theorem dB.head{x:Keyed}{l:List Keyed}(h:dB κ (x::l)):Below κ [x] (x::l):=λa ha b hb=>by
 cases mem_singleton.mp ha;rcases mem_cons.mp hb with rfl|hb
 ·exact KeyOrd.kle_refl _
 ·exact(pairwise_cons.mp h).1 b hb
theorem Under.over{k:Keyed}{l m:List Keyed}(h:Under κ l [k])(b:Below κ [k] m):Under κ l m:=λx hx y hy=>KeyOrd.klt_of_klt_of_kle (h x hx k (mem_singleton_self _)) (b k (mem_singleton_self _) y hy)
theorem Below.over{k:Keyed}{l m:List Keyed}(h:Below κ l [k])(b:Below κ [k] m):Below κ l m:=λx hx y hy=>KeyOrd.kle_trans (h x hx k (mem_singleton_self _)) (b k (mem_singleton_self _) y hy)
section
variable {a b out:Array Keyed}{ia ib:Nat}(sa:dB κ a.toList)(sb:dB κ b.toList)
include sa sb
theorem jG.pC(h:jG κ a.toList b.toList out.toList ia ib)(e:a.size<=ia\/b.size<=ib):jH κ a b (out++a.extract ia a.size++b.extract ib b.size):=by
 unfold jH;rw[toList_append,toList_append,kO,kO];exact h.done sa sb (e.imp (λe=>List.drop_eq_nil_of_le (by rw[length_toList];exact e)) (λe=>List.drop_eq_nil_of_le (by rw[length_toList];exact e)))
theorem jG.De(h:jG κ a.toList b.toList out.toList ia ib)(u:Under κ (b.toList.drop ib) (a.toList.drop ia)):jH κ a b (out++b.extract ib b.size++a.extract ia a.size):=by
 unfold jH;rw[toList_append,toList_append,kO,kO];exact h.last sa sb u
omit sa in
theorem jG.qI{x:Keyed}(h:jG κ a.toList b.toList out.toList ia ib)(hx:b[ib]? =some x)(u:Under κ [x] (a.toList.drop ia)):jG κ a.toList b.toList (out.push x).toList ia (ib+1):=by
 rw[toList_push];have e:(b.toList.drop ib).take 1=[x]:=by rw[dW hx];rfl
 have:=h.vF (k:=1) sb (by rw[e];exact u)
 rwa [e]at this
omit sb in
theorem jG.qH{x:Keyed}(h:jG κ a.toList b.toList out.toList ia ib)(hx:a[ia]? =some x)(u:Below κ [x] (b.toList.drop ib)):jG κ a.toList b.toList (out.push x).toList (ia+1) ib:=by
 rw[toList_push];have e:(a.toList.drop ia).take 1=[x]:=by rw[dW hx];rfl
 have:=h.uW (k:=1) sa (by rw[e];exact u)
 rwa [e]at this
end
structure LI(κ:KeyKind)(a b:Array Keyed)(st:SortSt)(out:Array Keyed)(ia ib t:Nat)(st':SortSt):Prop where
 kp:Kept st st'
 m:jG κ a.toList b.toList out.toList ia ib
 la:ia+1 < a.size
 lb:ib < b.size
 t:t<=ia+ib
theorem gR{a:Array Keyed}{i:Nat}(h:i < a.size):∃x,a[i]? =some x/\x∈a.toList:=⟨_,getElem?_pos a i h,by simp⟩
theorem cM{α:Type}{c:Prop} [Decidable c]{m1 m2:StateT SortSt Sem α}{Q:α->SortSt->Prop}{st:SortSt}(h1:c->wpS (model prog w) A E s m1 Q st)(h2:¬c->wpS (model prog w) A E s m2 Q st):wpS (model prog w) A E s (if c then m1 else m2) Q st:=by
 by_cases h:c
 ·rw[if_pos h]
  exact h1 h
 ·rw[if_neg h]
  exact h2 h
theorem jG.E9{a b out:Array Keyed}{ia ib k:Nat}(sa:dB κ a.toList)(h:jG κ a.toList b.toList out.toList ia ib)(u:Below κ ((a.toList.drop ia).take k) (b.toList.drop ib)):jG κ a.toList b.toList (out++a.extract ia (ia+k)).toList (ia+k) ib:=by
 rw[toList_append,oo];exact h.uW sa u
theorem jG.Gp{a b out:Array Keyed}{ia ib k:Nat}(sb:dB κ b.toList)(h:jG κ a.toList b.toList out.toList ia ib)(u:Under κ ((b.toList.drop ib).take k) (a.toList.drop ia)):jG κ a.toList b.toList (out++b.extract ib (ib+k)).toList ia (ib+k):=by
 rw[toList_append,oo];exact h.vF sb u
theorem uu(a:Array Keyed){i m n:Nat}(h:a.size - i<=n)(hm:m<=n):(a.toList.drop (i+m)).take (n - m)=a.toList.drop (i+m):=fA _ _ (by rw[length_toList];omega)
theorem um(hL:kJ prog w A E s κ kd){a b:Array Keyed}{st:SortSt}{Q:Array Keyed->SortSt->Prop}(hk:kindOf st=kd)(ka:∀x∈a.toList,ip κ x)(kb:∀x∈b.toList,ip κ x)(sa:dB κ a.toList)(sb:dB κ b.toList)(a1:1<=a.size)(b1:1<=b.size)(u1:Under κ (b.toList.take 1) a.toList)(u2:Under κ b.toList (a.toList.drop (a.size - 1)))
  (q:∀r st',Kept st st'->jH κ a b r->Q r st'):wpS (model prog w) A E s (zD a b) Q st:=by
 refine wpS_bind (wpS_lift (wpAny_rule ⟨rfl,?_⟩));obtain⟨b0,hb0,mb0⟩:=gR b1;refine wpS_bind (cV hb0 ?_);have ub:∀ib,Under κ (b.toList.drop ib) (a.toList.drop (a.size - 1)):=λib x hx y hy=>u2 x (List.mem_of_mem_drop hx) y hy;have m0:jG κ a.toList b.toList (#[b0]:Array Keyed).toList 0 1:=by
  have h0:jG κ a.toList b.toList (#[]:Array Keyed).toList 0 0:=⟨List.Pairwise.nil,(λ_ h=>by cases h),(λ_ h=>by cases h),cQ.refl _⟩;refine h0.qI sb hb0 ?_;have e:b.toList.take 1=[b0]:=by
   have:=dW hb0;rw[drop_zero]at this;rw[this];rfl
  rw[e]at u1;exact u1
 by_cases c1:(1 == b.size)=true
 ·rw[if_pos c1]
  exact wpS_pure (q _ st (Kept.refl _) (m0.pC sa sb (.inr (by rw[beq_iff_eq]at c1;omega))))
 rw[if_neg c1];by_cases c2:(0+1 == a.size)=true
 ·rw[if_pos c2]
  exact wpS_pure (q _ st (Kept.refl _) (m0.De sa sb (by rw[beq_iff_eq]at c2;have:=ub 1;rwa [show a.size - 1=0 by omega]at this)))
 rw[if_neg c2];rw[beq_iff_eq]at c1 c2;refine wpS_bind (wpS_get ?_);refine wpS_bind (wpS_mono (wpS_forRange (I:=λx c st'=>∃out ia ib mg,c=(none,out,ia,ib,mg)/\LI κ a b st out ia ib x st')
  (Q:=λc st'=>∃r c',c=(some r,c')/\Kept st st'/\jH κ a b r) ?step ?fin ⟨_,_,_,_,rfl,Kept.refl _,m0,by omega,by omega,zero_le _⟩) ?post)
 case post=>
  rintro c st' ⟨r,c',rfl,kp,mr⟩;exact wpS_pure (q r st' kp mr)
 case fin=>
  rintro c st' ⟨out,ia,ib,mg,rfl,li⟩;have:=li.t;have:=li.la;have:=li.lb;omega
 case step=>
  rintro x c st1 _ hx ⟨out,ia,ib,mg,rfl,li⟩;dsimp only;refine wpS_bind (wpS_mono (wpS_forRange (I:=λy c st'=>∃out ia ib ac bc,c=(none,out,ia,ib,ac,bc)/\LI κ a b st out ia ib (x+y) st')
   (Q:=λc st'=>(∃r c',c=(some r,c')/\Kept st st'/\jH κ a b r)\/∃out ia ib ac bc,c=(none,out,ia,ib,ac,bc)/\LI κ a b st out ia ib (x+1) st') ?istep ?ifin ⟨_,_,_,_,_,rfl,li⟩) ?ipost)
  case ifin=>
   rintro c st' ⟨out,ia,ib,ac,bc,rfl,li⟩;have:=li.t;have:=li.la;have:=li.lb;omega
  case istep=>
   rintro y c st2 _ hy ⟨out,ia,ib,ac,bc,rfl,li⟩;dsimp only;obtain⟨xb,hxb,mxb⟩:=gR li.lb;obtain⟨xa,hxa,mxa⟩:=gR (show ia < a.size by have:=li.la;omega);refine wpS_bind (cV hxb (wpS_bind (cV hxa (wpS_bind (hL xb xa st2 _ (li.kp.kind.trans hk) (kb xb mxb) (ka xa mxa) ?_)))));dsimp only;have ha':=(sa.drop ia);rw[dW hxa]at ha';have hb':=(sb.drop ib);rw[dW hxb]at hb';have bela:Below κ [xa] (a.toList.drop ia):=by rw[dW hxa];exact ha'.head
   have belb:Below κ [xb] (b.toList.drop ib):=by rw[dW hxb];exact hb'.head
   have lla:=li.la;have llb:=li.lb;have llt:=li.t;cases hc:κ.blt (key κ xb) (key κ xa) with
   |true=>
    rw[if_pos rfl];have m':=li.m.qI sb hxb (Under.over (k:=xa) (λx hx y hy=>by cases mem_singleton.mp hx;cases mem_singleton.mp hy;exact hc) bela);refine wpS_bind (cV hxb ?_);by_cases c3:(ib+1 == b.size)=true
    ·rw[if_pos c3]
     exact wpS_pure (.inl ⟨_,_,rfl,li.kp,m'.pC sa sb (.inr (by rw[beq_iff_eq]at c3;omega))⟩)
    rw[if_neg c3];rw[beq_iff_eq]at c3;by_cases c4:bc+1 ≥ mg
    ·rw[if_pos c4]
     exact wpS_pure (.inr ⟨_,_,_,_,_,rfl,li.kp,m',lla,by omega,by omega⟩)
    ·rw[if_neg c4]
     exact wpS_pure ⟨_,_,_,_,_,rfl,li.kp,m',lla,by omega,by omega⟩
   |false=>
    rw[if_neg bF0];have m':=li.m.qH sa hxa (Below.over (k:=xb) (λx hx y hy=>by cases mem_singleton.mp hx;cases mem_singleton.mp hy;exact hc) belb);refine wpS_bind (cV hxa ?_);by_cases c3:(ia+1+1 == a.size)=true
    ·rw[if_pos c3]
     exact wpS_pure (.inl ⟨_,_,rfl,li.kp,m'.De sa sb (by rw[beq_iff_eq]at c3;have:=ub ib;rwa [show a.size - 1=ia+1 by omega]at this)⟩)
    rw[if_neg c3];rw[beq_iff_eq]at c3;by_cases c4:ac+1 ≥ mg
    ·rw[if_pos c4]
     exact wpS_pure (.inr ⟨_,_,_,_,_,rfl,li.kp,m',by omega,by omega,by omega⟩)
    ·rw[if_neg c4]
     exact wpS_pure ⟨_,_,_,_,_,rfl,li.kp,m',by omega,by omega,by omega⟩
  case ipost=>
   rintro c st2 (⟨r,c',rfl,kp,mr⟩|⟨out,ia,ib,ac,bc,rfl,li⟩)
   ·exact wpS_pure ⟨r,_,rfl,kp,mr⟩
   dsimp only;refine wpS_bind (wpS_lift (wpAny_rule ⟨rfl,?_⟩));refine wpS_bind (wpS_mono (wpS_forRange (I:=λy c st'=>∃out ia ib mg ac bc,c=(none,out,ia,ib,mg,ac,bc)/\LI κ a b st out ia ib (x+1+y) st')
    (Q:=λc st'=>(∃r c',c=(some r,c')/\Kept st st'/\jH κ a b r)\/∃out ia ib mg ac bc,c=(none,out,ia,ib,mg,ac,bc)/\LI κ a b st out ia ib (x+1) st') ?gstep ?gfin ⟨_,_,_,_,_,_,rfl,li⟩) ?gpost)
   case gfin=>
    rintro c st' ⟨out,ia,ib,mg,ac,bc,rfl,li⟩;have:=li.t;have:=li.la;have:=li.lb;omega
   case gpost=>
    rintro c st3 (⟨r,c',rfl,kp,mr⟩|⟨out,ia,ib,mg,ac,bc,rfl,li⟩)
    ·exact wpS_pure ⟨r,_,rfl,kp,mr⟩
    dsimp only;exact wpS_bind (lC λst4 kp4=>wpS_pure ⟨_,_,_,_,rfl,li.kp.trans kp4,li.m,li.la,li.lb,li.t⟩)
   case gstep=>
    rintro y c st3 _ hy ⟨out,ia,ib,mg,ac,bc,rfl,li⟩;dsimp only;obtain⟨xb,hxb,mxb⟩:=gR li.lb;have hb':=(sb.drop ib);rw[dW hxb]at hb';have belb:Below κ [xb] (b.toList.drop ib):=by rw[dW hxb];exact hb'.head
    clear hb';have belA:∀{i:Nat}{x:Keyed},a[i]? =some x->Below κ [x] (a.toList.drop i):=λ{i x} hx=>by
     have h:=sa.drop i;rw[dW hx]at h ⊢;exact h.head
    have ubl:∀{i:Nat}(j:Nat),i+1=a.size->Under κ (b.toList.drop j) (a.toList.drop i):=λ{i} j e=>by
     have:=ub j
     rwa [show a.size - 1=i by omega]at this
    have lla:=li.la;have llb:=li.lb;have llt:=li.t;refine cM (λ_=>?_) (λ_=>?_)
    all_goals
     refine wpS_bind (lC λst4 kp4=>?_);have kp3:=li.kp.trans kp4;refine wpS_bind (cV hxb (wpS_bind (oO hL (kp3.kind.trans hk) (kb xb mxb) ka (by omega) (by rw[fA _ _ (by rw[length_toList];exact le_refl _)];exact sa.drop _) (by omega) λk1 hk1 bl1 un1=>?_)));dsimp only;rw[uu a (le_refl _) hk1]at un1;have m2:=jG.E9 sa li.m (Below.over bl1 belb);refine cM (λc1=>cM (λc2=>?_) (λc2=>cM (λc7=>?_) (λc7=>?_))) (λc1=>?_)
     ·rw[beq_iff_eq]at c2
      exact wpS_pure (.inl ⟨_,_,rfl,kp3,m2.De sa sb (ubl _ (by omega))⟩)
     ·rw[beq_iff_eq]at c7
      exact wpS_pure (.inl ⟨_,_,rfl,kp3,m2.pC sa sb (.inl (by omega))⟩)
     rw[beq_iff_eq]at c2 c7;have lt:=show ia+k1 < a.size by omega
     rotate_left
     have e:k1=0:=by omega
     subst e;have m2:=li.m;have lt:=show ia < a.size by omega
     all_goals
      have m3:=jG.qI sb m2 hxb un1;refine wpS_bind (cV hxb ?_);refine cM (λc3=>?_) (λc3=>?_)
      ·rw[beq_iff_eq]at c3
       exact wpS_pure (.inl ⟨_,_,rfl,kp3,m3.pC sa sb (.inr (by omega))⟩)
      rw[beq_iff_eq]at c3;obtain⟨xc,hxc,mxc⟩:=gR lt;have belc:=belA hxc;refine wpS_bind (cV hxc (wpS_bind (nV hL (kp3.kind.trans hk) (ka xc mxc) kb (by omega) (by rw[fA _ _ (by rw[length_toList];omega)];exact sb.drop _) (by omega) λk2 hk2 ul bl=>?_)));dsimp only;rw[uu b (by omega) hk2]at bl;have m4:=jG.Gp sb m3 (Under.over ul belc);refine cM (λc4=>cM (λc6=>?_) (λc6=>?_)) (λc4=>?_)
      ·rw[beq_iff_eq]at c6
       exact wpS_pure (.inl ⟨_,_,rfl,kp3,m4.pC sa sb (.inr (by omega))⟩)
      rw[beq_iff_eq]at c6
      rotate_left
      have e:k2=0:=by omega
      subst e;have m4:=m3
      all_goals
       have m5:=jG.qH sa m4 hxc bl;refine wpS_bind (cV hxc ?_);refine cM (λc5=>?_) (λc5=>?_)
       ·rw[beq_iff_eq]at c5
        exact wpS_pure (.inl ⟨_,_,rfl,kp3,m5.De sa sb (ubl _ (by omega))⟩)
       ·rw[beq_iff_eq]at c5
        exact cM (λ_=>wpS_pure (.inr ⟨_,_,_,_,_,_,rfl,kp3,m5,by omega,by omega,by omega⟩)) (λ_=>wpS_pure ⟨_,_,_,_,_,_,rfl,kp3,m5,by omega,by omega,by omega⟩)
end
end TS
namespace TS
open PySem PyProof.Rows
variable {κ:KeyKind}
theorem jV(l:List Keyed){m n:Nat}(h:m<=n):l.take n=l.take m++(l.drop m).take (n - m):=by
 rw[<-List.drop_take];have:=take_append_drop m (l.take n);rw[List.take_take,Nat.min_eq_left h]at this;exact this.symm
theorem dB.take{l:List Keyed}(h:dB κ l)(i:Nat):dB κ (l.take i):=List.Pairwise.sublist (List.take_sublist i l) h
structure jI(κ:KeyKind)(al bl o:List Keyed)(na nb:Nat):Prop where
 so:dB κ o
 oa:Below κ (al.take na) o
 ob:Below κ (bl.take nb) o
 st:cQ κ (al.take na++(bl.take nb++o)) (al++bl)
theorem Below.Ae{l m n:List Keyed}(h:Below κ l m)(h':Below κ l n):Below κ l (m++n):=λx hx y hy=>(mem_append.mp hy).elim (h x hx y) (h' x hx y)
theorem Below.Eh{l m n:List Keyed}(h:Below κ (l++m) n):Below κ l n:=λx hx y hy=>h x (mem_append_left _ hx) y hy
theorem Below.Bd{l m n:List Keyed}(h:Below κ (l++m) n):Below κ m n:=λx hx y hy=>h x (mem_append_right _ hx) y hy
theorem jI.uW{al bl o:List Keyed}{na nb m:Nat}(sa:dB κ al)(h:jI κ al bl o na nb)(hm:m<=na)(u:Under κ (bl.take nb) ((al.drop m).take (na - m))):jI κ al bl ((al.drop m).take (na - m)++o) m nb:=by
 have e:=jV al hm;have s:=sa.take na;have oa:=h.oa;have st:=h.st;rw[e]at s oa st;refine⟨s.right.append h.so oa.Bd,s.mid.Ae oa.Eh,u.below.Ae h.ob,cQ.trans ?_ st⟩;rw[append_assoc];refine(cQ.refl _).append ?_;rw[<-append_assoc,<-append_assoc];exact(cQ.swap u).append (cQ.refl _)
theorem jI.vF{al bl o:List Keyed}{na nb m:Nat}(sb:dB κ bl)(h:jI κ al bl o na nb)(hm:m<=nb)(u:Below κ (al.take na) ((bl.drop m).take (nb - m))):jI κ al bl ((bl.drop m).take (nb - m)++o) na m:=by
 have e:=jV bl hm;have s:=sb.take nb;have ob:=h.ob;have st:=h.st;rw[e]at s ob st;refine⟨s.right.append h.so ob.Bd,u.Ae h.oa,s.mid.Ae ob.Eh,?_⟩;rw[<-append_assoc (bl.take m)];exact st
theorem jI.done{al bl o:List Keyed}{na nb:Nat}(sa:dB κ al)(sb:dB κ bl)(h:jI κ al bl o na nb)(e:na=0\/nb=0):dB κ (al.take na++bl.take nb++o)/\cQ κ (al.take na++bl.take nb++o) (al++bl):=by
 refine⟨?_,by rw[append_assoc];exact h.st⟩;rcases e with e|e
 ·rw[e,take_zero,nil_append]
  exact(sb.take nb).append h.so h.ob
 ·rw[e,take_zero,append_nil]
  exact(sa.take na).append h.so h.oa
theorem jI.first{al bl o:List Keyed}{na nb:Nat}(sa:dB κ al)(sb:dB κ bl)(h:jI κ al bl o na nb)(u:Under κ (bl.take nb) (al.take na)):dB κ (bl.take nb++al.take na++o)/\cQ κ (bl.take nb++al.take na++o) (al++bl):=by
 refine⟨?_,cQ.trans ?_ h.st⟩
 ·rw[append_assoc]
  exact(sb.take nb).append ((sa.take na).append h.so h.oa) (u.below.Ae h.ob)
 ·rw[<-append_assoc]
  exact(cQ.swap u).append (cQ.refl _)
def zN:Array Keyed->Array Keyed->StateT SortSt Sem (Array Keyed):=sortPriv% PySem.Builtin.mergeHi
section
variable {prog:Program}{w:World}{A:Around}{E:Value->Shared->Prop}{s:Shared}{kd:SortKind}
abbrev bk(out:Array Keyed):List Keyed:=out.toList.reverse
section
variable {a b out:Array Keyed}{na nb:Nat}(sa:dB κ a.toList)(sb:dB κ b.toList)
include sa sb
theorem jI.pC(h:jI κ a.toList b.toList (bk out) na nb)(e:na=0\/nb=0):jH κ a b (a.extract 0 na++b.extract 0 nb++out.reverse):=by
 unfold jH;rw[toList_append,toList_append,toList_extract,toList_extract,toList_reverse];exact h.done sa sb e
theorem jI.CZ(h:jI κ a.toList b.toList (bk out) na nb)(u:Under κ (b.toList.take nb) (a.toList.take na)):jH κ a b (b.extract 0 nb++a.extract 0 na++out.reverse):=by
 unfold jH;rw[toList_append,toList_append,toList_extract,toList_extract,toList_reverse];exact h.first sa sb u
omit sa in
theorem jI.Gp{m:Nat}(h:jI κ a.toList b.toList (bk out) na nb)(hm:m<=nb)(u:Below κ (a.toList.take na) ((b.toList.drop m).take (nb - m))):jI κ a.toList b.toList (bk (out++(b.extract m nb).reverse)) na m:=by
 have e:bk (out++(b.extract m nb).reverse)=(b.toList.drop m).take (nb - m)++bk out:=by
  show(out++(b.extract m nb).reverse).toList.reverse=_;rw[toList_append,toList_reverse,toList_extract,reverse_append,reverse_reverse]
 rw[e];exact h.vF sb hm u
omit sb in
theorem jI.E9{m:Nat}(h:jI κ a.toList b.toList (bk out) na nb)(hm:m<=na)(u:Under κ (b.toList.take nb) ((a.toList.drop m).take (na - m))):jI κ a.toList b.toList (bk (out++(a.extract m na).reverse)) m nb:=by
 have e:bk (out++(a.extract m na).reverse)=(a.toList.drop m).take (na - m)++bk out:=by
  show(out++(a.extract m na).reverse).toList.reverse=_;rw[toList_append,toList_reverse,toList_extract,reverse_append,reverse_reverse]
 rw[e];exact h.uW sa hm u
end
theorem qO{a:Array Keyed}{m n:Nat}{x:Keyed}(hx:a[m]? =some x)(h:n=m+1):(a.toList.drop m).take (n - m)=[x]:=by
 rw[dW hx,show n - m=1 by omega];rfl
theorem xh(out:Array Keyed)(x:Keyed):bk (out.push x)=[x]++bk out:=by
 show(out.push x).toList.reverse=_;rw[toList_push,reverse_append];rfl
theorem jI.qH{a b out:Array Keyed}{na nb m:Nat}{x:Keyed}(sa:dB κ a.toList)(h:jI κ a.toList b.toList (bk out) na nb)(hx:a[m]? =some x)(hm:na=m+1)(u:Under κ (b.toList.take nb) [x]):jI κ a.toList b.toList (bk (out.push x)) m nb:=by
 have e:=qO hx hm;have:=h.uW (m:=m) sa (by omega) (by rw[e];exact u);rw[e]at this;rw[xh];exact this
theorem jI.qI{a b out:Array Keyed}{na nb m:Nat}{x:Keyed}(sb:dB κ b.toList)(h:jI κ a.toList b.toList (bk out) na nb)(hx:b[m]? =some x)(hm:nb=m+1)(u:Below κ (a.toList.take na) [x]):jI κ a.toList b.toList (bk (out.push x)) na m:=by
 have e:=qO hx hm;have:=h.vF (m:=m) sb (by omega) (by rw[e];exact u);rw[e]at this;rw[xh];exact this
theorem dB.last{a:Array Keyed}(h:dB κ a.toList){m n:Nat}{x:Keyed}(hx:a[m]? =some x)(hn:n=m+1):Below κ (a.toList.take n) [x]:=by
 have s:=h.take n;have e:=jV a.toList (show m<=n by omega);rw[qO hx hn]at e;rw[e]at s ⊢;exact s.mid.append λy hy z hz=>by
  cases mem_singleton.mp hy;cases mem_singleton.mp hz;exact KeyOrd.kle_refl _
theorem Below.under{k:Keyed}{l m:List Keyed}(h:Below κ l [k])(u:Under κ [k] m):Under κ l m:=λx hx y hy=>KeyOrd.klt_of_kle_of_klt (h x hx k (mem_singleton_self _)) (u k (mem_singleton_self _) y hy)
structure HI(κ:KeyKind)(a b:Array Keyed)(st:SortSt)(out:Array Keyed)(na nb t:Nat)(st':SortSt):Prop where
 kp:Kept st st'
 m:jI κ a.toList b.toList (bk out) na nb
 la:1<=na
 lb:2<=nb
 ha:na<=a.size
 hb:nb<=b.size
 t:na+nb+t<=a.size+b.size
theorem t7(hL:kJ prog w A E s κ kd){a b:Array Keyed}{st:SortSt}{Q:Array Keyed->SortSt->Prop}(hk:kindOf st=kd)(ka:∀x∈a.toList,ip κ x)(kb:∀x∈b.toList,ip κ x)(sa:dB κ a.toList)(sb:dB κ b.toList)(a1:1<=a.size)(b1:1<=b.size)(u1:Under κ (b.toList.take 1) a.toList)(u2:Under κ b.toList (a.toList.drop (a.size - 1)))
  (q:∀r st',Kept st st'->jH κ a b r->Q r st'):wpS (model prog w) A E s (zN a b) Q st:=by
 refine wpS_bind (wpS_lift (wpAny_rule ⟨rfl,?_⟩));obtain⟨a0,ha0,ma0⟩:=gR (show a.size - 1 < a.size by omega);refine wpS_bind (cV ha0 ?_);have ubf:∀{nb:Nat}(na:Nat),nb=1->Under κ (b.toList.take nb) (a.toList.take na):=λ{nb} na e x hx y hy=>by
  subst e;exact u1 x hx y (List.mem_of_mem_take hy)
 have m0:jI κ a.toList b.toList (bk #[a0]) (a.size - 1) b.size:=by
  have h0:jI κ a.toList b.toList (bk #[]) a.size b.size:=⟨List.Pairwise.nil,Below.nil,Below.nil,by
   rw[take_of_length_le (by rw[length_toList];exact le_refl _),take_of_length_le (by rw[length_toList];exact le_refl _)];show cQ κ (_++(_++[])) _;rw[append_nil];exact cQ.refl _⟩
  refine h0.qH sa ha0 (by omega) λx hx y hy=>u2 x (List.mem_of_mem_take hx) y ?_;rw[dW ha0];cases mem_singleton.mp hy;exact mem_cons_self
 refine cM (λc1=>?_) (λc1=>?_)
 ·rw[beq_iff_eq]at c1
  exact wpS_pure (q _ st (Kept.refl _) (m0.pC sa sb (.inl c1)))
 refine cM (λc2=>?_) (λc2=>?_)
 ·rw[beq_iff_eq]at c2
  exact wpS_pure (q _ st (Kept.refl _) (m0.CZ sa sb (ubf _ c2)))
 rw[beq_iff_eq]at c1 c2;refine wpS_bind (wpS_get ?_);refine wpS_bind (wpS_mono (wpS_forRange (I:=λx c st'=>∃na nb out mg,c=(none,na,nb,out,mg)/\HI κ a b st out na nb x st')
  (Q:=λc st'=>∃r c',c=(some r,c')/\Kept st st'/\jH κ a b r) ?step ?fin ⟨_,_,_,_,rfl,Kept.refl _,m0,by omega,by omega,by omega,by omega,by omega⟩) ?post)
 case post=>
  rintro c st' ⟨r,c',rfl,kp,mr⟩;exact wpS_pure (q r st' kp mr)
 case fin=>
  rintro c st' ⟨na,nb,out,mg,rfl,li⟩;have:=li.t;have:=li.la;have:=li.lb;omega
 case step=>
  rintro x c st1 _ hx ⟨na,nb,out,mg,rfl,li⟩;dsimp only;refine wpS_bind (wpS_mono (wpS_forRange (I:=λy c st'=>∃na nb out ac bc,c=(none,na,nb,out,ac,bc)/\HI κ a b st out na nb (x+y) st')
   (Q:=λc st'=>(∃r c',c=(some r,c')/\Kept st st'/\jH κ a b r)\/∃na nb out ac bc,c=(none,na,nb,out,ac,bc)/\HI κ a b st out na nb (x+1) st') ?istep ?ifin ⟨_,_,_,_,_,rfl,li⟩) ?ipost)
  case ifin=>
   rintro c st' ⟨na,nb,out,ac,bc,rfl,li⟩;have:=li.t;have:=li.la;have:=li.lb;omega
  case istep=>
   rintro y c st2 _ hy ⟨na,nb,out,ac,bc,rfl,li⟩;dsimp only;have lla:=li.la;have llb:=li.lb;have lha:=li.ha;have lhb:=li.hb;have llt:=li.t;obtain⟨xb,hxb,mxb⟩:=gR (show nb - 1 < b.size by omega);obtain⟨xa,hxa,mxa⟩:=gR (show na - 1 < a.size by omega);have belb:=sb.last hxb (show nb=_ by omega);have bela:=sa.last hxa (show na=_ by omega);refine wpS_bind (cV hxb (wpS_bind (cV hxa (wpS_bind (hL xb xa st2 _ (li.kp.kind.trans hk) (kb xb mxb) (ka xa mxa) ?_)))));dsimp only;cases hc:κ.blt (key κ xb) (key κ xa) with
   |true=>
    rw[if_pos rfl];have m':=li.m.qH sa hxa (by omega) (Below.under (k:=xb) belb (λx hx y hy=>by cases mem_singleton.mp hx;cases mem_singleton.mp hy;exact hc));refine wpS_bind (cV hxa ?_);refine cM (λc3=>?_) (λc3=>?_)
    ·rw[beq_iff_eq]at c3
     exact wpS_pure (.inl ⟨_,_,rfl,li.kp,m'.pC sa sb (.inl c3)⟩)
    rw[beq_iff_eq]at c3;exact cM (λ_=>wpS_pure (.inr ⟨_,_,_,_,_,rfl,li.kp,m',by omega,by omega,by omega,by omega,by omega⟩)) (λ_=>wpS_pure ⟨_,_,_,_,_,rfl,li.kp,m',by omega,by omega,by omega,by omega,by omega⟩)
   |false=>
    rw[if_neg bF0];have m':=li.m.qI sb hxb (by omega) (Below.over (k:=xa) bela (λx hx y hy=>by cases mem_singleton.mp hx;cases mem_singleton.mp hy;exact hc));refine wpS_bind (cV hxb ?_);refine cM (λc3=>?_) (λc3=>?_)
    ·rw[beq_iff_eq]at c3
     exact wpS_pure (.inl ⟨_,_,rfl,li.kp,m'.CZ sa sb (ubf _ c3)⟩)
    rw[beq_iff_eq]at c3;exact cM (λ_=>wpS_pure (.inr ⟨_,_,_,_,_,rfl,li.kp,m',by omega,by omega,by omega,by omega,by omega⟩)) (λ_=>wpS_pure ⟨_,_,_,_,_,rfl,li.kp,m',by omega,by omega,by omega,by omega,by omega⟩)
  case ipost=>
   rintro c st2 (⟨r,c',rfl,kp,mr⟩|⟨na,nb,out,ac,bc,rfl,li⟩)
   ·exact wpS_pure ⟨r,_,rfl,kp,mr⟩
   dsimp only;refine wpS_bind (wpS_lift (wpAny_rule ⟨rfl,?_⟩));refine wpS_bind (wpS_mono (wpS_forRange (I:=λy c st'=>∃na nb out mg ac bc,c=(none,na,nb,out,mg,ac,bc)/\HI κ a b st out na nb (x+1+y) st')
    (Q:=λc st'=>(∃r c',c=(some r,c')/\Kept st st'/\jH κ a b r)\/∃na nb out mg ac bc,c=(none,na,nb,out,mg,ac,bc)/\HI κ a b st out na nb (x+1) st') ?gstep ?gfin ⟨_,_,_,_,_,_,rfl,li⟩) ?gpost)
   case gfin=>
    rintro c st' ⟨na,nb,out,mg,ac,bc,rfl,li⟩;have:=li.t;have:=li.la;have:=li.lb;omega
   case gpost=>
    rintro c st3 (⟨r,c',rfl,kp,mr⟩|⟨na,nb,out,mg,ac,bc,rfl,li⟩)
    ·exact wpS_pure ⟨r,_,rfl,kp,mr⟩
    dsimp only;exact wpS_bind (lC λst4 kp4=>wpS_pure ⟨_,_,_,_,rfl,li.kp.trans kp4,li.m,li.la,li.lb,li.ha,li.hb,li.t⟩)
   case gstep=>
    rintro y c st3 _ hy ⟨na,nb,out,mg,ac,bc,rfl,li⟩;dsimp only;have lla:=li.la;have llb:=li.lb;have lha:=li.ha;have lhb:=li.hb;have llt:=li.t;obtain⟨xb,hxb,mxb⟩:=gR (show nb - 1 < b.size by omega);have belb:=sb.last hxb (show nb=_ by omega);refine cM (λ_=>?_) (λ_=>?_)
    all_goals
     refine wpS_bind (lC λst4 kp4=>?_);have kp3:=li.kp.trans kp4;refine wpS_bind (cV hxb (wpS_bind (oO hL (kp3.kind.trans hk) (kb xb mxb) ka (by omega) (by rw[drop_zero];exact sa.take _) (by omega) λk1 hk1 bl1 un1=>?_)));dsimp only;rw[drop_zero]at bl1;rw[zero_add]at un1;have m2:=jI.E9 sa li.m hk1 (Below.under belb un1);refine cM (λc1=>cM (λc2=>?_) (λc2=>?_)) (λc1=>?_)
     ·rw[beq_iff_eq]at c2
      exact wpS_pure (.inl ⟨_,_,rfl,kp3,m2.pC sa sb (.inl (by omega))⟩)
     rw[beq_iff_eq]at c2
     rotate_left
     have e:k1=na:=by omega
     subst e;have m2:=li.m
     all_goals
      have m3:=jI.qI sb m2 hxb (by omega) bl1;refine wpS_bind (cV hxb ?_);refine cM (λc3=>?_) (λc3=>?_)
      ·rw[beq_iff_eq]at c3
       exact wpS_pure (.inl ⟨_,_,rfl,kp3,m3.CZ sa sb (ubf _ (by omega))⟩)
      rw[beq_iff_eq]at c3;obtain⟨xc,hxc,mxc⟩:=gR (show k1 - 1 < a.size by omega);have belc:=sa.last hxc (show k1=_ by omega);refine wpS_bind (cV hxc (wpS_bind (nV hL (kp3.kind.trans hk) (ka xc mxc) kb (by omega) (by rw[drop_zero];exact sb.take _) (by omega) λk2 hk2 ul bl=>?_)));dsimp only;rw[drop_zero]at ul;rw[zero_add]at bl;have m4:=jI.Gp sb m3 hk2 (Below.over belc bl);refine cM (λc4=>cM (λc6=>?_) (λc6=>cM (λc7=>?_) (λc7=>?_))) (λc4=>?_)
      ·rw[beq_iff_eq]at c6
       exact wpS_pure (.inl ⟨_,_,rfl,kp3,m4.CZ sa sb (ubf _ (by omega))⟩)
      ·rw[beq_iff_eq]at c7
       exact wpS_pure (.inl ⟨_,_,rfl,kp3,m4.pC sa sb (.inr (by omega))⟩)
      rw[beq_iff_eq]at c6 c7
      rotate_left
      have e:k2=nb - 1:=by omega
      subst e;have m4:=m3
      all_goals
       have m5:=jI.qH sa m4 hxc (by omega) ul;refine wpS_bind (cV hxc ?_);refine cM (λc5=>?_) (λc5=>?_)
       ·rw[beq_iff_eq]at c5
        exact wpS_pure (.inl ⟨_,_,rfl,kp3,m5.pC sa sb (.inl (by omega))⟩)
       ·rw[beq_iff_eq]at c5
        exact cM (λ_=>wpS_pure (.inr ⟨_,_,_,_,_,_,rfl,kp3,m5,by omega,by omega,by omega,by omega,by omega⟩)) (λ_=>wpS_pure ⟨_,_,_,_,_,_,rfl,kp3,m5,by omega,by omega,by omega,by omega,by omega⟩)
end
end TS
namespace TS
open PySem PyProof.Rows
variable {κ:KeyKind}
def vi:Nat->Nat->StateT SortSt Sem (Option Nat):=sortPriv% PySem.Builtin.countRun
def rh:Nat->Nat->Nat->StateT SortSt Sem Bool:=sortPriv% PySem.Builtin.binarySort
theorem tT{xs:Array Keyed}{P G R:List Keyed}(e:xs.toList=P++(G++R)){i j:Nat}(hi:i=P.length)(hj:j=i+G.length):(mirror xs i j ((j - i) / 2)).toList=P++(G.reverse++R):=by
 have hs:xs.size=P.length+(G.length+R.length):=by rw[<-length_toList,e,length_append,length_append]
 apply List.ext_getElem?;intro k;rw[getElem?_toList,getElem?_mirror_all (by omega),<-getElem?_toList,<-getElem?_toList,e];by_cases h:i<=k/\k < j
 ·rw[if_pos h,getElem?_append_right (by omega),getElem?_append_left (by omega),getElem?_append_right (by omega),getElem?_append_left (by rw[length_reverse];omega),List.getElem?_reverse (by omega)]
  congr 1
  omega
 ·rw[if_neg h]
  by_cases h1:k < i
  ·rw[getElem?_append_left (by omega),getElem?_append_left (by omega)]
  ·rw[getElem?_append_right (by omega),getElem?_append_right (by omega),getElem?_append_right (by omega),getElem?_append_right (by rw[length_reverse];omega),length_reverse]
theorem ux{xs:Array Keyed}{P T R:List Keyed}{x:Keyed}(e:xs.toList=P++(T++x::R)){src d:Nat}(hi:src=P.length+T.length)(hd:d=T.length):(bubble xs src d).toList=P++(x::T++R):=by
 have hs:xs.size=P.length+(T.length+(R.length+1)):=by rw[<-length_toList,e,length_append,length_append];rfl
 apply List.ext_getElem?;intro k;rw[getElem?_toList,getElem?_bubble (by omega) d (by omega),<-getElem?_toList,<-getElem?_toList,<-getElem?_toList,e];by_cases h:k=src - d
 ·rw[if_pos h,getElem?_append_right (by omega),getElem?_append_right (by omega),getElem?_append_right (by omega),show src - P.length - T.length=0 by omega,show k - P.length=0 by omega]
  rfl
 ·rw[if_neg h]
  by_cases h1:src - d < k/\k<=src
  ·rw[if_pos h1,getElem?_append_right (by omega),getElem?_append_left (by omega),getElem?_append_right (by omega),getElem?_append_left (by show _ < T.length+1;omega),show k - P.length=(k - 1 - P.length)+1 by omega,List.getElem?_cons_succ]
  ·rw[if_neg h1]
   by_cases h2:k < P.length
   ·rw[getElem?_append_left h2,getElem?_append_left h2]
   ·rw[getElem?_append_right (by omega),getElem?_append_right (by omega),getElem?_append_right (by omega),getElem?_append_right (by show T.length+1<=_;omega),show k - P.length - T.length=(k - P.length - (T.length+1))+1 by omega,List.getElem?_cons_succ]
    rfl
theorem j3:∀(m:List Keyed) (j off:Nat) (xs:Array Keyed) (P Y R:List Keyed),xs.toList=P++(Y++R)->m.length=Y.length->off+j=P.length->
  ((m.zipIdx j).foldl (λ(a:Array Keyed) (x:Keyed×Nat)=>a.setIfInBounds (off+x.2) x.1) xs).toList=P++(m++R)
 |[],j,off,xs,P,Y,R,e,l,_=>by
  rw[List.zipIdx_nil,List.foldl_nil,e,eq_nil_of_length_eq_zero l.symm]
 |x::m,j,off,xs,P,[],R,e,l,_=>by cases l
 |x::m,j,off,xs,P,y::Y,R,e,l,h=>by
  rw[List.zipIdx_cons,List.foldl_cons];have ih:=j3 m (j+1) off (xs.setIfInBounds (off+j) x) (P++[x]) Y R (by
   rw[Array.toList_setIfInBounds,e,h,List.set_append_right _ _ (le_refl _),Nat.sub_self,append_assoc];rfl) (Nat.succ.inj l) (by rw[length_append,<-h];rfl)
  rw[ih,append_assoc];rfl
structure uP(st st':SortSt):Prop where
 kind:kindOf st'=kindOf st
 pend:pendingOf st'=pendingOf st
 failed:failedOf st'=failedOf st
theorem uP.refl(st:SortSt):uP st st:=⟨rfl,rfl,rfl⟩
theorem uP.trans{a b c:SortSt}(h:uP a b)(h':uP b c):uP a c:=⟨h'.kind.trans h.kind,h'.pend.trans h.pend,h'.failed.trans h.failed⟩
section
variable {prog:Program}{w:World}{A:Around}{E:Value->Shared->Prop}{s:Shared}{kd:SortKind}
theorem kQ{st:SortSt}{P G R:List Keyed}(e:(arrOf st).toList=P++(G++R)){i j:Nat}(hi:i=P.length)(hj:j=i+G.length){Q:Unit->SortSt->Prop}(q:∀st',uP st st'->(arrOf st').toList=P++(G.reverse++R)->Q () st'):wpS (model prog w) A E s (reverseSlice' i j) Q st:=by
 rw[reverseSlice'_eq];exact wpS_modify (q _ ⟨rfl,rfl,rfl⟩ (tT e hi hj))
theorem AS{st:SortSt}{P T R:List Keyed}{x:Keyed}(e:(arrOf st).toList=P++(T++x::R)){src dst:Nat}(hi:src=P.length+T.length)(hd:dst=P.length){Q:Unit->SortSt->Prop}(q:∀st',uP st st'->(arrOf st').toList=P++(x::T++R)->Q () st'):wpS (model prog w) A E s (moveDown' src dst) Q st:=by
 rw[moveDown'_eq];exact wpS_modify (q _ ⟨rfl,rfl,rfl⟩ (ux e hi (by omega)))
theorem gW(hL:kJ prog w A E s κ kd){st:SortSt}{i j:Nat}{x y:Keyed}{Q:Option Bool->SortSt->Prop}(hk:kindOf st=kd)(hx:(arrOf st).toList[i]? =some x)(hy:(arrOf st).toList[j]? =some y)(kx:ip κ x)(ky:ip κ y)(q:Q (some (κ.blt (key κ x) (key κ y))) st):wpS (model prog w) A E s (ltAt' i j) Q st:=by
 rw[ltAt'_eq];refine wpS_bind (wpS_get ?_);rw[getElem?_toList]at hx hy;exact wpS_bind (cV hx (wpS_bind (cV hy (hL x y st Q hk kx ky q))))
theorem nz{P R:List Keyed}{x:Keyed}{i:Nat}(h:i=P.length):(P++x::R)[i]? =some x:=by
 rw[getElem?_append_right (by omega),h,Nat.sub_self];rfl
theorem kU{P C R:List Keyed}{x:Keyed}{i:Nat}(h:i=P.length+C.length):(P++((C++[x])++R))[i]? =some x:=by
 rw[append_assoc,<-append_assoc P];exact nz (by rw[length_append];exact h)
theorem nM{P C R:List Keyed}{x:Keyed}{i:Nat}(h:i=P.length+C.length):(P++(C++x::R))[i]? =some x:=by
 rw[<-append_assoc];exact nz (by rw[length_append];exact h)
theorem dB.snoc{l:List Keyed}{x:Keyed}(h:dB κ l)(b:Below κ l [x]):dB κ (l++[x]):=h.append (pairwise_singleton _ _) b
theorem kD{l:List Keyed}(h:1<=l.length):∃c x,l=c++[x]:=⟨l.dropLast,l.getLast (by intro e;rw[e]at h;cases h),(List.dropLast_concat_getLast _).symm⟩
theorem dB.zy{c:List Keyed}{x y:Keyed}(h:dB κ (c++[x]))(b:κ.kle (key κ x) (key κ y)):Below κ (c++[x]) [y]:=λu hu v hv=>by
 cases mem_singleton.mp hv;rcases mem_append.mp hu with hu|hu
 ·exact KeyOrd.kle_trans (h.mid u hu x (mem_singleton_self _)) b
 ·cases mem_singleton.mp hu
  exact b
structure wu(κ:KeyKind)(st0:SortSt)(P S:List Keyed)(n:Nat)(M O R:List Keyed)(st:SortSt):Prop where
 e:(arrOf st).toList=P++(M++R)
 s:S=O++R
 m:M.length=n
 o:O.length=n
 sm:dB κ M
 tm:cQ κ M O
 cg:uP st0 st
structure Bv(κ:KeyKind)(st0:SortSt)(P S:List Keyed)(n neq:Nat)(C G O R:List Keyed)(st:SortSt):Prop where
 e:(arrOf st).toList=P++((C++G)++R)
 s:S=O++R
 o:O.length=n
 m:C.length+G.length=n
 g:G.length=neq+1
 sc:dB κ C.reverse
 un:Under κ G C
 gg:Below κ G G
 t:cQ κ (C.reverse++G) O
 cg:uP st0 st
theorem qR{P C G R:List Keyed}:P++((C++G)++R)=(P++C)++(G++R):=by rw[append_assoc,append_assoc]
theorem oA{G:List Keyed}(h:Below κ G G):dB κ G:=List.pairwise_iff_forall_sublist.mpr λ{a b} hs=>h a (hs.subset mem_cons_self) b (hs.subset (mem_cons_of_mem _ (mem_singleton_self _)))
theorem Under.rev{G C:List Keyed}(h:Under κ G C):Under κ G C.reverse:=λx hx y hy=>h x hx y (mem_reverse.mp hy)
theorem Bv.up{st0:SortSt}{P S C G O R:List Keyed}{n neq:Nat}{st st':SortSt}(d:Bv κ st0 P S n neq C G O R st)(cg:uP st st')(e:(arrOf st').toList=P++((G++C.reverse)++R)):wu κ st0 P S n (G++C.reverse) O R st':=
 ⟨e,d.s,by have:=d.m;rw[length_append,length_reverse];omega,d.o,(oA d.gg).append d.sc d.un.rev.below,(cQ.swap d.un.rev).trans d.t,d.cg.trans cg⟩
theorem Bv.less{st0:SortSt}{P S C G O R:List Keyed}{n neq:Nat}{st st':SortSt}{y:Keyed}(d:Bv κ st0 P S n neq C G O (y::R) st)(u:Under κ [y] G)(g1:1<=G.length)(cg:uP st st')(e:(arrOf st').toList=(P++C)++(G.reverse++y::R)):Bv κ st0 P S (n+1) 0 (C++G.reverse) [y] (O++[y]) R st':=by
 have m:=d.m;have r:(C++G.reverse).reverse=G++C.reverse:=by rw[reverse_append,reverse_reverse]
 refine⟨by rw[e,append_assoc,append_assoc,append_assoc];rfl,by rw[d.s,append_assoc];rfl,by rw[length_append,d.o];rfl,by rw[length_append,length_reverse];show _+1=_;omega,rfl,?_,?_,?_,?_,d.cg.trans cg⟩
 ·rw[r]
  exact(oA d.gg).append d.sc d.un.rev.below
 ·intro x hx z hz
  rcases mem_append.mp hz with hz|hz
  ·obtain⟨g,hg⟩:=List.exists_mem_of_length_pos g1
   exact KeyOrd.klt_of_klt_of_kle (u x hx g hg) (d.un.below g hg z hz)
  ·exact u x hx z (mem_reverse.mp hz)
 ·intro x hx z hz
  cases mem_singleton.mp hx;cases mem_singleton.mp hz;exact KeyOrd.kle_refl _
 ·rw[r]
  exact((cQ.swap d.un.rev).trans d.t).append (cQ.refl _)
theorem Bv.same{st0:SortSt}{P S C G O R:List Keyed}{n neq:Nat}{st:SortSt}{y z:Keyed}(d:Bv κ st0 P S n neq C G O (y::R) st)(hz:z∈G)(h1:κ.kle (key κ z) (key κ y))(h2:κ.kle (key κ y) (key κ z)):Bv κ st0 P S (n+1) (neq+1) C (G++[y]) (O++[y]) R st:=by
 have m:=d.m;have g:=d.g;refine⟨by rw[d.e,<-append_assoc C,append_assoc _ [y]];rfl,by rw[d.s,append_assoc];rfl,by rw[length_append,d.o];rfl,by rw[length_append];show _+(_+1)=_;omega,by rw[length_append,g];rfl,d.sc,?_,?_,?_,d.cg⟩
 ·intro u hu v hv
  rcases mem_append.mp hu with hu|hu
  ·exact d.un u hu v hv
  ·cases mem_singleton.mp hu
   exact KeyOrd.klt_of_kle_of_klt h2 (d.un z hz v hv)
 ·intro u hu v hv
  have a1:κ.kle (key κ u) (key κ z):=by
   rcases mem_append.mp hu with hu|hu
   ·exact d.gg u hu z hz
   ·cases mem_singleton.mp hu
    exact h2
  refine KeyOrd.kle_trans a1 ?_;rcases mem_append.mp hv with hv|hv
  ·exact d.gg z hz v hv
  ·cases mem_singleton.mp hv
   exact h1
 ·rw[<-append_assoc]
  exact d.t.append (cQ.refl _)
theorem nZ(hL:kJ prog w A E s κ kd){lo nrem:Nat}{st:SortSt}{Q:Option Nat->SortSt->Prop}{P S:List Keyed}(hk:kindOf st=kd)(ks:∀x∈S,ip κ x)(he0:(arrOf st).toList=P++S)(hlo:lo=P.length)(hn:S.length=nrem)(h1:1<=nrem)
  (q:∀n st' M O R,1<=n->n<=nrem->wu κ st P S n M O R st'->Q (some n) st'):wpS (model prog w) A E s (vi lo nrem) Q st:=by
 have a0:∃M O R,wu κ st P S 1 M O R st:=by
  cases S with
  |nil=>rw[<-hn]at h1;cases h1
  |cons x R=>exact⟨[x],[x],R,he0,rfl,rfl,rfl,pairwise_singleton _ _,cQ.refl _,uP.refl _⟩
 refine wpS_bind (wpS_mono (wpS_forRange (I:=λx c st'=>c=(none,x)/\∃M O R,wu κ st P S x M O R st')
  (Q:=λc st'=>∃n,c=(none,n)/\(1<=n/\n<=nrem)/\∃M O R,wu κ st P S n M O R st'/\(R=[]\/∃c z y R',M=c++[z]/\R=y::R'/\κ.klt (key κ y) (key κ z))) ?step ?fin ⟨rfl,a0⟩) ?post)
 case step=>
  rintro x c st' hx0 hx ⟨rfl,M,O,R,he,hS,hM,hO,sM,tM,cg⟩;dsimp only;cases R with
  |nil=>rw[hS,append_nil,hO]at hn;omega
  |cons y R=>
  obtain⟨c,z,rfl⟩:=kD (show 1<=M.length by omega);have kM:ip κ z:=ks z (by rw[hS];exact mem_append_left _ (tM.mem.mp (mem_append_right _ (mem_singleton_self _))));have ky:ip κ y:=ks y (by rw[hS];exact mem_append_right _ mem_cons_self);rw[length_append]at hM;have hM':c.length+1=x:=hM;refine wpS_bind (gW hL (cg.kind.trans hk) (by rw[he];exact nM (by rw[length_append];show _=_+(c.length+1);omega)) (by rw[he];exact kU (by omega)) ky kM ?_);dsimp only;cases hb:κ.blt (key κ y) (key κ z) with
  |true=>exact wpS_pure ⟨x,rfl,⟨by omega,by omega⟩,c++[z],O,y::R,⟨he,hS,by rw[length_append];exact hM,hO,sM,tM,cg⟩,.inr ⟨c,z,y,R,rfl,rfl,hb⟩⟩
  |false=>exact wpS_pure ⟨rfl,(c++[z])++[y],O++[y],R,by rw[he,append_assoc _ [y]];rfl,by rw[hS,append_assoc];rfl,by rw[length_append,length_append];show c.length+1+1=_;omega,by rw[length_append];show O.length+1=_;omega,sM.snoc (sM.zy hb),tM.append (cQ.refl _),cg⟩
 case fin=>
  rintro c st' ⟨rfl,M,O,R,h⟩;have hR:R=[]:=by
   have h3:=h.s;rw[h3,length_append,h.o]at hn;exact eq_nil_of_length_eq_zero (by omega)
  exact⟨_,rfl,⟨by omega,by omega⟩,M,O,R,h,.inl hR⟩
 case post=>
  rintro c st1 ⟨n,rfl,nn,M,O,R,h,hR⟩;dsimp only;refine cM (λc1=>wpS_pure (q n st1 M O R nn.1 nn.2 h)) (λc1=>?_);rw[beq_iff_eq]at c1;rcases hR with rfl|⟨c,z,y,R,rfl,rfl,lt⟩
  ·exfalso
   rw[h.s,append_nil,h.o]at hn;exact c1 hn
  have nn1:=nn.1;have nn2:=nn.2;have hm:=h.m;rw[length_append]at hm;have hm':c.length+1=n:=hm;have hz:z∈c++[z]:=mem_append_right _ (mem_singleton_self _);have kof:∀u∈c++[z],ip κ u:=λu hu=>ks u (by rw[h.s];exact mem_append_left _ (h.tm.mem.mp hu));have start:∀{C:List Keyed}{st2:SortSt},uP st st2->(arrOf st2).toList=P++(C++y::R)->C.reverse=c++[z]->(∀u∈c++[z],κ.kle (key κ z) (key κ u))->Bv κ st P S (n+1) 0 C [y] (O++[y]) R st2:=λ{C st2} cg e r al=>by
   have cl:C.length=n:=by rw[<-length_reverse,r,length_append];exact hm'
   refine⟨by rw[e,append_assoc];rfl,by rw[h.s,append_assoc];rfl,by rw[length_append,h.o];rfl,by rw[cl];rfl,rfl,by rw[r];exact h.sm,λa ha b hb=>?_,λa ha b hb=>?_,by rw[r];exact h.tm.append (cQ.refl _),cg⟩
   ·cases mem_singleton.mp ha
    exact KeyOrd.klt_of_klt_of_kle lt (al b (by rw[<-r];exact mem_reverse.mpr hb))
   ·cases mem_singleton.mp ha
    cases mem_singleton.mp hb;exact KeyOrd.kle_refl _
  refine cM (λc2=>?_) (λc2=>?_);obtain⟨f,c',rfl⟩:∃f c',c=f::c':=by
   cases c with
   |nil=>have:0+1=n:=hm';omega
   |cons f c'=>exact⟨f,c',rfl⟩
  refine wpS_bind (gW hL (h.cg.kind.trans hk) (x:=f) (y:=z) (by rw[h.e];exact nz hlo) (by rw[h.e];exact kU (by omega)) (kof f mem_cons_self) (kof z hz) ?_);dsimp only;refine cM (λhb=>wpS_pure (q n st1 _ _ _ nn1 nn2 h)) (λhb=>?_);refine wpS_bind (kQ h.e hlo (by rw[length_append];show _=_+(_+1);omega) λst2 cg2 e2=>?_);have d0:=start (h.cg.trans cg2) e2 (reverse_reverse _) λu hu=>KeyOrd.kle_trans (show κ.kle (key κ z) (key κ f) from eq_false_iff.mpr hb) (dB.head (x:=f) (l:=c'++[z]) h.sm f (mem_singleton_self _) u hu)
  rotate_left
  have c0:c=[]:=eq_nil_of_length_eq_zero (by omega);subst c0;have d0:=start (C:=[z]) h.cg h.e rfl λu hu=>by
   cases mem_singleton.mp hu;exact KeyOrd.kle_refl _
  all_goals
   refine wpS_bind (wpS_lift (wpAny_rule ⟨rfl,?_⟩));refine wpS_bind (wpS_mono (wpS_forRange (I:=λx c st'=>∃neq,c=(none,x,neq)/\∃C G O R,Bv κ st P S x neq C G O R st')
    (Q:=λc st'=>∃m neq,c=(none,m,neq)/\(1<=m/\m<=nrem)/\∃C G O R,Bv κ st P S m neq C G O R st') ?_ ?_ ⟨0,rfl,_,_,_,_,d0⟩) ?_)
   ·rintro x c st' hx0 hx ⟨neq,rfl,C,G,O,R,d⟩
    dsimp only;cases R with
    |nil=>rw[d.s,append_nil,d.o]at hn;omega
    |cons y R=>
    have dg:=d.g;have dm:=d.m;obtain⟨g,z,rfl⟩:=kD (show 1<=G.length by omega);have hz:z∈g++[z]:=mem_append_right _ (mem_singleton_self _);have kz:ip κ z:=ks z (by rw[d.s];exact mem_append_left _ (d.t.mem.mp (mem_append_right _ hz)));have ky:ip κ y:=ks y (by rw[d.s];exact mem_append_right _ mem_cons_self);rw[length_append]at dg dm;have dg':g.length+1=neq+1:=dg;have dm':C.length+(g.length+1)=x:=dm;have py:(arrOf st').toList[lo+x]? =some y:=by rw[d.e];exact nM (by rw[length_append,length_append];show _=_+(C.length+(g.length+1));omega)
    have pz:(arrOf st').toList[lo+x - 1]? =some z:=by rw[d.e,<-append_assoc C];exact kU (by rw[length_append];omega)
    refine wpS_bind (gW hL (d.cg.kind.trans hk) py pz ky kz ?_);dsimp only;cases hb:κ.blt (key κ y) (key κ z) with
    |true=>
     have u:Under κ [y] (g++[z]):=λa ha b hb'=>by
      cases mem_singleton.mp ha;exact KeyOrd.klt_of_klt_of_kle (show κ.klt _ _ from hb) (d.gg z hz b hb')
     rw[if_pos rfl];refine cM (λc2=>?_) (λc2=>?_)
     ·refine wpS_bind (kQ (P:=P++C) (G:=g++[z]) (R:=y::R) (d.e.trans qR) (by rw[length_append];omega) (by rw[length_append];show _=_+(g.length+1);omega) λst3 cg3 e3=>?_)
      exact wpS_pure ⟨0,rfl,_,_,_,_,d.less u (by rw[length_append];show 1<=_+1;omega) cg3 e3⟩
     ·have g0:g=[]:=eq_nil_of_length_eq_zero (by omega)
      subst g0;exact wpS_pure ⟨0,rfl,_,_,_,_,d.less u (le_refl 1) (uP.refl _) (d.e.trans qR)⟩
    |false=>
     rw[if_neg bF0];refine wpS_bind (gW hL (d.cg.kind.trans hk) pz py kz ky ?_);dsimp only;cases hb2:κ.blt (key κ z) (key κ y) with
     |true=>exact wpS_pure ⟨x,neq,rfl,⟨by omega,by omega⟩,C,g++[z],O,y::R,d⟩
     |false=>exact wpS_pure ⟨neq+1,rfl,_,_,_,_,d.same hz hb hb2⟩
   ·rintro c st' ⟨neq,rfl,C,G,O,R,d⟩
    have:=d.s;have:=d.o;exact⟨_,neq,rfl,⟨by omega,by rw[d.s,length_append,d.o]at hn;omega⟩,C,G,O,R,d⟩
   ·rintro c st3 ⟨m,neq,rfl,mm,C,G,O,R,d⟩
    dsimp only;have dg:=d.g;have dm:=d.m;have hm1:=mm.1;have hm2:=mm.2;refine cM (λc2=>?_) (λc2=>?_);refine wpS_bind (kQ (P:=P++C) (G:=G) (R:=R) (d.e.trans qR) (by rw[length_append];omega) (by omega) λst4 cg4 e4=>?_);refine wpS_bind (kQ (P:=P) (G:=C++G.reverse) (R:=R) (e4.trans qR.symm) hlo (by rw[length_append,length_reverse];omega) λst5 cg5 e5=>?_);have up:=d.up (cg4.trans cg5) (by rw[e5,reverse_append,reverse_reverse])
    rotate_left
    refine wpS_bind (kQ (P:=P) (G:=C++G) (R:=R) d.e hlo (by rw[length_append];omega) λst5 cg5 e5=>?_);have G1:G.reverse=G:=by
     obtain⟨g,z,rfl⟩:=kD (show 1<=G.length by omega);rw[length_append]at dg;rw[eq_nil_of_length_eq_zero (show g.length=0 by have:g.length+1=neq+1:=dg;omega)];rfl
    have up:=d.up cg5 (by rw[e5,reverse_append,G1])
    all_goals
     refine wpS_bind (wpS_mono (wpS_forRange (I:=λx c st'=>c=(none,x)/\∃M O R,wu κ st P S x M O R st')
      (Q:=λc st'=>∃n,c=(none,n)/\(1<=n/\n<=nrem)/\∃M O R,wu κ st P S n M O R st'/\(R=[]\/∃c z y R',M=c++[z]/\R=y::R'/\κ.klt (key κ y) (key κ z))) ?_ ?_ ⟨rfl,_,_,_,up⟩) ?_)
     ·rintro x c st' hx0 hx ⟨rfl,M,O,R,he,hS,hM,hO,sM,tM,cg⟩
      dsimp only;cases R with
      |nil=>rw[hS,append_nil,hO]at hn;omega
      |cons y R=>
      obtain⟨c,z,rfl⟩:=kD (show 1<=M.length by omega);have kM:ip κ z:=ks z (by rw[hS];exact mem_append_left _ (tM.mem.mp (mem_append_right _ (mem_singleton_self _))));have ky:ip κ y:=ks y (by rw[hS];exact mem_append_right _ mem_cons_self);rw[length_append]at hM;have hM':c.length+1=x:=hM;refine wpS_bind (gW hL (cg.kind.trans hk) (by rw[he];exact nM (by rw[length_append];show _=_+(c.length+1);omega)) (by rw[he];exact kU (by omega)) ky kM ?_);dsimp only;cases hb:κ.blt (key κ y) (key κ z) with
      |true=>exact wpS_pure ⟨x,rfl,⟨by omega,by omega⟩,c++[z],O,y::R,⟨he,hS,by rw[length_append];exact hM,hO,sM,tM,cg⟩,.inr ⟨c,z,y,R,rfl,rfl,hb⟩⟩
      |false=>exact wpS_pure ⟨rfl,(c++[z])++[y],O++[y],R,by rw[he,append_assoc _ [y]];rfl,by rw[hS,append_assoc];rfl,by rw[length_append,length_append];show c.length+1+1=_;omega,by rw[length_append];show O.length+1=_;omega,sM.snoc (sM.zy hb),tM.append (cQ.refl _),cg⟩
     ·rintro c st' ⟨rfl,M,O,R,h⟩
      have hR:R=[]:=by
       have h3:=h.s;rw[h3,length_append,h.o]at hn;exact eq_nil_of_length_eq_zero (by omega)
      exact⟨_,rfl,⟨by omega,by omega⟩,M,O,R,h,.inl hR⟩
     ·rintro c st' ⟨n,rfl,nn,M,O,R,h,_⟩
      exact wpS_pure (q n st' M O R nn.1 nn.2 h)
end
end TS
namespace TS
open PySem PyProof.Rows
variable {κ:KeyKind}
def qe:Nat->StateT SortSt Sem Bool:=sortPriv% PySem.Builtin.mergeAt
section
variable {prog:Program}{w:World}{A:Around}{E:Value->Shared->Prop}{s:Shared}{kd:SortKind}
theorem dB.get{l:List Keyed}(h:dB κ l){i j:Nat}{x y:Keyed}(ij:i<=j)(hx:l[i]? =some x)(hy:l[j]? =some y):κ.kle (key κ x) (key κ y):=by
 have:=dB.at (κ:=κ) (l:=l) (b:=0) (n:=l.length) (i:=i) (j:=j) (x:=x) (y:=y) (by rw[drop_zero,take_length];exact h) ij (gI0.mp hy).1 (by rw[zero_add];exact hx) (by rw[zero_add];exact hy);exact this
theorem wu.ins{st0:SortSt}{P S M O R:List Keyed}{k l:Nat}{st st':SortSt}{y:Keyed}(h:wu κ st0 P S k M O (y::R) st)(b:Below κ (M.take l) [y])(u:Under κ [y] (M.drop l))(cg:uP st st')(e:(arrOf st').toList=(P++M.take l)++(y::M.drop l++R)):wu κ st0 P S (k+1) (M.take l++(y::M.drop l)) (O++[y]) R st':=by
 have ml:=h.m;have sp:M.take l++M.drop l=M:=take_append_drop l M;have sm:=h.sm;rw[<-sp]at sm;refine⟨by rw[e,<-qR],by rw[h.s,append_assoc];rfl,?_,by rw[length_append,h.o];rfl,?_,?_,h.cg.trans cg⟩
 ·have:=congrArg List.length sp
  rw[length_append]at this ⊢;show _+(_+1)=_;omega
 ·refine sm.left.append (pairwise_cons.mpr ⟨λz hz=>KeyOrd.kle_of_klt (u y (mem_singleton_self _) z hz),sm.right⟩) λa ha c hc=>?_
  rcases mem_cons.mp hc with rfl|hc
  ·exact b a ha c (mem_singleton_self _)
  ·exact sm.mid a ha c hc
 ·have t:cQ κ (M.take l++(y::M.drop l)) (M++[y]):=by
   have:cQ κ (M.take l++([y]++M.drop l)) (M.take l++(M.drop l++[y])):=(cQ.refl _).append (cQ.swap u);rw[<-append_assoc (M.take l) (M.drop l),sp]at this;exact this
  exact t.trans (h.tm.append (cQ.refl _))
theorem lE(hL:kJ prog w A E s κ kd){lo n ok:Nat}{st0 st:SortSt}{Q:Bool->SortSt->Prop}{P S M O R:List Keyed}(hk:kindOf st0=kd)(ks:∀x∈S,ip κ x)(hlo:lo=P.length)(hn:n<=S.length)(h1:1<=ok)(hok:ok<=n)(h:wu κ st0 P S ok M O R st)
  (q:∀st' M O R,wu κ st0 P S n M O R st'->Q true st'):wpS (model prog w) A E s (rh lo n ok) Q st:=by
 refine wpS_bind (wpS_mono (wpS_forRange (I:=λk c st'=>c=(none,())/\∃M O R,wu κ st0 P S k M O R st')
  (Q:=λc st'=>c=(none,())/\∃M O R,wu κ st0 P S n M O R st') ?step ?fin ⟨rfl,M,O,R,by rw[show max ok 1=ok by omega];exact h⟩) ?post)
 case post=>
  rintro c st' ⟨rfl,M,O,R,h⟩;exact wpS_pure (q st' M O R h)
 case fin=>
  rintro c st' ⟨rfl,M,O,R,h⟩;rw[show max (max ok 1) n=n by omega]at h;exact⟨rfl,M,O,R,h⟩
 case step=>
  rintro k c st1 hk0 hkn ⟨rfl,M,O,R,h⟩;cases R with
  |nil=>have e:=h.s;rw[append_nil]at e;rw[e,h.o]at hn;omega
  |cons y R=>
  have hM:=h.m;have ky:ip κ y:=ks y (by rw[h.s];exact mem_append_right _ mem_cons_self);refine wpS_bind (wpS_mono (wpS_forRange (I:=λx c st'=>st'=st1/\∃l r,c=(none,l,r)/\l<=r/\r<=k/\r - l<=k - x/\(∀i u,i < l->M[i]? =some u->κ.kle (key κ u) (key κ y))/\(∀i u,r<=i->M[i]? =some u->κ.klt (key κ y) (key κ u)))
   (Q:=λc st'=>st'=st1/\∃l,c=(none,l,l)/\l<=k/\(∀i u,i < l->M[i]? =some u->κ.kle (key κ u) (key κ y))/\(∀i u,l<=i->M[i]? =some u->κ.klt (key κ y) (key κ u))) ?istep ?ifin ⟨rfl,0,k,rfl,by omega,by omega,by omega,λi u hi=>by omega,λi u hi hu=>by have:=(gI0.mp hu).1;omega⟩) ?ipost)
  case ifin=>
   rintro c st' ⟨rfl,l,r,rfl,lr,rk,rl,g1,g2⟩;have e:l=r:=by omega
   subst e;exact⟨rfl,l,rfl,rk,g1,g2⟩
  case istep=>
   rintro x c st' _ hx ⟨rfl,l,r,rfl,lr,rk,rl,g1,g2⟩;dsimp only;refine cM (λc1=>?_) (λc1=>?_)
   ·have e:l=r:=by omega
    subst e;exact wpS_pure ⟨rfl,l,rfl,rk,g1,g2⟩
   obtain⟨z,hz⟩:∃z,M[(l+r) / 2]? =some z:=⟨_,getElem?_eq_getElem (by omega)⟩;have kz:ip κ z:=ks z (by rw[h.s];exact mem_append_left _ (h.tm.mem.mp (mem_of_getElem? hz)));refine wpS_bind (gW hL (h.cg.kind.trans hk) (x:=y) (y:=z) (by rw[h.e];exact nM (by omega)) (by rw[h.e,getElem?_append_right (by omega),getElem?_append_left (by omega),<-hz];congr 1;omega) ky kz ?_);dsimp only;cases hb:κ.blt (key κ y) (key κ z) with
   |true=>exact wpS_pure ⟨rfl,l,(l+r) / 2,rfl,by omega,by omega,by omega,g1,λi u hi hu=>KeyOrd.klt_of_klt_of_kle (show κ.klt _ _ from hb) (h.sm.get hi hz hu)⟩
   |false=>exact wpS_pure ⟨rfl,(l+r) / 2+1,r,rfl,by omega,by omega,by omega,λi u hi hu=>KeyOrd.kle_trans (h.sm.get (by omega) hu hz) (show κ.kle _ _ from hb),g2⟩
  case ipost=>
   rintro c st' ⟨rfl,l,rfl,lk,g1,g2⟩;dsimp only;have e1:(arrOf st').toList=(P++M.take l)++(M.drop l++y::R):=by rw[h.e,<-qR,take_append_drop]
   have tl:(M.take l).length=l:=by rw[length_take];omega
   have dl:(M.drop l).length=k - l:=by rw[length_drop];omega
   refine wpS_bind (AS e1 (by rw[length_append];omega) (by rw[length_append];omega) λst2 cg2 e2=>wpS_pure ⟨rfl,_,_,_,h.ins (l:=l) (λa ha b hb=>?_) (λb hb a ha=>?_) cg2 e2⟩)
   ·cases mem_singleton.mp hb
    obtain⟨i,hi⟩:=getElem?_of_mem ha;have il:=(gI0.mp hi).1;rw[getElem?_take_of_lt (by omega)]at hi;exact g1 i a (by omega) hi
   ·cases mem_singleton.mp hb
    obtain⟨i,hi⟩:=getElem?_of_mem ha;rw[getElem?_drop]at hi;exact g2 (l+i) a (by omega) hi
theorem yo{L P X Y:List Keyed}(e:L=P++(X++Y)){i m:Nat}(hi:i=P.length)(hm:m<=X.length):(L.drop i).take m=X.take m:=by
 rw[e,hi,List.drop_left,List.take_append_of_le_length hm]
theorem E3{L P X Y:List Keyed}(e:L=P++(X++Y)){i k n:Nat}(hi:i=P.length)(hn:n=X.length)(hk:k<=n):(L.drop (i+k)).take (n - k)=X.drop k:=by
 have:L=(P++X.take k)++(X.drop k++Y):=by rw[e,<-qR,take_append_drop]
 rw[yo this (by rw[length_append,length_take];omega) (by rw[length_drop];omega)];exact take_of_length_le (by rw[length_drop];omega)
theorem qu{A1 A2 B1 B2 M:List Keyed}(sa:dB κ (A1++A2))(sb:dB κ (B1++B2))(b1:Below κ A1 (B1++B2))(b2:Below κ (A1++A2) B2)(sm:dB κ M)(tm:cQ κ M (A2++B1)):dB κ (A1++(M++B2))/\cQ κ (A1++(M++B2)) ((A1++A2)++(B1++B2)):=by
 have mm:∀x∈M,x∈A2\/x∈B1:=λx hx=>mem_append.mp (tm.mem.mp hx);refine⟨sa.left.append (sm.append sb.right λx hx y hy=>?_) λx hx y hy=>?_,?_⟩
 ·exact(mm x hx).elim (λh=>b2 x (mem_append_right _ h) y hy) (λh=>sb.mid x h y hy)
 ·rcases mem_append.mp hy with hy|hy
  ·exact(mm y hy).elim (λh=>sa.mid x hx y h) (λh=>b1 x hx y (mem_append_left _ h))
  ·exact b2 x (mem_append_left _ hx) y hy
 ·have:cQ κ (A1++(M++B2)) (A1++((A2++B1)++B2)):=(cQ.refl _).append (tm.append (cQ.refl _))
  rw[append_assoc A1 A2,<-append_assoc A2 B1 B2];exact this
theorem Dm{l:List Keyed}(h:1<=l.length):∃x r,l=x::r:=by
 cases l with
 |nil=>cases h
 |cons x r=>exact⟨x,r,rfl⟩
structure Mg(κ:KeyKind)(st st':SortSt)(P X Y R:List Keyed)(pend:Array (Nat×Nat×Nat)):Prop where
 kind:kindOf st'=kindOf st
 failed:failedOf st'=failedOf st
 pend:pendingOf st'=pend
 ex:∃M,(arrOf st').toList=P++(M++R)/\dB κ M/\cQ κ M (X++Y)
theorem DE{σ:Type}{M:Model}{A:Around}{E:Value->Shared->Prop}{s:Shared}{st' st:σ}{Q:PUnit->σ->Prop}(h:Q ⟨⟩ st'):wpS M A E s (set st':StateT σ Sem PUnit) Q st:=by
 unfold wpS;rw[StateT.run_set];exact wpAny_pure ⟨rfl,h⟩
theorem pT(hL:kJ prog w A E s κ kd){st:SortSt}{Q:Bool->SortSt->Prop}{P X Y R:List Keyed}{i sa na pa sb nb pb:Nat}(hk:kindOf st=kd)(hf:failedOf st=none)(ks:∀x∈(arrOf st).toList,ip κ x)(p1:(pendingOf st)[i]? =some (sa,na,pa))(p2:(pendingOf st)[i+1]? =some (sb,nb,pb))
  (e:(arrOf st).toList=P++(X++(Y++R)))(ha:sa=P.length)(hx:na=X.length)(hb:sb=sa+na)(hy:nb=Y.length)(x1:1<=na)(y1:1<=nb)(sx:dB κ X)(sy:dB κ Y)
  (q:∀st',Mg κ st st' P X Y R (((pendingOf st).setIfInBounds i (sa,na+nb,pa)).eraseIdxIfInBounds (i+1))->Q true st'):wpS (model prog w) A E s (qe i) Q st:=by
 refine wpS_bind (wpS_get ?_);rw[p1,p2];dsimp only;refine wpS_bind (DE ?_);have sz:(arrOf st).size=P.length+(X.length+(Y.length+R.length)):=by rw[<-length_toList,e,length_append,length_append,length_append]
 have e':(arrOf st).toList=(P++X)++(Y++R):=by rw[e,append_assoc]
 obtain⟨y0,Y',hY⟩:=Dm (show 1<=Y.length by omega);obtain⟨c,z,hX⟩:=kD (show 1<=X.length by omega);have cl:c.length+1=na:=by rw[hx,hX,length_append];rfl
 have ey:(arrOf st)[sb]? =some y0:=by
  rw[<-getElem?_toList,e',hY];exact nz (by rw[length_append];omega)
 have ez:∀k,k<=na->0 < na - k->(arrOf st)[sa+k+(na - k) - 1]? =some z:=λk h1 h2=>by
  rw[<-getElem?_toList,e,hX];exact kU (by omega)
 have kX:∀u∈X,ip κ u:=λu hu=>ks u (by rw[e];exact mem_append_right _ (mem_append_left _ hu));have kY:∀u∈Y,ip κ u:=λu hu=>ks u (by rw[e];exact mem_append_right _ (mem_append_right _ (mem_append_left _ hu)));have by0:Below κ [y0] Y:=by rw[hY]at sy ⊢;exact sy.head
 have lastz:Below κ X [z]:=by rw[hX]at sx ⊢;exact sx.zy (KeyOrd.kle_refl _)
 refine wpS_bind (cV ey (wpS_bind (oO hL hk (kY y0 (by rw[hY];exact mem_cons_self)) ks (show sa+na<=(arrOf st).size by omega) (by rw[yo e ha (by omega)];exact sx.take _) (by omega) λk hk1 bl un=>?_)));rw[yo e ha (by omega)]at bl;rw[E3 e ha hx hk1]at un;dsimp only;refine cM (λc1=>?_) (λc1=>?_)
 ·rw[beq_iff_eq]at c1
  rw[take_of_length_le (by omega)]at bl;exact wpS_pure (q _ ⟨rfl,rfl,rfl,X++Y,by rw[append_assoc];exact e,sx.append sy (Below.over bl by0),cQ.refl _⟩)
 rw[beq_iff_eq]at c1;refine wpS_bind (cV (ez k hk1 (by omega)) (wpS_bind (nV hL hk (kX z (by rw[hX];exact mem_append_right _ (mem_singleton_self _))) ks (show sb+nb<=(arrOf st).size by omega) (by rw[yo e' (by rw[length_append];omega) (by omega)];exact sy.take _) (by omega) λm hm ul bl2=>?_)));rw[yo e' (by rw[length_append];omega) (by omega)]at ul;rw[E3 e' (by rw[length_append];omega) hy hm]at bl2;dsimp only;refine cM (λc2=>?_) (λc2=>?_)
 ·rw[beq_iff_eq]at c2
  rw[c2,drop_zero]at bl2;exact wpS_pure (q _ ⟨rfl,rfl,rfl,X++Y,by rw[append_assoc];exact e,sx.append sy (Below.over lastz bl2),cQ.refl _⟩)
 rw[beq_iff_eq]at c2;have hax:((arrOf st).extract (sa+k) sb).toList=X.drop k:=by
  rw[toList_extract];have:=E3 e ha hx hk1;rw[show na - k=sb - (sa+k) by omega]at this;exact this
 have hay:((arrOf st).extract sb (sb+m)).toList=Y.take m:=by
  rw[oo];exact yo e' (by rw[length_append];omega) (by omega)
 have lax:((arrOf st).extract (sa+k) sb).size=na - k:=by rw[<-length_toList,hax,length_drop];omega
 have lay:((arrOf st).extract sb (sb+m)).size=m:=by rw[<-length_toList,hay,length_take];omega
 generalize (arrOf st).extract (sa+k) sb=ax at hax lax;generalize (arrOf st).extract sb (sb+m)=ay at hay lay;have ka:∀u∈ax.toList,ip κ u:=λu hu=>kX u (List.mem_of_mem_drop (by rw[<-hax];exact hu));have kb:∀u∈ay.toList,ip κ u:=λu hu=>kY u (List.mem_of_mem_take (by rw[<-hay];exact hu));have sax:dB κ ax.toList:=by rw[hax];exact sx.drop k
 have say:dB κ ay.toList:=by rw[hay];exact sy.take m
 have u1:Under κ (ay.toList.take 1) ax.toList:=by
  rw[hay,hax,List.take_take,hY,Nat.min_eq_left (by omega)];exact un
 have u2:Under κ ay.toList (ax.toList.drop (ax.size - 1)):=by
  rw[hay,hax,lax,List.drop_drop,hX,List.drop_left' (by omega)];exact ul
 refine cM (λ_=>?_) (λ_=>?_)
 ·refine wpS_bind (um hL hk ka kb sax say (by omega) (by omega) u1 u2 ?_)
  intro r st4 kp mr;have rl:r.toList.length=(X.drop k++Y.take m).length:=by rw[<-hax,<-hay];exact mr.2.perm.length_eq
  refine wpS_bind (wpS_modify (wpS_bind (wpS_get (wpS_pure ?_))));show Q (failedOf st4).isNone _;rw[kp.failed.trans hf];have mr2:=mr.2;rw[hax,hay]at mr2;have fin:=qu (A1:=X.take k) (A2:=X.drop k) (B1:=Y.take m) (B2:=Y.drop m) (by rw[take_append_drop];exact sx) (by rw[take_append_drop];exact sy) (by rw[take_append_drop];exact Below.over bl by0) (by rw[take_append_drop];exact Below.over lastz bl2) mr.1 mr2;rw[take_append_drop,take_append_drop]at fin;refine q _ ⟨kp.kind,kp.failed,kp.pend,_,?_,fin.1,fin.2⟩;refine(j3 r.toList 0 (sa+k) (arrOf st4) (P++X.take k) (X.drop k++Y.take m) (Y.drop m++R) ?_ rl ?_).trans ?_
  ·rw[kp.arr,<-qR,<-append_assoc (X.take k),take_append_drop,append_assoc X,<-append_assoc (Y.take m),take_append_drop]
   exact e
  ·rw[length_append,length_take]
   omega
  ·rw[append_assoc P,append_assoc (X.take k),append_assoc r.toList]
 ·refine wpS_bind (t7 hL hk ka kb sax say (by omega) (by omega) u1 u2 ?_)
  intro r st4 kp mr;have rl:r.toList.length=(X.drop k++Y.take m).length:=by rw[<-hax,<-hay];exact mr.2.perm.length_eq
  refine wpS_bind (wpS_modify (wpS_bind (wpS_get (wpS_pure ?_))));show Q (failedOf st4).isNone _;rw[kp.failed.trans hf];have mr2:=mr.2;rw[hax,hay]at mr2;have fin:=qu (A1:=X.take k) (A2:=X.drop k) (B1:=Y.take m) (B2:=Y.drop m) (by rw[take_append_drop];exact sx) (by rw[take_append_drop];exact sy) (by rw[take_append_drop];exact Below.over bl by0) (by rw[take_append_drop];exact Below.over lastz bl2) mr.1 mr2;rw[take_append_drop,take_append_drop]at fin;refine q _ ⟨kp.kind,kp.failed,kp.pend,_,?_,fin.1,fin.2⟩;refine(j3 r.toList 0 (sa+k) (arrOf st4) (P++X.take k) (X.drop k++Y.take m) (Y.drop m++R) ?_ rl ?_).trans ?_
  ·rw[kp.arr,<-qR,<-append_assoc (X.take k),take_append_drop,append_assoc X,<-append_assoc (Y.take m),take_append_drop]
   exact e
  ·rw[length_append,length_take]
   omega
  ·rw[append_assoc P,append_assoc (X.take k),append_assoc r.toList]
end
end TS
namespace TS
open PySem PyProof.Rows
variable {κ:KeyKind}
def vP:StateT SortSt Sem Unit:=sortPriv% PySem.Builtin.sortRuns
def gJ(κ:KeyKind):Nat->List (Nat×Nat×Nat)->List (List Keyed)->Prop
 |_,[],[]=>True
 |off,p::ps,r::rs=>p.1=off/\p.2.1=r.length/\1<=p.2.1/\dB κ r/\gJ κ (off+p.2.1) ps rs
 |_,_,_=>False
theorem gJ.merge:∀(i off:Nat) (ps:List (Nat×Nat×Nat)) (rs:List (List Keyed)),gJ κ off ps rs->i+1 < ps.length->
  ∃rs1 X Y rs2 sa na pa sb nb pb,ps[i]? =some (sa,na,pa)/\ps[i+1]? =some (sb,nb,pb)/\rs=rs1++(X::Y::rs2)/\sa=off+rs1.flatten.length/\na=X.length/\sb=sa+na/\nb=Y.length/\1<=na/\1<=nb/\dB κ X/\dB κ Y/\
   ∀M,dB κ M->M.length=na+nb->gJ κ off ((ps.set i (sa,na+nb,pa)).eraseIdx (i+1)) (rs1++(M::rs2))
 |0,off,[],_,_,l=>by cases l
 |0,off,[p],_,_,l=>by have:1 < 1:=l;omega
 |0,off,(sa,na,pa)::(sb,nb,pb)::ps,[],t,_=>t.elim
 |0,off,(sa,na,pa)::(sb,nb,pb)::ps,[X],t,_=>t.2.2.2.2.elim
 |0,off,(sa,na,pa)::(sb,nb,pb)::ps,X::Y::rs,⟨h1,h2,h3,h4,h5,h6,h7,h8,h9⟩,_=>by
  dsimp only at h1 h2 h3 h5 h6 h7 h9;subst h1;refine⟨[],X,Y,rs,sa,na,pa,sb,nb,pb,rfl,rfl,rfl,rfl,h2,h5,h6,h3,h7,h4,h8,λM sm ml=>⟨rfl,ml.symm,?_,sm,?_⟩⟩
  ·show 1<=na+nb
   omega
  ·show gJ κ (sa+(na+nb)) ps rs
   rw[<-Nat.add_assoc];exact h9
 |i+1,off,[],_,_,l=>by cases l
 |i+1,off,p::ps,[],t,_=>t.elim
 |i+1,off,p::ps,r::rs,⟨h1,h2,h3,h4,h5⟩,l=>by
  obtain⟨rs1,X,Y,rs2,sa,na,pa,sb,nb,pb,g1,g2,g3,g4,g5,g6,g7,g8,g9,g10,g11,g12⟩:=gJ.merge i _ ps rs h5 (Nat.lt_of_succ_lt_succ l);refine⟨r::rs1,X,Y,rs2,sa,na,pa,sb,nb,pb,g1,g2,by rw[g3];rfl,?_,g5,g6,g7,g8,g9,g10,g11,λM sm ml=>⟨h1,h2,h3,h4,g12 M sm ml⟩⟩;rw[flatten_cons,length_append,<-h2];omega
theorem gJ.push:∀{off:Nat}{ps:List (Nat×Nat×Nat)}{rs:List (List Keyed)}{M:List Keyed}{pw:Nat},gJ κ off ps rs->dB κ M->1<=M.length->gJ κ off (ps++[(off+rs.flatten.length,M.length,pw)]) (rs++[M])
 |off,[],[],M,pw,_,sm,ml=>⟨by rw[flatten_nil];rfl,rfl,ml,sm,trivial⟩
 |off,[],_::_,M,pw,t,_,_=>t.elim
 |off,_::_,[],M,pw,t,_,_=>t.elim
 |off,p::ps,r::rs,M,pw,⟨h1,h2,h3,h4,h5⟩,sm,ml=>by
  refine⟨h1,h2,h3,h4,?_⟩;have:=gJ.push (pw:=pw) h5 sm ml;rw[flatten_cons,length_append,<-h2,<-Nat.add_assoc];exact this
theorem gJ.power:∀(i:Nat){off:Nat}{ps:List (Nat×Nat×Nat)}{rs:List (List Keyed)}{pw:Nat},gJ κ off ps rs->gJ κ off (ps.modify i λp=>(p.1,p.2.1,pw)) rs
 |0,off,[],[],pw,_=>trivial
 |0,off,[],_::_,pw,t=>t.elim
 |0,off,_::_,[],pw,t=>t.elim
 |0,off,p::ps,r::rs,pw,t=>t
 |i+1,off,[],[],pw,_=>trivial
 |i+1,off,[],_::_,pw,t=>t.elim
 |i+1,off,_::_,[],pw,t=>t.elim
 |i+1,off,p::ps,r::rs,pw,⟨h1,h2,h3,h4,h5⟩=>⟨h1,h2,h3,h4,gJ.power i h5⟩
theorem gJ.len:∀{off:Nat}{ps:List (Nat×Nat×Nat)}{rs:List (List Keyed)},gJ κ off ps rs->ps.length<=rs.flatten.length
 |off,[],[],_=>zero_le _
 |off,[],_::_,t=>t.elim
 |off,_::_,[],t=>t.elim
 |off,p::ps,r::rs,⟨h1,h2,h3,h4,h5⟩=>by
  have:=gJ.len h5;rw[flatten_cons,length_append,<-h2];show ps.length+1<=_;omega
theorem gJ.one{ps:List (Nat×Nat×Nat)}{rs:List (List Keyed)}{off:Nat}(t:gJ κ off ps rs)(h:ps.length<=1):dB κ rs.flatten:=by
 cases ps with
 |nil=>
  cases rs with
  |nil=>exact List.Pairwise.nil
  |cons r rs=>exact t.elim
 |cons p ps=>
  cases ps with
  |cons p' ps=>have:ps.length+1+1<=1:=h;omega
  |nil=>
   cases rs with
   |nil=>exact t.elim
   |cons r rs=>
    cases rs with
    |nil=>rw[flatten_cons,flatten_nil,append_nil];exact t.2.2.2.1
    |cons r' rs=>exact t.2.2.2.2.elim
section
variable {prog:Program}{w:World}{A:Around}{E:Value->Shared->Prop}{s:Shared}{kd:SortKind}
theorem FT{c:Prop} [Decidable c]{n:Nat}(h:1 < n):(if c then n - 2 - 1 else n - 2)+1 < n:=by
 split<;>omega
structure RI(κ:KeyKind)(kd:SortKind)(a₀:List Keyed)(lo:Nat)(S:List Keyed)(st:SortSt):Prop where
 kind:kindOf st=kd
 failed:failedOf st=none
 stb:cQ κ (arrOf st).toList a₀
 ex:∃Rs,gJ κ 0 (pendingOf st).toList Rs/\(arrOf st).toList=Rs.flatten++S/\Rs.flatten.length=lo
theorem RI.keys{a₀ S:List Keyed}{lo:Nat}{st:SortSt}(h:RI κ kd a₀ lo S st)(ks:∀x∈a₀,ip κ x):∀x∈(arrOf st).toList,ip κ x:=λx hx=>ks x (h.stb.mem.mp hx)
theorem jK(hL:kJ prog w A E s κ kd){a₀ S:List Keyed}{lo i:Nat}{st:SortSt}{Q:Bool->SortSt->Prop}(ks:∀x∈a₀,ip κ x)(h:RI κ kd a₀ lo S st)(hi:i+1 < (pendingOf st).size)
  (q:∀st',RI κ kd a₀ lo S st'->(pendingOf st').size+1=(pendingOf st).size->Q true st'):wpS (model prog w) A E s (qe i) Q st:=by
 obtain⟨Rs,t,e,l⟩:=h.ex;obtain⟨rs1,X,Y,rs2,sa,na,pa,sb,nb,pb,g1,g2,rfl,g4,g5,g6,g7,g8,g9,g10,g11,g12⟩:=t.merge i 0 _ _ (by rw[length_toList];exact hi);rw[zero_add]at g4;have e':(arrOf st).toList=rs1.flatten++(X++(Y++(rs2.flatten++S))):=by
  rw[e,flatten_append,flatten_cons,flatten_cons,append_assoc,append_assoc,append_assoc]
 refine pT hL h.kind h.failed (h.keys ks) (by rw[<-getElem?_toList];exact g1) (by rw[<-getElem?_toList];exact g2) e' g4 g5 g6 g7 g8 g9 g10 g11 λst' mg=>?_;obtain⟨M,eM,sM,tM⟩:=mg.ex;have ml:M.length=na+nb:=by rw[tM.perm.length_eq,length_append,g5,g7]
 have hpl:(pendingOf st').toList=((pendingOf st).toList.set i (sa,na+nb,pa)).eraseIdx (i+1):=by
  rw[mg.pend,Array.toList_eraseIdxIfInBounds,Array.toList_setIfInBounds]
 refine q st' ⟨mg.kind.trans h.kind,mg.failed.trans h.failed,cQ.trans ?_ h.stb,rs1++(M::rs2),by rw[hpl];exact g12 M sM ml,?_,?_⟩ ?_
 ·rw[eM,e',<-append_assoc X]
  exact(cQ.refl _).append (tM.append (cQ.refl _))
 ·rw[eM,flatten_append,flatten_cons,append_assoc,append_assoc]
 ·rw[<-l,flatten_append,flatten_append,flatten_cons,flatten_cons,flatten_cons,length_append,length_append,length_append,length_append,length_append]
  omega
 ·rw[<-length_toList,hpl,List.length_eraseIdx,if_pos (by rw[List.length_set,length_toList];exact hi),List.length_set,length_toList]
  omega
theorem RI.push{a₀ M R:List Keyed}{lo n:Nat}{st st':SortSt}(h:RI κ kd a₀ lo (M++R) st)(sM:dB κ M)(ml:M.length=n)(n1:1<=n)(k:kindOf st'=kindOf st)(f:failedOf st'=failedOf st)(ar:arrOf st'=arrOf st)(pd:pendingOf st'=(pendingOf st).push (lo,n,0)):RI κ kd a₀ (lo+n) R st':=by
 obtain⟨Rs,t,e,l⟩:=h.ex;refine⟨k.trans h.kind,f.trans h.failed,by rw[ar];exact h.stb,Rs++[M],?_,?_,?_⟩
 ·rw[pd,toList_push]
  have:=t.push (pw:=0) sM (by omega);rw[zero_add,l,ml]at this;exact this
 ·rw[ar,e,flatten_append,flatten_cons,flatten_nil,append_nil,append_assoc]
 ·rw[flatten_append,flatten_cons,flatten_nil,append_nil,length_append,l,ml]
theorem RI.power{a₀ S:List Keyed}{lo i pw:Nat}{st st':SortSt}(h:RI κ kd a₀ lo S st)(k:kindOf st'=kindOf st)(f:failedOf st'=failedOf st)(ar:arrOf st'=arrOf st)(pd:pendingOf st'=(pendingOf st).modify i λp=>(p.1,p.2.1,pw)):RI κ kd a₀ lo S st':=by
 obtain⟨Rs,t,e,l⟩:=h.ex;exact⟨k.trans h.kind,f.trans h.failed,by rw[ar];exact h.stb,Rs,by rw[pd,Array.toList_modify];exact t.power i,by rw[ar];exact e,l⟩
theorem RI.DC{a₀ M R:List Keyed}{lo n i pw:Nat}{st st':SortSt}(h:RI κ kd a₀ lo (M++R) st)(sM:dB κ M)(ml:M.length=n)(n1:1<=n)(k:kindOf st'=kindOf st)(f:failedOf st'=failedOf st)(ar:arrOf st'=arrOf st)(pd:pendingOf st'=((pendingOf st).modify i λp=>(p.1,p.2.1,pw)).push (lo,n,0)):RI κ kd a₀ (lo+n) R st':=
 RI.push (st:=setPending st ((pendingOf st).modify i λp=>(p.1,p.2.1,pw))) (h.power rfl rfl rfl rfl) sM ml n1 k f ar pd
theorem RI.asc{a₀ S M O R:List Keyed}{lo n:Nat}{st st':SortSt}{Rs:List (List Keyed)}(h:RI κ kd a₀ lo S st)(t:gJ κ 0 (pendingOf st).toList Rs)(e:(arrOf st).toList=Rs.flatten++S)(l:Rs.flatten.length=lo)(as:wu κ st Rs.flatten S n M O R st'):RI κ kd a₀ lo (M++R) st':=by
 refine⟨as.cg.kind.trans h.kind,as.cg.failed.trans h.failed,cQ.trans ?_ h.stb,Rs,by rw[as.cg.pend];exact t,as.e,l⟩;rw[as.e,e,as.s];exact(cQ.refl _).append (as.tm.append (cQ.refl _))
theorem oR(hL:kJ prog w A E s κ kd){st:SortSt}{Q:Unit->SortSt->Prop}(hk:kindOf st=kd)(hf:failedOf st=none)(hp:pendingOf st= #[])(ks0:∀x∈(arrOf st).toList,ip κ x)
  (q:∀st',failedOf st'=none->dB κ (arrOf st').toList->cQ κ (arrOf st').toList (arrOf st).toList->Q () st'):wpS (model prog w) A E s vP Q st:=by
 refine wpS_bind (wpS_get ?_);obtain⟨a₀,ha₀⟩:∃a₀,a₀=(arrOf st).toList:=⟨_,rfl⟩;rw[<-ha₀]at ks0 q;have ks:=ks0;have r0:RI κ kd a₀ 0 (arrOf st).toList st:=⟨hk,hf,by rw[ha₀];exact cQ.refl _,[],by rw[hp];trivial,rfl,rfl⟩;have hN:(arrOf st).size=a₀.length:=by rw[ha₀,length_toList]
 have r0':∃lo S,((none:Option Unit),0)=((none:Option Unit),lo)/\RI κ kd a₀ lo S st/\0<=lo:=⟨0,_,rfl,r0,le_refl 0⟩;have lens:∀{lo S st'},RI κ kd a₀ lo S st'->lo+S.length=(arrOf st).size:=λ{lo S st'} h=>by
  obtain⟨Rs,t,e,l⟩:=h.ex;rw[hN,<-h.stb.perm.length_eq,e,length_append,l]
 refine wpS_bind (wpS_mono (wpS_forRange (I:=λx c st'=>∃lo S,c=(none,lo)/\RI κ kd a₀ lo S st'/\x<=lo)
  (Q:=λc st'=>c.1=none/\∃lo,RI κ kd a₀ lo [] st') ?step ?fin r0') ?post)
 case fin=>
  rintro c st' ⟨lo,S,rfl,ri,hx⟩;have:=lens ri;have hx':max 0 (arrOf st).size<=lo:=hx;have hS:S=[]:=eq_nil_of_length_eq_zero (by omega);subst hS;exact⟨rfl,lo,ri⟩
 case step=>
  rintro x c st1 _ hx ⟨lo,S,rfl,ri,hxl⟩;dsimp only;have hl:=lens ri;refine cM (λc1=>?_) (λc1=>?_)
  ·have hS:S=[]:=eq_nil_of_length_eq_zero (by have:(arrOf st).size<=lo:=c1;omega)
   subst hS;exact wpS_pure ⟨rfl,lo,ri⟩
  have c1':lo < (arrOf st).size:=Nat.lt_of_not_le c1;obtain⟨Rs,t,e,l⟩:=ri.ex;have kS:∀u∈S,ip κ u:=λu hu=>ri.keys ks u (by rw[e];exact mem_append_right _ hu);refine wpS_bind (nZ hL ri.kind kS e l.symm (by show S.length=(arrOf st).size - lo;omega) (by show 1<=(arrOf st).size - lo;omega) λn st2 M O R n1 nn as=>?_);dsimp only;refine cM (λc2=>?_) (λc2=>?_);refine wpS_bind (wpS_lift (wpAny_rule ⟨rfl,?_⟩));have hmn:n<=min ((arrOf st).size - lo) _:=Nat.le_min.mpr ⟨nn,le_of_lt c2⟩;refine wpS_bind (lE hL ri.kind kS l.symm (le_trans (Nat.min_le_left _ _) (by show(arrOf st).size - lo<=S.length;omega)) n1 hmn as λstx M O R as=>?_);have n1:=le_trans n1 hmn;clear nn hmn c2;have ri':=ri.asc t e l as;have sM:=as.sm;have ml:=as.m;simp only[Bool.not_true,false_eq_true,if_false]
  rotate_left
  clear c2;obtain⟨stx,hstx⟩:∃stx,stx=st2:=⟨_,rfl⟩;subst hstx;have ri':=ri.asc t e l as;have sM:=as.sm;have ml:=as.m
  all_goals
   refine wpS_bind (wpS_get ?_);cases hbk:(pendingOf stx).back? with
   |none=>
    dsimp only;exact wpS_bind (wpS_modify (wpS_pure ⟨_,R,rfl,ri'.push sM ml n1 rfl rfl rfl rfl,by omega⟩))
   |some bk=>
    obtain⟨s1,n1',pw'⟩:=bk;dsimp only;refine wpS_bind (wpS_mono (wpS_forRange (I:=λx c st'=>c=(none,())/\RI κ kd a₀ lo (M++R) st') (Q:=λc st'=>c=(none,())/\RI κ kd a₀ lo (M++R) st') ?cstep (λ_ _ h=>h) ⟨rfl,ri'⟩) ?cpost)
    case cpost=>
     rintro c st5 ⟨rfl,ri5⟩;exact wpS_bind (wpS_modify (wpS_bind (wpS_modify (wpS_pure ⟨_,R,rfl,ri5.DC sM ml n1 rfl rfl rfl rfl,by omega⟩))))
    case cstep=>
     rintro x' c st5 _ _ ⟨rfl,ri5⟩;refine wpS_bind (wpS_get ?_);by_cases c5:(pendingOf st5).size > 1
     ·rw[if_pos c5,getElem?_pos (pendingOf st5) ((pendingOf st5).size - 2) (by omega)]
      generalize (pendingOf st5)[(pendingOf st5).size - 2]=pp;obtain⟨f1,f2,older⟩:=pp;dsimp only;refine cM (λ_=>wpS_pure ⟨rfl,ri5⟩) (λ_=>?_);exact wpS_bind (jK hL ks ri5 (show(pendingOf st5).size - 2+1 < (pendingOf st5).size by omega) λst6 ri6 _=>wpS_pure ⟨rfl,ri6⟩)
     ·rw[if_neg c5]
      exact wpS_pure ⟨rfl,ri5⟩
 case post=>
  rintro c st1 ⟨hc,lo,ri⟩;rw[hc];dsimp only;have hl:=lens ri;have hl':lo=(arrOf st).size:=hl;obtain⟨Rs,t,e,l⟩:=ri.ex;have pl:(pendingOf st1).size<=(arrOf st).size:=by
   rw[<-hl',<-l,<-length_toList];exact t.len
  refine wpS_bind (wpS_mono (wpS_forRange (I:=λx c st'=>c=(none,())/\RI κ kd a₀ lo [] st'/\(pendingOf st').size+x<=(arrOf st).size) (Q:=λc st'=>c=(none,())/\RI κ kd a₀ lo [] st'/\(pendingOf st').size<=1) ?fstep ?ffin ⟨rfl,ri,pl⟩) ?fpost)
  case ffin=>
   rintro c st' ⟨rfl,ri,h⟩;exact⟨rfl,ri,by have h':(pendingOf st').size+max 0 (arrOf st).size<=(arrOf st).size:=h;omega⟩
  case fpost=>
   rintro c st' ⟨rfl,ri,h⟩;obtain⟨Rs,t,e,l⟩:=ri.ex;rw[append_nil]at e;exact wpS_pure (q st' ri.failed (by rw[e];exact t.one (by rw[length_toList];exact h)) ri.stb)
  case fstep=>
   rintro x c st2 _ hx ⟨rfl,ri,h⟩;refine wpS_bind (wpS_get ?_);refine cM (λc3=>wpS_pure ⟨rfl,ri,c3⟩) (λc3=>?_);have c3':1 < (pendingOf st2).size:=Nat.lt_of_not_le c3;refine wpS_bind (jK hL ks ri (FT c3') λst3 ri3 h3=>?_);exact wpS_pure ⟨rfl,ri3,by omega⟩
end
end TS
namespace TS
open PySem PyProof.Rows
def intKind:KeyKind where
 α:=Int
 blt a b:=decide (a < b)
 irrefl a:=by simp
 trans a b c h1 h2:=by
  rw[decide_eq_true_iff]at *;omega
 negTrans a b c h:=by
  rw[decide_eq_true_iff]at *;rw[decide_eq_true_iff];omega
 total a b h1 h2:=by
  rw[decide_eq_false_iff_not]at *;omega
 keyOf v:=match v with
  |.int n _=>some n
  |_=>none
 dflt:=0
section
variable {prog:Program}{w:World}{A:Around}{E:Value->Shared->Prop}{s:Shared}
theorem Ar:kJ prog w A E s intKind oneType':=by
 rintro⟨x,p⟩ ⟨y,q⟩ st Q hk ⟨a,ha⟩ ⟨b,hb⟩ h;cases x<;>cases ha;cases y<;>cases hb;rw[lt'_eq];refine wpS_bind (wpS_get ?_);rw[hk,keyLt'_oneType];exact wpS_bind (wpS_lift (wpAny_attempt (oneLt_int ⟨rfl,wpS_pure h⟩)))
theorem wpAny_forIn_list{M:Model}{α β:Type}{f:α->β->Sem (ForInStep β)}(I:List α->β->Shared->Prop){Q:β->Shared->Prop}(hstep:∀x r b s,I (x::r) b s->wpAny M A (f x b) (λz s'=>∃b',z=.yield b'/\I r b' s') E s)(hend:∀b s,I [] b s->Q b s):∀(l:List α) (b:β) (s:Shared),I l b s->wpAny M A (forIn l b f) Q E s
 |[],b,s,h=>by
  rw[List.forIn_nil];exact wpAny_pure (hend b s h)
 |x::r,b,s,h=>by
  rw[forIn_cons];refine wpAny_bind (wpAny_mono (hstep x r b s h) (λz s' h'=>?_) λ_ _ e=>e);obtain⟨b',rfl,h'⟩:=h';exact wpAny_forIn_list I hstep hend r b' s' h'
inductive KeysAre(R:Value->Int->Prop):List Value->List Value->Prop
 |nil:KeysAre R [] []
 |snoc {vs ks:List Value}{v:Value}{i:Int}{t:Tok}(h:KeysAre R vs ks)(r:R v i):KeysAre R (vs++[v]) (ks++[.int i t])
theorem KeysAre.ints{R:Value->Int->Prop}{vs ks:List Value}(h:KeysAre R vs ks):∀k∈ks,∃n t,k=.int n t:=by
 induction h with
 |nil=>intro k hk;cases hk
 |snoc h r ih=>
  intro k hk;rcases mem_append.mp hk with hk|hk
  ·exact ih k hk
  ·exact⟨_,_,mem_singleton.mp hk⟩
theorem KeysAre.len{R:Value->Int->Prop}{vs ks:List Value}(h:KeysAre R vs ks):ks.length=vs.length:=by
 induction h with
 |nil=>rfl
 |snoc h r ih=>rw[length_append,length_append,ih];rfl
def yk:Array Value->Sem SortKind:=sortPriv% PySem.Builtin.keyKind
theorem E6{vs:List Value}(h:¬vs.length < 2):∃v₁ v₂ rest,vs=v₁::v₂::rest:=by
 match vs,h with
 |[],h=>exact absurd (show 0 < 2 by decide) h
 |[_],h=>exact absurd (show 1 < 2 by decide) h
 |v₁::v₂::rest,_=>exact⟨v₁,v₂,rest,rfl⟩
theorem yC{α:Type}{R:α->α->Prop}{l:List α}(h:l.length < 2):l.Pairwise R:=by
 cases l with
 |nil=>exact .nil
 |cons a r=>
  cases r with
  |nil=>exact pairwise_singleton _ _
  |cons b t=>exact absurd h (Nat.not_lt.mpr (Nat.le_add_left 2 _))
theorem pN {G:Shared->Prop}{R:Value->Int->Prop}{f a:Addr}{vs:List Value}{n:Nat}{P:Fin->Shared->Prop}(ho:s.heap.get? a=some (seqObj "list" vs.toArray n)) (vl:vs.length<=sizeLine)
  (g0:G { s with heap:=((s.heap.update a (Obj.mapSeq λ_=> #[])).push (seqObj "tuple" vs.toArray 0)).push (seqObj "list" #[] 0) })
  (gu:∀s' g,G s'->G { s' with heap:=s'.heap.update (s.heap.objs.size+1) (Obj.mapSeq g) })
  (gc:∀x∈vs,∀s',G s'->wpAny (model prog w) A (call (.ref f) [x]) (λk s''=>(∃i t,k=.int i t/\R x i)/\G s''/\(∀b o,(b=a\/b=s.heap.objs.size+1)->s'.heap.get? b=some o->s''.heap.get? b=some o)) (λ_ _=>False) s')
  (fin:∀s' (ks:List Value) (arr:Array Keyed),G s'->(∃e,s'.heap.get? a=some (seqObj "list" #[] e))->KeysAre R vs ks->dB intKind arr.toList->cQ intKind arr.toList (ks.zip vs)->P (.done (.ret .none)) { s' with heap:=(s'.heap.update (s.heap.objs.size+1) (Obj.mapSeq λ_=> #[])).update a (Obj.mapSeq λ_=>arr.map (·.2)) }):
  wpAny (model prog w) A (Builtin.«list.sort» ⟨[.ref a],[(Str.ofString "key",.ref f)]⟩) P E s:=by
 unfold Builtin.«list.sort»;dsimp only[length_cons,List.length_nil];have l1:List.lookup (Str.ofString "key") [(Str.ofString "key",Value.ref f)]=some (.ref f):=by
  rw[lookup_cons];simp
 have l2:List.lookup (Str.ofString "reverse") [(Str.ofString "key",Value.ref f)]=none:=by
  rw[lookup_cons,show(Str.ofString "reverse" == Str.ofString "key")=false by decide+kernel];rfl
 have l3:(Value.ref f != Value.none)=true:=rfl;have l4:(Str.ofString "key" != Str.ofString "key")=false:=by decide+kernel
 rw[if_neg (by decide),if_neg (by decide),l1,l2];dsimp only[Option.getD];simp only[l3,if_true,forIn_cons,List.forIn_nil,l4,Bool.false_and,false_eq_true,if_false];have ha:a < s.heap.objs.size:=lt_size ho;refine wpAny_bind (wpAny_bind (wpAny_pure (wpAny_pure ?_)));refine wpAny_bind (wpAny_pure ?_);refine wpAny_bind (listItems_at ho rfl ?_);refine wpAny_bind (listUpdate_at ho rfl ?_);obtain⟨e1,ho1⟩:∃e1,(s.heap.update a (Obj.mapSeq λ_=> #[])).get? a=some (seqObj "list" #[] e1):=⟨_,get?_update_seq ho (λ_=> #[])⟩;refine wpAny_bind (seqEpoch_at ho1 rfl ?_);refine wpAny_bind (wpAny_newTuple ?_);refine wpAny_bind (wpAny_newList ?_);refine wpAny_holding ?_;have hN:(s.heap.update a (Obj.mapSeq λ_=> #[])).objs.size=s.heap.objs.size:=size_update _ _ _;have hks:((s.heap.update a (Obj.mapSeq λ_=> #[])).push (seqObj "tuple" vs.toArray 0)).objs.size=s.heap.objs.size+1:=by rw[size_push',hN]
 have ho6:(((s.heap.update a (Obj.mapSeq λ_=> #[])).push (seqObj "tuple" vs.toArray 0)).push (seqObj "list" #[] 0)).get? a=some (seqObj "list" #[] e1):=by
  rw[get?_push_ne _ _ _ (by rw[hks];exact ne_of_lt (lt_succ_of_lt ha)),get?_push_ne _ _ _ (by rw[hN];exact ne_of_lt ha)];exact ho1
 have hk6:(((s.heap.update a (Obj.mapSeq λ_=> #[])).push (seqObj "tuple" vs.toArray 0)).push (seqObj "list" #[] 0)).get? (s.heap.objs.size+1)=some (seqObj "list" #[] 0):=by
  rw[<-hks];exact get?_push_size _ rfl
 show wpAny (model prog w) A _ P E { s with heap:=((s.heap.update a (Obj.mapSeq λ_=> #[])).push (seqObj "tuple" vs.toArray 0)).push (seqObj "list" #[] 0) };simp only[hks];generalize hh1:((s.heap.update a (Obj.mapSeq λ_=> #[])).push (seqObj "tuple" vs.toArray 0)).push (seqObj "list" #[] 0)=h1 at g0 ho6 hk6;have hne:s.heap.objs.size+1≠a:=ne_of_gt (lt_succ_of_lt ha);have hsz:vs.toArray.size=vs.length:=size_toArray;refine wpAny_bind (wpAny_rule ?_);rw[List.forIn_toArray];refine wpAny_bind (wpAny_mono (wpAny_forIn_list (I:=λrest _ s'=>∃dn ks e2,vs=dn++rest/\KeysAre R dn ks/\G s'/\s'.heap.get? a=some (seqObj "list" #[] e1)/\s'.heap.get? (s.heap.objs.size+1)=some (seqObj "list" ks.toArray e2))
  (Q:=λ_ s'=>∃ks e2,KeysAre R vs ks/\G s'/\s'.heap.get? a=some (seqObj "list" #[] e1)/\s'.heap.get? (s.heap.objs.size+1)=some (seqObj "list" ks.toArray e2)) ?step ?fin' vs _ _ ⟨[],[],0,rfl,.nil,g0,ho6,hk6⟩) ?post λ_ _ e=>e)
 case fin'=>
  rintro b s' ⟨dn,ks,e2,e,k,g,h1,h2⟩;rw[append_nil]at e;subst e;exact⟨ks,e2,k,g,h1,h2⟩
 case step=>
  rintro x r b s' ⟨dn,ks,e2,e,k,g,h1,h2⟩;have mx:x∈vs:=by rw[e];exact mem_append_right _ mem_cons_self
  have kl:ks.length+1<=vs.length:=by rw[k.len,e,length_append];show _<=_+(_+1);omega
  refine wpAny_bind (wpAny_attempt (wpAny_mono (gc x mx s' g) (λkv s2 h=>?_) λ_ _ h=>False.elim h));obtain⟨⟨i,t,rfl,ri⟩,g2,kp⟩:=h;dsimp only;have hk2:=kp _ _ (.inr rfl) h2;refine wpAny_bind (listUpdate_at hk2 rfl ?_ (by rw[size_toArray];omega) (by rw[Array.size_push,size_toArray];omega));have hk3:=get?_update_seq hk2 (λx=>x.push (.int i t));simp only[List.push_toArray]at hk3;refine wpAny_pure ⟨_,rfl,dn++[x],ks++[.int i t],_,by rw[e,append_assoc];rfl,k.snoc ri,gu _ _ g2,?_,hk3⟩;exact(get?_update_ne _ _ _ _ hne.symm).trans (kp _ _ (.inl rfl) h1)
 case post=>
  rintro _ s' ⟨ks,e2,k,g,h1,h2⟩;have kl:=k.len;refine wpAny_bind (listItems_at h2 rfl ?_);simp only[false_eq_true,if_false];have k2:ks.toArray.size=ks.length:=size_toArray;have al:∀{st':SortSt},cQ intKind (arrOf st').toList (ks.zip vs)->(arrOf st').size=vs.length:=λ{st'} h=>by
   rw[<-length_toList,h.perm.length_eq,length_zip,kl,min_self]
  by_cases c2:vs.toArray.size < 2
  ·rw[if_pos c2]
   refine wpAny_bind (wpAny_pure ?_);rw[if_pos c2,StateT.run_pure];refine wpAny_bind (wpAny_pure ?_);dsimp only;have zl:(ks.toArray.zip vs.toArray).toList=ks.zip vs:=by rw[Array.toList_zip]
   have fz:=fin s' ks (ks.toArray.zip vs.toArray) g ⟨e1,h1⟩ k (by
    rw[zl];have l2':(ks.zip vs).length < 2:=by rw[length_zip,kl,min_self,<-hsz];exact c2
    exact yC l2') (by rw[zl];exact cQ.refl _)
   refine wpAny_bind (listUpdate_at h2 rfl ?_ (by rw[size_toArray];omega) (by show 0<=_;omega));refine wpAny_bind (wpAny_letGo ?_);have ha2:(s'.heap.update (s.heap.objs.size+1) (Obj.mapSeq λ_=> #[])).get? a=some (seqObj "list" #[] e1):=(get?_update_ne _ _ _ _ hne.symm).trans h1;refine wpAny_bind (seqEpoch_at ha2 rfl ?_);refine wpAny_bind (listUpdate_at ha2 rfl ?_ (by show 0<=_;omega) (by rw[Array.size_map,Array.size_zip,size_toArray,size_toArray];omega));simp only[bne_self_eq_false,false_eq_true,if_false];exact wpAny_pure fz
  ·rw[if_neg c2]
   have hkk:yk ks.toArray=pure oneType':=by
    obtain⟨v₁,v₂,rest,e⟩:=E6 (vs:=ks) (by rw[kl,<-hsz];exact c2);have:=intsAre_map ks k.ints;rw[e]at this ⊢;exact keyKind_ints this
   refine wpAny_bind (wpAny_of_eq hkk ?_);rw[if_neg c2];have zl:(ks.toArray.zip vs.toArray).toList=ks.zip vs:=by rw[Array.toList_zip]
   refine wpAny_bind (wpAny_mono (oR (κ:=intKind) Ar (st:=SortSt.mk' oneType' (ks.toArray.zip vs.toArray) #[] 7 none)
    (Q:=λ_ st'=>failedOf st'=none/\dB intKind (arrOf st').toList/\cQ intKind (arrOf st').toList (ks.zip vs)) rfl rfl rfl (λp hp=>?_) λst' f1 f2 f3=>⟨f1,f2,by rw[<-zl];exact f3⟩) ?_ λ_ _ e=>e)
   ·have hp':p∈ks.zip vs:=by rw[<-zl];exact hp
    obtain⟨n',t',e'⟩:=k.ints p.1 (of_mem_zip (show(p.1,p.2)∈ks.zip vs from hp')).1;exact⟨n',by rw[e'];rfl⟩
   ·rintro⟨⟨⟩,st'⟩ s2 ⟨rfl,f1,f2,f3⟩
    dsimp only;have fz:=fin s2 ks (arrOf st') g ⟨e1,h1⟩ k f2 f3;refine wpAny_bind (listUpdate_at h2 rfl ?_ (by rw[size_toArray];omega) (by show 0<=_;omega));refine wpAny_bind (wpAny_letGo ?_);have ha2:(s2.heap.update (s.heap.objs.size+1) (Obj.mapSeq λ_=> #[])).get? a=some (seqObj "list" #[] e1):=(get?_update_ne _ _ _ _ hne.symm).trans h1;refine wpAny_bind (seqEpoch_at ha2 rfl ?_);refine wpAny_bind (listUpdate_at ha2 rfl ?_ (by show 0<=_;omega) (by refine le_trans (le_of_eq ((Array.size_map ..).trans (al f3))) ?_;omega));have f1':(sortPriv% PySem.Builtin.SortState.failed) st'=none:=f1;rw[f1'];simp only[bne_self_eq_false,false_eq_true,if_false];exact wpAny_pure fz
end
end TS
namespace TS
open PySem PyProof.Rows
def Nk(rv:Bool)(f:Addr):List (Str×Value):=(Str.ofString "key",.ref f)::if rv=true then [(Str.ofString "reverse",.bool true)] else []
section
variable {prog:Program}{w:World}{A:Around}{E:Value->Shared->Prop}{s:Shared}
end
end TS
namespace TS
open PySem PyProof.Rows
open PySem.SeqAt (EqAt RcAt)
def LG(A:Around)(s:Shared)(x y:Value)(b:Bool):Prop:=
 ∀(prog:Program) (w:World) (E:Value->Shared->Prop) (Q:Value->Shared->Prop),Q (.bool b) s->wpAny (model prog w) A (richCompare .Lt x y) Q E s
def LV(e l:Nat->Bool)(fin:Bool):List Nat->Bool
 |[]=>fin
 |j::r=>if e j=true then LV e l fin r else l j
open AutoSeq1 (wpAny_loadPart')
open MeetsSeq MeetsSeq2 MeetsSeq3 SeqRoads2
def vG(O P:KeyOrd):KeyOrd where
 α:=O.α×P.α
 blt a b:=O.blt a.1 b.1 || (!O.blt b.1 a.1 && P.blt a.2 b.2)
 irrefl a:=by simp[O.irrefl,P.irrefl]
 trans a b c h1 h2:=by
  simp only[or_eq_true,and_eq_true,not_eq_true']at *;rcases h1 with h1|⟨h1,h1'⟩<;>rcases h2 with h2|⟨h2,h2'⟩
  ·exact .inl (O.trans _ _ _ h1 h2)
  ·rcases O.negTrans _ c.1 _ h1 with x|x
   ·exact .inl x
   ·rw[h2]at x;cases x
  ·rcases O.negTrans _ a.1 _ h2 with x|x
   ·rw[h1]at x;cases x
   ·exact .inl x
  ·refine .inr ⟨?_,P.trans _ _ _ h1' h2'⟩
   cases hc:O.blt c.1 a.1 with
   |false=>rfl
   |true=>
    rcases O.negTrans _ b.1 _ hc with x|x
    ·rw[h2]at x;cases x
    ·rw[h1]at x;cases x
 negTrans a b c h:=by
  simp only[or_eq_true,and_eq_true,not_eq_true']at *;rcases h with h|⟨h,h'⟩
  ·rcases O.negTrans _ b.1 _ h with x|x
   ·exact .inl (.inl x)
   ·exact .inr (.inl x)
  ·cases h1:O.blt b.1 a.1 with
   |true=>
    rcases O.negTrans _ c.1 _ h1 with x|x
    ·exact .inr (.inl x)
    ·rw[h]at x;cases x
   |false=>
    cases h2:O.blt c.1 b.1 with
    |true=>
     rcases O.negTrans _ a.1 _ h2 with x|x
     ·rw[h]at x;cases x
     ·exact .inl (.inl x)
    |false=>
     rcases P.negTrans _ b.2 _ h' with x|x
     ·exact .inl (.inr ⟨rfl,x⟩)
     ·exact .inr (.inr ⟨rfl,x⟩)
 total a b h1 h2:=by
  simp only[Bool.or_eq_false_iff,Bool.and_eq_false_iff,Bool.not_eq_false']at *;obtain⟨h1,h1'⟩:=h1;obtain⟨h2,h2'⟩:=h2;have e:=O.total _ _ h1 h2;have e2:=P.total a.2 b.2 (h1'.resolve_left (by rw[h2];exact bF0)) (h2'.resolve_left (by rw[h1];exact bF0));exact Prod.ext e e2
def vm:KeyOrd:=vG strKind.toKeyOrd (vG intKind.toKeyOrd strKind.toKeyOrd)
def G0:KeyOrd:=vG intKind.toKeyOrd (vG intKind.toKeyOrd (vG strKind.toKeyOrd vm))
def cps(x:Str):List Nat:=x.cps.toList
inductive wV(h:Heap)(p:Addr):vm.α->Prop
 |saw (k:Int) (t u:Tok) (i:h.IsTuple p #[.str "saw" t,.int k u]):wV h p (cps "saw",k,[])
 |heard (k:Int) (z:Str) (t u v:Tok) (i:h.IsTuple p #[.str "heard" t,.int k u,.str z v]):wV h p (cps "heard",k,cps z)
inductive II(h:Heap)(p:Addr):G0.α->Prop
 |mk(i j:Int)(z:Str)(q:Addr)(w:vm.α)(t u v:Tok)(r:h.IsTuple p #[.int i t,.int j u,.str z v,.ref q])(hw:wV h q w):II h p (i,j,cps z,w)
section
variable {prog:Program}{w:World}{A:Around}{E:Value->Shared->Prop}{s:Shared}
inductive KU(A:Around)(s:Shared)(p q:Addr)(x y:vm.α):Prop
 |same (e:EqAt A s (.ref p) (.ref q) true)(h:x=y)
 |other (e:EqAt A s (.ref p) (.ref q) false)(h:x≠y)(l:LG A s (.ref p) (.ref q) (vm.blt x y))
def Km(as:List Addr)(g:Addr->G0.α):KeyKind where
 toKeyOrd:=G0
 keyOf v:=match v with
  |.ref a=>if a∈as then some (g a) else none
  |_=>none
 dflt:=((0:Int),(0:Int),([]:List Nat),([]:List Nat),(0:Int),([]:List Nat))
def d4:Value->Addr
 |.ref a=>a
 |_=>0
end
end TS
namespace TS
open PySem PyProof.Rows
open PySem.SeqAt (EqAt RcAt)
def GX:KeyOrd:=vG strKind.toKeyOrd (vG intKind.toKeyOrd vm)
inductive Ja(h:Heap)(p:Addr):GX.α->Prop
 |mk(z:Str)(i:Int)(q:Addr)(w:vm.α)(t u:Tok)(r:h.IsTuple p #[.str z t,.int i u,.ref q])(hw:wV h q w):Ja h p (cps z,i,w)
section
variable {prog:Program}{w:World}{A:Around}{E:Value->Shared->Prop}{s:Shared}
def HX(as:List Addr)(g:Addr->GX.α):KeyKind where
 toKeyOrd:=GX
 keyOf v:=match v with
  |.ref a=>if a∈as then some (g a) else none
  |_=>none
 dflt:=(([]:List Nat),(0:Int),([]:List Nat),(0:Int),([]:List Nat))
end
end TS
namespace L2
open PySem PySem.Spec PyProof.Rows
section
variable {X:Cx}
theorem Un.over{fs ex:List Addr}{H H1:Hp}{h h1 h2:Heap}(u:Un fs ex H H1 h h1)(k:∀b,b < h.objs.size->h2.get? b=h1.get? b):Un fs ex H H1 h h2 where
 keep:=λb o q n hb hx=>(k b (lt_size q)).trans (u.keep b o q n hb hx)
 slot:=λb o q n hb hx=>by
  obtain⟨sl,e⟩:=u.slot b o q n hb hx;exact⟨sl,(k b (lt_size q)).trans e⟩
 free:=u.free
 there:=λb o q hx=>by
  obtain⟨o',e⟩:=u.there b o q hx;exact⟨o',(k b (lt_size q)).trans e⟩
 tups:=u.tups
 frzs:=u.frzs
 tbls:=u.tbls
theorem Un.Bg{fs ex:List Addr}{H:Hp}{h h1:Heap}{a:Addr}{o:HO}(u:Un fs ex H H h h1)(ha:h.objs.size<=a)(hn:H a=none):Un fs ex H (upd H a o) h h1 where
 keep:=u.keep
 slot:=u.slot
 free:=λb ob q n hx=>by rw[cG (ne_of_lt (lt_of_lt_of_le (lt_size q) ha))];exact n
 there:=u.there
 tups:=λb xs q=>by rw[cG (cE q hn)];exact q
 frzs:=λb ob xs q=>by rw[cG (cE q hn)];exact q
 tbls:=λb ps q=>⟨#[],by rw[cG (cE q hn),q];simp⟩
theorem gB.over{P:Program}{w:World}{H:Hp}{h0 h h':Heap}(x0:gB P w H h0)(x:gB P w H h)(k:∀b,b < h0.objs.size->h'.get? b=h.get? b):gB P w H h':=λa o e=>
 (x a o e).fJ (λb u hb q=>(k b (hb.elim (λz=>z ▸ x0.lt e) (λz=>x0.lt z))).trans q) (λ_ q=>q) λ_ _ q=>q
theorem gB.Bg{P:Program}{w:World}{H:Hp}{h:Heap}{a:Addr}{o:HO}(x:gB P w H h)(hn:H a=none)(new:dy P w (upd H a o) h a o):gB P w (upd H a o) h:=λb u e=>by
 by_cases hb:b=a
 ·subst hb
  rw[cD]at e;cases e;exact new
 ·rw[cG hb]at e
  exact(x b u e).fJ (λc v _ q=>q) (λc q=>by rw[cG (cE q hn)];exact q) λc xs q=>by rw[cG (cE q hn)];exact q
theorem mX(a v:Value):argsOk "sorted" ⟨[a],[(Str.ofString "key",v)]⟩:=by unfold argsOk;kernel_rfl
theorem o6(a v:Value):argsOk "list.sort" ⟨[a],[(Str.ofString "key",v)]⟩:=by unfold argsOk;kernel_rfl
def d4:Value->Addr
 |.ref a=>a
 |_=>0
def AA(g:Addr->Int)(v:Value)(i:Int):Prop:=∃a,v=.ref a/\g a=i
theorem yO{g:Addr->Int}{vs ks:List Value}(h:TS.KeysAre (AA g) vs ks):∀p∈ks.zip vs,TS.key TS.intKind p=g (d4 p.2)/\p.2=.ref (d4 p.2):=by
 induction h with
 |nil=>intro p hp;cases hp
 |snoc h r ih=>
  intro p hp;rw[List.zip_append h.len]at hp;rcases mem_append.mp hp with hp|hp
  ·exact ih p hp
  ·cases mem_singleton.mp hp
   obtain⟨a,rfl,e⟩:=r;exact⟨e.symm,rfl⟩
theorem wO:∀{as:List Addr}{its:List Value},Vals (as.map V.ref) its->its=as.map Value.ref
 |[],[],_=>rfl
 |[],_::_,h=>by cases h
 |_::_,[],h=>by cases h
 |a::as,v::its,h=>by
  cases h with
  |cons r t=>
   cases r;rw[map_cons,wO t]
theorem qG:∀(as:List Addr),Vals (as.map V.ref) (as.map Value.ref)
 |[]=>.nil
 |a::as=>.cons rfl (qG as)
inductive Gr(K:FG0)(sp:Sp)(xs:List V)(H:Hp)(Q:VK):Prop
 |mk(p:Addr)(as:List Addr)(g:Addr->Int)(e:xs=[.ref p])(s:cK K H p (as.map V.ref))(hs:∀a∈as,∀Q':VK,Q' (.int (g a)) H->sp [.ref a] H Q' E0)
   (q:∀(l:Addr)(zs:List Addr),H l=none->zs.Perm as->zs.Pairwise (λa b=>g a<=g b)->(∀i,zs.filter (λa=>decide (g a=i))=as.filter (λa=>decide (g a=i)))->Q (.ref l) (upd H l (.lst (zs.map V.ref))))
theorem vE{k:Nat}{f:Addr}{fd:FuncData}{ps:List Str}{sp:Sp}(F:eD X.prog X.w X.K X.mg X.base kg k f fd ps sp)(hr:dC (k+2) X.A)(hb:Binds X.K fd ps []){pins:List (Addr×Obj)}{s:Shared}{σ:St}{H:Hp}{xs:List V}{us:List Value}{Q:VK}
  (I:Inv X pins σ H s)(r:Vals xs us)(h:Gr X.K sp xs H Q):wpAny (model X.prog X.w) X.A (call (.builtin "sorted") us [(Str.ofString "key",.ref f)]) (EP X pins σ Q) X.xe s:=by
 obtain⟨p,as,g,rfl,hq,hs,q⟩:=h;obtain⟨u,rfl,rx⟩:=vals1 r;cases rx;obtain⟨its,rv,pl,hz⟩:=I.list hq;obtain rfl:=wO rv;rw[length_map]at hz;refine call_function_entry_kw kind_sorted plain_sorted entry_sorted (mX _ _) ?_;unfold Builtin.«sorted»;refine wpAny_bind (m:=checkCount "sorted" 1 1 _) (wpAny_pure ?_);refine wpAny_bind (collect_list pl.isList ?_);refine wpAny_bind (wpAny_newList ?_);have hsz:((s.heap.push (seqObj "list" #[] 0)).update s.heap.objs.size (Obj.mapSeq (· ++(as.map Value.ref).toArray))).objs.size=s.heap.objs.size+1:=by
  rw[size_update,size_push']
 have hoL:(((s.heap.push (seqObj "list" #[] 0)).update s.heap.objs.size (Obj.mapSeq (· ++(as.map Value.ref).toArray))).push (seqObj "list" (as.map Value.ref).toArray 0)).get? (s.heap.objs.size+1)=some (seqObj "list" (as.map Value.ref).toArray 0):=by
  rw[<-hsz];exact get?_push_size _ rfl
 show wpAny _ _ _ _ _ { s with heap:=((s.heap.push (seqObj "list" #[] 0)).update s.heap.objs.size (Obj.mapSeq (· ++(as.map Value.ref).toArray))).push (seqObj "list" (as.map Value.ref).toArray 0) };rw[hsz];have hold:∀b,b < s.heap.objs.size->(((s.heap.push (seqObj "list" #[] 0)).update s.heap.objs.size (Obj.mapSeq (· ++(as.map Value.ref).toArray))).push (seqObj "list" (as.map Value.ref).toArray 0)).get? b=s.heap.get? b:=λb hb=>by
  rw[get?_push_ne _ _ _ (by rw[hsz];exact ne_of_lt (lt_succ_of_lt hb)),get?_update_ne _ _ _ _ (ne_of_lt hb),get?_push_ne _ _ _ (ne_of_lt hb)]
 have hs2:(((s.heap.push (seqObj "list" #[] 0)).update s.heap.objs.size (Obj.mapSeq (· ++(as.map Value.ref).toArray))).push (seqObj "list" (as.map Value.ref).toArray 0)).objs.size=s.heap.objs.size+2:=by rw[size_push',hsz]
 generalize ((s.heap.push (seqObj "list" #[] 0)).update s.heap.objs.size (Obj.mapSeq (· ++(as.map Value.ref).toArray))).push (seqObj "list" (as.map Value.ref).toArray 0)=h2 at hoL hold hs2;have na:H (s.heap.objs.size+1)=none:=I.hok.fresh (le_succ _);have nk:H (h2.objs.size+1)=none:=I.hok.fresh (by rw[hs2];omega);have nfr:∀b,s.heap.objs.size<=b->b ∉ sE X.stack:=λb hb hm=>by
  obtain⟨_,o,e,_⟩:=I.stack.mem hm;exact absurd (lt_size e) (Nat.not_lt.mpr hb)
 refine wpAny_bind (wpAny_holding (wpAny_call_entry_kw slot_list_sort ⟨_,hoL,rfl⟩ entry_list_sort (TS.pN (R:=AA g)
  (G:=λs'=>s'.os=s.os/\AllBare s'.gens/\Un (sE X.stack) [] H H s.heap s'.heap/\gB X.prog X.w H s'.heap) hoL (by rw[length_map];exact hz) ?g0 ?gu ?gc ?fin) (o6 _ _)))
 case g0=>
  have k:∀b,b < s.heap.objs.size->(((h2.update (s.heap.objs.size+1) (Obj.mapSeq λ_=> #[])).push (seqObj "tuple" (as.map Value.ref).toArray 0)).push (seqObj "list" #[] 0)).get? b=s.heap.get? b:=λb hb=>by
   rw[get?_push_ne _ _ _ (ne_of_lt (by rw[size_push',size_update,hs2];omega)),get?_push_ne _ _ _ (ne_of_lt (by rw[size_update,hs2];omega)),get?_update_ne _ _ _ _ (ne_of_lt (by omega)),hold b hb]
  exact⟨rfl,I.bare,Un.refl.over k,gB.over I.hok I.hok k⟩
 case gu=>
  rintro s' gg ⟨os,bare,un,hok⟩;have k:∀b,b < s.heap.objs.size->(s'.heap.update (h2.objs.size+1) (Obj.mapSeq gg)).get? b=s'.heap.get? b:=λb hb=>get?_update_ne _ _ _ _ (ne_of_lt (by rw[hs2];omega));exact⟨os,bare,un.over k,gB.over I.hok hok k⟩
 case gc=>
  rintro v hv s' ⟨os,bare,un,hok⟩;obtain⟨a,ha,rfl⟩:=mem_map.mp hv;have I':Inv X pins σ H s':=I.Be (ch:=[]) os un hok bare (λb z=>by cases z);have hq':=hs a ha (λv H'=>v=.int (g a)/\H'=H) ⟨rfl,rfl⟩;have hl:([Value.ref a]++([]:List Value)).length=ps.length:=F.len _ _ _ _ hq';refine wpAny_call (codeAny_mono (F.run X.A.in1.in1 X.stack s' H ⟨[.ref a],[]⟩ [.ref a] [.ref a] _ E0 hr.in1.in1 I'.C7.in1.in1 (hb s' [.ref a] I'.m7 hl) (.cons rfl .nil) hq') λrr s2 hh=>?_);cases rr with
  |error e=>exact False.elim hh
  |ok fl=>
   cases fl with
   |next=>exact False.elim hh
   |brk=>exact False.elim hh
   |cont=>exact False.elim hh
   |ret u=>
    obtain⟨v,H',os2,bare2,un2,hok2,rv2,rfl,rfl⟩:=hh;obtain⟨t,rfl⟩:=rv2;refine⟨⟨_,t,rfl,a,rfl,rfl⟩,⟨os2.trans os,bare2,un.trans un2,hok2⟩,λb o hb hg=>?_⟩;rcases hb with rfl|rfl
    ·exact un2.keep _ _ hg na (nfr _ (le_succ _)) (λz=>by cases z)
    ·exact un2.keep _ _ hg nk (nfr _ (by rw[hs2];omega)) (λz=>by cases z)
 case fin=>
  rintro s' ks arr ⟨os,bare,un,hok⟩ ⟨e1,hae⟩ kk gO stb;refine⟨_,rfl,wpAny_pure ⟨_,rfl,?_⟩⟩;have km:=yO kk;have am:∀p∈arr.toList,TS.key TS.intKind p=g (d4 p.2)/\p.2=.ref (d4 p.2):=λp hp=>km p (stb.mem.mp hp);have zsnd:(ks.zip (as.map Value.ref)).map (λp=>d4 p.2)=as:=by
   have e1:(λp:Keyed=>d4 p.2)=d4 ∘ Prod.snd:=rfl;rw[e1,<-map_map,List.map_snd_zip (by rw[kk.len];exact le_refl _),map_map];exact map_id _
  have hzs:(arr.map (·.2)).toList=(arr.toList.map λp=>d4 p.2).map Value.ref:=by
   rw[Array.toList_map,map_map];exact map_congr_left λp hp=>(am p hp).2
  have perm:(arr.toList.map λp=>d4 p.2).Perm as:=by
   have:=stb.perm.map (λp:Keyed=>d4 p.2)
   rwa [zsnd]at this
  have pw:(arr.toList.map λp=>d4 p.2).Pairwise (λa b=>g a<=g b):=by
   rw[List.pairwise_map];refine List.Pairwise.imp_of_mem (λ{x y} hx hy hxy=>?_) gO;have h':TS.intKind.blt (TS.key TS.intKind y) (TS.key TS.intKind x)=false:=hxy;rw[(am x hx).1,(am y hy).1]at h';have h2':decide (g (d4 y.2) < g (d4 x.2))=false:=h';rw[decide_eq_false_iff_not]at h2';omega
  have flt:∀(l:List Keyed),(∀p∈l,TS.key TS.intKind p=g (d4 p.2))->∀i:Int,(l.map λp=>d4 p.2).filter (λa=>decide (g a=i))=(TS.fk TS.intKind i l).map λp=>d4 p.2:=λl hl i=>by
   rw[List.filter_map]
   congr 1
   refine filter_congr λp hp=>?_;show decide (g (d4 p.2)=i)=(!TS.intKind.blt (TS.key TS.intKind p) i && !TS.intKind.blt i (TS.key TS.intKind p));rw[hl p hp];show decide (g (d4 p.2)=i)=(!decide (g (d4 p.2) < i) && !decide (i < g (d4 p.2)));rw[Bool.eq_iff_iff,and_eq_true,not_eq_true',not_eq_true',decide_eq_true_iff,decide_eq_false_iff_not,decide_eq_false_iff_not];omega
  have fl:∀i:Int,(arr.toList.map λp=>d4 p.2).filter (λa=>decide (g a=i))=as.filter (λa=>decide (g a=i)):=λi=>by
   have e2:=flt (ks.zip (as.map Value.ref)) (λp hp=>(km p hp).1) i;rw[zsnd]at e2;rw[flt arr.toList (λp hp=>(am p hp).1) i,e2,stb i]
  have hkne:s.heap.objs.size+1≠h2.objs.size+1:=ne_of_lt (by rw[hs2];omega);have hae2:(s'.heap.update (h2.objs.size+1) (Obj.mapSeq λ_=> #[])).get? (s.heap.objs.size+1)=some (seqObj "list" #[] e1):=(get?_update_ne _ _ _ _ hkne).trans hae;have hend:=get?_update_seq hae2 (λ_=>arr.map (·.2));have k:∀b,b < s.heap.objs.size->((s'.heap.update (h2.objs.size+1) (Obj.mapSeq λ_=> #[])).update (s.heap.objs.size+1) (Obj.mapSeq λ_=>arr.map (·.2))).get? b=s'.heap.get? b:=λb hb=>by
   rw[get?_update_ne _ _ _ _ (ne_of_lt (by omega)),get?_update_ne _ _ _ _ (ne_of_lt (by rw[hs2];omega))]
  refine⟨.ref (s.heap.objs.size+1),_,I.Be (ch:=[]) os ((un.over k).Bg (le_succ _) na) ((gB.over I.hok hok k).Bg na ?_) bare (λb z=>by cases z),rfl,q _ _ na perm pw fl⟩;have pl':=perm.length_eq;have hz2:arr.map (·.2)=((arr.toList.map λp=>d4 p.2).map Value.ref).toArray:=by rw[<-hzs]
  obtain⟨e3,he3⟩:∃e3,((s'.heap.update (h2.objs.size+1) (Obj.mapSeq λ_=> #[])).update (s.heap.objs.size+1) (Obj.mapSeq λ_=>arr.map (·.2))).get? (s.heap.objs.size+1)=some (seqObj "list" (arr.map (·.2)) e3):=⟨_,hend⟩;refine⟨by rw[length_map,pl'];exact hz,(arr.toList.map λp=>d4 p.2).map Value.ref,e3,qG _,he3.trans ?_⟩;rw[hz2]
structure FP(X:Cx)(x:Str)(sp:Sp):Prop where
 ex:∃(k:Nat) (f:Addr) (fd:FuncData) (ps:List Str),eD X.prog X.w X.K X.mg X.base kg k f fd ps sp/\dC (k+2) X.A/\X.mg x=some (.ref f)/\Binds X.K fd ps []
 gl:Gl X x
 db:(x == ("__debug__" :Str))=false
theorem Here.LS {P:Program}{w:World}{K:FG0}{mg:Str->Option Value}{base:Heap}{sc:Scope}{N:List Str}{k j:Nat}{x:Str}{sp:Sp}(h:Here X P w K mg base sc N k) (G:Gd P w K mg base j x sp) (hg:sc.names.lookup x=some .globalImplicit) (hj:j+2<=k) (db:(x == ("__debug__" :Str))=false):FP X x sp:=by
 obtain⟨f,fd,ps,h1,h2,h3,h4⟩:=G.ex;obtain⟨rfl,rfl,rfl,rfl,rfl⟩:=And.intro h.pr (And.intro h.wd (And.intro h.fK (And.intro h.gm h.bs)));exact⟨⟨j,f,fd,ps,h1,h.room.mono hj,h2,h4⟩,h.gl hg,db⟩
theorem Bn {x:Str}{sp:Sp}{e:Expr}{t:TA}{p p2 kpos pos:Pos}(B:Bt X "sorted") (C:FP X x sp) (ha:PA X [e] t) (he:starEach [e] X.env=[(false,eval e X.env)]):
  PE X (.Call (.Name "sorted" p) [e] [⟨some "key",.Name x p2,kpos⟩] pos) (λσ H Q=>t σ H λxs H1=>Gr X.K sp xs H1 Q):=by
 intro pins s σ H Q I h;obtain⟨k,f,fd,ps,F,hr,nm,hb⟩:=C.ex;have hbt:backTo pos (starEach [e] X.env)=(false,eval e X.env)::backTo pos (starEach [] X.env):=by
  rw[he];rfl
 refine wpAny_Call_Name_kw (l7 I B.gl B.nm hE ?_ B.hn B.db);refine callWith_kw (dz (ha pos pins s σ H _ I h) λus s1 hpat=>?_) (by rw[he];rfl) (by rw[he];rfl);obtain⟨vs,H1,I1,r,q⟩:=hpat;exact kws_cons (nu I1 C.gl nm (kws_nil (vE F hr hb I1 r q)) C.db)
end
end L2
namespace J
open PySem PySem.Spec PyProof.Rows
open L2 (Cx V cK dv)
theorem HK {X:Cx}{x:Str}{sp:L2.Sp}{e:Expr}{t:L2.TA}{p p2 kpos pos:Pos}(B:L2.Bt X "sorted") (C:L2.FP X x sp) (ha:JA X [e] t) (h:L2.notStar e=true:=by rfl):
  JE X (.Call (.Name "sorted" p) [e] [⟨some "key",.Name x p2,kpos⟩] pos) (λσ H Q=>t σ H λxs H1=>L2.Gr X.K sp xs H1 Q):=⟨L2.Bn B C ha.out (L2.cZ h)⟩
theorem Iv{X:Cx}{c a b:Expr}{pos:Pos}{tA:L2.TT}{ta tb:L2.TE}(hc:JT X c tA)(ha:JE X a ta)(hb:JE X b tb):JE X (.IfExp c a b pos) (L2.Mm tA ta tb):=⟨L2.Ax hc.out ha.out hb.out⟩
end J
namespace L2
open PySem PySem.Spec PyProof.Rows
section
variable {X:Cx}
inductive I0(K:FG0)(x y:V)(H:Hp)(Q:Prop):Prop
 |mk(a b:Addr)(xs ys:List V)(hx:x=.ref a)(hy:y=.ref b)(s:cK K H a xs)(t:cK K H b ys)(l:xs.length=ys.length)
   (he:∀(i:Nat) u v,xs[i]? =some u->ys[i]? =some v->∃p q zs,u=.ref p/\v=.ref q/\dv K H p zs/\dv K H q zs/\∀z∈zs,jO z z=some true)(q:Q)
end
end L2
namespace J
open PySem PySem.Spec PyProof.Rows
open L2 (Cx V cK dv)
end J
namespace L2
open PySem PySem.Spec PyProof.Rows
section
variable {X:Cx}
theorem Du{P:Program}{w:World}{z:Str}{v:Value}(h:(cL P w).is (Sum.inr z) v=true):∃t,v=.str z t:=by
 cases v with
 |str x t=>
  have e:x=z:=by simpa [cL,gY,Value.isStrOf] using h
  exact⟨t,by rw[e]⟩
 |_=>simp[cL,gY,Value.isStrOf]at h
theorem xw:∀{us:List Value}{zs:List Str},us.length=zs.length->(∀(i:Nat) u z,us[i]? =some u->zs[i]? =some z->∃t,u=.str z t)->StrsAre us zs
 |[],[],_,_=>.nil
 |[],_::_,l,_=>by cases l
 |_::_,[],l,_=>by cases l
 |u::us,z::zs,l,h=>by
  obtain⟨t,rfl⟩:=h 0 u z rfl rfl;exact .cons _ _ (xw (Nat.succ.inj l) λi u z h1 h2=>h (i+1) u z h1 h2)
inductive Hr(xs:List V)(H:Hp)(Q:VK):Prop
 |mk(p:Addr)(kvs:List (Key×V))(zs:List Str)(e:xs=[.ref p])(s:H p=some (.dK kvs))(k:kvs.map (·.1)=zs.map Sum.inr)(l:zs.length < 64)(q:∀l zs',H l=none->zs.Nodup->zs'.Perm zs->sortedS zs'=true->Q (.ref l) (upd H l (.lst (zs'.map V.str))))
theorem fP(hc:X.calm=true):eR X (.builtin "sorted") (λxs H Q=>Hr xs H Q):=by
 intro pins s σ H xs us Q I r h;obtain⟨p,kvs,zs,rfl,hp,hk,l64,q⟩:=h;obtain⟨u,rfl,rx⟩:=vals1 r;cases rx;obtain⟨kz,hsm,vs,kv,o,es,ep,ho,ed,hdat,kof,prs,nd⟩:=EI I.hok hp;have kl:vs.length=zs.length:=by
  have:=congrArg List.length hk;rw[length_map,length_map,kv.length]at this;exact this
 have hsz:sizeLine=16777216:=sizeLine_eq;have zat:∀{j:Nat}{k:Key}{x:Value},vs[j]? =some (k,x)->∃z,zs[j]? =some z/\k=Sum.inr z:=λ{j k x} e=>by
  have e1:(vs.map (·.1))[j]? =some k:=by rw[getElem?_map,e];rfl
  rw[<-kv.keys,hk,getElem?_map]at e1;obtain⟨z,h1,h2⟩:=map_eq_some_iff.mp e1;exact⟨z,h1,h2.symm⟩
 have znd:zs.Nodup:=by
  rw[<-kv.keys,hk]at nd;exact(List.pairwise_map.mp nd).imp λh e=>h (by rw[e])
 refine call_function_entry_kw kind_sorted plain_sorted entry_sorted (args_sorted1 _) ?_;unfold Builtin.«sorted»;refine wpAny_bind (m:=checkCount "sorted" 1 1 _) (wpAny_pure ?_);refine wpAny_bind (PySem.W.kdu_collect (PySem.W.kdl_dict (knd:=cL X.prog X.w) (kvs:=vs) (ep:=ep) hsm) (I.ok.hd hc) ⟨o,es,ho,ed,hdat,kof,prs,nd⟩ (by omega) λh' tk acc kp it=>?_);obtain⟨al,ai⟩:=it;have sa:StrsAre acc.toList zs:=xw (by rw[length_toList];omega) λi u z h1 h2=>by
  rw[getElem?_toList]at h1;obtain⟨k,x,e1,e2⟩:=ai i u h1;obtain⟨z',e3,rfl⟩:=zat e1;rw[h2]at e3;cases e3;exact Du e2
 have al':acc.toList.length=zs.length:=by rw[length_toList];omega
 have pl:(h'.push (seqObj "list" acc.toList.toArray 0)).get? h'.objs.size=some (seqObj "list" acc.toList.toArray 0):=get?_push_size _ rfl;refine wpAny_bind (wpAny_newList ?_ (by omega));refine wpAny_bind (wpAny_holding (wpAny_call_entry slot_list_sort ⟨_,pl,rfl⟩ entry_list_sort (list_sort_treeK strKind_oneLt pl sa.keysOf (λv₁ v₂ rest e=>keyKind_strs (e ▸ sa)) (by omega) λst' a1 a2=>?_) (args_list_sort _)));obtain⟨ss',b1,b2,b3⟩:=sorted_out_str sa a1 a2;obtain⟨e,he⟩:=sortedHeap_at (out:=(arrOf st').map (·.2)) pl;have I':Inv X pins σ H { s with heap:=h',toks:=tk }:=I.un (t':=tk) (Un.kept kp) (I.hok.kept kp);refine⟨_,rfl,wpAny_pure ⟨_,rfl,.ref h'.objs.size,_,I'.laid (t':=tk) (o:=.lst (ss'.map V.str)) (λb u hb=>?_) (le_refl _) ⟨by rw[length_map,b2.length_eq];omega,_,e,lZ b1,he⟩,rfl,q _ _ (I'.hok.fresh (le_refl _)) znd b2 b3⟩⟩;have lt:=lt_size hb;exact(sortedHeap_old (ne_of_lt lt) (by rw[size_push'];exact lt_succ_of_lt lt)).trans ((get?_push_ne _ _ _ (ne_of_lt lt)).trans hb)
inductive Ht(K:FG0)(H:Hp)(z y:V):Prop
 |flat (e:z=y)(f:jO z z=some true)
 |tup (w v:Addr)(ws:List V)(hz:z=.ref w)(hy:y=.ref v)(s:dv K H w ws)(t:dv K H v ws)(f:∀x∈ws,jO x x=some true)
inductive GI(K:FG0)(x y:V)(H:Hp)(Q:Prop):Prop
 |mk(a b:Addr)(xs ys:List V)(hx:x=.ref a)(hy:y=.ref b)(s:cK K H a xs)(t:cK K H b ys)(l:xs.length=ys.length)
   (he:∀(i:Nat) u v,xs[i]? =some u->ys[i]? =some v->∃p q zs ws,u=.ref p/\v=.ref q/\dv K H p zs/\dv K H q ws/\zs.length=ws.length/\∀(j:Nat) z y,zs[j]? =some z->ws[j]? =some y->Ht K H z y)(q:Q)
end
end L2
namespace J
open PySem PySem.Spec PyProof.Rows
open L2 (Cx V cK dv)
theorem fP{X:Cx}(hc:X.calm=true):JF X (.builtin "sorted") (λxs H Q=>L2.Hr xs H Q):=⟨L2.fP hc⟩
end J
namespace L2
open PySem PySem.Spec PyProof.Rows
section
variable {X:Cx}
inductive Jx(K:FG0)(H:Hp)(z y:V):Prop
 |flat (e:z=y)(f:jO z z=some true)
 |rows (h:I0 K z y H True)
inductive L6(K:FG0)(x y:V)(H:Hp)(Q:VK):Prop
 |same (a b:Addr)(zs ws:List V)(hx:x=.ref a)(hy:y=.ref b)(s:dv K H a zs)(t:dv K H b ws)(l:zs.length=ws.length)(e:∀(j:Nat) z y,zs[j]? =some z->ws[j]? =some y->Jx K H z y)(q:Q (.bl false) H)
end
theorem lT{X:Cx}{e d:Expr}{ty td:TE}{pos:Pos}(hu:X.A.units+1 < cLine)(hi:PE X e ty)(ho:PE X d td)(hm:behindInMarks .NotIn d=false:=by rfl):PE X (.Compare e [.NotIn] [d] pos) (nE ty td):=AU (qD hu hi ho) hm
end L2
namespace J
open PySem PySem.Spec PyProof.Rows
open L2 (Cx V cK dv TE)
theorem lT{X:Cx}{e d:Expr}{ty td:TE}{pos:Pos}(hu:X.A.units+1 < cLine)(hi:JE X e ty)(ho:JE X d td)(hm:behindInMarks .NotIn d=false:=by rfl):JE X (.Compare e [.NotIn] [d] pos) (L2.nE ty td):=⟨L2.lT hu hi.out ho.out hm⟩
end J
namespace L2
open PySem PySem.Spec PyProof.Rows
section
variable {X:Cx}
inductive MZ(K:FG0)(rv:Bool)(sp:Sp)(xs:List V)(H:Hp)(Q:VK):Prop
 |mk(p:Addr)(as:List Addr)(g:Addr->Int)(e:xs=[.ref p])(s:cK K H p (as.map V.ref))(hs:∀a∈as,∀Q':VK,Q' (.int (g a)) H->sp [.ref a] H Q' E0)
   (q:∀(l:Addr)(ys:List Addr),H l=none->ys.Perm as->ys.Pairwise (λa b=>g a<=g b)->(∀i,ys.filter (λa=>decide (g a=i))=(if rv=true then as.reverse else as).filter (λa=>decide (g a=i)))->Q (.ref l) (upd H l (.lst ((if rv=true then ys.reverse else ys).map V.ref))))
end
end L2
namespace J
open PySem PySem.Spec PyProof.Rows
open L2 (Cx V cK dv)
end J
namespace L2
open PySem PySem.Spec PyProof.Rows
def MQ(d:Addr)(o:Obj)(kvs:List (Key×V)):It:=⟨λi H=>H d=some (.frz o (.dK kvs))/\i < kvs.length,λi H x H'=>H'=H/\∃z y,kvs[i]? =some (Sum.inr z,y)/\x=.str z,λi H=>H d=some (.frz o (.dK kvs))/\kvs.length<=i⟩
inductive Jc(x:V)(H:Hp)(R:It->Hp->Prop):Prop
 |mk(d:Addr)(kvs:List (Key×V))(e:x=.ref d)(r:Rd H d (.dK kvs))(sk:∀kv∈kvs,∃z,kv.1=Sum.inr z)(q:∀(o:Obj)(H':Hp),(∀b,b≠d->H' b=H b)->H' d=some (.frz o (.dK kvs))->R (MQ d o kvs) H')
def Nd(tl:TE):TI:=λσ H R=>tl σ H λx H1=>Jc x H1 R
section
variable {X:Cx}{tg:Expr}
end
end L2
namespace J
open PySem PySem.Spec PyProof.Rows L2
section
variable {X:Cx}{tg e:Expr}{te:TE}
end
end J
namespace L2
open PySem PySem.Spec PyProof.Rows
section
variable {X:Cx}
inductive Mu(K:FG0)(H:Hp)(q:Addr):Prop
 |saw (k:Int) (s:dv K H q [.str "saw",.int k])
 |heard (k:Int) (z:Str) (s:dv K H q [.str "heard",.int k,.str z])
inductive M0(K:FG0)(H:Hp)(a:Addr):Prop
 |mk(i j:Int)(z:Str)(q:Addr)(s:dv K H a [.int i,.int j,.str z,.ref q])(w:Mu K H q)
inductive Na(K:FG0)(xs:List V)(H:Hp)(Q:VK):Prop
 |mk(p:Addr)(as:List Addr)(e:xs=[.ref p])(s:cK K H p (as.map V.ref))(hs:∀a∈as,M0 K H a)
   (q:∀(l:Addr)(ys:List Addr),H l=none->ys.Perm as->Q (.ref l) (upd H l (.lst (ys.map V.ref))))
end
end L2
namespace J
open PySem L2
end J
namespace L2
open PySem PySem.Spec PyProof.Rows
structure K6(P:Program)(w:World)(outer:List Env)(H H':Hp)(s:Shared)(ea:Addr)(cls:Value)(B:Heap)(s':Shared):Prop where
 os:s'.os=s.os
 bare:AllBare s'.gens
 un:Un (sE outer) [] H H' s.heap s'.heap
 hok:gB P w H' s'.heap
 tr:∀b o,H' b≠none->s'.heap.get? b=some o->B.get? b=some o
 kp:∀b o,s.heap.get? b=some o->H b=none->b ∉ sE outer->B.get? b=some o
 th:∀b o,s.heap.get? b=some o->b ∉ sE outer->∃o',B.get? b=some o'
 fl:∃a0,Heap.FlyingW B outer ea cls a0 s'.heap
def Ke(P:Program)(w:World):zp:=λouter H s E e s'=>∃ea cls B H',e=.ref ea/\K6 P w outer H H' s ea cls B s'/\E cls none H'
section
variable {P:Program}{w:World}{outer:List Env}{H H':Hp}{s s':Shared}{ea:Addr}{cls:Value}{B:Heap}
end
def qN:List Str:=["__init__", "__getattribute__", "__getattr__", "__class__"]
def GV:List Value:=[.type "ValueError",.type "Exception",.type "BaseException",.type "object"]
structure wk(K:FG0)(C:Addr)(bm:List Value):Prop where
 ex:∃(nm q:Str) (N:Addr) (bs:List Value) (hdct:Bool) (sn:List Str) (sub:List Value) (ab:Bool) (col:Option Bool) (dd:Option Addr) (k0 k1 k2 k3 k5:Option Value),
  K.lookup C=some (excClassObj nm q C N bs bm hdct sn sub ab col dd k0 k1 k2 k3 k5 "ValueError.__new__")/\PySem.W.nsOkIn K N=true/\(∀n∈qN,nsIn K N n=some none)/\PySem.W.tailIn K GV bm=true
section
variable {X:Cx}
end
structure Mz(P:Program)(w:World)(K:FG0)(mg:Str->Option Value)(base:Heap)(k:Nat)(x:Str)(sp:Sp):Prop where
 ex:∃(f:Addr) (fd:FuncData) (ps:List Str),eD P w K mg base (Ke P w) k f fd ps sp/\mg x=some (.ref f)/\keepIn K (.ref f)=true/\Binds K fd ps []
def Lf(ea C:Addr):Heap->Prop:=λh=>∃ob,h.get? ea=some ob/\ob.cls=.ref C
inductive XP(X:Cx)(pins:List (Addr×Obj))(σ:St)(E:XK)(e:Value)(s':Shared):Prop
 |mk(H H':Hp)(s:Shared)(ea:Addr)(cls:Value)(B:Heap)(I:Inv X pins σ H s)(he:e=.ref ea)(F:K6 X.prog X.w X.stack H H' s ea cls B s')(q:E cls none H')
def MB(X:Cx)(st:List Stmt)(t:XK->TS):Prop:=∀(pins:List (Addr×Obj)) (s:Shared) (σ:St) (H:Hp) (D:Ends) (E:XK),Inv X pins σ H s->t E D σ H->wpAny (model X.prog X.w) X.A (execs st X.env) (SP X pins D) (XP X pins σ E) s
section
variable {X:Cx}
abbrev Cx.mk'(X:Cx)(e:Value):Cx:={ X with A:=X.A.mark (some e),calm:=false,xe:=λ_ _=>False }
end
section
variable {X:Cx}
end
section
variable {X:Cx}
inductive MP(X:Cx)(Ck:Addr)(i j:Nat)(D:Ends)(σ:St)(cls:Value)(H':Hp):Prop
 |mk(C:Addr)(bm:List Value)(e:cls=.ref C)(O:wk X.K C bm)(sub:(Value.ref C::bm).contains (.ref Ck)=true)(q:∀ea,H' ea=none->D.nx (((σ.set i (some (.ref ea))).set j (some (.ref ea))).set i none) (upd H' ea (.ext (Lf ea C))))
end
section
variable {prog:Program}{w:World}{A:Around}{E:Value->Shared->Prop}{h:Heap}{g:Array GenState}{d:Drawn}{t:Nat}{os:OsState}{a:Addr}{o:Obj}{vs:Array Value}
structure N9(h:Heap)(C Kc:Addr):Prop where
 ex:∃(nm q:Str) (N:Addr) (bs:List Value) (hdct:Bool) (sn:List Str) (sub:List Value) (ab:Bool) (col:Option Bool) (dd:Option Addr) (k0 k1 k2 k3 k5:Option Value) (newId:String) (mN:Str->Option Value),
  h.get? C=some (excClassObj nm q C N bs (.ref Kc::GV) hdct sn sub ab col dd k0 k1 k2 k3 k5 newId)/\h.Ns N mN/\∀n∈qN,mN n=none
 ek:∃(nm q:Str) (N:Addr) (bs:List Value) (hdct:Bool) (sn:List Str) (sub:List Value) (ab:Bool) (col:Option Bool) (dd:Option Addr) (k0 k1 k2 k3 k5:Option Value) (newId:String) (mN:Str->Option Value),
  h.get? Kc=some (excClassObj nm q Kc N bs GV hdct sn sub ab col dd k0 k1 k2 k3 k5 newId)/\h.Ns N mN/\∀n∈qN,mN n=none
end
section
open PySem.F
variable {prog:Program}{w:World}{A:Around}{E:Value->Shared->Prop}{h:Heap}{g:Array GenState}{d:Drawn}{t:Nat}{os:OsState}{a C Kc:Addr}{o:Obj}
end
inductive MF(K:FG0)(xs:List V)(H:Hp)(Q:VK):Prop
 |own (ea C Kc D:Addr)(b:Bool)(e:xs=[.ref ea,.ref D])(h:H ea=some (.ext (Lf ea C)))(OC:wk K C (.ref Kc::GV))(OK:wk K Kc GV)(k:kitOne K (.ref C) (.ref D)=some b)(q:Q (.bl b) H)
 |ty (ea C Kc:Addr)(n:String)(b:Bool)(e:xs=[.ref ea,.ty n])(h:H ea=some (.ext (Lf ea C)))(OC:wk K C (.ref Kc::GV))(OK:wk K Kc GV)(k:kitOne K (.ref C) (.type n)=some b)(q:Q (.bl b) H)
section
variable {X:Cx}
inductive E1(K:FG0)(H:Hp)(z y:V):Prop
 |flat (e:z=y)(f:jO z z=some true)
 |rows (h:GI K z y H True)
inductive KN(K:FG0)(x y:V)(H:Hp)(Q:VK):Prop
 |same (a b:Addr)(zs ws:List V)(hx:x=.ref a)(hy:y=.ref b)(s:dv K H a zs)(t:dv K H b ws)(l:zs.length=ws.length)(e:∀(j:Nat) z y,zs[j]? =some z->ws[j]? =some y->E1 K H z y)(q:Q (.bl false) H)
end
end L2
namespace J
open PySem PySem.Spec PyProof.Rows
open L2 (Cx V Hp St VK TE TT TA TS TG pK TI TO R2 Sp XK E0 kg eD dC Gl Binds RelV Vals cK dv fQ o7 cI Here Mz Ke wk)
section
variable {P:Program}{w:World}{K:FG0}{mg:Str->Option Value}{base:Heap}{x qual m:Str}{st:Stmt}{f C:Addr}{fd:FuncData}{N ps:List Str}{k:Nat}{sp:Sp}{xr:Str}{bJ:List Value}
end
section
variable {P:Program}{w:World}{K:FG0}{mg:Str->Option Value}{base:Heap}{x qual m:Str}{st:Stmt}{f C:Addr}{fd:FuncData}{N ps:List Str}{k j:Nat}{sp:Sp}
structure N5(X:Cx)(st:List Stmt)(t:XK->TS):Prop where
 out:L2.MB X st t
end
end J
namespace L2
open PySem PySem.Spec PyProof.Rows
section
variable {M:Model}{A:Around}{Ex:Value->Shared->Prop}{s:Shared}
end
def MU(X:Cx)(E:XK):Prop:=∀(pins:List (Addr×Obj)) (σ:St) (H1 H':Hp) (s1 s2:Shared) (ea:Addr) (cls:Value) (B:Heap) (C:Addr) (m:Str->Option Value) (cenv:Env) (use:Option (Value->Sem Unit)) (Q:Value->Shared->Prop) (acc:Value),Inv X pins σ H1 s1->K6 X.prog X.w X.stack H1 H' s1 ea cls B s2->E cls none H'->s1.heap.Ns C m->H1 C=none->C ∉ sE X.stack->X.s₀.heap.get? C=none->cenv.frame=X.env.frame->
 notedBy (model X.prog X.w) X.A cenv (λe s'=>compPost (model X.prog X.w) X.A X.xe use Q acc C (.error e) s') (.ref ea) s2
def NM(X:Cx)(c:Expr)(t:XK->St->Hp->Prop):Prop:=∀(pins:List (Addr×Obj)) (s:Shared) (σ:St) (H:Hp) (E:XK),Inv X pins σ H s->t E σ H->wpAny (model X.prog X.w) X.A (isTrue c X.env (eval c X.env)) (λ_ _=>False) (XP X pins σ E) s
structure KO(J:It)(n:Nat)(is:List Nat)(g:TG)(tx:XK->St->Hp->Prop)(E:XK)(σ:St)(H1:Hp):Prop where
 h:∀D,H1 D=none->J.go 0 (upd H1 D (.lst []))/\∀(os:St) v H3,os.length=n->J.yld 0 (upd H1 D (.lst [])) v H3->g v (os++dP is σ) H3 λσ' H4=>(∃os':St,os'.length=n/\σ'=os'++dP is σ)/\tx E σ' H4
section
variable {X:Cx}{xs:List Str}{tg:Expr}{pos:Pos}{elt iter:Expr}{ct:Expr}{scope:Scope}{wi:TI}{g:TG}{tx:XK->St->Hp->Prop}{is:List Nat}{ns:List Str}{E:XK}
end
structure Nr(X:Cx)(x:Str)(sp:Sp):Prop where
 ex:∃(k:Nat) (f:Addr) (fd:FuncData) (ps:List Str),eD X.prog X.w X.K X.mg X.base (Ke X.prog X.w) k f fd ps sp/\dC k X.A/\X.mg x=some (.ref f)/\keepIn X.K (.ref f)=true/\Binds X.K fd ps []
 db:(x == ("__debug__" :Str))=false
end L2
namespace J
open PySem PySem.Spec PyProof.Rows
open L2 (Cx V Hp St VK TE TT TA TS TG pK TI TO R2 Sp XK E0 kg eD dC Gl Binds RelV Vals cK dv fQ o7 cI Here Mz Ke wk)
section
variable {P:Program}{w:World}{K:FG0}{mg:Str->Option Value}{base:Heap}{x qual m:Str}{st:Stmt}{f C:Addr}{fd:FuncData}{N ps:List Str}{k j:Nat}{sp:Sp}
structure N6(X:Cx)(c:Expr)(t:XK->L2.St->Hp->Prop):Prop where
 out:L2.NM X c t
end
end J
namespace L2
open PySem PySem.Spec PyProof.Rows
def l8(c:Addr)(qual:Str):Heap->Prop:=λh=>∃oc vs t,h.get? c=some oc/\oc.data=.fields vs/\vs[1]? =some (.str qual t)
def IF(env:Env)(scope:Scope)(cl:List (Str×Addr)):Prop:=(∀y c,cl.lookup y=some c->env.cells.lookup y=some c)/\∀y∈scope.names,y.2=.free->cl.lookup y.1=env.cells.lookup y.1
def mB(env:Env)(name qual:Str)(params:Arguments)(body:List Stmt)(scope:Scope)(c q:Addr):Heap->Prop:=λh=>∃cl ctv doc pm,IF env scope cl/\h.get? q=some (fnMade name qual params body scope cl doc pm c ctv)
theorem Av{env:Env}{name qual:Str}{params:Arguments}{body:List Stmt}{scope:Scope}{c q:Addr}:∀h1 h2:Heap,mB env name qual params body scope c q h1->(∀o,h1.get? q=some o->h2.get? q=some o)->mB env name qual params body scope c q h2:=λh1 h2 h k=>by
 obtain⟨cl,ctv,doc,pm,e,g⟩:=h;exact⟨cl,ctv,doc,pm,e,k _ g⟩
theorem EZ{c:Addr}{qual:Str}:∀h1 h2:Heap,l8 c qual h1->(∀o,h1.get? c=some o->h2.get? c=some o)->l8 c qual h2:=λh1 h2 h k=>by
 obtain⟨oc,vs,t,e,r⟩:=h;exact⟨oc,vs,t,k _ e,r⟩
theorem l8.rec{h:Heap}{c:Addr}{qual:Str}(x:l8 c qual h):h.CodeRec (.ref c) qual:=by
 obtain⟨oc,vs,t,e,d,v⟩:=x;exact⟨c,oc,vs,t,rfl,e,d,v⟩
structure nQ(ps loc fs:List Str)(sc:Scope):Prop where
 kind:sc.kind=.function
 co:sc.isCoroutine=false
 gen:sc.isGenerator=false
 nd:(ps++loc++fs).Nodup
 par:∀x∈ps,sc.names.lookup x=some .local
 fre:∀x∈fs,sc.names.lookup x=some .free
 nocell:∀y∈sc.names,y.2≠.cell
structure EC(scope:Scope)(cl:List (Str×Addr))(fs:List Str)(fv:List V)(s:Shared)(H:Hp):Prop where
 inj:∀x y c,cl.lookup x=some c->cl.lookup y=some c->x=y
 has:∀x,scope.names.lookup x=some .free->∃c,cl.lookup x=some c
 cell:∀x c,cl.lookup x=some c->(∃v,s.heap.IsCell c v)/\H c=none
 val:∀(i:Nat) x v,fs[i]? =some x->fv[i]? =some v->∃c u,cl.lookup x=some c/\s.heap.IsCell c (some u)/\RelV v u
def x4(P:Program)(w:World)(K:FG0)(mg:Str->Option Value)(base:Heap)(N:List Str)(qual:Str)(scope:Scope)(f:Addr)(cd:Value)(cl:List (Str×Addr))(A:Around)(outer:List Env)(s:Shared)(H:Hp)(E:XK):Cx where
 prog:=P
 w:=w
 K:=K
 mg:=mg
 base:=base
 A:=A.deeper (envX qual scope s.heap.objs.size f cd cl)
 N:=N
 s₀:=s
 H₀:=H
 env:=envX qual scope s.heap.objs.size f cd cl
 outer:=outer
 stack:=envX qual scope s.heap.objs.size f cd cl::outer
 ex:=[]
 calm:=true
 fn:=λ_=>false
 pn:=[]
 xe:=λe s'=>wpAny (model P w) (A.deeper (envX qual scope s.heap.objs.size f cd cl)) (leaving (envX qual scope s.heap.objs.size f cd cl) e) (λ_ s''=>kg outer H s E e s'') (λe' s''=>kg outer H s E e' s'') s'
def gA(vs:List V)(loc:List Str)(fv:List V):St:=vs.map some++List.replicate loc.length none++fv.map some
theorem pF{ps:List Str}{us:List Value}{i:Nat}{x:Str}{u:Value}(nd:ps.Nodup)(hp:ps[i]? =some x)(hu:us[i]? =some u)(hl:us.length=ps.length):(ps.zip us).reverse.lookup x=some u:=by
 have m:(x,u)∈(ps.zip us).reverse:=mem_reverse.mpr (mem_of_getElem? (i:=i) (by rw[List.getElem?_zip_eq_some];exact⟨hp,hu⟩));have key:∀{l:List (Str×Value)},(l.map (·.1)).Nodup->(x,u)∈l->l.lookup x=some u:=by
  intro l
  induction l with
  |nil=>intro _ h;cases h
  |cons a r ih=>
   intro n h;obtain⟨k,v⟩:=a;rw[lookup_cons];rcases mem_cons.mp h with e|h'
   ·cases e
    simp
   ·have n':k ∉ r.map (·.1):=(nodup_cons.mp n).1
    have ne:(x == k)=false:=by
     rw[beq_eq_false_iff_ne];rintro rfl;exact n' (mem_map.mpr ⟨_,h',rfl⟩)
    rw[ne];exact ih (nodup_cons.mp n).2 h'
 refine key ?_ m;rw[List.map_reverse,(List.reverse_perm _).nodup_iff];have e:(ps.zip us).map (λx=>x.fst)=ps:=List.map_fst_zip (by omega);rw[e];exact nd
theorem BR{P:Program}{w:World}{K:FG0}{mg:Str->Option Value}{base:Heap}{k:Nat}{q c':Addr}{name qual:Str}{params:Arguments}{body:List Stmt}{scope:Scope}{cl:List (Str×Addr)}{doc pm ctv:Value}{ps loc fs:List Str}{fv vs:List V}{us:List Value}{A:Around}{outer:List Env}{s:Shared}{H:Hp}{args:Args}{Q:VK}{E:XK}
  (hq:s.heap.get? q=some (fnMade name qual params body scope cl doc pm c' ctv))(hcd:s.heap.CodeRec (.ref c') qual)(S:nQ ps loc fs scope)(hr:dC (k+1) A)(e0:m6 P w K mg base A outer s H)
  (hb:BindsTo s (fnX name qual params body scope cl .none .none doc pm none (.ref c') ctv) args (ps.zip us))(r:Vals vs us)(hl:vs.length=ps.length)(hf:fv.length=fs.length)(ce:EC scope cl fs fv s H)
  (hbody:∃t,sW (x4 P w K mg base (ps++loc++fs) qual scope q (.ref c') cl A outer s H E) body t/\t { nx:=λ_ H'=>Q .non H',rt:=Q } (gA vs loc fv) H):
  codeAny (model P w) A (.call (.ref q) args) (CR kg outer P w H s Q E) s:=by
 have lim:s.heap.NoLimit:=e0.mod.nolimit.keeps λb o e=>(e0.bs b o e).1;have ul:us.length=ps.length:=by rw[<-r.length];exact hl
 refine codeAny_call_function hr.depth hq rfl S.co S.gen rfl hcd (hb _ _ _ _ ?_);refine wpAny_newFunctionEnv (hk:=S.kind) S.nocell (λy hy=>S.par _ (of_mem_zip hy).1) λh1 hns hsb=>?_;have kp:∀b o,s.heap.get? b=some o->h1.get? b=some o:=λb o e=>hsb.extBut b o (ne_of_lt (lt_size e)) (get?_push_of_some _ e);refine⟨lim.keeps kp,codeAny_func ?_⟩;obtain⟨t,ht,hq'⟩:=hbody;have ndP:ps.Nodup:=(nodup_append.mp (nodup_append.mp S.nd).1).1;have I:Inv (x4 P w K mg base (ps++loc++fs) qual scope q (.ref c') cl A outer s H E) [] (gA vs loc fv) H { s with heap:=h1,toks:=s.toks+(ps.zip us).length }:=by
  have noA:∀b:Addr,b ∉ (x4 P w K mg base (ps++loc++fs) qual scope q (.ref c') cl A outer s H E).ex:=λb z=>absurd (show b∈([]:List Addr) from z) (by simp);refine⟨⟨e0.mod,S.kind,rfl,rfl,le_refl _,λy z c h1 h2=>ce.inj y z c h1 h2,λy hy=>?_,λy c h1 h2=>?_,λ_=>hr.hd,Around.frames_deeper e0.frames,.inr ⟨rfl,rfl⟩,λb z=>absurd z (noA b),e0.bs,e0.bsz,λb _ _=>noA b,λb z=>absurd z (noA b),e0.lq,e0.frf⟩,
   rfl,e0.bare,Un.kept kp,⟨_,hns,λi y v h1 h2 h3=>?_⟩,λy c h=>?_,e0.hok.fresh (le_refl _),λy c h=>(ce.cell y c h).2,λp hp=>absurd (show p∈([]:List (Addr×Obj)) from hp) (by simp),e0.hok.kept kp,?_⟩
  ·have hy:scope.names.lookup y=some .cell\/scope.names.lookup y=some .free:=hy
   rcases hy with hy|hy
   ·exact absurd rfl (S.nocell _ (PySem.mem_of_lookup hy))
   ·exact ce.has y hy
  ·exact nomatch (show false=true from h1)
  ·have h1:(ps++loc++fs)[i]? =some y:=h1
   unfold gA at h2;have ml:(vs.map (some:V->Option V)).length=ps.length:=by rw[length_map,hl]
   by_cases hi:i < ps.length
   ·rw[append_assoc,getElem?_append_left hi]at h1
    rw[append_assoc,getElem?_append_left (by rw[ml];exact hi),getElem?_map]at h2;obtain⟨v',hv',e⟩:=map_eq_some_iff.mp h2;cases e;obtain⟨u,hu,rv⟩:=r.get hv';exact⟨u,rv,.inl ⟨S.par y (mem_of_getElem? h1),pF ndP h1 hu ul⟩⟩
   ·by_cases hj:i < ps.length+loc.length
    ·rw[getElem?_append_left (by rw[length_append,ml,length_replicate];exact hj),getElem?_append_right (by rw[ml];omega),ml,List.getElem?_replicate,if_pos (by omega)]at h2
     cases h2
    ·rw[getElem?_append_right (by rw[length_append,ml,length_replicate];omega),length_append,ml,length_replicate,getElem?_map]at h2
     rw[getElem?_append_right (by rw[length_append];omega),length_append]at h1;obtain⟨v',hv',e⟩:=map_eq_some_iff.mp h2;cases e;obtain⟨c,u,h4,h5,rv⟩:=ce.val _ y v h1 hv';obtain⟨o,ho,hd⟩:=h5;exact⟨u,rv,.inr ⟨.inr (S.fre y (mem_of_getElem? h1)),c,h4,o,kp _ _ ho,hd⟩⟩
  ·obtain⟨⟨v,o,ho,hd⟩,_⟩:=ce.cell y c h
   exact⟨v,o,kp _ _ ho,hd⟩
  ·unfold gA
   show _=(ps++loc++fs).length;simp only[length_append,length_map,length_replicate];omega
 refine wpAny_mono (ht [] _ (gA vs loc fv) H _ I hq') (λfl s' hs=>?_) λe s' hs=>hs;have fin:∀{σ':St}{H':Hp}{v:V}{u:Value},Inv (x4 P w K mg base (ps++loc++fs) qual scope q (.ref c') cl A outer s H E) [] σ' H' s'->RelV v u->Q v H'->CE outer P w H s Q u s':=
  λ{σ' H' v u} J rv q=>⟨v,H',J.os,J.bare,J.base,J.hok,rv,q⟩
 cases fl with
 |ret u=>
  obtain⟨v,σ',H',J,rv,q⟩:=hs;exact fin J rv q
 |next=>
  obtain⟨σ',H',J,q⟩:=hs;exact fin (v:=V.non) (u:=Value.none) J rfl q
 |brk=>
  obtain⟨_,_,_,q⟩:=hs;exact False.elim q
 |cont=>
  obtain⟨_,_,_,q⟩:=hs;exact False.elim q
def kT(mg:Str->Option Value)(base:Heap):Prop:=∃bm o,mg "__builtins__" =some (.ref bm)/\bm≠builtinsNs/\bm≠mainGlobals/\base.get? bm=some o/\o.cls=.type "module" /\o.dict=some builtinsNs/\o.data=.plain
def Gq(env:Env)(P0:Addr)(name qual:Str)(params:Arguments)(body:List Stmt)(scope:Scope)(pos:Pos)(i:Nat):TS:=λD σ H=>∃ps,H P0=some (.tbl ps)/\TriplesOk ps.toList/\
 ((codeAmong pos ps.toList=none/\∀c q,H c=none->H q=none->q≠c->D.nx (σ.set i (some (.ref q))) (upd (upd (upd H P0 (.tbl (ps++ #[rawInt pos.line,rawInt pos.col,.ref c]))) c (.ext (l8 c qual))) q (.ext (mB env name qual params body scope c q))))\/
  ∃c,codeAmong pos ps.toList=some (.ref c)/\H c=some (.ext (l8 c qual))/\∀q,H q=none->D.nx (σ.set i (some (.ref q))) (upd H q (.ext (mB env name qual params body scope c q))))
theorem Fo{X:Cx}{name qual:Str}{params:Arguments}{body:List Stmt}{scope:Scope}{pos:Pos}{i:Nat}{c0 P0:Addr}(hnd:X.N.Nodup)(hi:X.N[i]? =some name)(hl:Loc X.env.scope name)(hf:X.fn name=true\/X.env.scope.names.lookup name=some .local)
  (hd0:params.defaults=[])(hk0:params.kw_defaults=[])(ha:annTrees params none X.env=[])(hq:qualnameIn X.env name name=qual)(hcode:X.env.code=.ref c0)(C:CodeHd X.base c0 P0)(hb:kT X.mg X.base)
  (hfr:∀y∈scope.names,y.2=.free->X.env.scope.names.lookup y.1=some .cell):PS X (.FunctionDef name params body [] none [] scope none name pos) (Gq X.env P0 name qual params body scope pos i):=by
 intro pins s σ H D I h;obtain⟨ps,hP,ht,h⟩:=h;obtain⟨cl,hcl,cA,cB⟩:=oX (env:=X.env) (scope:=scope) (λy hy hf=>I.ok.has y.1 (.inl (hfr y hy hf)));have hPo:s.heap.get? P0=some (tabObj ps):=I.hok P0 _ hP;have hg:s.heap.Ns mainGlobals X.mg:=I.mod.glob.keeps I.bk;obtain⟨bm,ob,b1,b2,b3,b4,b5⟩:=hb;have nP:∀b o,X.base.get? b=some o->b≠P0:=λb o e z=>by
  have:=(I.bs b o e).2;rw[z,hP]at this;cases this
 have hgP:mainGlobals≠P0:=by
  obtain⟨o,_,_,e,_⟩:=I.mod.glob;exact nP _ o e
 have hbA:s.heap.BuiltinsAt X.mg P0:=⟨bm,ob,b1,b2,b3,nP _ _ b4,I.bk _ _ b4,b5⟩;have neP:∀{b:Addr},H b=none->b≠P0:=λ{b} n z=>by
  rw[z,hP]at n;cases n
 refine PySem.W.nestDef_K hd0 hk0 ha ?_;rw[hq];rcases h with ⟨hn,h⟩|⟨c,hc,hcd,h⟩
 ·refine PySem.W.makeFunction_K hcl I.ok.glob hg hcode (C.keeps I.bk) hPo ht hn hgP hbA λc' ctv doc h' tk hx hge hlt hrec htb=>?_
  have szl:s.heap.objs.size<=h'.objs.size:=le_of_lt (Nat.lt_of_le_of_lt hge hlt);have nc:H c'=none:=I.hok.fresh hge;have nq:H h'.objs.size=none:=I.hok.fresh szl;have ncq:h'.objs.size≠c':=ne_of_gt hlt;have hqo:(h'.push (fnMade name qual params body scope cl doc ((X.mg "__name__").getD .none) c' ctv)).get? h'.objs.size=some (fnMade name qual params body scope cl doc ((X.mg "__name__").getD .none) c' ctv):=get?_push_size _ rfl;generalize hF:fnMade name qual params body scope cl doc ((X.mg "__name__").getD .none) c' ctv=F at hqo ⊢;have kp:∀b o,b≠P0->s.heap.get? b=some o->(h'.push F).get? b=some o:=λb o n e=>get?_push_of_some _ (hx b o n e);have htb':(h'.push F).get? P0=some (tabObj (ps++ #[rawInt pos.line,rawInt pos.col,.ref c'])):=get?_push_of_some _ htb;have up3:∀{b:Addr}{o o1 o2 o3:HO},H b=some o->b≠P0->upd (upd (upd H P0 o1) c' o2) h'.objs.size o3 b=some o:=λ{b o o1 o2 o3} e n=>by
   rw[cG (cE e nq),cG (cE e nc),cG n];exact e
  have neT:∀{b:Addr}{o:HO},H b=some o->(∀ps,o≠.tbl ps)->b≠P0:=λ{b o} e n z=>by
   rw[z,hP]at e;cases e;exact n _ rfl
  have hok:gB X.prog X.w (upd (upd (upd H P0 (.tbl (ps++ #[rawInt pos.line,rawInt pos.col,.ref c']))) c' (.ext (l8 c' qual))) h'.objs.size (.ext (mB X.env name qual params body scope c' h'.objs.size))) (h'.push F):=by
   intro b u e;by_cases hbq:b=h'.objs.size
   ·subst hbq
    rw[cD]at e;cases e;exact⟨⟨cl,ctv,doc,_,⟨cA,cB⟩,by rw[hqo,<-hF]⟩,⟨_,hqo⟩,Av⟩
   ·rw[cG hbq]at e
    by_cases hbc:b=c'
    ·subst hbc
     rw[cD]at e;cases e;obtain⟨c2,oc,vs,t,e2,e3,e4,e5⟩:=hrec;cases e2;exact⟨⟨oc,vs,t,get?_push_of_some _ e3,e4,e5⟩,⟨_,get?_push_of_some _ e3⟩,EZ⟩
    ·rw[cG hbc]at e
     by_cases hbP:b=P0
     ·subst hbP
      rw[cD]at e;cases e;exact htb'
     ·rw[cG hbP]at e
      refine(I.hok b u e).fJ (λd v hd q=>kp d v ?_ q) (λd q=>up3 q (neT q (by intro _ z;cases z))) λd xs q=>up3 q (neT q (by intro _ z;cases z));rintro rfl;rcases hd with z|z
      ·exact hbP z.symm
      ·rw[hP]at z
       cases z
  have I':Inv X pins σ (upd (upd (upd H P0 (.tbl (ps++ #[rawInt pos.line,rawInt pos.col,.ref c']))) c' (.ext (l8 c' qual))) h'.objs.size (.ext (mB X.env name qual params body scope c' h'.objs.size))) { s with heap:=h'.push F,toks:=tk }:=by
   refine I.step (g':=s.gens) (d':=s.drawn) (ch:=[]) (λ_ z=>nomatch z) (λb o _ _ _ e n=>kp b o (neP n) e) (λb o _ _ _ e n=>⟨o.slots,kp b o (neP n) e⟩) (λb o _ e n=>?_) (λb o _ e=>?_) (λb xs q=>up3 q (neT q (by intro _ z;cases z))) (λb o u q=>up3 q (neT q (by intro _ z;cases z))) (λb ps' q=>?_) (λm hm=>?_) hok I.bare
   ·have hb:=lt_size e
    rw[cG (ne_of_lt (lt_of_lt_of_le hb szl)),cG (ne_of_lt (lt_of_lt_of_le hb hge)),cG (neP n)];exact n
   ·by_cases z:b=P0
    ·subst z
     exact⟨_,htb'⟩
    ·exact⟨o,kp b o z e⟩
   ·by_cases z:b=P0
    ·subst z
     rw[hP]at q;cases q;refine⟨#[rawInt pos.line,rawInt pos.col,.ref c'],?_⟩;rw[cG (cE hP nq),cG (cE hP nc),cD]
    ·exact⟨#[],by rw[up3 q z];simp⟩
   ·obtain⟨o,es,ep,e,r⟩:=hm
    exact⟨o,es,ep,kp _ o (neP I.free) e,r⟩
  exact kR (v:=.ref h'.objs.size) I' hnd hi hl rfl (λs' I''=>⟨_,_,I'',h c' h'.objs.size nc nq ncq⟩) hf
 ·refine PySem.W.makeFunction_hit hcl I.ok.glob hg hcode (C.keeps I.bk) hPo ht hc hbA λctv doc h' tk hk hsz=>?_
  have nq:H h'.objs.size=none:=I.hok.fresh hsz;have I':=I.laid (a:=h'.objs.size) (o:=.ext (mB X.env name qual params body scope c h'.objs.size)) (t':=tk) (h':=h'.push (fnMade name qual params body scope cl doc ((X.mg "__name__").getD .none) c ctv)) (λb u e=>get?_push_of_some _ (hk b u e)) hsz
   ⟨⟨cl,ctv,doc,_,⟨cA,cB⟩,get?_push_size _ rfl⟩,⟨_,get?_push_size _ rfl⟩,Av⟩
  exact kR (v:=.ref h'.objs.size) I' hnd hi hl rfl (λs' I''=>⟨_,_,I'',h h'.objs.size nq⟩) hf
def ku(H:Hp)(P0:Addr)(pos:Pos)(qual:Str):Prop:=∃ps,H P0=some (.tbl ps)/\TriplesOk ps.toList/\(codeAmong pos ps.toList=none\/∃c,codeAmong pos ps.toList=some (.ref c)/\H c=some (.ext (l8 c qual)))
def jN(P0:Addr)(H H':Hp):Prop:=∀b o,b≠P0->H b=some o->H' b=some o
theorem jN.of{P0:Addr}{H H':Hp}(s:cH H H'):jN P0 H H':=λb o _ e=>s b o e
theorem jN.trans{P0:Addr}{H H1 H2:Hp}(s:jN P0 H H1)(s':jN P0 H1 H2):jN P0 H H2:=λb o n e=>s' b o n (s b o n e)
theorem ku.mono{H H':Hp}{P0:Addr}{pos:Pos}{qual:Str}(s:cH H H')(T:ku H P0 pos qual):ku H' P0 pos qual:=by
 obtain⟨ps,h1,h2,h3⟩:=T;refine⟨ps,s _ _ h1,h2,?_⟩;rcases h3 with h3|⟨c,h3,h4⟩
 ·exact .inl h3
 ·exact .inr ⟨c,h3,s _ _ h4⟩
theorem B8{env:Env}{P0:Addr}{name qual:Str}{params:Arguments}{body:List Stmt}{scope:Scope}{pos:Pos}{i:Nat}{D:Ends}{σ:St}{H:Hp}(T:ku H P0 pos qual)
  (k:∀c q H',jN P0 H H'->ku H' P0 pos qual->H q=none->q≠P0->H' q=some (.ext (mB env name qual params body scope c q))->H' c=some (.ext (l8 c qual))->D.nx (σ.set i (some (.ref q))) H'):Gq env P0 name qual params body scope pos i D σ H:=by
 obtain⟨ps,h1,h2,h3⟩:=T;refine⟨ps,h1,h2,?_⟩;rcases h3 with h3|⟨c,h3,h4⟩
 ·refine .inl ⟨h3,λc q nc nq ne=>?_⟩
  have e1:upd (upd (upd H P0 (.tbl (ps++ #[rawInt pos.line,rawInt pos.col,.ref c]))) c (.ext (l8 c qual))) q (.ext (mB env name qual params body scope c q)) c=some (.ext (l8 c qual)):=by
   rw[cG (Ne.symm ne),cD]
  refine k c q _ (λb o n e=>?_) ⟨ps++ #[rawInt pos.line,rawInt pos.col,.ref c],?_,?_,.inr ⟨c,?_,e1⟩⟩ nq (Ne.symm (cE h1 nq)) cD e1
  ·rw[cG (cE e nq),cG (cE e nc),cG n]
   exact e
  ·rw[cG (cE h1 nq),cG (cE h1 nc),cD]
  ·rw[toList_append]
   exact TriplesOk_snoc _ _ _ _ h2
  ·rw[toList_append]
   exact codeAmong_snoc _ h2 h3
 ·refine .inr ⟨c,h3,h4,λq nq=>?_⟩
  have s:=cH.upd (o:=.ext (mB env name qual params body scope c q)) nq;exact k c q _ (.of s) (ku.mono s ⟨ps,h1,h2,.inr ⟨c,h3,h4⟩⟩) nq (Ne.symm (cE h1 nq)) cD (s _ _ h4)
section
variable {X:Cx}{pins3 pins:List (Addr×Obj)}{σ3 σ':St}{H3 H:Hp}{s3 s:Shared}{N':List Str}{scope0:Scope}{cl0:List (Str×Addr)}{fp:List Addr}{C:Addr}
theorem ql(I3:Inv X pins3 σ3 H3 s3)(hfp:∀b∈fp,iY X pins3 H3 b)(I:Inv (dq X N' scope0 cl0 fp s3 H3 C) pins σ' H s){x:Str}{c:Addr}(e:X.env.cells.lookup x=some c):(∀v,s3.heap.IsCell c v->s.heap.IsCell c v)/\H c=none:=by
 obtain⟨v0,o,ho,hd⟩:=I3.cell x c e;have nf:c ∉ fp:=λz=>(hfp c z).2.2.2.2.1 x c e rfl;have n3:=I3.freeC x c e;have hu:Un (sE X.stack) fp H3 H s3.heap s.heap:=I.base;obtain⟨sl,e1⟩:=hu.any ho n3 nf;refine⟨λv h=>?_,hu.free c o ho n3 nf⟩;obtain⟨o',ho',hd'⟩:=h;rw[ho]at ho';cases ho';exact⟨_,e1,hd'⟩
theorem AW{scope:Scope}{cl:List (Str×Addr)}{fs:List Str}{fv:List V}{js:List Nat}(I3:Inv X pins3 σ3 H3 s3)(hfp:∀b∈fp,iY X pins3 H3 b)(I:Inv (dq X N' scope0 cl0 fp s3 H3 C) pins σ' H s)(ci:IF X.env scope cl)
  (hfr:∀y∈scope.names,y.2=.free->X.env.scope.names.lookup y.1=some .cell)(hjs:fs.map some=js.map λj=>X.N[j]?)(hv:fv.map some=dP js σ3)(hfc:∀x∈fs,scope.names.lookup x=some .free):EC scope cl fs fv s H:=by
 have has:∀x,scope.names.lookup x=some .free->∃c,cl.lookup x=some c/\X.env.cells.lookup x=some c:=λx hx=>by
  have m:=PySem.mem_of_lookup hx;obtain⟨c,hc⟩:=I3.ok.has x (.inl (hfr _ m rfl));exact⟨c,(ci.2 _ m rfl).trans hc,hc⟩
 refine⟨λx y c h1 h2=>I3.ok.inj x y c (ci.1 _ _ h1) (ci.1 _ _ h2),λx hx=>?_,λx c h=>?_,λi x v h1 h2=>?_⟩
 ·obtain⟨c,h,_⟩:=has x hx
  exact⟨c,h⟩
 ·obtain⟨k1,k2⟩:=ql I3 hfp I (ci.1 _ _ h)
  obtain⟨v,hv⟩:=I3.cell x c (ci.1 _ _ h);exact⟨⟨v,k1 v hv⟩,k2⟩
 ·have e1:(fs.map some)[i]? =some (some x):=by rw[getElem?_map,h1];rfl
  have e2:(fv.map some)[i]? =some (some v):=by rw[getElem?_map,h2];rfl
  rw[hjs,getElem?_map]at e1;unfold dP at hv;rw[hv,getElem?_map]at e2;obtain⟨j,hj,e1⟩:=map_eq_some_iff.mp e1;rw[hj]at e2;have e2:(σ3[j]?).join=some v:=Option.some.inj e2;have e3:σ3[j]? =some (some v):=by
   cases q:σ3[j]? with
   |none=>rw[q]at e2;cases e2
   |some o=>
    rw[q]at e2;have e2:o=some v:=e2;rw[e2]
  have fx:=hfc x (mem_of_getElem? h1);have cx:=hfr _ (PySem.mem_of_lookup fx) rfl;obtain⟨m,hn,hl⟩:=I3.loc;obtain⟨u,r,l⟩:=hl j x v e1 e3 (.inr (.inl cx));rcases l with ⟨hk,_⟩|⟨_,c,hc,z⟩
  ·have hk:X.env.scope.names.lookup x=some .local:=hk
   rw[cx]at hk;cases hk
  ·obtain⟨c',k1,k2⟩:=has x fx
   rw[hc]at k2;cases k2;exact⟨c,u,k1,(ql I3 hfp I hc).1 _ z,r⟩
end
abbrev Cp:=List V->List V->Hp->VK->Prop
structure AX(P:Program)(w:World)(K:FG0)(mg:Str->Option Value)(base:Heap)(k:Nat)(name qual:Str)(params:Arguments)(body:List Stmt)(scope:Scope)(ps loc fs:List Str)(sp:Cp):Prop where
 sc:nQ ps loc fs scope
 len:∀fv vs H Q,sp fv vs H Q->vs.length=ps.length/\fv.length=fs.length
 bind:∀(cl:List (Str×Addr)) (doc pm:Value) (c:Addr) (ctv:Value) (us:List Value),us.length=ps.length->bindArgs (fnX name qual params body scope cl .none .none doc pm none (.ref c) ctv) ⟨us,[]⟩=pure (ps.zip us)
 body:∀(f:Addr) (cd:Value) (cl:List (Str×Addr)) (A:Around) (outer:List Env) (s:Shared) (H:Hp) (E:XK) (fv vs:List V) (Q:VK),dC k (A.deeper (envX qual scope s.heap.objs.size f cd cl))->sp fv vs H Q->
  ∃t,sW (x4 P w K mg base (ps++loc++fs) qual scope f cd cl A outer s H E).BX body t/\t { nx:=λ_ H'=>Q .non H',rt:=Q } (gA vs loc fv) H
def D7(env:Env)(name qual:Str)(params:Arguments)(body:List Stmt)(scope:Scope)(i:Nat)(js:List Nat)(sp:Cp)(t:TA)(σ:St):TE:=λσ' H Q=>∃q c fv,σ'[i]? =some (some (.ref q))/\fv.map some=dP js σ/\H q=some (.ext (mB env name qual params body scope c q))/\
 t σ' H λvs H1=>H1 q=some (.ext (mB env name qual params body scope c q))/\H1 c=some (.ext (l8 c qual))/\sp fv vs H1 Q
theorem wG{P:Program}{w:World}{H:Hp}{h:Heap}{env:Env}{name qual:Str}{params:Arguments}{body:List Stmt}{scope:Scope}{c q:Addr}(ok:gB P w H h)(e:H q=some (.ext (mB env name qual params body scope c q))):PySem.W.FnAt q h:=by
 obtain⟨⟨cl,ctv,doc,pm,_,g⟩,_,_⟩:=ok q _ e;exact⟨_,_,_,_,g⟩
section
variable {X:Cx}{pins3:List (Addr×Obj)}{σ3:St}{H3:Hp}{s3:Shared}{N':List Str}{scope0:Scope}{cl0:List (Str×Addr)}{fp:List Addr}{C:Addr}
theorem Cd{k i:Nat}{name qual:Str}{params:Arguments}{body:List Stmt}{scope:Scope}{ps loc fs:List Str}{sp:Cp}{js:List Nat}{x:Str}{p pos:Pos}{e:Expr}{es:List Expr}{t:TA}(I3:Inv X pins3 σ3 H3 s3)(hfp:∀b∈fp,iY X pins3 H3 b)
  (G:AX X.prog X.w X.K X.mg X.base k name qual params body scope ps loc fs sp)(hr:dC (k+1) X.A)(hfr:∀y∈scope.names,y.2=.free->X.env.scope.names.lookup y.1=some .cell)(hjs:fs.map some=js.map λj=>X.N[j]?)
  (hn:PE (dq X N' scope0 cl0 fp s3 H3 C) (.Name x p) (gx i))(ha:PA (dq X N' scope0 cl0 fp s3 H3 C) (e::es) t)(h1:notStar e=true:=by rfl)(h2:es.all notStar=true:=by rfl):
  PE (dq X N' scope0 cl0 fp s3 H3 C) (.Call (.Name x p) (e::es) [] pos) (D7 X.env name qual params body scope i js sp t σ3):=by
 intro pins s σ' H Q I h;obtain⟨q,c,fv,hσ,hv,hq,h⟩:=h;refine wpAny_Call_Name_kw (dz (hn pins s σ' H (λv H'=>v=.ref q/\H'=H) I ⟨_,hσ,rfl,rfl⟩) λu s1 hp=>?_);obtain⟨v,H',I1,r,rfl,rfl⟩:=hp;obtain rfl:u=Value.ref q:=r;refine PySem.W.callWith_F (wG I1.hok hq) (dz (ha pos pins s1 σ' H' _ I1 h) λus s2 hp=>?_) (cZ h1) (fg h2);obtain⟨vs,H2,I2,r2,e1,e2,hsp⟩:=hp;refine⟨wG I2.hok e1,?_⟩;obtain⟨⟨cl,ctv,doc,pm,ci,hget⟩,_,_⟩:=I2.hok q _ e1;obtain⟨hcd,_,_⟩:=I2.hok c _ e2;obtain⟨l1,l2⟩:=G.len _ _ _ _ hsp;have e0:m6 X.prog X.w X.K X.mg X.base X.A X.stack s2 H2:=I2.C7;show wpAny _ _ (call (.ref q) us) _ _ s2;refine wpAny_call (codeAny_mono (BR (E:=E0) (Q:=Q) (vs:=vs) (us:=us) (args:=⟨us,[]⟩) hget hcd.rec G.sc hr e0 (.of_eq (G.bind _ _ _ _ _ us (by rw[<-r2.length];exact l1))) r2 l1 l2 (AW I3 hfp I2 ci hfr hjs hv λx hx=>G.sc.fre x hx) ?_) λr s' hq=>?_)
 ·obtain⟨t',a1,a2⟩:=G.body q (.ref c) cl X.A X.stack s2 H2 E0 fv vs Q (hr.deeper _) hsp
  exact⟨t',a1.BX,a2⟩
 ·cases r with
  |error e=>exact False.elim hq
  |ok fl=>
   cases fl with
   |ret u=>exact I2.after hq
   |next=>exact False.elim hq
   |brk=>exact False.elim hq
   |cont=>exact False.elim hq
end
def Hz(wi:TI)(n:Nat)(is:List Nat)(g:TG)(tc:TT)(te:St->TE):TE:=λσ H Q=>wi σ H λJ H1=>eZ J n is g tc (te σ) σ H1 Q
theorem F9{X:Cx}{xs:List Str}{tg:Expr}{pos:Pos}{elt iter:Expr}{cts:List Expr}{scope:Scope}{wi:TI}{g:TG}{tc:TT}{te:St->TE}{is:List Nat}{ns:List Str}{sc:Scope}{N:List Str}(hc:X.calm=true)(hi:PI X tg iter wi)(L:pD sc N xs scope is ns)(hg:∀cl fp s3 H3 C,PG (dq X (xs++ns) scope cl fp s3 H3 C) tg g)(hct:∀cl fp s3 H3 C,Gk (dq X (xs++ns) scope cl fp s3 H3 C) cts tc)
  (he:∀pins σ cl fp s3 H3 C,Inv X pins σ H3 s3->(∀b∈fp,iY X pins H3 b)->PE (dq X (xs++ns) scope cl fp s3 H3 C) elt (te σ))
  (hsc:X.env.scope=sc)(hN:X.N=N)(hs:∀x,foldedSetIterable iter X.env x=pure x):PE X (.ListComp elt [⟨tg,iter,cts,0⟩] scope pos) (Hz wi xs.length is g tc te):=by
 intro pins s σ H Q I h;rw[eval_ListComp];exact jD I h (λ_ _ z=>z) mD hc hi L hg hct (λcl fp s3 H3 C I3 f3=>he pins σ cl fp s3 H3 C I3 f3) hsc hN hs
def Il(P0:Addr)(H:Hp):Prop:=∀b,H b=none\/(∃o xs,H b=some (.frz o (.lst xs)))\/(b=P0/\H b=some (.tbl #[]))
theorem yH{P:Program}{w:World}{K:FG0}{mg mb:Str->Option Value}{CX:zp}{k:Nat}{fa a c0 P0:Addr}{fd:FuncData}{x:Str}{sp:Sp}{s₁:Shared}{vs:List Value}{ns:List Int}
  (KX:K.In s₁.heap) (hns:s₁.heap.Ns mainGlobals mg) (hb:s₁.heap.Ns builtinsNs mb) (hbb:∀x:Str,x≠ "__name__" ->mb x=bootBuiltins x) (hlim:s₁.heap.NoLimit) (hg:s₁.gens= #[])
  (hT:s₁.heap.get? P0=some (tabObj #[]))(hC0:CodeHd s₁.heap c0 P0)(hKP:K.lookup P0=none)(hbm:kT mg s₁.heap)
  (ha:s₁.heap.get? a=some { cls:=.type "list",data:=.seq vs.toArray }) (hi:IntsAre vs ns) (hl:ns.length<=sizeLine) (hr:dC k callerA)
  (F:∀base:Heap,K.In base->base.Ns mainGlobals mg->kT mg base->eD P w K mg base CX k fa fd [x] sp)(hbind:∀(s:Shared)(u:Value),BindsTo s fd ⟨[u],[]⟩ [(x,u)])
  (hsp:∀H:Hp,H P0=some (.tbl #[])->cK K H a (ns.map V.int)->sp [.ref a] H (λv _=>v=.bl true) λ_ _ _=>False)
  (hCX:∀H e s',CX [] H s₁ (λ_ _ _=>False) e s'->False):
  codeAny (model P w) callerA (.call (.ref fa) ⟨[.ref a],[]⟩) (λr s'=>r=.ok (.ret (.bool true))/\OldK s₁.heap s'.heap/\s'.os=s₁.os/\AllBare s'.gens) s₁:=by
 have rv:=qm hi;have lenV:=hi.length;have haP:a≠P0:=λz=>by
  rw[z,hT]at ha;cases ha
 have core:∀H:Hp,Il P0 H->cK K H a (ns.map V.int)->gB P w H s₁.heap->(∀b,H b≠none->b=a\/b=P0)->(H a≠none->K.lookup a=none)->H P0=some (.tbl #[])->
   codeAny (model P w) callerA (.call (.ref fa) ⟨[.ref a],[]⟩) (λr s'=>r=.ok (.ret (.bool true))/\OldK s₁.heap s'.heap/\s'.os=s₁.os/\AllBare s'.gens) s₁:=by
  intro H hO hS hok hA hK hP;have base_of:∀{b:Addr}{o:Obj},s₁.heap.get? b=some o->H b=none->(pW s₁.heap H).get? b=some o:=λe n=>Bc e n;have noA:∀{b:Addr}{o:Obj},s₁.heap.get? b=some o->(∀its n,o.data≠.seq its n)->(∀fs,o.data≠.fields fs)->H b=none:=λ{b o} e d1 d2=>by
   cases q:H b with
   |none=>rfl
   |some u=>
    exfalso
    rcases hA b (by rw[q];simp) with e'|e'
    ·subst e'
     rw[ha]at e;cases e;exact d1 _ _ rfl
    ·subst e'
     rw[hT]at e;cases e;exact d2 _ rfl
  have nsK:∀{b:Addr}{m:Str->Option Value},s₁.heap.Ns b m->(pW s₁.heap H).Ns b m:=λ{b m} hm=>by
   obtain⟨o,es,ep,e,d,r⟩:=hm;exact⟨o,es,ep,base_of e (noA e (by intro _ _ z;rw[d]at z;cases z) (by intro _ z;rw[d]at z;cases z)),d,r⟩
  have hKb:K.In (pW s₁.heap H):=λb o e=>base_of (KX b o e) (by
   cases q:H b with
   |none=>rfl
   |some u=>
    exfalso
    rcases hA b (by rw[q];simp) with e'|e'
    ·subst e'
     rw[hK (by rw[q];simp)]at e;cases e
    ·subst e'
     rw[hKP]at e;cases e)
  have hbm':kT mg (pW s₁.heap H):=by
   obtain⟨bm,o,b1,b2,b3,b4,b5,b6,b7⟩:=hbm;exact⟨bm,o,b1,b2,b3,base_of b4 (noA b4 (by intro _ _ z;rw[b7]at z;cases z) (by intro _ z;rw[b7]at z;cases z)),b5,b6,b7⟩
  have hM:Mod K mg (pW s₁.heap H):=⟨hKb,nsK hns,⟨mb,nsK hb,hbb⟩,let ⟨mc,h1,h2⟩:=hlim;⟨mc,nsK h1,h2⟩⟩;have e0:m6 P w K mg (pW s₁.heap H) callerA [] s₁ H:=⟨rfl,hM,λb o e=>CW e,le_of_eq (yI _ _),trivial,λb hb=>absurd (show b∈([]:List Addr) from hb) (by simp),hok,.of_eq hg⟩;refine codeAny_mono ((F _ hKb (nsK hns) hbm').run callerA [] s₁ H ⟨[.ref a],[]⟩ [.ref a] [.ref a] _ _ hr e0 (hbind s₁ (.ref a)) (.cons rfl .nil) (hsp H hP hS)) λr s' h=>?_;cases r with
  |error e=>exact(hCX H e s' h).elim
  |ok fl=>
   cases fl with
   |next=>exact False.elim h
   |brk=>exact False.elim h
   |cont=>exact False.elim h
   |ret u=>
    obtain⟨v,H',os,bare,un,hok',r',q⟩:=h;have q':v=.bl true:=q;subst q';obtain rfl:u=Value.bool true:=r';refine⟨rfl,⟨λb o e=>?_,λb o e=>un.there b o e (by simp)⟩,os,bare⟩;cases q:H b with
    |none=>exact .inl (un.keep b o e q (by intro z;exact absurd (show b∈([]:List Addr) from z) (by simp)) (by simp))
    |some u=>
     rcases hO b with z|⟨ob,xs,z⟩|⟨z,z'⟩
     ·rw[q]at z
      cases z
     ·have z2:=un.frzs b ob _ z
      obtain⟨e1,_⟩:=hok b _ z;obtain⟨e2,_⟩:=hok' b _ z2;rw[e]at e1;cases e1;exact .inl e2
     ·subst z
      obtain⟨more,z2⟩:=un.tbls b _ z';have e2:s'.heap.get? b=some { cls:=.none,data:=.fields (#[]++more) }:=hok' b _ z2;rw[hT]at e;cases e;exact .inr (.inl ⟨(hC0.tab hT).isCodeTable,rfl,#[],more,rfl,e2⟩)
 cases hk:K.lookup a with
 |some o=>
  have e:=KX a o hk;rw[ha]at e;cases e;refine core (λb=>if b=P0 then some (.tbl #[]) else none) (λb=>?_) (.inr ⟨_,vs.toArray,_,hk,rfl,rfl,rfl,by rw[size_toArray,lenV];exact hl,by simpa using rv⟩) (λb u z=>?_) (λb z=>?_) (λz=>absurd (if_neg haP) z) (if_pos rfl)
  ·by_cases hb:b=P0
   ·exact .inr (.inr ⟨hb,if_pos hb⟩)
   ·exact .inl (if_neg hb)
  ·by_cases hb:b=P0
   ·have z':=(if_pos hb).symm.trans z
    cases z';subst hb;exact hT
   ·have z':=(if_neg hb).symm.trans z
    cases z'
  ·by_cases hb:b=P0
   ·exact .inr hb
   ·exact absurd (if_neg hb) z
 |none=>
  refine core (λb=>if b=P0 then some (.tbl #[]) else if b=a then some (.frz { cls:=.type "list",data:=.seq vs.toArray } (.lst (ns.map V.int))) else none) (λb=>?_) (.inl (.inr ⟨{ cls:=.type "list",data:=.seq vs.toArray },(if_neg haP).trans (if_pos rfl)⟩)) (λb u z=>?_) (λb z=>?_) (λ_=>hk) (if_pos rfl)
  ·by_cases hb:b=P0
   ·exact .inr (.inr ⟨hb,if_pos hb⟩)
   ·by_cases hb2:b=a
    ·exact .inr (.inl ⟨_,_,(if_neg hb).trans (if_pos hb2)⟩)
    ·exact .inl ((if_neg hb).trans (if_neg hb2))
  ·by_cases hb:b=P0
   ·have z':=(if_pos hb).symm.trans z
    cases z';subst hb;exact hT
   ·by_cases hb2:b=a
    ·have z':=((if_neg hb).trans (if_pos hb2)).symm.trans z
     cases z';subst hb2;exact⟨ha,by rw[length_map];exact hl,vs,_,rv,ha⟩
    ·have z':=((if_neg hb).trans (if_neg hb2)).symm.trans z
     cases z'
  ·by_cases hb:b=P0
   ·exact .inr hb
   ·by_cases hb2:b=a
    ·exact .inl hb2
    ·exact absurd ((if_neg hb).trans (if_neg hb2)) z
theorem A0{l:PySem.W.OpenLaw}{n k:Nat}{q:Program}{loose:List Str}{XP:(Str->Option Value)->Heap->Prop}{YP:World->Heap->Prop}{d:DefRec}{K:Params->FG0}{CX:World->zp}{sp:World->Sp}{x:Str}{P0:Addr}
  (hn:l.most=some n)(hn2:n<=sizeLine)(hdf:d.params.defaults=[])(hr:dC k callerA)
  (hY:∀(w:World)(h:Heap),YP w h->(K w.params).In h/\h.get? P0=some (tabObj #[]))
  (F:∀(w:World)(mg:Str->Option Value)(fa:Addr)(h:Heap),(K w.params).In h->h.Ns mainGlobals mg->mg d.name=some (.ref fa)->
   (∃c0,codeHdIn (K w.params) c0 P0=true)/\(K w.params).lookup P0=none/\∃fd:FuncData,(∀(s:Shared) (u:Value),BindsTo s fd ⟨[u],[]⟩ [(x,u)])/\
    ∀base:Heap,(K w.params).In base->base.Ns mainGlobals mg->kT mg base->eD l.prog w (K w.params) mg base (CX w) k fa fd [x] (sp w))
  (hsp:∀(w:World) (H:Hp) (a:Addr) (ns:List Int),ns.length<=n->H P0=some (.tbl #[])->cK (K w.params) H a (ns.map V.int)->sp w [.ref a] H (λv _=>v=.bl true) λ_ _ _=>False)
  (hCX:∀(w:World) (H:Hp) (s:Shared) (e:Value) (s':Shared),CX w [] H s (λ_ _ _=>False) e s'->False):
  PySem.W.WalkO q loose XP YP l.row.toRowW d [] (λf vs=>PySem.call f vs):=by
 refine Att.ue hn hdf λw s₀ s₁ mg mb fa o pm cd doc a vs ns G Y ho hd hcd hmg hobj hints hlen hg=>?_;obtain⟨KX,hT⟩:=hY w _ Y;obtain⟨⟨c0,hc0⟩,hKP,fd,hb,hF⟩:=F w mg fa _ KX G.T.g hmg;obtain⟨bm,ob,b1,b2,b3,b4,b5,b6⟩:=G.T.bmain;have hbG:bm≠mainGlobals:=λz=>by
  obtain⟨o,es,ep,e,hd,_⟩:=G.T.g;rw[z,e]at b3;cases b3;rw[hd]at b6;cases b6
 exact yH KX G.T.g G.T.b G.T.builtins G.T.nolimit hg hT (PySem.W.codeHd_of_K KX hc0) hKP ⟨bm,ob,b1,b2,hbG,b3,b4,b5,b6⟩ hobj hints (le_trans hlen hn2) hr hF hb (λH hP hS=>hsp w H a ns hlen hP hS) λH e s'=>hCX w H s₁ e s'
end L2
namespace L2
open PySem PySem.Spec PyProof.Rows
structure fE(X:Cx)(P:Program)(w:World)(K:FG0)(mg:Str->Option Value)(base:Heap)(sc:Scope)(N:List Str)(k:Nat):Prop where
 pr:X.prog=P
 wd:X.w=w
 fK:X.K=K
 gm:X.mg=mg
 bs:X.base=base
 calm:X.calm=true
 own:PassesOwn (model X.prog X.w) X.A X.env X.xe
 hsc:X.env.scope=sc
 hN:X.N=N
 nd:X.N.Nodup
 room:dC k X.A
section
variable {X:Cx}{P:Program}{w:World}{K:FG0}{mg:Str->Option Value}{base:Heap}{sc:Scope}{N:List Str}{k j:Nat}{x m:Str}{sp:Sp}{C:Addr}
theorem fE.slot (h:fE X P w K mg base sc N k) (i:Nat) (hN:N[i]? =some x) (lc:Loc sc x) (db:(x == ("__debug__" :Str))=false) (cd:(x == ("__classdict__" :Str))=false) (hl:sc.names.lookup x=some .local:=by rfl):Slot X i x:=
 ⟨by rw[h.hN];exact hN,by rw[h.hsc];exact lc,.inr (by rw[h.hsc];exact hl),db,cd⟩
theorem fE.sl (h:fE X P w K mg base sc N k) (i:Nat) (x:Str) (hN:N[i]? =some x:=by rfl) (lc:Loc sc x:=by first|exact .inl rfl|exact .inr rfl) (db:(x == ("__debug__" :Str))=false:=by decide) (cd:(x == ("__classdict__" :Str))=false:=by decide) (hl:sc.names.lookup x=some .local:=by rfl):Slot X i x:=h.slot i hN lc db cd hl
theorem fE.gl(h:fE X P w K mg base sc N k)(hg:sc.names.lookup x=some .globalImplicit):Gl X x:=by
 show X.env.scope.names.lookup x=_;rw[h.hsc];exact hg
theorem fE.bt (h:fE X P w K mg base sc N k) (hm:mg x=none) (hg:sc.names.lookup x=some .globalImplicit) (hn:x≠ "__name__") (db:(x == ("__debug__" :Str))=false):Bt X x:=⟨h.gl hg,by rw[h.gm];exact hm,hn,db⟩
theorem fE.b (h:fE X P w K mg base sc N k) (hm:mg x=none) (hg:sc.names.lookup x=some .globalImplicit:=by rfl) (hn:x≠ "__name__" :=by decide) (db:(x == ("__debug__" :Str))=false:=by decide):Bt X x:=h.bt hm hg hn db
theorem fE.KQ (h:fE X P w K mg base sc N k) (G:Gd P w K mg base j x sp) (hg:sc.names.lookup x=some .globalImplicit) (hj:j<=k) (db:(x == ("__debug__" :Str))=false):DB X x sp:=by
 obtain⟨f,fd,ps,h1,h2,h3,h4⟩:=G.ex;obtain⟨rfl,rfl,rfl,rfl,rfl⟩:=And.intro h.pr (And.intro h.wd (And.intro h.fK (And.intro h.gm h.bs)));exact⟨⟨j,f,fd,ps,h1,h.room.mono hj,h2,h3,h4⟩,h.gl hg,db⟩
theorem fE.c (h:fE X P w K mg base sc N k) (G:Gd P w K mg base j x sp) (hg:sc.names.lookup x=some .globalImplicit:=by rfl) (hj:j<=k:=by first|decide|exact le_refl _) (db:(x == ("__debug__" :Str))=false:=by decide):DB X x sp:=h.KQ G hg hj db
theorem fE.LL (h:fE X P w K mg base sc N k) (i:Nat) (hN:N[i]? =some x) (hf:sc.names.lookup x=some .free) (db:(x == ("__debug__" :Str))=false) (cd:(x == ("__classdict__" :Str))=false):∀{p:Pos},J.JE X (.Name x p) (gx i):=λ{p}=>
 ⟨jP (by rw[h.hN];exact hN) (by rw[h.hsc];exact .inr (.inr hf)) db cd⟩
end
def Bj(x:Str)(st:Stmt)(name:Str):Str:=qualnameIn (envOfC x (cF st) 0 0 .none) name name
def Fc(s:Stmt):Pos:=match s with
 |.FunctionDef _ _ _ _ _ _ _ _ _ p=>p
 |_=>⟨0,0,0,0⟩
end L2
namespace J
open PySem PySem.Spec PyProof.Rows L2
section
variable {P:Program}{w:World}{K:FG0}{mg:Str->Option Value}{base:Heap}{x qual name:Str}{st:Stmt}{f c0 P0:Addr}{N ps loc fs:List Str}{k j:Nat}{sp:Sp}{cp:Cp}
theorem DU(S:nQ ps loc fs (L2.cF st))(len:∀fv vs H Q,cp fv vs H Q->vs.length=ps.length/\fv.length=fs.length)
  (bind:∀(cl:List (Str×Addr))(doc pm:Value)(c:Addr)(ctv:Value)(us:List Value),us.length=ps.length->bindArgs (fnX name qual (L2.di st) (L2.cP st) (L2.cF st) cl .none .none doc pm none (.ref c) ctv) ⟨us,[]⟩=pure (ps.zip us))
  (hbody:∀(X:Cx)(H:Hp)(fv vs:List V)(Q:VK),fE X P w K mg base (L2.cF st) (ps++loc++fs) k->cp fv vs H Q->∃t,sG X (L2.cP st) t/\t { nx:=λ_ H'=>Q .non H',rt:=Q } (gA vs loc fv) H):
  AX P w K mg base k name qual (L2.di st) (L2.cP st) (L2.cF st) ps loc fs cp:=by
 refine⟨S,len,bind,λf cd cl A outer s H E fv vs Q hr h=>?_⟩;obtain⟨t,h1,h2⟩:=hbody ((x4 P w K mg base (ps++loc++fs) qual (L2.cF st) f cd cl A outer s H E).BX) H fv vs Q ⟨rfl,rfl,rfl,rfl,rfl,rfl,PassesOwn.never,rfl,rfl,S.nd,hr⟩ h;exact⟨t,h1.out,h2⟩
theorem C5{oc kV doc pm ct:Value}{od an:Option Addr}{osl:Array (Option Value)}(lk:K.lookup f=some ⟨oc,od,.func (fnOf x x (L2.di st) (L2.cP st) (L2.cF st) .none kV doc pm an (.ref c0) ct),osl⟩)(hcd:codeIn K (.ref c0) x=true)(kp:keepIn K (.ref f)=true)(nm:mg x=some (.ref f))
  (bi:∀us:List Value,us.length=ps.length->bindArgs (fnOf x x (L2.di st) (L2.cP st) (L2.cF st) .none kV doc pm an (.ref c0) ct) ⟨us,[]⟩=pure (ps.zip us))(S:cI N ps (L2.cF st))(len:∀vs H Q E,sp vs H Q E->vs.length=ps.length)
  (hbody:∀(X:Cx)(H:Hp)(vs:List V)(Q:VK)(E:XK),Here X P w K mg base (L2.cF st) N k->X.env.code=.ref c0->(∀name,qualnameIn X.env name name=Bj x st name)->sp vs H Q E->∃t,sG X (L2.cP st) t/\t { nx:=λ_ H'=>Q .non H',rt:=Q } (L2.start N vs) H):Gd P w K mg base (k+1) x sp:=by
 refine⟨f,_,ps,Ek lk hcd S len λA outer s H vs Q E hr hsp=>?_,nm,kp,.all bi⟩;obtain⟨t,h1,h2⟩:=hbody ((L2.uK kg P w K mg base N x (L2.cF st) f (.ref c0) A outer s H E).BX) H vs Q E ⟨rfl,rfl,rfl,rfl,rfl,rfl,PassesOwn.never,rfl,rfl,S.nd,hr,λ_=>rfl⟩ rfl (λ_=>rfl) hsp;exact⟨t,h1.out.BX,h2⟩
variable {X:Cx}{sc:Scope}{params:Arguments}{body:List Stmt}{scope:Scope}{pos:Pos}{i:Nat}
theorem K7(hh:Here X P w K mg base sc N k)(hcode:X.env.code=.ref c0)(hq:qualnameIn X.env name name=qual)(hC:codeHdIn K c0 P0=true)(hM:K.In base)(hb:kT mg base)(S:L2.Slot X i name)(hd0:params.defaults=[])(hk0:params.kw_defaults=[])(ha:annTrees params none X.env=[])
  (hfr:∀y∈scope.names,y.2=.free->sc.names.lookup y.1=some .cell):JS X (.FunctionDef name params body [] none [] scope none name pos) (L2.Gq X.env P0 name qual params body scope pos i):=
 ⟨L2.Fo hh.nd S.hN S.lc S.fn hd0 hk0 ha hq hcode (by rw[hh.bs];exact PySem.W.codeHd_of_K hM hC) (by rw[hh.gm,hh.bs];exact hb) (by rw[hh.hsc];exact hfr)⟩
theorem MC{xs ns:List Str}{tg it e:Expr}{es cts:List Expr}{p p2:Pos}{y:Str}{wi:TI}{g:TG}{tc:TT}{t:TA}{is js:List Nat}{cs:Scope}(hh:Here X P w K mg base sc N k)(G:AX P w K mg base j name qual params body cs ps loc fs cp)(hj:j+1<=k)(hi:JI X tg it wi)(L:L2.pD sc N xs scope is ns)(hg:∀cl fp s3 H3 C,JG (L2.dq X (xs++ns) scope cl fp s3 H3 C) tg g)(hct:∀cl fp s3 H3 C,Jl (L2.dq X (xs++ns) scope cl fp s3 H3 C) cts tc)
  (hn:∀cl fp s3 H3 C,JE (L2.dq X (xs++ns) scope cl fp s3 H3 C) (.Name y p) (L2.gx i))(ha:∀cl fp s3 H3 C,JA (L2.dq X (xs++ns) scope cl fp s3 H3 C) (e::es) t)(hfr:∀y∈cs.names,y.2=.free->sc.names.lookup y.1=some .cell)(hjs:fs.map some=js.map λj=>N[j]?)(h1:L2.notStar e=true:=by rfl)(h2:es.all L2.notStar=true:=by rfl)
  (hs:∀x,foldedSetIterable it X.env x=pure x:=by intro _;rfl):JE X (.ListComp (.Call (.Name y p) (e::es) [] p2) [⟨tg,it,cts,0⟩] scope pos) (L2.Hz wi xs.length is g tc (L2.D7 X.env name qual params body cs i js cp t)):=by
 obtain⟨rfl,rfl,rfl,rfl,rfl⟩:=And.intro hh.pr (And.intro hh.wd (And.intro hh.fK (And.intro hh.gm hh.bs)));exact⟨L2.F9 hh.calm hi.out L (λcl fp s3 H3 C=>(hg cl fp s3 H3 C).out) (λcl fp s3 H3 C=>(hct cl fp s3 H3 C).out) (λpins σ cl fp s3 H3 C I3 f3=>L2.Cd I3 f3 G (hh.room.mono hj) (by rw[hh.hsc];exact hfr) (by rw[hh.hN];exact hjs) (hn cl fp s3 H3 C).out (ha cl fp s3 H3 C).out h1 h2) hh.hsc hh.hN hs⟩
end
end J
namespace L2
open PySem PySem.Spec PyProof.Rows
section
variable {X:Cx}
inductive NG(K:FG0)(H:Hp)(a:Addr):Prop
 |mk(z:Str)(i:Int)(q:Addr)(s:dv K H a [.str z,.int i,.ref q])(w:Mu K H q)
inductive MN(K:FG0)(xs:List V)(H:Hp)(Q:VK):Prop
 |mk(p:Addr)(as:List Addr)(e:xs=[.ref p])(s:cK K H p (as.map V.ref))(hs:∀a∈as,NG K H a)
   (q:∀(l:Addr)(ys:List Addr),H l=none->ys.Perm as->Q (.ref l) (upd H l (.lst (ys.map V.ref))))
end
end L2
namespace J
open PySem L2
end J
namespace L2
open PySem PySem.Spec PyProof.Rows
theorem zB{ta tb:TE}{σ:St}{H:Hp}{Q:VK}(b1 b2:Bool)(h1:∀Q':VK,Q' (.bl b1) H->ta σ H Q')(h2:b1=true->∀Q':VK,Q' (.bl b2) H->tb σ H Q')(k:Q (.bl (b1 && b2)) H):BF ta tb σ H Q:=by
 refine h1 _ ⟨b1,rfl,?_⟩;cases b1 with
 |true=>exact dk (h2 rfl _ k)
 |false=>exact cW k
theorem dS(a b:Str):decide (V.str a=V.str b)=decide (a=b):=decide_eq_decide.mpr ⟨V.str.inj,congrArg _⟩
theorem dI(a b:Int):decide (V.int a=V.int b)=decide (a=b):=decide_eq_decide.mpr ⟨V.int.inj,congrArg _⟩
end L2
namespace J
open PySem L2
theorem mG{X:Cx}:JC X .Lt (λx y H Q=>∃i j,x=.str i/\y=.str j/\Q (.bl (decide (i.cps.toList < j.cps.toList))) H):=⟨L2.mG⟩
end J
namespace L2
open PySem
theorem zr:0<=sizeLine:=by decide
theorem L7:1<=sizeLine:=by decide
theorem zU:2<=sizeLine:=by decide
theorem mM:3<=sizeLine:=by decide
theorem LC:4<=sizeLine:=by decide
theorem kI {K:FG0}{T n:String}(hT:T∈tys:=by decide) (hn:n∈["int", "bool", "str", "list", "tuple"]:=by decide):kitOne K (.type T) (.type n)=some (yR T n):=dF hT hn
theorem iP{c A B:Prop} [Decidable c] (h:A)(hc:c:=by decide+kernel):if c then A else B:=fu hc h
theorem iN{c A B:Prop} [Decidable c] (h:B)(hc:¬c:=by decide+kernel):if c then A else B:=iW hc h
end L2
namespace K25
open PySem L2
variable {P:Program}{w:World}{K:FG0}{mg:Str->Option Value}{base:Heap}{kw C:Addr}{f:Addr}{fd:FuncData}
def kept:List Str:=["person", "talk", "saw", "knew", "heard", "told", "not", "nobody", "never", "by", "from", "to"]
def uh:V->Bool
 |.int i=>decide (0<=i) && decide (i<=10 ^ Int.toNat 18)
 |_=>false
def ja:V->Bool
 |.str w=> !decide (w.cps.toList < ("a" :Str).cps.toList) && !decide (("z" :Str).cps.toList < w.cps.toList)
 |_=>false
def dX(z:Str):Bool:=decide (1<=(z.length:Int)) && (decide ((z.length:Int)<=12) && (((signs z).map ja).all id && !zu (.str z) (kept.map V.str)))
def xm:V->Bool
 |.str z=>dX z
 |_=>false
def xO(K:FG0):Sp:=λvs H Q _=>∃x T,vs=[x]/\fQ K H x (.type T)/\T∈tys/\Q (.bl (T == "int")) H
def lQ(K:FG0):Sp:=λvs H Q _=>∃x T,vs=[x]/\fQ K H x (.type T)/\T∈tys/\Q (.bl (uh x)) H
def oj(K:FG0):Sp:=λvs H Q _=>∃x T,vs=[x]/\fQ K H x (.type T)/\T∈tys/\(∀z,x=.str z->z.length<=sizeLine)/\∀H',cH H H'->Q (.bl (xm x)) H'
def lets:Str:= "bcdfghijklmnpqrstuvwxz"
def u7(z:Str):Prop:=∀c∈z.cps.toList,c∈lets.cps.toList
theorem yN:∀c∈lets.cps.toList,ja (.str ⟨#[c]⟩)=true:=by decide+kernel
theorem Ac:∀w∈kept,(w.cps.toList.any λc=> !lets.cps.toList.contains c)=true:=by decide+kernel
theorem nG(a b:Str):(a++b).cps.toList=a.cps.toList++b.cps.toList:=by
 show(a.cps++b.cps).toList=_;rw[toList_append]
theorem Dt(a b:Str):(a++b).length=a.length+b.length:=Array.size_append
theorem kB(a:Str):a.cps.toList.length=a.length:=length_toList
theorem su{a b:Str}(h:a.cps.toList=b.cps.toList):a=b:=by
 obtain⟨x⟩:=a;obtain⟨y⟩:=b;have:x=y:=Array.ext' h;rw[this]
theorem Ba{z:Str}(h:u7 z)(h1:1<=z.length)(h2:z.length<=12):dX z=true:=by
 unfold dX;rw[dT0 (by omega),dT0 (by omega),Bool.true_and,Bool.true_and,and_eq_true];refine⟨?_,?_⟩
 ·rw[all_map,all_eq_true]
  intro v hv;obtain⟨c,hc,rfl⟩:=mem_map.mp hv;exact yN c (h c hc)
 ·cases e:zu (.str z) (kept.map V.str) with
  |false=>rfl
  |true=>
   have e':(kept.map V.str).any (λy=>uO y (.str z))=true:=e;rw[any_map,any_eq_true]at e';obtain⟨w,hw,e2⟩:=e';have e3:(w == z)=true:=e2;have e4:w=z:=eq_of_beq e3;have ko:=Ac w hw;rw[any_eq_true]at ko;obtain⟨c,hc,nc⟩:=ko;rw[e4]at hc;have:=h c hc;rw[<-List.contains_iff_mem]at this;rw[this]at nc;cases nc
def putIn(z:Str)(k:Int)(c:Nat):Str:=(FA z none (some k)++(⟨#[c]⟩:Str))++FA z (some k) none
theorem CQ{a b:Str}(ha:u7 a)(hb:u7 b):u7 (a++b):=by
 intro c hc;rw[nG,mem_append]at hc;exact hc.elim (ha c) (hb c)
def KR(f:Nat->Str)(more:Str):Nat->List Str
 |0=>[]
 |i+1=>KR f more i++[f i,f i++more]
structure Kn(us:List Str):Prop where
 len:us.length=24
 nd:us.Nodup
 nm:∀z∈us,dX z=true
def Mv(i:Int):Nat:=lets.cps.toList.getD i.toNat 0
def cO(h:Int):Prop:=0<=h/\h<=10 ^ Int.toNat 18
theorem gU{h:Int}(k:cO h):uh (.int h)=true:=by
 show(decide (0<=h) && decide (h<=10 ^ Int.toNat 18))=true;rw[dT0 k.1,dT0 k.2];rfl
theorem AZ{z:Str}(h:dX z=true):z.length<=12:=by
 unfold dX at h;rw[and_eq_true,and_eq_true,decide_eq_true_iff,decide_eq_true_iff]at h;have:=h.2.1;omega
theorem x3{z:Str}(h:dX z=true):z.length<=sizeLine:=by
 have h1:=AZ h;have:sizeLine=16777216:=sizeLine_eq;omega
theorem l5{z:Str}(h:dX z=true):∀y,V.str z=V.str y->y.length<=sizeLine:=λy e=>by
 cases e;exact x3 h
structure fI(ps:List Str):Prop where
 lo:1<=ps.length
 hi:ps.length<=24
 nd:ps.Nodup
 nm:∀z∈ps,dX z=true
inductive d3  (ps:List Str)(H:Hp)(v:V):Prop
 |mk(a:Addr)(z:Str)(h:Int)(ta:Addr)(ws:List Str)(h0:v=.ref a)(h1:H a=some (.tup [.str z,.int h,.ref ta]))(h2:z∈ps)(h3:cO h)(h4:H ta=some (.tup (ws.map V.str)))(h5:1<=ws.length)(h6:ws.length<=6)(h7:∀x∈ws,dX x=true)
inductive eW  (ps:List Str)(H:Hp)(v:V):Prop
 |mk (a:Addr) (h:Int) (p q w:Str) (h0:v=.ref a) (h1:H a=some (.tup [.int h,.str p,.str q,.str w])) (h2:cO h) (h3:p∈ps) (h4:q∈ps) (h5:p≠q) (h6:(w= "both" \/w= "one"))
inductive fO  (ps:List Str)(H:Hp)(v:V):Prop
 |mk (a:Addr) (h0:v=.ref a) (h1:((∃(p:Str) (h:Int),H a=some (.tup [.str "knew",.str p,.int h])/\p∈ps/\cO h)\/    (∃(p:Str) (b:V),H a=some (.tup [.str "unheard",.str p,b])/\p∈ps/\(b=.non\/∃h:Int,b=.int h/\cO h))\/    (∃(p:Str) (h k:Int),H a=some (.tup [.str "silent",.str p,.int h,.int k])/\p∈ps/\cO h/\cO k/\h<=k)\/    (∃p q:Str,H a=some (.tup [.str "barred",.str p,.str q])/\p∈ps/\q∈ps/\p≠q)))
def Tk(H H':Hp):Prop:=∀b xs,H b=some (.tup xs)->H' b=some (.tup xs)
theorem Tk.of{H H':Hp}(s:cH H H'):Tk H H':=λb _ e=>s b _ e
theorem Tk.trans{H H1 H2:Hp}(a:Tk H H1)(b:Tk H1 H2):Tk H H2:=λc xs e=>b c xs (a c xs e)
theorem Tk.upd{H:Hp}{l:Addr}{xs ys:List V}(h:H l=some (.lst xs)):Tk H (upd H l (.lst ys)):=λb zs e=>by
 rw[cG (mO e h (by intro z;cases z))];exact e
theorem d3.mono{ps:List Str}{H H':Hp}{v:V}(s:Tk H H')(h:d3 ps H v):d3 ps H' v:=by
 obtain⟨a,z,h,ta,ws,e,ha,hz,hh,ht,r1,r2,r3⟩:=h;exact⟨a,z,h,ta,ws,e,s _ _ ha,hz,hh,s _ _ ht,r1,r2,r3⟩
theorem eW.mono{ps:List Str}{H H':Hp}{v:V}(s:Tk H H')(h:eW ps H v):eW ps H' v:=by
 obtain⟨a,h,p,q,w,e,ha,r1,r2,r3,r4,r5⟩:=h;exact⟨a,h,p,q,w,e,s _ _ ha,r1,r2,r3,r4,r5⟩
theorem fO.mono{ps:List Str}{H H':Hp}{v:V}(s:Tk H H')(h:fO ps H v):fO ps H' v:=by
 obtain⟨a,e,h⟩:=h;refine⟨a,e,?_⟩;rcases h with ⟨p,h,ha,r⟩|⟨p,b,ha,r⟩|⟨p,h,k,ha,r⟩|⟨p,q,ha,r⟩
 ·exact .inl ⟨p,h,s _ _ ha,r⟩
 ·exact .inr (.inl ⟨p,b,s _ _ ha,r⟩)
 ·exact .inr (.inr (.inl ⟨p,h,k,s _ _ ha,r⟩))
 ·exact .inr (.inr (.inr ⟨p,q,s _ _ ha,r⟩))
theorem BA{z:Str}{ps:List Str}(h:z∈ps):zu (.str z) (ps.map V.str)=true:=by
 show(ps.map V.str).any (λy=>uO y (.str z))=true;rw[any_map,any_eq_true];exact⟨z,h,by show(z == z)=true;exact beq_self_eq_true z⟩
theorem yS(ps:List Str):(ps.map V.str).all dE=true:=by
 rw[all_map,all_eq_true];intro z _;rfl
theorem all_true{α:Type}{f:α->Bool}{xs:List α}(h:∀x∈xs,f x=true):(xs.map f).all id=true:=by
 rw[all_map,all_eq_true];exact λx hx=>h x hx
theorem jW{xs:List V}{n:Nat}{m:Int}(h:xs.length=n)(hm:(n:Int)≠m):¬decide (V.int (xs.length:Nat)=V.int m)=true:=by
 rw[decide_eq_true_iff,h];intro e;injection e with e
 exact hm e
theorem rY{xs:List V}{n:Nat}{m:Int}(h:xs.length=n)(hm:(n:Int)=m):decide (V.int (xs.length:Nat)=V.int m)=true:=by
 rw[decide_eq_true_iff,h,hm]
inductive yW  (vs:List V)(H:Hp)(Q:VK):Prop
 |mk(p:Addr)(xs:List V)(m:Int)(h0:vs=[.ref p,.int m])(h1:H p=some (.lst xs))(h2:(xs.length:Int)<=m)(h3:Q (.bl true) H)
def ig  :Sp:=λvs H Q _=>yW  vs H Q
inductive AV  (vs:List V)(H:Hp)(Q:VK):Prop
 |mk(p:Addr)(xs:List V)(m:Int)(h0:vs=[.ref p,.int m])(h1:H p=some (.tup xs))(h2:(xs.length:Int)=m)(h3:Q (.bl true) H)
def nD  :Sp:=λvs H Q _=>AV  vs H Q
inductive yV  (vs:List V)(H:Hp)(Q:VK):Prop
 |mk(p:Addr)(ps:List Str)(z:Str)(h0:vs=[.ref p,.str z])(h1:H p=some (.lst (ps.map V.str)))(h2:fI ps)(h3:z∈ps)(h4:∀H',cH H H'->Q (.bl true) H')
def gS  :Sp:=λvs H Q _=>yV  vs H Q
inductive yj  (vs:List V)(H:Hp)(Q:VK):Prop
 |mk(p:Addr)(ps:List Str)(y z:Str)(h0:vs=[.ref p,.str y,.str z])(h1:H p=some (.lst (ps.map V.str)))(h2:fI ps)(h3:y∈ps)(h4:z∈ps)(h5:y≠z)(h6:∀H',cH H H'->Q (.bl true) H')
def lp  :Sp:=λvs H Q _=>yj  vs H Q
inductive D0  (vs:List V)(H:Hp)(Q:VK):Prop
 |mk(t:Addr)(ws:List Str)(h0:vs=[.ref t])(h1:H t=some (.tup (ws.map V.str)))(h2:1<=ws.length)(h3:ws.length<=6)(h4:(∀x∈ws,dX x=true))(h5:∀H',cH H H'->Q (.bl true) H')
def wz  :Sp:=λvs H Q _=>D0  vs H Q
inductive Al  (vs:List V)(H:Hp)(Q:VK):Prop
 |mk(p:Addr)(ps:List Str)(v:V)(h0:vs=[.ref p,v])(h1:H p=some (.lst (ps.map V.str)))(h2:fI ps)(h3:d3 ps H v)(h4:∀H',cH H H'->Q (.bl true) H')
def rX  :Sp:=λvs H Q _=>Al  vs H Q
inductive F7  (vs:List V)(H:Hp)(Q:VK):Prop
 |mk (w:Str) (h0:vs=[.str w]) (h1:(w= "both" \/w= "one")) (h2:∀H',cH H H'->Q (.bl true) H')
def zW  :Sp:=λvs H Q _=>F7  vs H Q
inductive CI  (vs:List V)(H:Hp)(Q:VK):Prop
 |mk(p:Addr)(ps:List Str)(v:V)(h0:vs=[.ref p,v])(h1:H p=some (.lst (ps.map V.str)))(h2:fI ps)(h3:eW ps H v)(h4:∀H',cH H H'->Q (.bl true) H')
def vQ  :Sp:=λvs H Q _=>CI  vs H Q
inductive DI  (vs:List V)(H:Hp)(Q:VK):Prop
 |mk(h k:Int)(h0:vs=[.int h,.int k])(h1:cO h)(h2:cO k)(h3:h<=k)(h4:Q (.bl true) H)
def u9  :Sp:=λvs H Q _=>DI  vs H Q
inductive Bf  (vs:List V)(H:Hp)(Q:VK):Prop
 |mk (p:Addr) (ps:List Str) (kd y:Str) (b:V) (h0:vs=[.ref p,.str kd,.str y,b]) (h1:H p=some (.lst (ps.map V.str))) (h2:fI ps) (h3:y∈ps) (h4:((kd= "barred" /\∃z,b=.str z/\z∈ps/\y≠z)\/(kd= "unheard" /\(b=.non\/∃h:Int,b=.int h/\cO h))\/(kd= "knew" /\∃h:Int,b=.int h/\cO h))) (h5:∀H',cH H H'->Q (.bl true) H')
def r8  :Sp:=λvs H Q _=>Bf  vs H Q
inductive yv  (vs:List V)(H:Hp)(Q:VK):Prop
 |mk(p:Addr)(ps:List Str)(v:V)(h0:vs=[.ref p,v])(h1:H p=some (.lst (ps.map V.str)))(h2:fI ps)(h3:fO ps H v)(h4:∀H',cH H H'->Q (.bl true) H')
def n9  :Sp:=λvs H Q _=>yv  vs H Q
inductive v3  (vs:List V)(H:Hp)(Q:VK):Prop
 |mk(p:Addr)(ps:List Str)(h0:vs=[.ref p])(h1:H p=some (.lst (ps.map V.str)))(h2:fI ps)(h3:∀H',cH H H'->Q (.bl true) H')
def lF  :Sp:=λvs H Q _=>v3  vs H Q
inductive DS  (M:List Str->Hp->V->Prop)(n:Nat)(vs:List V)(H:Hp)(Q:VK):Prop
 |mk(p q:Addr)(ps:List Str)(xs:List V)(h0:vs=[.ref p,.ref q])(h1:H p=some (.lst (ps.map V.str)))(h2:fI ps)(h3:H q=some (.lst xs))(h4:xs.length<=n)(h5:(∀v∈xs,M ps H v))(h6:∀H',cH H H'->Q (.bl true) H')
def iu  (M:List Str->Hp->V->Prop)(n:Nat):Sp:=λvs H Q _=>DS M n vs H Q
def mT(p s t y:Addr):List (Str×V):=fF "kept_sayings" (.ref y) (fF "kept_talks" (.ref t) (fF "kept_sights" (.ref s) (fF "kept_persons" (.ref p) [])))
theorem Hu(p s t y:Addr):(mT p s t y).lookup ("kept_persons" :Str)=some (.ref p):=by
 unfold mT;rw[cR,if_neg (by decide+kernel),cR,if_neg (by decide+kernel),cR,if_neg (by decide+kernel),cR,if_pos rfl]
theorem Ij(p s t y:Addr):(mT p s t y).lookup ("kept_sights" :Str)=some (.ref s):=by
 unfold mT;rw[cR,if_neg (by decide+kernel),cR,if_neg (by decide+kernel),cR,if_pos rfl]
theorem Eo(p s t y:Addr):(mT p s t y).lookup ("kept_talks" :Str)=some (.ref t):=by
 unfold mT;rw[cR,if_neg (by decide+kernel),cR,if_pos rfl]
theorem JZ(p s t y:Addr):(mT p s t y).lookup ("kept_sayings" :Str)=some (.ref y):=by
 unfold mT;rw[cR,if_pos rfl]
theorem eB (p s t y:Addr){m:Str}(h1:¬m= "kept_sayings") (h2:¬m= "kept_talks") (h3:¬m= "kept_sights") (h4:¬m= "kept_persons"):(mT p s t y).lookup m=none:=by
 unfold mT;rw[cR,if_neg h1,cR,if_neg h2,cR,if_neg h3,cR,if_neg h4];rfl
structure Parts(H:Hp)(ps:List Str)(ss ts ys:List V):Prop where
 ok:fI ps
 sl:ss.length<=24
 sg:∀v∈ss,d3 ps H v
 tl:ts.length<=120
 tg:∀v∈ts,eW ps H v
 yl:ys.length<=60
 yg:∀v∈ys,fO ps H v
theorem Parts.mono{H H':Hp}{ps:List Str}{ss ts ys:List V}(s:Tk H H')(g:Parts H ps ss ts ys):Parts H' ps ss ts ys:=
 ⟨g.ok,g.sl,λv h=>(g.sg v h).mono s,g.tl,λv h=>(g.tg v h).mono s,g.yl,λv h=>(g.yg v h).mono s⟩
structure Bk(C:Addr)(H:Hp)(x p s t y:Addr)(ps:List Str)(ss ts ys:List V):Prop where
 ob:∃dx,H x=some (.ins C dx (mT p s t y))
 hp:H p=some (.lst (ps.map V.str))
 hs:H s=some (.lst ss)
 ht:H t=some (.lst ts)
 hy:H y=some (.lst ys)
theorem Bk.mono{C:Addr}{H H':Hp}{x p s t y:Addr}{ps:List Str}{ss ts ys:List V}(m:cH H H')(b:Bk C H x p s t y ps ss ts ys):Bk C H' x p s t y ps ss ts ys:=by
 obtain⟨⟨dx,e⟩,h1,h2,h3,h4⟩:=b;exact⟨⟨dx,m _ _ e⟩,m _ _ h1,m _ _ h2,m _ _ h3,m _ _ h4⟩
inductive C9  (C:Addr)(vs:List V)(H:Hp)(Q:VK):Prop
 |mk(x dx p a b c:Addr)(ps:List Str)(ss ts ys:List V)(h0:vs=[.ref x,.ref p,.ref a,.ref b,.ref c])(h1:H x=some (.ins C dx []))(h2:H p=some (.lst (ps.map V.str)))(h3:H a=some (.lst ss))(h4:H b=some (.lst ts))(h5:H c=some (.lst ys))(h6:Parts H ps ss ts ys)(h7:∀(p' s' t' y':Addr)(H':Hp),H p'=none->H s'=none->H t'=none->H y'=none->Bk C H' x p' s' t' y' ps ss ts ys->(∀d o,H d=some o->d≠x->H' d=some o)->Q .non H')
def wc  (C:Addr):Sp:=λvs H Q _=>C9 C vs H Q
structure Txt(K:FG0)(mg:Str->Option Value)(kw C:Addr):Prop where
 b_isinstance:mg "isinstance" =none
 b_int:mg "int" =none
 b_bool:mg "bool" =none
 b_str:mg "str" =none
 b_len:mg "len" =none
 b_all:mg "all" =none
 b_range:mg "range" =none
 b_list:mg "list" =none
 b_tuple:mg "tuple" =none
 b_set:mg "set" =none
 b_zip:mg "zip" =none
 b_enumerate:mg "enumerate" =none
 b_min:mg "min" =none
 b_max:mg "max" =none
 b_any:mg "any" =none
 b_sorted:mg "sorted" =none
 b_dict:mg "dict" =none
 b_sum:mg "sum" =none
 b_reversed:mg "reversed" =none
 kwm:mg "KEPT_WORDS" =some (.ref kw)
 kwt:∃(o:Obj) (its:Array Value) (n:Nat),K.lookup kw=some o/\o.cls=.type "tuple" /\o.data=.seq its n/\its.size<=sizeLine/\Vals (kept.map V.str) its.toList
 g_MOST_PERSONS:∃u,mg "MOST_PERSONS" =some u/\RelV (.int 24) u
 g_MOST_SIGHTS:∃u,mg "MOST_SIGHTS" =some u/\RelV (.int 24) u
 g_MOST_TALKS:∃u,mg "MOST_TALKS" =some u/\RelV (.int 120) u
 g_MOST_SAYINGS:∃u,mg "MOST_SAYINGS" =some u/\RelV (.int 60) u
 g_MOST_WORDS:∃u,mg "MOST_WORDS" =some u/\RelV (.int 6) u
 cl:uN K C
 nP:gq K C "kept_persons"
 nS:gq K C "kept_sights"
 nT:gq K C "kept_talks"
 nY:gq K C "kept_sayings"
theorem Nm:cI ["thing"] ["thing"] (cF iI):={}
theorem zL (F:o7 K "is_whole" "is_whole" iI f fd) (T:Txt K mg kw C):eD P w K mg base kg 1 f fd ["thing"] (xO K):=by
 refine F.ok Nm (λvs H Q E h=>?_) (λcdv A outer s H vs Q E hr h=>?_)
 ·obtain⟨x,t,rfl,_⟩:=h
  rfl
 ·obtain⟨x,t,rfl,ty,ht,k⟩:=h
  refine⟨_,kG (oU (qK (gZ k6 rfl T.b_isinstance df (fw (pv 0) (fw (nF (v:=.ty "int") rfl T.b_int v7 rfl) j9)))
   (rE (oq (gZ k6 rfl T.b_isinstance df (fw (pv 0) (fw (nF (v:=.ty "bool") rfl T.b_bool C4 rfl) j9))))))),?_⟩
  refine⟨_,rfl,_,_,_,_,rfl,ty,dF ht (by decide),_,rfl,?_⟩;refine du (λh1=>?_) (λh1=>?_)
  ·refine⟨_,rfl,_,_,_,_,rfl,ty,dF ht (by decide),_,rfl,?_⟩
   have e:(!yR t "bool")=(t == "int"):=by
    simp only[tys,mem_cons,not_mem_nil,or_false]at ht;rcases ht with rfl|rfl|rfl|rfl|rfl|rfl|rfl<;>first|rfl| (exfalso;revert h1;decide)
   show Q (.bl (!yR t "bool")) H;rw[e];exact k
  ·have e:(t == "int")=false:=by
    simp only[tys,mem_cons,not_mem_nil,or_false]at ht;rcases ht with rfl|rfl|rfl|rfl|rfl|rfl|rfl<;>first|rfl| (exfalso;revert h1;decide)
   show Q (.bl false) H;rw[<-e];exact k
theorem Ng:cI ["thing"] ["thing"] (cF mF):={}
theorem Dx {f fW:Addr}{fd fdW:FuncData}(F:o7 K "is_hour" "is_hour" mF f fd) (DW:Df K mg "is_whole" iI ["thing"] fW fdW) (T:Txt K mg kw C):eD P w K mg base kg 2 f fd ["thing"] (lQ K):=by
 have GW:eD P w K mg base kg 1 fW fdW ["thing"] (xO K):=zL DW.fn T;refine F.ok Ng (λvs H Q E h=>?_) (λcdv A outer s H vs Q E hr h=>?_)
 ·obtain⟨x,t,rfl,_⟩:=h
  rfl
 ·obtain⟨x,t,rfl,ty,ht,k⟩:=h
  refine⟨_,kG (oU (qK (xV GW hr rfl DW.nm DW.fn.kp DW.bi .nil xI (fw (pv 0) j9))
   (rE (f9 uF uF l6 (pv 0) (Eg lP l6 l6))))),?_⟩
  refine⟨_,rfl,x,t,rfl,ty,ht,_,rfl,?_⟩;refine du (λh1=>?_) (λh1=>?_)
  ·have e:t= "int" :=eq_of_beq h1
   subst e;obtain⟨i,rfl⟩:=ty_int ty
   ·refine⟨_,rfl,_,_,rfl,rfl,_,rfl,?_⟩
    refine du (λh2=>?_) (λh2=>?_)
    ·refine⟨_,_,rfl,rfl,⟨by decide,by decide,by decide⟩,_,_,rfl,rfl,?_⟩
     have e2:uh (.int i)=decide (i<=10 ^ Int.toNat 18):=by
      show(decide (0<=i) && decide (i<=10 ^ Int.toNat 18))=_;rw[h2,Bool.true_and]
     rw[e2]at k;exact k
    ·have e2:uh (.int i)=false:=by
      show(decide (0<=i) && decide (i<=10 ^ Int.toNat 18))=_;rw[eq_false_iff.mpr h2,Bool.false_and]
     rw[e2]at k;exact k
  ·have e2:uh x=false:=by
    cases x with
    |int i=>exact absurd (beq_iff_eq.mpr (ym ty)) h1
    |_=>rfl
   rw[e2]at k;exact k
theorem MM:cI ["thing"] ["thing"] (cF jy):={}
theorem Cw (F:o7 K "is_name" "is_name" jy f fd) (T:Txt K mg kw C):eD P w K mg base kg 1 f fd ["thing"] (oj K):=by
 refine F.ok MM (λvs H Q E h=>?_) (λcdv A outer s H vs Q E hr h=>?_)
 ·obtain⟨x,t,rfl,_⟩:=h
  rfl
 ·obtain⟨x,t,rfl,ty,ht,hz,k⟩:=h
  refine⟨_,tJ (D8 (PW.pt (Ec (uX (vS (gZ k6 rfl T.b_isinstance df (fw (pv 0) (fw (nF (v:=.ty "str") rfl T.b_str uZ rfl) j9)))))
    (AH (uX (kF uF uF l6 (gZ sq rfl T.b_len dA (fw (pv 0) j9)) l6))))) (kG (oU Eu)) xN)
   (kG (oU (qK (gZ (qF rfl) rfl T.b_all iz (fw (BE (sc:=cF jy) (N:=["thing"]) (is:=[]) (ns:=[]) rfl (Fv (pv 0))
     {} (λ_ _ _ _ _=>f9 qi qi vC (pv 0) vC)) j9))
    (rE (xu rT (pv 0) (nR (v:=.ref kw) rfl T.kwm rfl) (by with_unfolding_all rfl)))))),?_⟩
  refine⟨_,rfl,_,_,_,_,rfl,ty,dF ht (by decide),_,rfl,?_⟩;by_cases hs:t= "str"
  ·subst hs
   obtain⟨z,rfl⟩:=ty_str ty
   ·have hz':=hz z rfl
    refine cW ?_;refine⟨_,rfl,z,rfl,hz',_,_,rfl,rfl,_,rfl,?_⟩;by_cases h1:1<=(z.length:Int)
    ·rw[dT0 h1]
     refine dk ⟨_,_,rfl,rfl,_,rfl,?_⟩;by_cases h2:(z.length:Int)<=12
     ·rw[dT0 h2]
      refine cW ?_;refine⟨_,rfl,z,rfl,Gb (λv=>.bl (ja v)) hz' (λv H2 Q' hv sm q'=>?_) λD hD=>?_⟩
      ·obtain⟨c,_,rfl⟩:=mem_map.mp hv
       refine⟨_,rfl,_,_,rfl,rfl,_,rfl,du (λh=>⟨_,_,rfl,rfl,?_⟩) (λh=>?_)⟩
       ·have e:ja (.str ⟨#[c]⟩)= !decide (("z" :Str).cps.toList < (⟨#[c]⟩:Str).cps.toList):=by
         show(!decide ((⟨#[c]⟩:Str).cps.toList < ("a" :Str).cps.toList) && _)=_;rw[h,Bool.true_and]
        rw[e]at q';exact q'
       ·have e:ja (.str ⟨#[c]⟩)=false:=by
         show(!decide ((⟨#[c]⟩:Str).cps.toList < ("a" :Str).cps.toList) && _)=_;rw[eq_false_iff.mpr h,Bool.false_and]
        rw[e]at q';exact q'
      ·refine⟨D,(signs z).map ja,rfl,cK.of (cD.trans (by rw[map_map];rfl)),_,rfl,?_⟩
       have e:dX z=(((signs z).map ja).all id && !zu (.str z) (kept.map V.str)):=by
        unfold dX;rw[dT0 h1,dT0 h2,Bool.true_and,Bool.true_and]
       have k':=k _ (cH.upd (o:=.lst (((signs z).map λv=>V.bl (ja v)))) hD);have k2:Q (.bl (dX z)) _:=k';rw[e]at k2;refine du (λh=>?_) (λh=>?_)
       ·rw[h,Bool.true_and]at k2
        refine⟨_,rfl,kw,_,rfl,.inr (.inr T.kwt),rfl,?_,k2⟩
        decide+kernel
       ·rw[eq_false_iff.mpr h,Bool.false_and]at k2
        exact k2
     ·rw[decide_eq_false h2]
      refine dk ?_;have e:dX z=false:=by
       unfold dX;rw[decide_eq_false h2,Bool.false_and,Bool.and_false]
      have k2:Q (.bl (dX z)) H:=k H (cH.refl H);rw[e]at k2;exact k2
    ·rw[decide_eq_false h1]
     refine cW ⟨_,rfl,dk ?_⟩;have e:dX z=false:=by
      unfold dX;rw[decide_eq_false h1,Bool.false_and]
     have k2:Q (.bl (dX z)) H:=k H (cH.refl H);rw[e]at k2;exact k2
  ·have e:yR t "str" =false:=by
    unfold yR;rw[beq_eq_false_iff_ne.mpr hs,Bool.false_or];exact Bool.and_false _
   rw[e];refine dk (dk ?_);have e2:xm x=false:=by
    cases x with
    |str z=>exact absurd (zh ty) hs
    |_=>rfl
   have k2:=k H (cH.refl H);rw[e2]at k2;exact k2
theorem D6{α:Type}{xs:List α}{i:Int}(h0:0<=i)(h1:i < xs.length):∃v,pj xs i=some v/\v∈xs:=by
 have hj:i.toNat < xs.length:=by omega
 have e:((i.toNat:Nat):Int)=i:=Int.toNat_of_nonneg h0;refine⟨xs[i.toNat],?_,getElem_mem hj⟩;have:=cN (xs:=xs) (j:=i.toNat) (v:=xs[i.toNat]) (by simp[hj]);rw[e]at this;exact this
theorem lY:cI ["thing", "most"] ["thing", "most"] (cF fG):={}
theorem vb (D:Df K mg "is_list_up_to" fG ["thing", "most"] f fd) (T:Txt K mg kw C):Gd P w K mg base 1 "is_list_up_to" ig:=by
 refine aF D lY λX H vs Q E hh h=>?_;obtain⟨p,xs,m,rfl,hp,hm,k⟩:=h;obtain⟨S0,S1,_⟩:=hh.d9 [0,1];have G01:=hh.b T.b_isinstance;have G00:=hh.b T.b_len;have G02:=hh.b T.b_list;refine⟨_,(ag (au (aV (aJ G01 cm L2.df (aD (aa S0) (J.ty G02 L2.ei))) (aZ (aU bD (aJ G00 bp L2.dA (ak (aa S0))) (aa S1) (L2.cJ _)))))),?_⟩;refine⟨_,rfl,_,_,_,_,rfl,.lst hp,dF (T:= "list") (by decide) (by decide),_,rfl,iP ?_⟩;refine⟨_,rfl,p,xs,rfl,.inl (cK.of hp),_,rfl,_,_,rfl,rfl,?_⟩;show Q (.bl (decide ((xs.length:Int)<=m))) H;rw[dT0 hm];exact k
theorem oS:cI ["thing", "length"] ["thing", "length"] (cF gN):={}
theorem yA (D:Df K mg "is_tuple_of" gN ["thing", "length"] f fd) (T:Txt K mg kw C):Gd P w K mg base 1 "is_tuple_of" nD:=by
 refine aF D oS λX H vs Q E hh h=>?_;obtain⟨p,xs,m,rfl,hp,hm,k⟩:=h;obtain⟨S0,S1,_⟩:=hh.d9 [0,1];have G01:=hh.b T.b_isinstance;have G00:=hh.b T.b_len;have G0J:=hh.b T.b_tuple;refine⟨_,(ag (au (aV (aJ G01 cm L2.df (aD (aa S0) (J.ty G0J L2.oM))) (aZ (aU aL (aJ G00 bp L2.dA (ak (aa S0))) (aa S1) (L2.cJ _)))))),?_⟩;refine⟨_,rfl,_,_,_,_,rfl,.tup hp,dF (T:= "tuple") (by decide) (by decide),_,rfl,iP ?_⟩;refine⟨_,rfl,p,xs,rfl,.inr (dv.of hp),_,rfl,rfl,?_⟩;rw[hm,dT0 rfl];exact k
theorem qQ:cI ["persons", "thing"] ["persons", "thing"] (cF iX):={}
theorem yD (D:Df K mg "is_person" iX ["persons", "thing"] f fd) (G0t:Gd P w K mg base 1 "is_name" (oj K)):Gd P w K mg base 2 "is_person" gS:=by
 refine aF D qQ λX H vs Q E hh h=>?_;obtain⟨p,ps,z,rfl,hp,hP,hz,k⟩:=h;obtain⟨S0,S1,_⟩:=hh.d9 [0,1];have G2D:=hh.c G0t;have hn:=hP.nm z hz;refine⟨_,(ag (au (aV (aw G2D (ak (aa S1))) (aZ (aU J.hJ (aa S1) (aa S0) J.mK))))),?_⟩;refine⟨_,rfl,.str z, "str",rfl,.str z,by decide,l5 hn,λH1 s1=>⟨_,rfl,fu hn ?_⟩⟩;refine⟨_,rfl,_,rfl,p,_,rfl,.inl (cK.of (s1 _ _ hp)),rfl,yS ps,?_⟩;show Q (.bl (zu (.str z) (ps.map V.str))) H1;rw[BA hz];exact k H1 s1
theorem iT:cI ["persons", "one", "other"] ["persons", "one", "other"] (cF d7):={}
theorem xZ (D:Df K mg "are_unlike_persons" d7 ["persons", "one", "other"] f fd) (G09:Gd P w K mg base 2 "is_person" gS):Gd P w K mg base 3 "are_unlike_persons" lp:=by
 refine aF D iT λX H vs Q E hh h=>?_;obtain⟨p,ps,y,z,rfl,hp,hP,hy,hz,hne,k⟩:=h;obtain⟨S0,S1,S2,_⟩:=hh.d9 [0,1,2];have G06:=hh.c G09;refine⟨_,(ag (au (aV (aw G06 (aD (aa S0) (aa S1))) (aV (aw G06 (aD (aa S0) (aa S2))) (aZ (aU bU (aa S1) (aa S2) (L2.cJ _))))))),?_⟩;refine⟨_,rfl,_,rfl,p,ps,y,rfl,hp,hP,hy,λH1 s1=>⟨_,rfl,dk ?_⟩⟩;refine⟨_,rfl,_,rfl,p,ps,z,rfl,s1 _ _ hp,hP,hz,λH2 s2=>⟨_,rfl,dk ?_⟩⟩;refine⟨_,rfl,_,rfl,rfl,?_⟩;rw[decide_eq_false (by intro e;cases e;exact hne rfl)];exact k H2 (s1.trans s2)
theorem vL:cI ["thing"] ["thing"] (cF mI):={}
theorem CT (D:Df K mg "is_tale" mI ["thing"] f fd) (T:Txt K mg kw C) (G0t:Gd P w K mg base 1 "is_name" (oj K)):Gd P w K mg base 2 "is_tale" wz:=by
 refine aF D vL λX H vs Q E hh h=>?_;obtain⟨t,ws,rfl,ht,w1,w6,hw,k⟩:=h;obtain⟨S0,_⟩:=hh.d9 [0];have G0a:=hh.b T.b_all;have G01:=hh.b T.b_isinstance;have G00:=hh.b T.b_len;have G0J:=hh.b T.b_tuple;have g_MOST_WORDS:∀{p:Pos},J.JE X (.Name "MOST_WORDS" p) (L2.tC (.int 6)):=cy hh T.g_MOST_WORDS rfl (by decide);have G0K:=hh.ci G0t;have hl:(ws.map V.str).length=ws.length:=length_map ..;have hz:(ws.map V.str).length<=sizeLine:=by
  have:sizeLine=16777216:=sizeLine_eq;omega
 refine⟨_,(ah (aH (aX (bF (bq (ba (aJ G01 cm L2.df (aD (aa S0) (J.ty G0J L2.oM))))) (bG (bq (J.kF bD bD ae (aJ G00 bp L2.dA (ak (aa S0))) g_MOST_WORDS L2.iK)))))
 (ag (au a5))
 aI)
 (ag (au (aJ G0a (bT hh.calm) L2.iz (ak (cb (is:=[]) (ns:=[]) hh.calm (J.ve (aa S0)) {} (λ_ _ _ _ _=>(aw (G0K.lc rfl) (ak (bY rfl (by decide) (by decide))))) hh.hsc hh.hN)))))),?_⟩
 refine⟨_,rfl,_,_,_,_,rfl,.tup ht,dF (T:= "tuple") (by decide) (by decide),_,rfl,iN ?_⟩;refine⟨_,rfl,t,_,rfl,.inr (dv.of ht),_,_,rfl,rfl,_,rfl,fu (dT0 (by omega)) ⟨_,_,rfl,rfl,_,rfl,?_⟩⟩;rw[dT0 (show((ws.map V.str).length:Int)<=6 by omega)];refine cW ?_;refine⟨_,rfl,t,rfl,⟨_,dv.of ht⟩,DD (λv=>.bl (xm v)) (dv.of ht) hz (λv H2 Q' hv sm q'=>?_) (λD' H' hD sm hl'=>?_)⟩
 ·obtain⟨x,hx,rfl⟩:=mem_map.mp hv
  exact⟨_,rfl,.str x, "str",rfl,.str x,by decide,l5 (hw x hx),λH3 s3=>q' H3 s3⟩
 ·refine⟨D',ws.map dX,rfl,cK.of (hl'.trans (by rw[map_map,map_map];rfl)),?_⟩
  rw[all_true hw];exact k H' sm
theorem tE:cI ["persons", "thing"] ["persons", "thing"] (cF jT):={}
theorem Bq (D:Df K mg "is_sight" jT ["persons", "thing"] f fd) (G0z:Gd P w K mg base 1 "is_tuple_of" nD) (G09:Gd P w K mg base 2 "is_person" gS)
  (G0f:Gd P w K mg base 2 "is_hour" (lQ K)) (G2E:Gd P w K mg base 2 "is_tale" wz):Gd P w K mg base 3 "is_sight" rX:=by
 refine aF D tE λX H vs Q E hh h=>?_;obtain⟨p,ps,v,rfl,hp,hP,⟨a,z,hr,ta,ws,rfl,ha,hz,hho,hta,w1,w6,hw⟩,k⟩:=h;obtain⟨S0,S1,_⟩:=hh.d9 [0,1];have G07:=hh.c G0f;have G06:=hh.c G09;have G2F:=hh.c G2E;have G0A:=hh.c G0z;refine⟨_,(ah (aH (bq (ba (aw G0A (aD (aa S1) ae))))
 (ag (au a5))
 aI)
 (ag (au (aV (aw G06 (aD (aa S0) (af ao (aa S1) ae aj))) (aV (aw G07 (ak (af ao (aa S1) ae aj))) (aZ (aw G2F (ak (af ao (aa S1) ae aj))))))))),?_⟩
 refine⟨_,rfl,a,_,3,rfl,ha,rfl,_,rfl,cW ?_⟩;refine⟨_,rfl,_,rfl,xT ha rfl ⟨p,ps,z,rfl,hp,hP,hz,λH1 s1=>⟨_,rfl,dk ?_⟩⟩⟩;refine⟨_,rfl,xT (s1 _ _ ha) rfl ⟨.int hr, "int",rfl,.int hr,by decide,_,rfl,fu (gU hho) ?_⟩⟩;exact⟨_,rfl,xT (s1 _ _ ha) rfl ⟨ta,ws,rfl,s1 _ _ hta,w1,w6,hw,λH2 s2=>k H2 (s1.trans s2)⟩⟩
theorem x5:cI ["thing"] ["thing"] (cF oG):={}
theorem EY (D:Df K mg "is_way" oG ["thing"] f fd) (T:Txt K mg kw C):Gd P w K mg base 1 "is_way" zW:=by
 refine aF D x5 λX H vs Q E hh h=>?_;obtain⟨z,rfl,hz,k⟩:=h;obtain⟨S0,_⟩:=hh.d9 [0];have G01:=hh.b T.b_isinstance;have G2q:=hh.b T.b_str;refine⟨_,(ag (au (aV (aJ G01 cm L2.df (aD (aa S0) (J.ty G2q L2.uZ))) (aZ (aU J.hJ (aa S0) (aT (aD aM aM)) J.Am))))),?_⟩;refine⟨_,rfl,_,_,_,_,rfl,.str z,dF (T:= "str") (by decide) (by decide),_,rfl,iP ?_⟩;refine⟨_,rfl,zU,λq hq=>⟨q,_,rfl,.inr (dv.of cD),rfl,by decide+kernel,?_⟩⟩;show Q (.bl (zu (.str z) [.str "both",.str "one"])) _;have e:zu (.str z) [.str "both",.str "one"]=true:=by
  rcases hz with rfl|rfl<;>decide+kernel
 rw[e];exact k _ (cH.upd hq)
theorem vV:cI ["persons", "thing"] ["persons", "thing"] (cF lX):={}
theorem CS (D:Df K mg "is_talk" lX ["persons", "thing"] f fd) (G0z:Gd P w K mg base 1 "is_tuple_of" nD) (G0b:Gd P w K mg base 3 "are_unlike_persons" lp)
  (G0f:Gd P w K mg base 2 "is_hour" (lQ K)) (G2K:Gd P w K mg base 1 "is_way" zW):Gd P w K mg base 4 "is_talk" vQ:=by
 refine aF D vV λX H vs Q E hh h=>?_;obtain⟨p,ps,v,rfl,hp,hP,⟨a,hr,y,z,wy,rfl,ha,hho,hy,hz,hne,hw⟩,k⟩:=h;obtain⟨S0,S1,_⟩:=hh.d9 [0,1];have G0c:=hh.c G0b;have G07:=hh.c G0f;have G0A:=hh.c G0z;have G2L:=hh.c G2K;refine⟨_,(ah (aH (bq (ba (aw G0A (aD (aa S1) ae))))
 (ag (au a5))
 aI)
 (ag (au (aV (aw G07 (ak (af ao (aa S1) ae aj))) (aV (aw G0c (aP (aa S0) (af ao (aa S1) ae aj) (af ao (aa S1) ae aj))) (aZ (aw G2L (ak (af ao (aa S1) ae aj))))))))),?_⟩
 refine⟨_,rfl,a,_,4,rfl,ha,rfl,_,rfl,cW ?_⟩;refine⟨_,rfl,xT ha rfl ⟨.int hr, "int",rfl,.int hr,by decide,_,rfl,fu (gU hho) ?_⟩⟩;refine⟨_,rfl,_,rfl,xT ha rfl ⟨_,rfl,xT ha rfl ⟨p,ps,y,z,rfl,hp,hP,hy,hz,hne,λH1 s1=>⟨_,rfl,dk ?_⟩⟩⟩⟩;exact⟨_,rfl,xT (s1 _ _ ha) rfl ⟨wy,rfl,hw,λH2 s2=>k H2 (s1.trans s2)⟩⟩
theorem wq:cI ["begin", "end"] ["begin", "end"] (cF mJ):={}
theorem Dy (D:Df K mg "is_span" mJ ["begin", "end"] f fd) (G0f:Gd P w K mg base 2 "is_hour" (lQ K)):Gd P w K mg base 3 "is_span" u9:=by
 refine aF D wq λX H vs Q E hh h=>?_;obtain⟨a,b,rfl,h1,h2,h3,k⟩:=h;obtain⟨S0,S1,_⟩:=hh.d9 [0,1];have G07:=hh.c G0f;refine⟨_,(ag (au (aV (aw G07 (ak (aa S0))) (aV (aw G07 (ak (aa S1))) (aZ (aU bD (aa S0) (aa S1) (L2.cJ _))))))),?_⟩;refine⟨_,rfl,.int a, "int",rfl,.int a,by decide,_,rfl,fu (gU h1) ?_⟩;refine⟨_,rfl,.int b, "int",rfl,.int b,by decide,_,rfl,fu (gU h2) ?_⟩;refine⟨_,rfl,_,rfl,_,_,rfl,rfl,?_⟩;show Q (.bl (decide (a<=b))) H;rw[dT0 h3];exact k
theorem jR:cI ["persons", "kind", "person", "behind"] ["persons", "kind", "person", "behind"] (cF fc):={}
theorem BS (D:Df K mg "is_short_saying" fc ["persons", "kind", "person", "behind"] f fd) (G0b:Gd P w K mg base 3 "are_unlike_persons" lp)
  (G09:Gd P w K mg base 2 "is_person" gS) (G0f:Gd P w K mg base 2 "is_hour" (lQ K)):Gd P w K mg base 4 "is_short_saying" r8:=by
 refine aF D jR λX H vs Q E hh h=>?_;obtain⟨p,ps,kd,y,b,rfl,hp,hP,hy,hk,k⟩:=h;obtain⟨S0,S1,S2,S3,_⟩:=hh.d9 [0,1,2,3];have G0c:=hh.c G0b;have G07:=hh.c G0f;have G06:=hh.c G09;refine⟨_,(ah (aH (aB aL (aa S1) aM (L2.cJ _))
 (ag (au (aw G0c (aP (aa S0) (aa S2) (aa S3)))))
 aI)
 (ah (aH (bq (ba (aw G06 (aD (aa S0) (aa S2)))))
 (ag (au a5))
 aI)
 (ah (aH (aB aL (aa S1) aM (L2.cJ _))
 (ag (au (J.qp (aU cu (aa S3) bE (L2.cJ _)) (aZ (aw G07 (ak (aa S3)))))))
 aI)
 (ag (au (aV (aU aL (aa S1) aM (L2.cJ _)) (aZ (aw G07 (ak (aa S3)))))))))),?_⟩
 refine⟨_,rfl,rfl,_,rfl,?_⟩;rcases hk with ⟨rfl,z,rfl,hz,hne⟩|⟨rfl,hb⟩|⟨rfl,h,rfl,hho⟩
 ·refine fu (dT0 rfl) ?_
  exact⟨_,rfl,_,rfl,_,rfl,p,ps,y,z,rfl,hp,hP,hy,hz,hne,k⟩
 ·refine iN ?_
  refine⟨_,rfl,_,rfl,p,ps,y,rfl,hp,hP,hy,λH1 s1=>⟨_,rfl,cW ?_⟩⟩;refine⟨_,rfl,rfl,_,rfl,fu (dT0 rfl) ?_⟩;rcases hb with rfl|⟨h,rfl,hho⟩
  ·exact⟨_,rfl,rfl,_,rfl,fu (dT0 rfl) (k H1 s1)⟩
  ·refine⟨_,rfl,rfl,_,rfl,iW (by rw[decide_eq_true_iff];intro e;cases e) ?_⟩
   refine⟨_,rfl,.int h, "int",rfl,.int h,by decide,?_⟩;rw[gU hho];exact k H1 s1
 ·refine iN ?_
  refine⟨_,rfl,_,rfl,p,ps,y,rfl,hp,hP,hy,λH1 s1=>⟨_,rfl,cW ?_⟩⟩;refine⟨_,rfl,rfl,_,rfl,iN ?_⟩;refine⟨_,rfl,rfl,_,rfl,fu (dT0 rfl) ?_⟩;refine⟨_,rfl,.int h, "int",rfl,.int h,by decide,?_⟩;rw[gU hho];exact k H1 s1
theorem rn:cI ["persons", "thing"] ["persons", "thing"] (cF ji):={}
theorem y6 (D:Df K mg "is_saying" ji ["persons", "thing"] f fd) (T:Txt K mg kw C) (G09:Gd P w K mg base 2 "is_person" gS) (G2G:Gd P w K mg base 3 "is_span" u9)
  (G0V:Gd P w K mg base 4 "is_short_saying" r8):Gd P w K mg base 5 "is_saying" n9:=by
 refine aF D rn λX H vs Q E hh h=>?_;obtain⟨p,ps,v,rfl,hp,hP,⟨a,rfl,hk⟩,k⟩:=h;obtain⟨S0,S1,_⟩:=hh.d9 [0,1];have G01:=hh.b T.b_isinstance;have G00:=hh.b T.b_len;have G2q:=hh.b T.b_str;have G0J:=hh.b T.b_tuple;have G06:=hh.c G09;have G0W:=hh.c G0V;have G2H:=hh.c G2G;refine⟨_,(ah (aH (aX (bF (bq (ba (aJ G01 cm L2.df (aD (aa S1) (J.ty G0J L2.oM))))) (bF (aB aL (aJ G00 bp L2.dA (ak (aa S1))) ae (L2.cJ _)) (bG (bq (ba (aJ G01 cm L2.df (aD (af ao (aa S1) ae aj) (J.ty G2q L2.uZ)))))))))
 (ag (au a5))
 aI)
 (ah (aH (aB aL (aJ G00 bp L2.dA (ak (aa S1))) ae (L2.cJ _))
 (ag (au (aV (aU aL (af ao (aa S1) ae aj) aM (L2.cJ _)) (aV (aw G06 (aD (aa S0) (af ao (aa S1) ae aj))) (aZ (aw G2H (aD (af ao (aa S1) ae aj) (af ao (aa S1) ae aj))))))))
 aI)
 (ag (au (aV (aU aL (aJ G00 bp L2.dA (ak (aa S1))) ae (L2.cJ _)) (aZ (aw G0W (bS (aa S0) (af ao (aa S1) ae aj) (af ao (aa S1) ae aj) (af ao (aa S1) ae aj))))))))),?_⟩
 rcases hk with ⟨y,h,ha,hy,hho⟩|⟨y,b,ha,hy,hb⟩|⟨y,h,h2,ha,hy,hho,hho2,hle⟩|⟨y,z,ha,hy,hz,hne⟩
 ·refine⟨_,rfl,_,_,_,_,rfl,.tup ha,dF (T:= "tuple") (by decide) (by decide),_,rfl,iN ?_⟩
  refine⟨_,rfl,a,_,rfl,.inr (dv.of ha),rfl,_,rfl,iW (jW (n:=3) rfl (by decide)) ?_⟩;refine⟨_,rfl,xT ha rfl ⟨_,_,_,_,rfl,.str _,dF (T:= "str") (by decide) (by decide),_,rfl,iN ?_⟩⟩;refine⟨_,rfl,a,_,rfl,.inr (dv.of ha),rfl,_,rfl,iW (jW (n:=3) rfl (by decide)) ?_⟩;refine⟨_,rfl,a,_,rfl,.inr (dv.of ha),rfl,_,rfl,fu (rY (n:=3) rfl (by decide)) ?_⟩;exact⟨_,rfl,_,rfl,xT ha rfl ⟨_,rfl,xT ha rfl ⟨_,rfl,xT ha rfl ⟨p,ps,_,y,_,rfl,hp,hP,hy,.inr (.inr ⟨rfl,h,rfl,hho⟩),k⟩⟩⟩⟩
 ·refine⟨_,rfl,_,_,_,_,rfl,.tup ha,dF (T:= "tuple") (by decide) (by decide),_,rfl,iN ?_⟩
  refine⟨_,rfl,a,_,rfl,.inr (dv.of ha),rfl,_,rfl,iW (jW (n:=3) rfl (by decide)) ?_⟩;refine⟨_,rfl,xT ha rfl ⟨_,_,_,_,rfl,.str _,dF (T:= "str") (by decide) (by decide),_,rfl,iN ?_⟩⟩;refine⟨_,rfl,a,_,rfl,.inr (dv.of ha),rfl,_,rfl,iW (jW (n:=3) rfl (by decide)) ?_⟩;refine⟨_,rfl,a,_,rfl,.inr (dv.of ha),rfl,_,rfl,fu (rY (n:=3) rfl (by decide)) ?_⟩;exact⟨_,rfl,_,rfl,xT ha rfl ⟨_,rfl,xT ha rfl ⟨_,rfl,xT ha rfl ⟨p,ps,_,y,_,rfl,hp,hP,hy,.inr (.inl ⟨rfl,hb⟩),k⟩⟩⟩⟩
 ·refine⟨_,rfl,_,_,_,_,rfl,.tup ha,dF (T:= "tuple") (by decide) (by decide),_,rfl,iN ?_⟩
  refine⟨_,rfl,a,_,rfl,.inr (dv.of ha),rfl,_,rfl,iW (jW (n:=4) rfl (by decide)) ?_⟩;refine⟨_,rfl,xT ha rfl ⟨_,_,_,_,rfl,.str _,dF (T:= "str") (by decide) (by decide),_,rfl,iN ?_⟩⟩;refine⟨_,rfl,a,_,rfl,.inr (dv.of ha),rfl,_,rfl,fu (rY (n:=4) rfl (by decide)) ?_⟩;refine⟨_,rfl,xT ha rfl ⟨rfl,_,rfl,iP ?_⟩⟩;refine⟨_,rfl,_,rfl,xT ha rfl ⟨p,ps,y,rfl,hp,hP,hy,λH1 s1=>⟨_,rfl,dk ?_⟩⟩⟩;exact⟨_,rfl,xT (s1 _ _ ha) rfl ⟨_,rfl,xT (s1 _ _ ha) rfl ⟨h,h2,rfl,hho,hho2,hle,k H1 s1⟩⟩⟩
 ·refine⟨_,rfl,_,_,_,_,rfl,.tup ha,dF (T:= "tuple") (by decide) (by decide),_,rfl,iN ?_⟩
  refine⟨_,rfl,a,_,rfl,.inr (dv.of ha),rfl,_,rfl,iW (jW (n:=3) rfl (by decide)) ?_⟩;refine⟨_,rfl,xT ha rfl ⟨_,_,_,_,rfl,.str _,dF (T:= "str") (by decide) (by decide),_,rfl,iN ?_⟩⟩;refine⟨_,rfl,a,_,rfl,.inr (dv.of ha),rfl,_,rfl,iW (jW (n:=3) rfl (by decide)) ?_⟩;refine⟨_,rfl,a,_,rfl,.inr (dv.of ha),rfl,_,rfl,fu (rY (n:=3) rfl (by decide)) ?_⟩;exact⟨_,rfl,_,rfl,xT ha rfl ⟨_,rfl,xT ha rfl ⟨_,rfl,xT ha rfl ⟨p,ps,_,y,_,rfl,hp,hP,hy,.inl ⟨rfl,z,rfl,hz,hne⟩,k⟩⟩⟩⟩
theorem pA:cI ["thing"] ["thing"] (cF gH):={}
theorem wt (D:Df K mg "are_persons" gH ["thing"] f fd) (T:Txt K mg kw C) (G03:Gd P w K mg base 1 "is_list_up_to" ig) (G0t:Gd P w K mg base 1 "is_name" (oj K)):Gd P w K mg base 2 "are_persons" lF:=by
 refine aF D pA λX H vs Q E hh h=>?_;obtain⟨p,ps,rfl,hp,hP,k⟩:=h;obtain⟨S0,_⟩:=hh.d9 [0];have G0a:=hh.b T.b_all;have G00:=hh.b T.b_len;have G2Q:=hh.b T.b_set;have g_MOST_PERSONS:∀{p:Pos},J.JE X (.Name "MOST_PERSONS" p) (L2.tC (.int 24)):=cy hh T.g_MOST_PERSONS rfl (by decide);have G04:=hh.c G03;have G0K:=hh.ci G0t;have hl:(ps.map V.str).length=ps.length:=length_map ..;have h24:=hP.hi;have h1:=hP.lo;have hz:(ps.map V.str).length<=sizeLine:=by
  have:sizeLine=16777216:=sizeLine_eq;omega
 refine⟨_,(ah (aH (aX (bF (bq (ba (aw G04 (aD (aa S0) g_MOST_PERSONS)))) (bG (aB aL (aJ G00 bp L2.dA (ak (aa S0))) ae (L2.cJ _)))))
 (ag (au a5))
 aI)
 (ag (au (aV (aJ G0a (bT hh.calm) L2.iz (ak (cb (is:=[]) (ns:=[]) hh.calm (aQ (aa S0)) {} (λ_ _ _ _ _=>(aw (G0K.lc rfl) (ak (bY rfl (by decide) (by decide))))) hh.hsc hh.hN))) (aZ (aU aL (aJ G00 J.gF L2.dA (ak (bw G2Q (J.lV hh.calm) L2.ET (ak (aa S0))))) (aJ G00 bp L2.dA (ak (aa S0))) (L2.cJ _))))))),?_⟩
 refine⟨_,rfl,p,_,24,rfl,hp,(by omega),_,rfl,cW ?_⟩;refine⟨_,rfl,p,_,rfl,.inl (cK.of hp),rfl,_,rfl,iW ?_ ?_⟩
 ·rw[decide_eq_true_iff]
  intro e;injection e with e
  omega
 ·refine⟨_,rfl,p,rfl,⟨_,cK.of hp⟩,kW (λv=>.bl (xm v)) (cK.of hp) hz (λv H2 Q' hv sm q'=>?_) (λD' H' hD sm hl'=>?_)⟩
  ·obtain⟨x,hx,rfl⟩:=mem_map.mp hv
   exact⟨_,rfl,.str x, "str",rfl,.str x,by decide,l5 (hP.nm x hx),λH3 s3=>q' H3 s3⟩
  ·refine⟨D',ps.map dX,rfl,cK.of (hl'.trans (by rw[map_map,map_map];rfl)),_,rfl,fu (all_true hP.nm) ?_⟩
   refine⟨_,rfl,p,ps,rfl,cK.of (sm _ _ hp),hP.nd,by omega,λq hq=>?_⟩;refine⟨q,ps.length,rfl,cD,_,rfl,p,_,rfl,.inl (cK.of ((cH.upd hq) _ _ (sm _ _ hp))),rfl,?_⟩;rw[hl,dT0 rfl];exact k _ (sm.trans (cH.upd hq))
theorem pY:cI ["persons", "thing"] ["persons", "thing"] (cF iD):={}
theorem pX (D:Df K mg "are_sights" iD ["persons", "thing"] f fd) (T:Txt K mg kw C) (G03:Gd P w K mg base 1 "is_list_up_to" ig) (G2r:Gd P w K mg base 3 "is_sight" rX):Gd P w K mg base 4 "are_sights" (iu d3 24):=by
 refine aF D pY λX H vs Q E hh h=>?_;obtain⟨p,q,ps,xs,rfl,hp,hP,hq,hn,hg,k⟩:=h;obtain⟨S0,S1,_⟩:=hh.d9 [0,1];have G0a:=hh.b T.b_all;have g_MOST_SIGHTS:∀{p:Pos},J.JE X (.Name "MOST_SIGHTS" p) (L2.tC (.int 24)):=cy hh T.g_MOST_SIGHTS rfl (by decide);have G04:=hh.c G03;have G2b:=hh.ci G2r;have hz:xs.length<=sizeLine:=by
  have:sizeLine=16777216:=sizeLine_eq;omega
 refine⟨_,(ag (au (aV (aw G04 (aD (aa S1) g_MOST_SIGHTS)) (aZ (aJ G0a (bT hh.calm) L2.iz (ak (cb (is:=[0]) (ns:=["persons"]) hh.calm (aQ (aa S1)) {} (λ_ _ _ _ _=>(aw (G2b.lc rfl) (aD (bW (i:=0) rfl rfl (by decide) (by decide)) (bY rfl (by decide) (by decide))))) hh.hsc hh.hN))))))),?_⟩;refine⟨_,rfl,q,_,24,rfl,hq,(by omega),_,rfl,dk ?_⟩;refine⟨_,rfl,q,rfl,⟨_,cK.of hq⟩,kW (λ_=>.bl true) (cK.of hq) hz (λv H2 Q' hv sm q'=>?_) (λD' H' hD sm hl'=>?_)⟩
 ·exact⟨_,rfl,_,rfl,p,ps,v,rfl,sm _ _ hp,hP,(hg v hv).mono (Tk.of sm),λH3 s3=>q' H3 s3⟩
 ·refine⟨D',xs.map λ_=>true,rfl,cK.of (hl'.trans (by rw[map_map];rfl)),?_⟩
  rw[all_true λ_ _=>rfl];exact k H' sm
theorem rf:cI ["persons", "thing"] ["persons", "thing"] (cF jk):={}
theorem qS (D:Df K mg "are_talks" jk ["persons", "thing"] f fd) (T:Txt K mg kw C) (G03:Gd P w K mg base 1 "is_list_up_to" ig) (G2I:Gd P w K mg base 4 "is_talk" vQ):Gd P w K mg base 5 "are_talks" (iu eW 120):=by
 refine aF D rf λX H vs Q E hh h=>?_;obtain⟨p,q,ps,xs,rfl,hp,hP,hq,hn,hg,k⟩:=h;obtain⟨S0,S1,_⟩:=hh.d9 [0,1];have G0a:=hh.b T.b_all;have g_MOST_TALKS:∀{p:Pos},J.JE X (.Name "MOST_TALKS" p) (L2.tC (.int 120)):=cy hh T.g_MOST_TALKS rfl (by decide);have G04:=hh.c G03;have G2s:=hh.ci G2I;have hz:xs.length<=sizeLine:=by
  have:sizeLine=16777216:=sizeLine_eq;omega
 refine⟨_,(ag (au (aV (aw G04 (aD (aa S1) g_MOST_TALKS)) (aZ (aJ G0a (bT hh.calm) L2.iz (ak (cb (is:=[0]) (ns:=["persons"]) hh.calm (aQ (aa S1)) {} (λ_ _ _ _ _=>(aw (G2s.lc rfl) (aD (bW (i:=0) rfl rfl (by decide) (by decide)) (bY rfl (by decide) (by decide))))) hh.hsc hh.hN))))))),?_⟩;refine⟨_,rfl,q,_,120,rfl,hq,(by omega),_,rfl,dk ?_⟩;refine⟨_,rfl,q,rfl,⟨_,cK.of hq⟩,kW (λ_=>.bl true) (cK.of hq) hz (λv H2 Q' hv sm q'=>?_) (λD' H' hD sm hl'=>?_)⟩
 ·exact⟨_,rfl,_,rfl,p,ps,v,rfl,sm _ _ hp,hP,(hg v hv).mono (Tk.of sm),λH3 s3=>q' H3 s3⟩
 ·refine⟨D',xs.map λ_=>true,rfl,cK.of (hl'.trans (by rw[map_map];rfl)),?_⟩
  rw[all_true λ_ _=>rfl];exact k H' sm
theorem n6:cI ["persons", "thing"] ["persons", "thing"] (cF gP):={}
theorem nX (D:Df K mg "are_sayings" gP ["persons", "thing"] f fd) (T:Txt K mg kw C) (G03:Gd P w K mg base 1 "is_list_up_to" ig) (G2c:Gd P w K mg base 5 "is_saying" n9):Gd P w K mg base 6 "are_sayings" (iu fO 60):=by
 refine aF D n6 λX H vs Q E hh h=>?_;obtain⟨p,q,ps,xs,rfl,hp,hP,hq,hn,hg,k⟩:=h;obtain⟨S0,S1,_⟩:=hh.d9 [0,1];have G0a:=hh.b T.b_all;have g_MOST_SAYINGS:∀{p:Pos},J.JE X (.Name "MOST_SAYINGS" p) (L2.tC (.int 60)):=cy hh T.g_MOST_SAYINGS rfl (by decide);have G04:=hh.c G03;have G1M:=hh.ci G2c;have hz:xs.length<=sizeLine:=by
  have:sizeLine=16777216:=sizeLine_eq;omega
 refine⟨_,(ag (au (aV (aw G04 (aD (aa S1) g_MOST_SAYINGS)) (aZ (aJ G0a (bT hh.calm) L2.iz (ak (cb (is:=[0]) (ns:=["persons"]) hh.calm (aQ (aa S1)) {} (λ_ _ _ _ _=>(aw (G1M.lc rfl) (aD (bW (i:=0) rfl rfl (by decide) (by decide)) (bY rfl (by decide) (by decide))))) hh.hsc hh.hN))))))),?_⟩;refine⟨_,rfl,q,_,60,rfl,hq,(by omega),_,rfl,dk ?_⟩;refine⟨_,rfl,q,rfl,⟨_,cK.of hq⟩,kW (λ_=>.bl true) (cK.of hq) hz (λv H2 Q' hv sm q'=>?_) (λD' H' hD sm hl'=>?_)⟩
 ·exact⟨_,rfl,_,rfl,p,ps,v,rfl,sm _ _ hp,hP,(hg v hv).mono (Tk.of sm),λH3 s3=>q' H3 s3⟩
 ·refine⟨D',xs.map λ_=>true,rfl,cK.of (hl'.trans (by rw[map_map];rfl)),?_⟩
  rw[all_true λ_ _=>rfl];exact k H' sm
theorem yf:cI ["self", "persons", "sights", "talks", "sayings"] ["self", "persons", "sights", "talks", "sayings"] (cF gT):={}
theorem Dh (F:o7 K "__init__" "Book.__init__" gT f fd) (mk:Mk K C f) (bi:Binds K fd ["self", "persons", "sights", "talks", "sayings"] []) (nm:mg "Book" =some (.ref C)) (T:Txt K mg kw C)
  (G1u:Gd P w K mg base 2 "are_persons" lF) (G1N:Gd P w K mg base 4 "are_sights" (iu d3 24)) (G2d:Gd P w K mg base 5 "are_talks" (iu eW 120)) (G1v:Gd P w K mg base 6 "are_sayings" (iu fO 60)):
  Kd P w K mg base 7 "Book" C (wc C):=by
 refine J.B4 F mk bi nm yf (λvs H Q E h=>?_) (λX H vs Q E hh h=>?_)
 ·obtain⟨x,dx,p,a,b,c,ps,ss,ts,ys,rfl,_⟩:=h
  rfl
 ·obtain⟨x,dx,p,a,b,c,ps,ss,ts,ys,rfl,hx,hp,ha,hb,hc,g,k⟩:=h
  obtain⟨S0,S1,S2,S3,S4,_⟩:=hh.d9 [0,1,2,3,4];have G02:=hh.b T.b_list;have G1w:=hh.c G1u;have G1x:=hh.c G1v;have G1O:=hh.c G1N;have G2e:=hh.c G2d;obtain⟨hP,sl,sg,tl,tg,yl,yg⟩:=id g;obtain rfl:=hh.fK;refine⟨_,(ah (aH (bq (ba (aw G1w (ak (aa S1)))))
 J.fX
 aI)
 (ah (aH (bq (ba (aw G1O (aD (aa S1) (aa S2)))))
 J.fX
 aI)
 (ah (aH (bq (ba (aw G2e (aD (aa S1) (aa S3)))))
 J.fX
 aI)
 (ah (aH (bq (ba (aw G1x (aD (aa S1) (aa S4)))))
 J.fX
 aI)
 (ah (J.lO (aa S0) (bw G02 bM L2.ei (ak (aa S1))))
 (ah (J.lO (aa S0) (bw G02 bM L2.ei (ak (aa S2))))
 (ah (J.lO (aa S0) (bw G02 bM L2.ei (ak (aa S3))))
 (ag (J.lO (aa S0) (bw G02 bM L2.ei (ak (aa S4)))))))))))),?_⟩
  refine⟨_,rfl,p,ps,rfl,hp,hP,λH1 s1=>⟨_,rfl,cW ?_⟩⟩;refine⟨_,rfl,_,rfl,p,a,ps,ss,rfl,s1 _ _ hp,hP,s1 _ _ ha,sl,λv hv=>(sg v hv).mono (Tk.of s1),λH2 s2'=>⟨_,rfl,cW ?_⟩⟩;have s2:=s1.trans s2';refine⟨_,rfl,_,rfl,p,b,ps,ts,rfl,s2 _ _ hp,hP,s2 _ _ hb,tl,λv hv=>(tg v hv).mono (Tk.of s2),λH3 s3'=>⟨_,rfl,cW ?_⟩⟩;have s3:=s2.trans s3';refine⟨_,rfl,_,rfl,p,c,ps,ys,rfl,s3 _ _ hp,hP,s3 _ _ hc,yl,λv hv=>(yg v hv).mono (Tk.of s3),λH4 s4'=>⟨_,rfl,cW ?_⟩⟩;have s4:=s3.trans s4';clear s1 s2' s2 s3' s3 s4';refine⟨_,rfl,p,_,rfl,.inl (cK.of (s4 _ _ hp)),λp' np=>⟨_,rfl,x,C,dx,[],rfl,(by rw[cG (cE (s4 _ _ hx) np)];exact s4 _ _ hx),T.cl,T.nP,(by show 0 < 1000;decide),?_⟩⟩;have xp:x≠p':=cE (s4 _ _ hx) np;have k1:∀d o,H4 d=some o->d≠x->upd (upd H4 p' (.lst (ps.map V.str))) x (.ins C dx (fF "kept_persons" (.ref p') [])) d=some o:=λd o e n=>by
   rw[cG n,cG (cE e np)];exact e
  have ax:a≠x:=mO (s4 _ _ ha) (s4 _ _ hx) (by intro z;cases z);have bx:b≠x:=mO (s4 _ _ hb) (s4 _ _ hx) (by intro z;cases z);have cx:c≠x:=mO (s4 _ _ hc) (s4 _ _ hx) (by intro z;cases z);refine⟨_,rfl,a,_,rfl,.inl (cK.of (k1 _ _ (s4 _ _ ha) ax)),λs' ns=>⟨_,rfl,x,C,dx,_,rfl,(by rw[cG (cE cD ns)];exact cD),T.cl,T.nS,(by show 1 < 1000;decide),?_⟩⟩;have xs:x≠s':=cE cD ns;have ps':p'≠s':=cE (by rw[cG xp.symm];exact cD) ns;have ns4:H4 s'=none:=by
   rw[cG xs.symm,cG ps'.symm]at ns;exact ns
  have k2:∀d o,H4 d=some o->d≠x->upd (upd (upd (upd H4 p' (.lst (ps.map V.str))) x (.ins C dx (fF "kept_persons" (.ref p') []))) s' (.lst ss)) x (.ins C dx (fF "kept_sights" (.ref s') (fF "kept_persons" (.ref p') []))) d=some o:=λd o e n=>by
   rw[cG n,cG (cE e ns4)];exact k1 d o e n
  refine⟨_,rfl,b,_,rfl,.inl (cK.of (k2 _ _ (s4 _ _ hb) bx)),λt' nt=>⟨_,rfl,x,C,dx,_,rfl,(by rw[cG (cE cD nt)];exact cD),T.cl,T.nT,(by show 2 < 1000;decide),?_⟩⟩;have xt:x≠t':=cE cD nt;have st':s'≠t':=cE (by rw[cG xs.symm];exact cD) nt;have pt':p'≠t':=cE (by rw[cG xp.symm,cG ps',cG xp.symm];exact cD) nt;have nt4:H4 t'=none:=by
   rw[cG xt.symm,cG st'.symm,cG xt.symm,cG pt'.symm]at nt;exact nt
  refine⟨_,rfl,c,_,rfl,.inl (cK.of (by rw[cG cx,cG (cE (s4 _ _ hc) nt4)];exact k2 _ _ (s4 _ _ hc) cx)),λy' ny=>⟨_,rfl,x,C,dx,_,rfl,(by rw[cG (cE cD ny)];exact cD),T.cl,T.nY,(by show 3 < 1000;decide),?_⟩⟩;have xy:x≠y':=cE cD ny;have ty':t'≠y':=cE (by rw[cG xt.symm];exact cD) ny;have sy':s'≠y':=cE (by rw[cG xs.symm,cG st',cG xs.symm];exact cD) ny;have py':p'≠y':=cE (by rw[cG xp.symm,cG pt',cG xp.symm,cG ps',cG xp.symm];exact cD) ny;have ny4:H4 y'=none:=by
   rw[cG xy.symm,cG ty'.symm,cG xy.symm,cG sy'.symm,cG xy.symm,cG py'.symm]at ny;exact ny
  refine k p' s' t' y' _ (s4.free np) (s4.free ns4) (s4.free nt4) (s4.free ny4) ⟨⟨dx,cD⟩,?_,?_,?_,?_⟩ λd o e n=>?_
  ·rw[cG xp.symm,cG py',cG xp.symm,cG pt',cG xp.symm,cG ps',cG xp.symm]
   exact cD
  ·rw[cG xs.symm,cG sy',cG xs.symm,cG st',cG xs.symm]
   exact cD
  ·rw[cG xt.symm,cG ty',cG xt.symm]
   exact cD
  ·rw[cG xy.symm]
   exact cD
  ·rw[cG n,cG (cE (s4 _ _ e) ny4),cG n,cG (cE (s4 _ _ e) nt4)]
   exact k2 d o (s4 _ _ e) n
end K25
namespace K25
open PySem L2
variable {P:Program}{w:World}{K:FG0}{mg:Str->Option Value}{base:Heap}{kw C:Addr}{f:Addr}{fd:FuncData}
abbrev TD:=Str×Str×Str
def dM(k:Nat)(d:TD):List (Nat×Str×Str):=if d.2.2= "both" then [(k,d.1,d.2.1),(k,d.2.1,d.1)] else [(k,d.1,d.2.1)]
def eP(k:Nat):List TD->List (Nat×Str×Str)
 |[]=>[]
 |d::r=>dM k d++eP (k+1) r
theorem t8(d:TD):∀(l:List TD) (k:Nat),eP k (l++[d])=eP k l++dM (k+l.length) d
 |[],k=>by
  show dM k d++[]=[]++dM (k+0) d;rw[append_nil,nil_append,Nat.add_zero]
 |e::r,k=>by
  show dM k e++eP (k+1) (r++[d])=(dM k e++eP (k+1) r)++dM (k+(r.length+1)) d;rw[t8 d r (k+1),append_assoc,show k+1+r.length=k+(r.length+1) by omega]
theorem vT(k:Nat)(d:TD):(dM k d).length<=2:=by
 unfold dM;split
 ·exact le_refl 2
 ·exact le_succ 1
theorem jA:∀(l:List TD) (k:Nat),(eP k l).length<=2 * l.length
 |[],_=>le_refl 0
 |d::r,k=>by
  show(dM k d++eP (k+1) r).length<=2 * (r.length+1);rw[length_append];have:=vT k d;have:=jA r (k+1);omega
inductive IS  (H:Hp)(v:V)(d:TD):Prop
 |mk(a:Addr)(h:Int)(h0:v=.ref a)(h1:H a=some (.tup [.int h,.str d.1,.str d.2.1,.str d.2.2]))
def IC(H:Hp)(ts:List V)(td:List TD):Prop:=ts.length=td.length/\∀(i:Nat) v d,ts[i]? =some v->td[i]? =some d->IS H v d
theorem IC.mono{H H':Hp}{ts:List V}{td:List TD}(s:Tk H H')(h:IC H ts td):IC H' ts td:=⟨h.1,λi v d hv hd=>by
 obtain⟨a,t,e,ha⟩:=h.2 i v d hv hd;exact⟨a,t,e,s _ _ ha⟩⟩
inductive oB  (H:Hp)(v:V)(t:Nat×Str×Str):Prop
 |mk(a:Addr)(h0:v=.ref a)(h1:H a=some (.tup [.int t.1,.str t.2.1,.str t.2.2]))
def fD(H:Hp)(us:List V)(ks:List (Nat×Str×Str)):Prop:=us.length=ks.length/\∀(i:Nat) u t,us[i]? =some u->ks[i]? =some t->oB H u t
theorem oB.mono{H H':Hp}{v:V}{t:Nat×Str×Str}(s:Tk H H')(h:oB H v t):oB H' v t:=by
 obtain⟨a,e,ha⟩:=h;exact⟨a,e,s _ _ ha⟩
theorem fD.mono{H H':Hp}{us:List V}{ks:List (Nat×Str×Str)}(s:Tk H H')(h:fD H us ks):fD H' us ks:=⟨h.1,λi u t hu ht=>(h.2 i u t hu ht).mono s⟩
theorem fD.nil{H:Hp}:fD H [] []:=⟨rfl,λi u t hu=>by cases hu⟩
theorem fD.snoc{H:Hp}{us:List V}{ks:List (Nat×Str×Str)}{u:V}{t:Nat×Str×Str}(h:fD H us ks)(hv:oB H u t):fD H (us++[u]) (ks++[t]):=by
 refine⟨by rw[length_append,length_append,h.1];rfl,λi x e hu he=>?_⟩;by_cases hi:i < us.length
 ·rw[getElem?_append_left hi]at hu
  rw[getElem?_append_left (by rw[<-h.1];exact hi)]at he;exact h.2 i x e hu he
 ·rw[getElem?_append_right (by omega)]at hu
  rw[getElem?_append_right (by rw[<-h.1];omega),<-h.1]at he;cases hj:i - us.length with
  |zero=>
   rw[hj]at hu he;cases hu;cases he;exact hv
  |succ j=>
   rw[hj]at hu;cases hu
inductive tw  (C:Addr)(vs:List V)(H:Hp)(Q:VK):Prop
 |mk(x p s t y:Addr)(ps:List Str)(ss ts ys:List V)(td:List TD)(h0:vs=[.ref x])(h1:Bk C H x p s t y ps ss ts ys)(h2:IC H ts td)(h3:ts.length<=120)(h4:∀(l:Addr)(us:List V)(H':Hp),cH H H'->H l=none->H' l=some (.lst us)->fD H' us (eP 0 td)->Q (.ref l) H')
def iJ  (C:Addr):Sp:=λvs H Q _=>tw C vs H Q
inductive J1(x l:Addr)(H:Hp)(td:List TD)(i:Nat)(σ:St)(H2:Hp):Prop
 |mk(us:List V)(e1 e2:Option V)(e:σ=[some (.ref x),some (.ref l),e1,e2])(s:cH H H2)(hl:H2 l=some (.lst us))(tl:fD H2 us (eP 0 (td.take i)))
theorem nB{H:Hp}{us:List V}{td:List TD}{i:Nat}{d:TD}(hd:td[i]? =some d)(t:fD H us (eP 0 (td.take i))):
  (d.2.2= "both" ->∀u v,oB H u (i,d.1,d.2.1)->oB H v (i,d.2.1,d.1)->fD H ((us++[u])++[v]) (eP 0 (td.take (i+1))))/\(d.2.2≠ "both" ->∀u,oB H u (i,d.1,d.2.1)->fD H (us++[u]) (eP 0 (td.take (i+1)))):=by
 have hi:i < td.length:=(gI0.mp hd).1;have e:eP 0 (td.take (i+1))=eP 0 (td.take i)++dM i d:=by
  rw[take_add_one,hd];show eP 0 (td.take i++[d])=_;rw[t8,length_take,zero_add,Nat.min_eq_left (le_of_lt hi)]
 rw[e];refine⟨λhb u v hu hv=>?_,λhb u hu=>?_⟩
 ·rw[show dM i d=[(i,d.1,d.2.1)]++[(i,d.2.1,d.1)] by unfold dM;rw[if_pos hb];rfl,<-append_assoc]
  exact(t.snoc hu).snoc hv
 ·rw[show dM i d=[(i,d.1,d.2.1)] by unfold dM;rw[if_neg hb]]
  exact t.snoc hu
theorem pM:cI ["self", "told", "k", "talk"] ["self"] (cF eA):={}
theorem ud (F:o7 K "tellings" "Book.tellings" eA f fd) (me:Meth K C "tellings" f) (bi:Binds K fd ["self"] []) (T:Txt K mg kw C):Md P w K mg base 1 C "tellings" (iJ C):=by
 refine cz F me bi T.cl pM (λvs H Q E h=>?_) (λX H vs Q E hh h=>?_)
 ·obtain⟨x,p,s,t,y,ps,ss,ts,ys,td,rfl,_⟩:=h
  rfl
 ·obtain⟨x,p,s,t,y,ps,ss,ts,ys,td,rfl,bk,tls,l120,k⟩:=h
  obtain⟨S0,S1,S2,S3,_⟩:=hh.d9 [0,1,2,3];have G0g:=hh.b T.b_enumerate;obtain rfl:=hh.fK;have hsz:sizeLine=16777216:=sizeLine_eq;obtain⟨⟨dx,hx⟩,_,_,ht,_⟩:=id bk;refine⟨_,(ah (aA S1 hh.nd (bA bK))
 (ah (a9 hh.own hh.calm (J.lx G0g (ak (cw (aa S0)))) (bC hh.calm (aG (aE S2 hh.nd) (aG (aE S3 hh.nd) bj)))
 (ah (bH (bJ plainAttrs_list PySem.F.slot_list_append PySem.F.type_list_append bI (aa S1) (ak (aT (aP (aa S2) (af ao (aa S3) ae aj) (af ao (aa S3) ae aj))))))
 (ag (aH (aB aL (af ao (aa S3) ae aj) aM (L2.cJ _))
 (ag (bH (bJ plainAttrs_list PySem.F.slot_list_append PySem.F.type_list_append bI (aa S1) (ak (aT (aP (aa S2) (af ao (aa S3) ae aj) (af ao (aa S3) ae aj)))))))
 aI))))
 (ag (au (aa S1))))),?_⟩
  refine⟨zr,λl hl=>?_⟩;have s1:=cH.upd (o:=.lst []) hl;refine⟨_,rfl,x,C,dx,_,_,rfl,s1 _ _ hx,T.cl,T.nT,Eo _ _ _ _,t,rfl,⟨_,cK.of (s1 _ _ ht)⟩,AJ (K:=X.K) (a:=t) (xs:=ts) (J1 x l H td)
   ⟨[],none,none,rfl,s1,cD,fD.nil⟩ ?_ ?_ ?_⟩
  ·rintro i σ H2 ⟨_,_,_,_,s2,_⟩
   exact cK.of (s2 _ _ ht)
  ·rintro i v q σ H2 hv hq ⟨us,e1,e2,rfl,s2,hl2,tl⟩
   have hi:i < ts.length:=(gI0.mp hv).1;have hd:td[i]? =some (td[i]'(by rw[<-tls.1];exact hi)):=getElem?_eq_getElem _;generalize (td[i]'(by rw[<-tls.1];exact hi))=d at hd;obtain⟨a,h,rfl,ha⟩:=tls.2 i v d hv hd;have ul:us.length<=240:=by
    have:=jA (td.take i) 0;rw[length_take]at this;have:=tl.1;have:=tls.1;omega
   refine⟨q,_,rfl,dv.of cD,rfl,_,_,rfl,_,_,rfl,rfl,?_⟩;have s3:=cH.upd (o:=.tup [.int i,.ref a]) hq;have ha3:=s3 _ _ (s2 _ _ ha);have hl3:=s3 _ _ hl2;have tl3:=tl.mono (Tk.of s3);have s03:=s2.trans s3;generalize upd H2 q (.tup [.int i,.ref a])=H3 at ha3 hl3 tl3 s03;refine⟨_,rfl,.inl ⟨rfl,_,cK.of hl3⟩,_,rfl,_,rfl,xT ha3 rfl ⟨_,rfl,xT ha3 rfl ⟨mM,λt1 ht1=>?_⟩⟩⟩;have s4:=cH.upd (o:=.tup [.int i,.str d.1,.str d.2.1]) ht1;refine⟨l,us,.ref t1,rfl,rfl,s4 _ _ hl3,by omega,?_⟩;have al:a≠l:=mO ha3 hl3 (by intro z;cases z);have t1l:t1≠l:=(cE hl3 ht1).symm;have ha5:upd (upd H3 t1 (.tup [.int i,.str d.1,.str d.2.1])) l (.lst (us++[.ref t1])) a=some (.tup [.int h,.str d.1,.str d.2.1,.str d.2.2]):=by
    rw[cG al];exact s4 _ _ ha3
   have tv5:oB (upd (upd H3 t1 (.tup [.int i,.str d.1,.str d.2.1])) l (.lst (us++[.ref t1]))) (.ref t1) (i,d.1,d.2.1):=⟨t1,rfl,by rw[cG t1l];exact cD⟩;have tk5:=(Tk.of s4).trans (Tk.upd (s4 _ _ hl3) (ys:=us++[.ref t1]));have tl5:=tl3.mono tk5;have hl5:upd (upd H3 t1 (.tup [.int i,.str d.1,.str d.2.1])) l (.lst (us++[.ref t1])) l=some (.lst (us++[.ref t1])):=cD;have s05:cH H (upd (upd H3 t1 (.tup [.int i,.str d.1,.str d.2.1])) l (.lst (us++[.ref t1]))):=λb o e=>by
    rw[cG (cE e hl)];exact s4 _ _ (s03 _ _ e)
   generalize upd (upd H3 t1 (.tup [.int i,.str d.1,.str d.2.1])) l (.lst (us++[.ref t1]))=H5 at ha5 tv5 tl5 hl5 s05;refine⟨_,rfl,xT ha5 rfl ⟨rfl,_,rfl,du (λhb=>?_) (λhb=>?_)⟩⟩
   ·have hb':d.2.2= "both" :=V.str.inj (of_decide_eq_true hb)
    refine⟨_,rfl,.inl ⟨rfl,_,cK.of hl5⟩,_,rfl,_,rfl,xT ha5 rfl ⟨_,rfl,xT ha5 rfl ⟨mM,λt2 ht2=>?_⟩⟩⟩;have s6:=cH.upd (o:=.tup [.int i,.str d.2.1,.str d.1]) ht2;refine⟨l,_,.ref t2,rfl,rfl,s6 _ _ hl5,by rw[length_append];show us.length+1 < _;omega,?_⟩;have t2l:t2≠l:=(cE hl5 ht2).symm;have tk7:=(Tk.of s6).trans (Tk.upd (s6 _ _ hl5) (ys:=(us++[.ref t1])++[.ref t2]));refine⟨_,_,_,rfl,λb o e=>?_,cD,(nB hd (tl5.mono tk7)).1 hb' _ _ (tv5.mono tk7) ⟨t2,rfl,?_⟩⟩
    ·rw[cG (cE e hl)]
     exact s6 _ _ (s05 _ _ e)
    ·rw[cG t2l]
     exact cD
   ·have hb':d.2.2≠ "both" :=λe=>hb (dT0 (congrArg V.str e))
    exact⟨_,_,_,rfl,s05,hl5,(nB hd tl5).2 hb' _ tv5⟩
  ·rintro σ H2 ⟨us,e1,e2,rfl,s2,hl2,tl⟩
   rw[tls.1,take_length]at tl;exact⟨_,rfl,k l us H2 s2 hl hl2 tl⟩
inductive SD where
 |knew (p:Str)(h:Int)
 |unh (p:Str)(h:Option Int)
 |sil (p:Str)(b e:Int)
 |bar (p q:Str)
def oV:Option Int->V
 |none=>.non
 |some h=>.int h
def SD.tup:SD->List V
 |.knew p h=>[.str "knew",.str p,.int h]
 |.unh p h=>[.str "unheard",.str p,oV h]
 |.sil p b e=>[.str "silent",.str p,.int b,.int e]
 |.bar p q=>[.str "barred",.str p,.str q]
def Cg(ps:List Str):SD->Prop
 |.knew p h=>p∈ps/\cO h
 |.unh p h=>p∈ps/\∀i,h=some i->cO i
 |.sil p b e=>p∈ps/\cO b/\cO e/\b<=e
 |.bar p q=>p∈ps/\q∈ps/\p≠q
inductive ui  (H:Hp)(v:V)(d:SD):Prop
 |mk(a:Addr)(h0:v=.ref a)(h1:H a=some (.tup d.tup))
def Sys(H:Hp)(ys:List V)(sd:List SD):Prop:=ys.length=sd.length/\∀(i:Nat) v d,ys[i]? =some v->sd[i]? =some d->ui H v d
theorem Sys.mono{H H':Hp}{ys:List V}{sd:List SD}(s:Tk H H')(h:Sys H ys sd):Sys H' ys sd:=⟨h.1,λi v d hv hd=>by
 obtain⟨a,e,ha⟩:=h.2 i v d hv hd;exact⟨a,e,s _ _ ha⟩⟩
theorem Sys.nil{H:Hp}:Sys H [] []:=⟨rfl,λi v d hv=>by cases hv⟩
theorem Sys.at{H:Hp}{ys:List V}{sd:List SD}{i:Nat}{v:V}(h:Sys H ys sd)(hv:ys[i]? =some v):∃d a,sd[i]? =some d/\v=.ref a/\H a=some (.tup d.tup):=by
 have hi:i < sd.length:=by
  rw[<-h.1];exact(gI0.mp hv).1
 obtain⟨a,e,ha⟩:=h.2 i v sd[i] hv (getElem?_eq_getElem hi);exact⟨sd[i],a,getElem?_eq_getElem hi,e,ha⟩
theorem ua{ps:List Str}{H:Hp}{v:V}(h:fO ps H v):∃d,ui H v d/\Cg ps d:=by
 obtain⟨a,e,h⟩:=h;rcases h with ⟨p,h,ha,h1,h2⟩|⟨p,b,ha,h1,h2⟩|⟨p,h,k,ha,h1,h2,h3,h4⟩|⟨p,q,ha,h1,h2,h3⟩
 ·exact⟨.knew p h,⟨a,e,ha⟩,h1,h2⟩
 ·rcases h2 with rfl|⟨h,rfl,h2⟩
  ·exact⟨.unh p none,⟨a,e,ha⟩,h1,λi z=>by cases z⟩
  ·exact⟨.unh p (some h),⟨a,e,ha⟩,h1,λi z=>by cases z;exact h2⟩
 ·exact⟨.sil p h k,⟨a,e,ha⟩,h1,h2,h3,h4⟩
 ·exact⟨.bar p q,⟨a,e,ha⟩,h1,h2,h3⟩
theorem lH{ps:List Str}{H:Hp}:∀{ys:List V},(∀v∈ys,fO ps H v)->∃sd,Sys H ys sd/\∀d∈sd,Cg ps d
 |[],_=>⟨[],Sys.nil,λd hd=>by cases hd⟩
 |v::r,h=>by
  obtain⟨sd,⟨l,g⟩,k⟩:=lH λu hu=>h u (mem_cons_of_mem _ hu);obtain⟨d,hd,kd⟩:=ua (h v (mem_cons_self ..));refine⟨d::sd,⟨by rw[length_cons,length_cons,l],λi u e hu he=>?_⟩,λe he=>?_⟩
  ·cases i with
   |zero=>
    cases hu;cases he;exact hd
   |succ j=>exact g j u e hu he
  ·rcases mem_cons.mp he with rfl|he
   ·exact kd
   ·exact k e he
theorem dW{α:Type}{l:List α}{i:Nat}{d:α}(h:l[i]? =some d):l.drop i=d::l.drop (i+1):=by
 obtain⟨hi,rfl⟩:=gI0.mp h;exact List.drop_eq_getElem_cons hi
def eY{α:Type}(l:List α)(p:α->Bool)(i:Nat):Bool:=match l[i]? with
 |some d=>p d
 |none=>false
def uM{α:Type}(l:List α)(f:α->V)(i:Nat):V:=match l[i]? with
 |some d=>f d
 |none=>.non
theorem dw{α:Type}{l:List α}{p:α->Bool}{i:Nat}{d:α}(h:l[i]? =some d):eY l p i=p d:=by
 unfold eY;rw[h]
theorem gD{α:Type}{l:List α}{f:α->V}{i:Nat}{d:α}(h:l[i]? =some d):uM l f i=f d:=by
 unfold uM;rw[h]
theorem d6{α:Type}(p:α->Bool)(f:α->V):∀l:List α,((List.range l.length).filter (eY l p)).map (uM l f)=(l.filter p).map f
 |[]=>rfl
 |d::r=>by
  have ih:=d6 p f r;have e1:(eY (d::r) p ∘ Nat.succ)=eY r p:=rfl;have e2:(uM (d::r) f ∘ Nat.succ)=uM r f:=rfl;rw[length_cons,List.range_succ_eq_map,filter_cons,List.filter_map,e1];have e3:eY (d::r) p 0=p d:=rfl;rw[e3,filter_cons];cases p d with
  |true=>
   rw[if_pos rfl,if_pos rfl,map_cons,map_cons,map_map,e2,ih];rfl
  |false=>
   rw[if_neg bF0,if_neg bF0,map_map,e2,ih]
def tH(z:Str):SD->Bool
 |.unh q _=>decide (q=z)
 |_=>false
def SD.hr:SD->Option Int
 |.unh _ h=>h
 |_=>none
def ng(z:Str)(sd:List SD):List (Option Int):=(sd.filter (tH z)).map SD.hr
def D4(acc:Int):List (Option Int)->Option Int
 |[]=>some acc
 |none::_=>none
 |some h::r=>D4 (if h > acc then h else acc) r
def floorOf(z:Str)(sd:List SD):Option Int:=D4 (-1) (ng z sd)
theorem gC{z:Str}{d:SD}{r:List SD}(h:tH z d=false):ng z (d::r)=ng z r:=by
 unfold ng;rw[filter_cons,if_neg (by rw[h];exact bF0)]
theorem sI{z:Str}{h:Option Int}{r:List SD}:ng z (.unh z h::r)=h::ng z r:=by
 unfold ng;rw[filter_cons,if_pos (show tH z (.unh z h)=true from dT0 rfl)];rfl
theorem tP:∀{us:List (Option Int)}{acc:Int},none∈us->D4 acc us=none
 |[],_,h=>by cases h
 |none::_,_,_=>rfl
 |some h::r,acc,m=>by
  show D4 _ r=none;exact tP (by rcases mem_cons.mp m with z|z;cases z;exact z)
theorem ug:∀(vs:List Int) (acc:Int),∃m,D4 acc (vs.map some)=some m/\m∈acc::vs/\∀a∈acc::vs,a<=m
 |[],acc=>⟨acc,rfl,mem_cons_self ..,λa h=>by
  rcases mem_cons.mp h with rfl|h
  ·exact Int.le_refl _
  ·cases h⟩
 |v::r,acc=>by
  obtain⟨m,e,hm,hx⟩:=ug r (if v > acc then v else acc);refine⟨m,e,?_,λa ha=>?_⟩
  ·rcases mem_cons.mp hm with z|z
   ·by_cases c:v > acc
    ·rw[if_pos c]at z
     rw[z];exact mem_cons_of_mem _ (mem_cons_self ..)
    ·rw[if_neg c]at z
     rw[z];exact mem_cons_self ..
   ·exact mem_cons_of_mem _ (mem_cons_of_mem _ z)
  ·have h0:=hx _ (mem_cons_self ..)
   rcases mem_cons.mp ha with rfl|ha
   ·split at h0<;>omega
   ·rcases mem_cons.mp ha with rfl|ha
    ·split at h0<;>omega
    ·exact hx a (mem_cons_of_mem _ ha)
theorem all_some:∀{us:List (Option Int)},none ∉ us->∃vs:List Int,us=vs.map some
 |[],_=>⟨[],rfl⟩
 |none::_,h=>absurd (mem_cons_self ..) h
 |some v::r,h=>by
  obtain⟨vs,e⟩:=all_some (us:=r) λm=>h (mem_cons_of_mem _ m);exact⟨v::vs,by rw[e];rfl⟩
inductive AM  (C:Addr)(M:Addr->Addr->Addr->Addr->Addr)(vs:List V)(H:Hp)(Q:VK):Prop
 |mk(x p s t y:Addr)(xs:List V)(h0:vs=[.ref x])(h1:(∃dx,H x=some (.ins C dx (mT p s t y))))(h2:H (M p s t y)=some (.lst xs))(h3:∀l,H l=none->Q (.ref l) (upd H l (.lst xs)))
def c9  (C:Addr)(M:Addr->Addr->Addr->Addr->Addr):Sp:=λvs H Q _=>AM C M vs H Q
inductive GQ(C:Addr)(vs:List V)(H:Hp)(Q:VK):Prop
 |mk(x p s t y:Addr)(ps:List Str)(ss ts ys:List V)(z:Str)(sd:List SD)(e:vs=[.ref x,.str z])(bk:Bk C H x p s t y ps ss ts ys)(sy:Sys H ys sd)(l:ys.length<=60)(k:∀H',cH H H'->Q (oV (floorOf z sd)) H')
def qM(C:Addr):Sp:=λvs H Q _=>GQ C vs H Q
theorem rZ:cI ["self"] ["self"] (cF eQ):={}
theorem rH (F:o7 K "sayings" "Book.sayings" eQ f fd) (me:Meth K C "sayings" f) (bi:Binds K fd ["self"] []) (T:Txt K mg kw C):Md P w K mg base 1 C "sayings" (c9 C (λ_ _ _ y=>y)):=by
 refine cz F me bi T.cl rZ (λvs H Q E h=>?_) (λX H vs Q E hh h=>?_)
 ·obtain⟨x,p,s,t,y,xs,rfl,_⟩:=h
  rfl
 ·obtain⟨x,p,s,t,y,xs,rfl,⟨dx,hx⟩,hl,k⟩:=h
  obtain⟨S0,_⟩:=hh.d9 [0];have G02:=hh.b T.b_list;obtain rfl:=hh.fK;refine⟨_,(ag (au (bw G02 bM L2.ei (ak (cw (aa S0)))))),?_⟩;exact⟨_,rfl,x,C,dx,_,_,rfl,hx,T.cl,T.nY,JZ _ _ _ _,_,_,rfl,.inl (cK.of hl),k⟩
theorem tK:cI ["book", "person", "floor", "saying"] ["book", "person"] (cF j6):={}
theorem tG (D:Df K mg "floor_of" j6 ["book", "person"] f fd) (T:Txt K mg kw C) (G0u:Md P w K mg base 1 C "sayings" (c9 C λ_ _ _ y=>y)):Gd P w K mg base 2 "floor_of" (qM C):=by
 refine aF D tK λX H vs Q E hh h=>?_;obtain⟨x,p,s,t,y,ps,ss,ts,ys,z,sd,rfl,bk,sy,l60,k⟩:=h;obtain⟨S0,S1,S2,S3,_⟩:=hh.d9 [0,1,2,3];have G1c:=hh.b T.b_max;have G0v:=hh.met G0u (by decide);obtain⟨⟨dx,hx⟩,hp,hs,ht,hy⟩:=id bk;refine⟨_,(ah (aA S2 hh.nd (J.Bm J.vN ae))
 (ah (a9 hh.own hh.calm (aQ (bB G0v (aa S0) rfl)) (aE S3 hh.nd)
 (ag (aH (aX (bg (aB aL (af ao (aa S3) ae aj) aM (L2.cJ _)) (bz (aB aL (af ao (aa S3) ae aj) (aa S1) (L2.cJ _)))))
 (ah (aH (aB cu (af ao (aa S3) ae aj) bE (L2.cJ _))
 (ag (au bE))
 aI)
 (ag (aA S2 hh.nd (aJ G1c (J.ic hh.calm) L2.u4 (aD (aa S2) (af ao (aa S3) ae aj))))))
 aI)))
 (ag (au (aa S2))))),?_⟩
 refine⟨_,rfl,_,rfl,x,dx,_,rfl,hx,eB _ _ _ _ (by decide+kernel) (by decide+kernel) (by decide+kernel) (by decide+kernel),x,p,s,t,y,ys,rfl,⟨dx,hx⟩,hy,λl hl=>?_⟩;have s1:=cH.upd (o:=.lst ys) hl;have hl1:upd H l (.lst ys) l=some (.lst ys):=cD;generalize upd H l (.lst ys)=H1 at s1 hl1;refine⟨l,rfl,⟨_,cK.of hl1⟩,dj (K:=X.K) (a:=l) (xs:=ys) (λi σ H2=>∃(acc:Int) (e:Option V),σ=[some (.ref x),some (.str z),some (.int acc),e]/\cH H1 H2/\D4 acc (ng z (sd.drop i))=floorOf z sd)
  ⟨_,none,rfl,cH.refl _,rfl⟩ ?_ ?_ ?_⟩
 ·rintro i σ H2 hi ⟨acc,e,rfl,s2,hf⟩
  exact cK.of (s2 _ _ hl1)
 ·rintro i v σ H2 hv ⟨acc,e,rfl,s2,hf⟩
  obtain⟨d,a,hd,rfl,ha⟩:=sy.at hv;have ha2:=s2 _ _ (s1 _ _ ha);rw[dW hd]at hf;cases d with
  |knew q h=>
   rw[gC rfl]at hf;exact⟨_,rfl,xT ha2 rfl ⟨rfl,_,rfl,iN (cW ⟨acc,_,rfl,s2,hf⟩)⟩⟩
  |sil q b e'=>
   rw[gC rfl]at hf;exact⟨_,rfl,xT ha2 rfl ⟨rfl,_,rfl,iN (cW ⟨acc,_,rfl,s2,hf⟩)⟩⟩
  |bar q q'=>
   rw[gC rfl]at hf;exact⟨_,rfl,xT ha2 rfl ⟨rfl,_,rfl,iN (cW ⟨acc,_,rfl,s2,hf⟩)⟩⟩
  |unh q h=>
   refine⟨_,rfl,xT ha2 rfl ⟨rfl,_,rfl,iP ⟨_,rfl,xT ha2 rfl ⟨_,rfl,rfl,_,rfl,du (λhq=>?_) (λhq=>?_)⟩⟩⟩⟩
   ·have hq':q=z:=V.str.inj (of_decide_eq_true hq)
    subst hq';rw[sI]at hf;cases h with
    |none=>
     refine⟨_,rfl,xT ha2 rfl ⟨rfl,_,rfl,fu (dT0 rfl) ?_⟩⟩;have hf':none=floorOf q sd:=hf;have:=k H2 (s1.trans s2);rw[<-hf']at this;exact this
    |some h=>
     refine⟨_,rfl,xT ha2 rfl ⟨rfl,_,rfl,iW (by rw[decide_eq_true_iff];intro e;cases e) ?_⟩⟩;exact⟨_,rfl,_,rfl,xT ha2 rfl ⟨acc,h,rfl,_,_,rfl,s2,hf⟩⟩
   ·have hq':tH z (.unh q h)=false:=decide_eq_false λe=>hq (dT0 (congrArg V.str e))
    rw[gC hq']at hf;exact⟨acc,_,rfl,s2,hf⟩
 ·rintro σ H2 ⟨acc,e,rfl,s2,hf⟩
  rw[sy.1,List.drop_length]at hf;have hf':some acc=floorOf z sd:=hf;have:=k H2 (s1.trans s2);rw[<-hf']at this;exact⟨_,rfl,this⟩
def dG(h:Int):Option Int->Bool
 |none=>false
 |some m=>decide (m < h)
inductive Gx(vs:List V)(H:Hp)(Q:VK):Prop
 |mk(h:Int)(f:Option Int)(e:vs=[.int h,oV f])(k:Q (.bl (dG h f)) H)
def nI:Sp:=λvs H Q _=>Gx vs H Q
def J8(H:Hp)(d:Addr)(ps:List Str)(sd:List SD):Prop:=∃kvs:List (Key×V),H d=some (.dK kvs)/\∀z∈ps,dr kvs (Sum.inr z)=some (oV (floorOf z sd))
theorem J8.mono{H H':Hp}{d:Addr}{ps:List Str}{sd:List SD}(s:cH H H')(h:J8 H d ps sd):J8 H' d ps sd:=by
 obtain⟨kvs,e,k⟩:=h;exact⟨kvs,s _ _ e,k⟩
inductive Cf(C:Addr)(vs:List V)(H:Hp)(Q:VK):Prop
 |mk(x p s t y:Addr)(ps:List Str)(ss ts ys:List V)(sd:List SD)(e:vs=[.ref x])(bk:Bk C H x p s t y ps ss ts ys)(pl:ps.length<=24)(sy:Sys H ys sd)(l:ys.length<=60)(k:∀d H',cH H H'->H d=none->J8 H' d ps sd->Q (.ref d) H')
def lh(C:Addr):Sp:=λvs H Q _=>Cf C vs H Q
theorem qV:cI ["self"] ["self"] (cF eU):={}
theorem sr (F:o7 K "persons" "Book.persons" eU f fd) (me:Meth K C "persons" f) (bi:Binds K fd ["self"] []) (T:Txt K mg kw C):Md P w K mg base 1 C "persons" (c9 C (λp _ _ _=>p)):=by
 refine cz F me bi T.cl qV (λvs H Q E h=>?_) (λX H vs Q E hh h=>?_)
 ·obtain⟨x,p,s,t,y,xs,rfl,_⟩:=h
  rfl
 ·obtain⟨x,p,s,t,y,xs,rfl,⟨dx,hx⟩,hl,k⟩:=h
  obtain⟨S0,_⟩:=hh.d9 [0];have G02:=hh.b T.b_list;obtain rfl:=hh.fK;refine⟨_,(ag (au (bw G02 bM L2.ei (ak (cw (aa S0)))))),?_⟩;exact⟨_,rfl,x,C,dx,_,_,rfl,hx,T.cl,T.nP,Hu _ _ _ _,_,_,rfl,.inl (cK.of hl),k⟩
theorem sR:cI ["hour", "floor"] ["hour", "floor"] (cF jY):={}
theorem uD (D:Df K mg "is_above" jY ["hour", "floor"] f fd):Gd P w K mg base 1 "is_above" nI:=by
 refine aF D sR λX H vs Q E hh h=>?_;obtain⟨h,f,rfl,k⟩:=h;obtain⟨S0,S1,_⟩:=hh.d9 [0,1];refine⟨_,(ag (au (aV (aU cC (aa S1) bE (L2.cJ _)) (aZ (aU b9 (aa S0) (aa S1) (L2.cJ _)))))),?_⟩;cases f with
 |none=>exact⟨_,rfl,rfl,_,rfl,iN k⟩
 |some m=>exact⟨_,rfl,rfl,_,rfl,fu (by rw[not_eq_true',decide_eq_false_iff_not];intro e;cases e) ⟨_,rfl,_,rfl,_,_,rfl,rfl,k⟩⟩
theorem l9:cI ["book", "floors", "person"] ["book"] (cF fL):={}
theorem zj (D:Df K mg "floors_of_all" fL ["book"] f fd) (T:Txt K mg kw C) (G0w:Md P w K mg base 1 C "persons" (c9 C λp _ _ _=>p)) (G2t:Gd P w K mg base 2 "floor_of" (qM C)):Gd P w K mg base 3 "floors_of_all" (lh C):=by
 refine aF D l9 λX H vs Q E hh h=>?_;obtain⟨x,p,s,t,y,ps,ss,ts,ys,sd,rfl,bk,pl,sy,l60,k⟩:=h;obtain⟨S0,S1,S2,_⟩:=hh.d9 [0,1,2];have G2u:=hh.c G2t;have G0x:=hh.met G0w (by decide);have hu:=dY hh.room;have hsz:sizeLine=16777216:=sizeLine_eq;obtain⟨⟨dx,hx⟩,hp,hs,ht,hy⟩:=id bk;refine⟨_,(ah (aA S1 hh.nd cv)
 (ah (a9 hh.own hh.calm (aQ (bB G0x (aa S0) rfl)) (aE S2 hh.nd)
 (ag (bZ hu (aa S1) (aa S2) (aw G2u (aD (aa S0) (aa S2))))))
 (ag (au (aa S1))))),?_⟩
 refine λd hdn=>?_;have s1:=cH.upd (o:=.dK []) hdn;have hd1:upd H d (.dK []) d=some (.dK []):=cD;refine⟨_,rfl,x,dx,_,rfl,s1 _ _ hx,eB _ _ _ _ (by decide+kernel) (by decide+kernel) (by decide+kernel) (by decide+kernel),x,p,s,t,y,_,rfl,⟨dx,s1 _ _ hx⟩,s1 _ _ hp,λl hl=>?_⟩;have s2:=cH.upd (o:=.lst (ps.map V.str)) hl;have ld:l≠d:=(cE hd1 hl).symm;refine⟨l,rfl,⟨_,cK.of cD⟩,dj (K:=X.K) (a:=l) (xs:=ps.map V.str) (λi σ H2=>∃(kvs:List (Key×V)) (e:Option V),σ=[some (.ref x),some (.ref d),e]/\cH H H2/\H2 l=some (.lst (ps.map V.str))/\H2 d=some (.dK kvs)/\kvs.length<=i/\∀z∈ps.take i,dr kvs (Sum.inr z)=some (oV (floorOf z sd)))
  ⟨[],none,rfl,s1.trans s2,cD,s2 _ _ hd1,le_refl 0,λz hz=>by cases hz⟩ ?_ ?_ ?_⟩
 ·rintro i σ H2 hi ⟨kvs,e,rfl,s2,hl2,_⟩
  exact cK.of hl2
 ·rintro i v σ H2 hv ⟨kvs,e,rfl,s3,hl2,hd2,kl,hk⟩
  rw[getElem?_map]at hv;obtain⟨z,hz,rfl⟩:=map_eq_some_iff.mp hv;have hi:i < ps.length:=(gI0.mp hz).1;refine⟨_,rfl,_,rfl,x,p,s,t,y,ps,ss,ts,ys,z,sd,rfl,bk.mono s3,sy.mono (Tk.of s3),l60,λH5 s5=>?_⟩;refine⟨_,rfl,_,rfl,d,_,rfl,jc.k (k:=Sum.inr z) (s5 _ _ hd2) (by omega),_,_,rfl,λb o e=>?_,?_,cD,?_,λz' hz'=>?_⟩
  ·rw[cG (cE e hdn)]
   exact s5 _ _ (s3 _ _ e)
  ·rw[cG ld]
   exact s5 _ _ hl2
  ·have:=eT kvs (Sum.inr z:Key) (oV (floorOf z sd))
   omega
  ·rw[fb]
   by_cases c:(Sum.inr z':Key)=Sum.inr z
   ·rw[if_pos c]
    have c':z'=z:=Sum.inr.inj c;rw[c']
   ·rw[if_neg c]
    rw[take_add_one,hz,mem_append]at hz';rcases hz' with hz'|hz'
    ·exact hk z' hz'
    ·exact absurd (congrArg Sum.inr (mem_singleton.mp hz')) c
 ·rintro σ H2 ⟨kvs,e,rfl,s3,hl2,hd2,kl,hk⟩
  rw[length_map,take_length]at hk;exact⟨_,rfl,k d H2 s3 hdn ⟨kvs,hd2,hk⟩⟩
def Lz{α:Type}(R:Hp->V->α->Prop)(H:Hp)(xs:List V)(ds:List α):Prop:=xs.length=ds.length/\∀(i:Nat) v d,xs[i]? =some v->ds[i]? =some d->R H v d
theorem Lz.mono{α:Type}{R:Hp->V->α->Prop}{H H':Hp}{xs:List V}{ds:List α}(m:∀v d,R H v d->R H' v d)(h:Lz R H xs ds):Lz R H' xs ds:=⟨h.1,λi v d hv hd=>m v d (h.2 i v d hv hd)⟩
theorem Lz.at{α:Type}{R:Hp->V->α->Prop}{H:Hp}{xs:List V}{ds:List α}{i:Nat}{v:V}(h:Lz R H xs ds)(hv:xs[i]? =some v):∃d,ds[i]? =some d/\R H v d:=by
 have hi:i < ds.length:=by
  rw[<-h.1];exact(gI0.mp hv).1
 exact⟨ds[i],getElem?_eq_getElem hi,h.2 i v ds[i] hv (getElem?_eq_getElem hi)⟩
theorem rB{α:Type}{R:Hp->V->α->Prop}{H:Hp}{Ok:α->Prop}:∀{xs:List V},(∀v∈xs,∃d,R H v d/\Ok d)->∃ds,Lz R H xs ds/\∀d∈ds,Ok d
 |[],_=>⟨[],⟨rfl,λi v d hv=>by cases hv⟩,λd hd=>by cases hd⟩
 |v::r,h=>by
  obtain⟨ds,⟨l,g⟩,k⟩:=rB λu hu=>h u (mem_cons_of_mem _ hu);obtain⟨d,hd,kd⟩:=h v (mem_cons_self ..);refine⟨d::ds,⟨by rw[length_cons,length_cons,l],λi u e hu he=>?_⟩,λe he=>?_⟩
  ·cases i with
   |zero=>
    cases hu;cases he;exact hd
   |succ j=>exact g j u e hu he
  ·rcases mem_cons.mp he with rfl|he
   ·exact kd
   ·exact k e he
abbrev GD:=Str×Int
inductive cU  (H:Hp)(v:V)(d:GD):Prop
 |mk(a ta:Addr)(h0:v=.ref a)(h1:H a=some (.tup [.str d.1,.int d.2,.ref ta]))
theorem cU.mono{H H':Hp}(s:Tk H H')(v:V)(d:GD)(h:cU H v d):cU H' v d:=by
 obtain⟨a,ta,e,ha⟩:=h;exact⟨a,ta,e,s _ _ ha⟩
theorem mR{ps:List Str}{H:Hp}{ss:List V}(h:∀v∈ss,d3 ps H v):∃sg,Lz cU H ss sg/\∀d∈sg,d.1∈ps/\cO d.2:=
 rB λv hv=>by
  obtain⟨a,z,i,ta,ws,e,ha,hz,hi,_⟩:=h v hv;exact⟨(z,i),⟨a,ta,e,ha⟩,hz,hi⟩
def dJ(sd:List SD)(d:GD):Bool:=dG d.2 (floorOf d.1 sd)
def eC(sg:List GD)(sd:List SD)(n:Nat):List V:=((List.range n).filter (eY sg (dJ sd))).map λi=>V.int (i:Nat)
theorem n5(sg:List GD)(sd:List SD)(n:Nat):(eC sg sd n).length<=n:=by
 unfold eC;rw[length_map];have:=length_filter_le (eY sg (dJ sd)) (List.range n);rw[length_range]at this;exact this
inductive EJ(C:Addr)(vs:List V)(H:Hp)(Q:VK):Prop
 |mk(x p s t y:Addr)(ps:List Str)(ss ts ys:List V)(sg:List GD)(sd:List SD)(e:vs=[.ref x])(bk:Bk C H x p s t y ps ss ts ys)(pl:ps.length<=24)(sl:ss.length<=24)(gs:Lz cU H ss sg)(gp:∀d∈sg,d.1∈ps)(sy:Sys H ys sd)(l:ys.length<=60)
   (k:∀l H',cH H H'->H l=none->H' l=some (.lst (eC sg sd sg.length))->Q (.ref l) H')
def nJ(C:Addr):Sp:=λvs H Q _=>EJ C vs H Q
theorem t6:cI ["self"] ["self"] (cF fj):={}
theorem uB (F:o7 K "sights" "Book.sights" fj f fd) (me:Meth K C "sights" f) (bi:Binds K fd ["self"] []) (T:Txt K mg kw C):Md P w K mg base 1 C "sights" (c9 C (λ_ s _ _=>s)):=by
 refine cz F me bi T.cl t6 (λvs H Q E h=>?_) (λX H vs Q E hh h=>?_)
 ·obtain⟨x,p,s,t,y,xs,rfl,_⟩:=h
  rfl
 ·obtain⟨x,p,s,t,y,xs,rfl,⟨dx,hx⟩,hl,k⟩:=h
  obtain⟨S0,_⟩:=hh.d9 [0];have G02:=hh.b T.b_list;obtain rfl:=hh.fK;refine⟨_,(ag (au (bw G02 bM L2.ei (ak (cw (aa S0)))))),?_⟩;exact⟨_,rfl,x,C,dx,_,_,rfl,hx,T.cl,T.nS,Ij _ _ _ _,_,_,rfl,.inl (cK.of hl),k⟩
theorem oH:cI ["book", "floors"] ["book"] (cF gK):={}
theorem pJ (D:Df K mg "open_sights" gK ["book"] f fd) (T:Txt K mg kw C) (G0h:Md P w K mg base 1 C "sights" (c9 C λ_ s _ _=>s)) (G0j:Gd P w K mg base 3 "floors_of_all" (lh C)) (G0L:Gd P w K mg base 1 "is_above" nI):Gd P w K mg base 4 "open_sights" (nJ C):=by
 refine aF D oH λX H vs Q E hh h=>?_;obtain⟨x,p,s,t,y,ps,ss,ts,ys,sg,sd,rfl,bk,pl,sl,gs,gp,sy,l60,k⟩:=h;obtain⟨S0,S1,_⟩:=hh.d9 [0,1];have G0g:=hh.b T.b_enumerate;have G0k:=hh.c G0j;have G2f:=hh.ci G0L;have G0i:=hh.met G0h (by decide);have hu:=dY hh.room;have hsz:sizeLine=16777216:=sizeLine_eq;refine⟨_,(ah (aA S1 hh.nd (aw G0k (ak (aa S0))))
 (ag (au (bL (is:=[1]) (xs:=["i", "sight"]) (ns:=["floors"]) hh.calm (J.lx G0g (ak (bB G0i (aa S0) rfl))) {} (λ_ _ _ _ _=>(cq (n:=2) hh.calm (aG (a7 (i:=0) (by decide+kernel) rfl rfl) (aG (a7 (i:=1) (by decide+kernel) rfl rfl) bj)))) (λ_ _ _ _ _=>(bX (ba (aw (G2f.lg rfl) (aD (af br (aO (i:=1) rfl rfl (by decide) (by decide)) ae aj) (bh hu (a8 (i:=2) rfl rfl (by decide) (by decide)) (af br (aO (i:=1) rfl rfl (by decide) (by decide)) ae aj) b8)))))) (λ_ _ _ _ _=>(aO (i:=0) rfl rfl (by decide) (by decide))) hh.hsc hh.hN)))),?_⟩
 refine⟨_,rfl,x,p,s,t,y,ps,ss,ts,ys,sd,rfl,bk,pl,sy,l60,λd H1 s1 dn fl=>?_⟩;obtain⟨⟨dx,hx⟩,hp,hs,ht,hy⟩:=bk.mono s1;refine⟨_,rfl,x,dx,_,rfl,hx,eB _ _ _ _ (by decide+kernel) (by decide+kernel) (by decide+kernel) (by decide+kernel),x,p,s,t,y,ss,rfl,⟨dx,hx⟩,hs,λl hl=>?_⟩;have s2:=cH.upd (o:=.lst ss) hl;refine⟨l,rfl,⟨_,cK.of cD⟩,uJ (xs:=ss) (eY sg (dJ sd)) (λi=>V.int (i:Nat)) (cK.of cD) (by omega) ?_ ?_⟩
 ·intro i os v q H2 K1 K2 hv hos s3 hq k1 k2
  match os,hos with
  |[o1,o2],_=>
   obtain⟨g,hg,a,ta,rfl,ha⟩:=gs.at hv;rw[dw hg]at k1 k2;have s4:=cH.upd (o:=.tup [.int i,.ref a]) hq;have s14:=(s2.trans s3).trans s4;have ha4:=s14 _ _ (s1 _ _ ha);obtain⟨kvs,hd4,hk⟩:=fl.mono s14;have dg:dN (upd H2 q (.tup [.int i,.ref a])) d (.str g.1) (some (oV (floorOf g.1 sd))):=by
    rw[<-hk g.1 (gp g (mem_of_getElem? hg))];exact dN.k (k:=Sum.inr g.1) hd4
   refine⟨q,_,rfl,dv.of cD,rfl,_,_,rfl,_,_,rfl,rfl,⟨[_,_],rfl,rfl⟩,?_⟩;refine⟨_,rfl,xT ha4 rfl ⟨_,rfl,_,rfl,xT ha4 rfl ⟨d,_,rfl,dg,g.2,floorOf g.1 sd,rfl,_,rfl,du (λhb=>⟨_,rfl,k1 hb _ s4⟩) (λhb=>k2 (eF0 hb) _ s4)⟩⟩⟩
 ·intro D' H' hD' s' hd'
  have e:((List.range ss.length).filter (eY sg (dJ sd))).map (λi=>V.int (i:Nat))=eC sg sd sg.length:=by
   rw[gs.1];rfl
  rw[e]at hd';exact k D' H' ((s1.trans s2).trans s') ((s1.trans s2).free hD') hd'
def jM(z:Str):SD->Bool
 |.sil q _ _=>decide (q=z)
 |_=>false
def mL(h:Int):SD->Bool
 |.sil _ b e=>if b<=h then decide (h<=e) else false
 |_=>false
def iQ(z:Str)(h:Int)(d:SD):Bool:=jM z d && mL h d
def je(he te:Str):SD->Bool
 |.bar p q=>decide (p=he) && decide (q=te)
 |_=>false
theorem tq{α β:Type}{f:α->Bool}{g:β->Bool}:∀{xs:List α}{ds:List β},xs.length=ds.length->(∀(i:Nat) v d,xs[i]? =some v->ds[i]? =some d->f v=g d)->xs.any f=ds.any g
 |[],[],_,_=>rfl
 |[],_::_,h,_=>by cases h
 |_::_,[],h,_=>by cases h
 |x::xs,d::ds,h,k=>by
  rw[any_cons,any_cons,k 0 x d rfl rfl,tq (Nat.succ.inj h) λi v e hv he=>k (i+1) v e hv he]
theorem sC{α β:Type}:∀{xs:List α}{ds:List β}{i:Nat}{p:α×β},(xs.zip ds)[i]? =some p->xs[i]? =some p.1/\ds[i]? =some p.2
 |[],_,_,_,h=>by cases h
 |_::_,[],_,_,h=>by cases h
 |x::xs,d::ds,i,p,h=>by
  cases i with
  |zero=>
   cases h;exact⟨rfl,rfl⟩
  |succ j=>
   have h':(xs.zip ds)[j]? =some p:=h;exact sC (xs:=xs) (ds:=ds) (i:=j) h'
theorem lM{α β:Type}:∀{xs:List α}{ds:List β}{i:Nat}{v:α}{d:β},xs[i]? =some v->ds[i]? =some d->(xs.zip ds)[i]? =some (v,d)
 |[],_,_,_,_,h,_=>by cases h
 |_::_,[],_,_,_,_,h=>by cases h
 |x::xs,e::ds,i,v,d,h,h'=>by
  cases i with
  |zero=>
   cases h;cases h';rfl
  |succ j=>exact lM (xs:=xs) (ds:=ds) (i:=j) h h'
theorem xU{α β:Type}(f:β->Bool):∀{xs:List α}{ds:List β},xs.length=ds.length->((xs.zip ds).any λp=>f p.2)=ds.any f
 |[],[],_=>rfl
 |[],_::_,h=>by cases h
 |_::_,[],h=>by cases h
 |x::xs,d::ds,h=>by
  show(f d || (xs.zip ds).any λp=>f p.2)=(f d || ds.any f);rw[xU f (Nat.succ.inj h)]
inductive Ku(vs:List V)(H:Hp)(Q:VK):Prop
 |mk(y:Addr)(ys:List V)(z:Str)(h:Int)(sd:List SD)(e:vs=[.ref y,.str z,.int h])(hy:H y=some (.lst ys))(sy:Sys H ys sd)(l:ys.length<=60)(k:∀H',cH H H'->Q (.bl (sd.any (iQ z h))) H')
def xf:Sp:=λvs H Q _=>Ku vs H Q
inductive KG(vs:List V)(H:Hp)(Q:VK):Prop
 |mk(y:Addr)(ys:List V)(he te:Str)(sd:List SD)(e:vs=[.ref y,.str he,.str te])(hy:H y=some (.lst ys))(sy:Sys H ys sd)(k:∀H',cH H H'->Q (.bl (sd.any (je he te))) H')
def xn:Sp:=λvs H Q _=>KG vs H Q
theorem sV(d:SD):d.tup.all dE=true:=by
 cases d with
 |unh q h=>cases h<;>rfl
 |_=>rfl
theorem xP(he te:Str)(d:SD):zK d.tup [.str "barred",.str he,.str te]=je he te d:=by
 cases d with
 |knew p h=>exact Bool.and_eq_false_imp.mpr (λh=>absurd h (by
   rw[all_eq_true];intro k;exact absurd (k 0 (mem_range.mpr (lt_min.mpr ⟨succ_pos _,succ_pos _⟩))) (by show ¬(("knew" :Str) == "barred")=true;decide+kernel)))
 |unh p h=>exact Bool.and_eq_false_imp.mpr (λh=>absurd h (by
   rw[all_eq_true];intro k;exact absurd (k 0 (mem_range.mpr (lt_min.mpr ⟨succ_pos _,succ_pos _⟩))) (by show ¬(("unheard" :Str) == "barred")=true;decide+kernel)))
 |sil p b e=>exact Bool.and_eq_false_imp.mpr (λh=>absurd h (by
   rw[all_eq_true];intro k;exact absurd (k 0 (mem_range.mpr (lt_min.mpr ⟨succ_pos _,succ_pos _⟩))) (by show ¬(("silent" :Str) == "barred")=true;decide+kernel)))
 |bar p q=>
  show((("barred" :Str) == "barred") && ((p == he) && ((q == te) && true)) && true)=(decide (p=he) && decide (q=te));rw[show(("barred" :Str) == "barred")=true from beq_self_eq_true _,Bool.true_and,Bool.and_true,Bool.and_true]
  congr 1<;>exact beq_eq_decide _ _
theorem CJ{H:Hp}{v:V}{d:SD}{xs:List V}(h:ui H v d):J2 H xs v=zK d.tup xs:=by
 obtain⟨a,rfl,ha⟩:=h;show(match H a with|some (.tup zs)=>zK zs xs|_=>false)=_;rw[ha]
theorem rq:cI ["sayings", "person", "hour", "own"] ["sayings", "person", "hour"] (cF ju):={}
theorem qJ (D:Df K mg "is_silent" ju ["sayings", "person", "hour"] f fd) (T:Txt K mg kw C):Gd P w K mg base 1 "is_silent" xf:=by
 refine aF D rq λX H vs Q E hh h=>?_;obtain⟨y,ys,z,h,sd,rfl,hy,sy,l60,k⟩:=h;obtain⟨S0,S1,S2,S3,_⟩:=hh.d9 [0,1,2,3];have G1d:=hh.b T.b_any;have hsz:sizeLine=16777216:=sizeLine_eq;refine⟨_,(ah (cn (is:=[1]) (xs:=["saying"]) (ns:=["person"]) S3 hh.nd hh.calm (aQ (aa S0)) {} (λ_ _ _ _ _=>(a7 (i:=0) (by decide+kernel) rfl rfl)) (λ_ _ _ _ _=>(bX (aX (bg (aB aL (af br (aO (i:=0) rfl rfl (by decide) (by decide)) ae aj) aM (L2.cJ _)) (bz (aB aL (af br (aO (i:=0) rfl rfl (by decide) (by decide)) ae aj) (a8 (i:=1) rfl rfl (by decide) (by decide)) (L2.cJ _))))))) (λ_ _ _ _ _=>(aO (i:=0) rfl rfl (by decide) (by decide))) hh.hsc hh.hN (by decide+kernel))
 (ag (au (aJ G1d (J.hZ hh.calm) L2.vB (ak (bL (is:=[2]) (xs:=["saying"]) (ns:=["hour"]) hh.calm (aQ (aa S3)) {} (λ_ _ _ _ _=>(a7 (i:=0) (by decide+kernel) rfl rfl)) (λ_ _ _ _ _=>bN) (λ_ _ _ _ _=>(J.f9 bD bD (af br (aO (i:=0) rfl rfl (by decide) (by decide)) ae aj) (a8 (i:=1) rfl rfl (by decide) (by decide)) (af br (aO (i:=0) rfl rfl (by decide) (by decide)) ae aj) L2.iK)) hh.hsc hh.hN)))))),?_⟩
 have zl:(ys.zip sd).length=ys.length:=by
  rw[length_zip,<-sy.1,min_self]
 refine⟨_,rfl,y,rfl,⟨_,cK.of hy⟩,eI (xs:=ys) (eY (ys.zip sd) λp=>jM z p.2) (uM (ys.zip sd) λp=>p.1) (cK.of hy) (by omega) ?_ ?_⟩
 ·intro i os v H2 K1 K2 hv hos s2 k1 k2
  match os,hos with
  |[o],_=>
   obtain⟨d,a,hd,rfl,ha⟩:=sy.at hv;have ha2:=s2 _ _ ha;rw[dw (lM hv hd)]at k1 k2;rw[gD (lM hv hd)]at k1;refine⟨⟨[some (.ref a)],rfl,rfl⟩,?_⟩;cases d with
   |knew q h=>exact⟨_,rfl,xT ha2 rfl ⟨rfl,_,rfl,iN (cW (k2 rfl H2 (cH.refl _)))⟩⟩
   |unh q h=>exact⟨_,rfl,xT ha2 rfl ⟨rfl,_,rfl,iN (cW (k2 rfl H2 (cH.refl _)))⟩⟩
   |bar q q'=>exact⟨_,rfl,xT ha2 rfl ⟨rfl,_,rfl,iN (cW (k2 rfl H2 (cH.refl _)))⟩⟩
   |sil q b e=>
    refine⟨_,rfl,xT ha2 rfl ⟨rfl,_,rfl,iP ⟨_,rfl,xT ha2 rfl ⟨_,rfl,rfl,_,rfl,du (λhq=>?_) (λhq=>?_)⟩⟩⟩⟩
    ·have hq':q=z:=V.str.inj (of_decide_eq_true hq)
     exact⟨_,rfl,k1 (dT0 hq') H2 (cH.refl _)⟩
    ·exact k2 (decide_eq_false λe=>hq (dT0 (congrArg V.str e))) H2 (cH.refl _)
 ·intro o H' ho s' hd'
  rw[<-zl,d6 (λp=>jM z p.2) (λp=>p.1) (ys.zip sd)]at hd';have om:∀p∈(ys.zip sd).filter λp=>jM z p.2,ui H p.1 p.2/\jM z p.2=true:=λp hp=>by
   obtain⟨hp1,hp2⟩:=mem_filter.mp hp;obtain⟨i,hi⟩:=getElem?_of_mem hp1;obtain⟨h1,h2⟩:=sC hi;exact⟨sy.2 i _ _ h1 h2,hp2⟩
  have ol:((ys.zip sd).filter λp=>jM z p.2).length<=60:=by
   have:=length_filter_le (λp:V×SD=>jM z p.2) (ys.zip sd);omega
  have ev:(((ys.zip sd).filter λp=>jM z p.2).any λp=>mL h p.2)=sd.any (iQ z h):=by
   rw[List.any_filter];exact xU (λd=>jM z d && mL h d) sy.1
  generalize (ys.zip sd).filter (λp=>jM z p.2)=l at hd' om ol ev;refine⟨_,rfl,o,rfl,⟨_,cK.of hd'⟩,eI (xs:=l.map λp=>p.1) (eY l λ_=>true) (uM l λp=>V.bl (mL h p.2)) (cK.of hd') (by rw[length_map];omega) ?_ ?_⟩
  ·intro i os v H2 K1 K2 hv hos s2 k1 k2
   match os,hos with
   |[o],_=>
    rw[getElem?_map]at hv;obtain⟨p,hp,rfl⟩:=map_eq_some_iff.mp hv;obtain⟨⟨a,ea,ha⟩,hz⟩:=om p (mem_of_getElem? hp);have ha2:=s2 _ _ (s' _ _ ha);rw[dw hp]at k1;rw[gD hp]at k1;have kk:=k1 rfl;clear k1 k2;refine⟨⟨[some p.1],rfl,rfl⟩,dk (B:=K2 H2) ?_⟩;obtain⟨v,d⟩:=p;dsimp only at ea ha2 kk hz;subst ea;cases d with
    |sil q b e=>
     refine⟨_,rfl,xT ha2 rfl ⟨_,rfl,_,_,rfl,rfl,_,rfl,?_⟩⟩;have k2:K1 (V.bl (if b<=h then decide (h<=e) else false)) H2:=kk H2 (cH.refl _);refine du (λhb=>?_) (λhb=>?_)
     ·rw[if_pos (of_decide_eq_true hb)]at k2
      exact⟨_,rfl,xT ha2 rfl ⟨_,_,rfl,rfl,k2⟩⟩
     ·rw[if_neg (λe=>hb (dT0 e))]at k2
      exact k2
    |knew q h=>exact absurd hz bF0
    |unh q h=>exact absurd hz bF0
    |bar q q'=>exact absurd hz bF0
  ·intro D2 H3 hD2 s3 hd3
   have e2:((List.range (l.map λp=>p.1).length).filter (eY l λ_=>true)).map (uM l λp=>V.bl (mL h p.2))=(l.map λp=>mL h p.2).map V.bl:=by
    rw[length_map,d6 (λ_=>true) (λp=>V.bl (mL h p.2)) l,filter_eq_self.mpr (λ_ _=>rfl),map_map];rfl
   rw[e2]at hd3;refine⟨D2,_,rfl,cK.of hd3,?_⟩;have e3:(l.map λp=>mL h p.2).any id=sd.any (iQ z h):=by
    rw[any_map,<-ev];rfl
   rw[e3];exact k H3 (s'.trans s3)
theorem rW:cI ["sayings", "hearer", "teller"] ["sayings", "hearer", "teller"] (cF jt):={}
theorem qT (D:Df K mg "is_barred" jt ["sayings", "hearer", "teller"] f fd):Gd P w K mg base 1 "is_barred" xn:=by
 refine aF D rW λX H vs Q E hh h=>?_;obtain⟨y,ys,he,te,sd,rfl,hy,sy,k⟩:=h;obtain⟨S0,S1,S2,_⟩:=hh.d9 [0,1,2];have hu:=dY hh.room;refine⟨_,(ag (au (aU (J.jS hu) (aT (aP aM (aa S1) (aa S2))) (aa S0) J.mK))),?_⟩;refine⟨_,rfl,_,rfl,mM,λq hq=>?_⟩;have s1:=cH.upd (o:=.tup [.str "barred",.str he,.str te]) hq;have sy1:=sy.mono (Tk.of s1);refine⟨_,rfl,q,y,_,ys,rfl,rfl,cD,cK.of (s1 _ _ hy),rfl,λv hv=>?_,?_⟩
 ·obtain⟨i,hi⟩:=getElem?_of_mem hv
  obtain⟨d,a,_,e,ha⟩:=sy1.at hi;exact⟨a,d.tup,e,ha,sV d⟩
 ·rw[tq (g:=je he te) sy1.1 λi v d hv hd=>(CJ (sy1.2 i v d hv hd)).trans (xP he te d)]
  exact k _ s1
abbrev QD:=Int×Str×Str×Str
inductive cY  (H:Hp)(v:V)(d:QD):Prop
 |mk(a:Addr)(h0:v=.ref a)(h1:H a=some (.tup [.int d.1,.str d.2.1,.str d.2.2.1,.str d.2.2.2]))
theorem cY.mono{H H':Hp}(s:Tk H H')(v:V)(d:QD)(h:cY H v d):cY H' v d:=by
 obtain⟨a,e,ha⟩:=h;exact⟨a,e,s _ _ ha⟩
def iV(ps:List Str)(d:QD):Prop:=cO d.1/\d.2.1∈ps/\d.2.2.1∈ps/\(d.2.2.2= "both" \/d.2.2.2= "one")
theorem AE{ps:List Str}{H:Hp}{ts:List V}(h:∀v∈ts,eW ps H v):∃qd,Lz cY H ts qd/\∀d∈qd,iV ps d:=
 rB λv hv=>by
  obtain⟨a,i,p,q,w,e,ha,hi,hp,hq,_,hw⟩:=h v hv;exact⟨(i,p,q,w),⟨a,e,ha⟩,hi,hp,hq,hw⟩
def eV(qd:List QD):List TD:=qd.map λd=>d.2
theorem zY{H:Hp}{ts:List V}{qd:List QD}(h:Lz cY H ts qd):IC H ts (eV qd):=by
 refine⟨by rw[h.1];exact(length_map ..).symm,λi v d hv hd=>?_⟩;unfold eV at hd;rw[getElem?_map]at hd;obtain⟨q,hq,rfl⟩:=map_eq_some_iff.mp hd;obtain⟨a,e,ha⟩:=h.2 i v q hv hq;exact⟨a,q.1,e,ha⟩
def cT(qd:List QD)(k:Nat):Int:=match qd[k]? with
 |some d=>d.1
 |none=>0
theorem dH{qd:List QD}{k:Nat}{d:QD}(h:qd[k]? =some d):cT qd k=d.1:=by
 unfold cT;rw[h]
abbrev TK:=Nat×Str×Str
def da(qd:List QD)(sd:List SD)(t:TK):Bool:=dG (cT qd t.1) (floorOf t.2.2 sd) && !(sd.any (iQ t.2.1 (cT qd t.1)) || sd.any (je t.2.2 t.2.1))
theorem nL{t:TK}:∀{l:List TD}{k:Nat},t∈eP k l->∃(j:Nat) (d:TD),l[j]? =some d/\t.1=k+j/\(t.2=(d.1,d.2.1)\/t.2=(d.2.1,d.1))
 |[],_,h=>by cases h
 |d::r,k,h=>by
  have h':t∈dM k d++eP (k+1) r:=h;rcases mem_append.mp h' with h|h
  ·refine⟨0,d,rfl,?_⟩
   unfold dM at h;split at h
   ·rcases mem_cons.mp h with rfl|h
    ·exact⟨rfl,.inl rfl⟩
    ·rw[mem_singleton]at h
     subst h;exact⟨rfl,.inr rfl⟩
   ·rw[mem_singleton]at h
    subst h;exact⟨rfl,.inl rfl⟩
  ·obtain⟨j,e,he,h1,h2⟩:=nL h
   exact⟨j+1,e,he,by omega,h2⟩
theorem Gv{ps:List Str}{qd:List QD}(ok:∀d∈qd,iV ps d){t:TK}(h:t∈eP 0 (eV qd)):∃q,qd[t.1]? =some q/\t.2.2∈ps:=by
 obtain⟨j,d,hd,e1,e2⟩:=nL h;unfold eV at hd;rw[getElem?_map]at hd;obtain⟨q,hq,rfl⟩:=map_eq_some_iff.mp hd;rw[zero_add]at e1;have:=ok q (mem_of_getElem? hq);refine⟨q,by rw[e1];exact hq,?_⟩;rcases e2 with e2|e2
 ·rw[e2]
  exact this.2.2.1
 ·rw[e2]
  exact this.2.1
theorem Dp{ta tb:TE}{σ:St}{H:Hp}{Q:VK}(b1 b2:Bool)(h1:∀Q':VK,(∀H',cH H H'->Q' (.bl b1) H')->ta σ H Q')(h2:∀H1 (Q':VK),cH H H1->(∀H',cH H1 H'->Q' (.bl b2) H')->tb σ H1 Q')(q:∀H',cH H H'->Q (.bl (b1 || b2)) H'):Dv ta tb σ H Q:=by
 refine h1 _ λH1 s1=>⟨_,rfl,?_⟩;cases b1 with
 |true=>exact dk (q H1 s1)
 |false=>exact cW (h2 H1 _ s1 λH' s'=>q H' (s1.trans s'))
theorem Fh{ta tb:TE}{i j:Nat}{v:V}{u:TS}{D:Ends}{σ:St}{H:Hp}(b1 b2:Bool)(h1:∀Q':VK,(∀H',cH H H'->Q' (.bl b1) H')->ta (σ.set i (some v)) H Q')(h2:∀H1 (Q':VK),cH H H1->(∀H',cH H1 H'->Q' (.bl b2) H')->tb (σ.set i (some v)) H1 Q')
  (q:∀H',cH H H'->u D ((σ.set i (some v)).set j (some (.bl (b1 || b2)))) H'):eS i v σ H (tX (rJ (Dv ta tb) (eS j)) u D):=Dp (ta:=ta) (tb:=tb) b1 b2 h1 h2 q
inductive FJ(C:Addr)(vs:List V)(H:Hp)(Q:VK):Prop
 |mk(x p s t y:Addr)(ps:List Str)(ss ts ys:List V)(qd:List QD)(sd:List SD)(e:vs=[.ref x])(bk:Bk C H x p s t y ps ss ts ys)(pl:ps.length<=24)(tl:ts.length<=120)(qs:Lz cY H ts qd)(qk:∀d∈qd,iV ps d)(sy:Sys H ys sd)(l:ys.length<=60)
   (k:∀l us H',cH H H'->H l=none->H' l=some (.lst us)->fD H' us ((eP 0 (eV qd)).filter (da qd sd))->Q (.ref l) H')
inductive J4(x tb yb d fo:Addr)(H5:Hp)(tl:List TK)(op:TK->Bool)(i:Nat)(σ:St)(H6:Hp):Prop
 |mk(us:List V)(e1 e2 e3 e4 e5:Option V)(e:σ=[some (.ref x),some (.ref tb),some (.ref yb),some (.ref d),some (.ref fo),e1,e2,e3,e4,e5])(kp:∀b o,H5 b=some o->b≠fo->H6 b=some o)(hf:H6 fo=some (.lst us))(ul:us.length<=i)(tu:fD H6 us ((tl.take i).filter op))
def nA(C:Addr):Sp:=λvs H Q _=>FJ C vs H Q
theorem vy:cI ["self"] ["self"] (cF f7):={}
theorem vv (F:o7 K "talks" "Book.talks" f7 f fd) (me:Meth K C "talks" f) (bi:Binds K fd ["self"] []) (T:Txt K mg kw C):Md P w K mg base 1 C "talks" (c9 C (λ_ _ t _=>t)):=by
 refine cz F me bi T.cl vy (λvs H Q E h=>?_) (λX H vs Q E hh h=>?_)
 ·obtain⟨x,p,s,t,y,xs,rfl,_⟩:=h
  rfl
 ·obtain⟨x,p,s,t,y,xs,rfl,⟨dx,hx⟩,hl,k⟩:=h
  obtain⟨S0,_⟩:=hh.d9 [0];have G02:=hh.b T.b_list;obtain rfl:=hh.fK;refine⟨_,(ag (au (bw G02 bM L2.ei (ak (cw (aa S0)))))),?_⟩;exact⟨_,rfl,x,C,dx,_,_,rfl,hx,T.cl,T.nT,Eo _ _ _ _,_,_,rfl,.inl (cK.of hl),k⟩
theorem mw:cI ["book", "talks", "sayings", "floors", "found", "k", "teller", "hearer", "hour", "hushed"] ["book"] (cF fM):={}
theorem mC (D:Df K mg "open_tellings" fM ["book"] f fd) (T:Txt K mg kw C) (G0p:Md P w K mg base 1 C "talks" (c9 C λ_ _ t _=>t)) (G0u:Md P w K mg base 1 C "sayings" (c9 C λ_ _ _ y=>y)) (G0M:Md P w K mg base 1 C "tellings" (iJ C))
  (G0j:Gd P w K mg base 3 "floors_of_all" (lh C)) (G0L:Gd P w K mg base 1 "is_above" nI) (G2g:Gd P w K mg base 1 "is_silent" xf) (G2h:Gd P w K mg base 1 "is_barred" xn):Gd P w K mg base 4 "open_tellings" (nA C):=by
 refine aF D mw λX H vs Q E hh h=>?_;obtain⟨x,p,s,t,y,ps,ss,ts,ys,qd,sd,rfl,bk,pl,tl,qs,qk,sy,l60,k⟩:=h;obtain⟨S0,S1,S2,S3,S4,S5,S6,S7,S8,S9,_⟩:=hh.d9 [0,1,2,3,4,5,6,7,8,9];have G0k:=hh.c G0j;have G2v:=hh.c G0L;have G2i:=hh.c G2h;have G2j:=hh.c G2g;have G0v:=hh.met G0u (by decide);have G0q:=hh.met G0p (by decide);have G0N:=hh.met G0M (by decide);have hu:=dY hh.room;have hsz:sizeLine=16777216:=sizeLine_eq;obtain⟨⟨dx,hx⟩,hp,hs,ht,hy⟩:=id bk;refine⟨_,(ah (aA S1 hh.nd (bB G0q (aa S0) rfl))
 (ah (aA S2 hh.nd (bB G0v (aa S0) rfl))
 (ah (aA S3 hh.nd (aw G0k (ak (aa S0))))
 (ah (aA S4 hh.nd (bA bK))
 (ah (a9 hh.own hh.calm (aQ (bB G0N (aa S0) rfl)) (bC hh.calm (aG (aE S5 hh.nd) (aG (aE S6 hh.nd) (aG (aE S7 hh.nd) bj))))
 (ah (aA S8 hh.nd (af ao (af aR (aa S1) (aa S5) aK) ae aj))
 (ah (aA S9 hh.nd (J.qp (aw G2j (aP (aa S2) (aa S6) (aa S8))) (aZ (aw G2i (aP (aa S2) (aa S7) (aa S6))))))
 (ag (aH (aX (bg (ba (aw G2v (aD (aa S8) (bh hu (aa S3) (aa S7) aK)))) (bz (bq (J.rg (aa S9))))))
 (ag (bH (bJ plainAttrs_list PySem.F.slot_list_append PySem.F.type_list_append bI (aa S4) (ak (aT (aP (aa S5) (aa S6) (aa S7)))))))
 aI)))))
 (ag (au (aa S4)))))))),?_⟩
 refine⟨_,rfl,x,dx,_,rfl,hx,eB _ _ _ _ (by decide+kernel) (by decide+kernel) (by decide+kernel) (by decide+kernel),x,p,s,t,y,ts,rfl,⟨dx,hx⟩,ht,λtb htb=>?_⟩;have s1:=cH.upd (o:=.lst ts) htb;have htb1:upd H tb (.lst ts) tb=some (.lst ts):=cD;generalize upd H tb (.lst ts)=H1 at s1 htb1;refine⟨_,rfl,x,dx,_,rfl,s1 _ _ hx,eB _ _ _ _ (by decide+kernel) (by decide+kernel) (by decide+kernel) (by decide+kernel),x,p,s,t,y,ys,rfl,⟨dx,s1 _ _ hx⟩,s1 _ _ hy,λyb hyb=>?_⟩;have s2:=cH.upd (o:=.lst ys) hyb;have hyb2:upd H1 yb (.lst ys) yb=some (.lst ys):=cD;generalize upd H1 yb (.lst ys)=H2 at s2 hyb2;have s02:=s1.trans s2;refine⟨_,rfl,x,p,s,t,y,ps,ss,ts,ys,sd,rfl,bk.mono s02,pl,sy.mono (Tk.of s02),l60,λd H3 s3 dn fl=>?_⟩;have s03:=s02.trans s3;refine⟨zr,λfo hfo=>?_⟩;have s4:=cH.upd (o:=.lst []) hfo;have s04:=s03.trans s4;have hfo4:upd H3 fo (.lst []) fo=some (.lst []):=cD;have nfo:H fo=none:=s03.free hfo;have fl4:=fl.mono s4;have htb4:=s4 _ _ (s3 _ _ (s2 _ _ htb1));have hyb4:=s4 _ _ (s3 _ _ hyb2);have fotb:tb≠fo:=cE (s3 _ _ (s2 _ _ htb1)) hfo;have foyb:yb≠fo:=cE (s3 _ _ hyb2) hfo;have fod:d≠fo:=by
  obtain⟨kvs,e,_⟩:=fl;exact cE e hfo
 generalize upd H3 fo (.lst [])=H4 at s4 s04 hfo4 fl4 htb4 hyb4;clear s1 htb1 s2 hyb2 s02 s3 fl s03 hfo s4;refine⟨_,rfl,x,dx,_,rfl,s04 _ _ hx,eB _ _ _ _ (by decide+kernel) (by decide+kernel) (by decide+kernel) (by decide+kernel),x,p,s,t,y,ps,ss,ts,ys,eV qd,rfl,bk.mono s04,(zY qs).mono (Tk.of s04),tl,λm vs H5 s5 mn hm tm=>?_⟩;have fom:m≠fo:=(cE hfo4 mn).symm;have ml:vs.length<=240:=by
  have:=jA (eV qd) 0;have:=tm.1;have:=(zY qs).1;omega
 refine⟨m,rfl,⟨_,cK.of hm⟩,dj (K:=X.K) (a:=m) (xs:=vs) (J4 x tb yb d fo H5 (eP 0 (eV qd)) (da qd sd))
  ⟨[],none,none,none,none,none,rfl,λb o e _=>e,s5 _ _ hfo4,le_refl 0,fD.nil⟩ ?_ ?_ ?_⟩
 ·rintro i σ H6 hi ⟨us,e1,e2,e3,e4,e5,rfl,kp,_⟩
  exact cK.of (kp _ _ hm fom)
 ·rintro i v σ H6 hv ⟨us,e1,e2,e3,e4,e5,rfl,kp,hf6,ul,tu⟩
  have hi:i < vs.length:=(gI0.mp hv).1;obtain⟨tk,htk⟩:∃tk,(eP 0 (eV qd))[i]? =some tk:=⟨_,getElem?_eq_getElem (by rw[<-tm.1];exact hi)⟩;obtain⟨a,rfl,ha⟩:=tm.2 i v tk hv htk;obtain⟨q,hq,hps⟩:=Gv qk (mem_of_getElem? htk);have kpT:∀b xs,H b=some (.tup xs)->H6 b=some (.tup xs):=λb xs e=>kp b _ (s5 _ _ (s04 _ _ e)) (cE e nfo);have ha6:=kp _ _ ha (mO ha (s5 _ _ hfo4) (by intro z;cases z));have htb6:=kp _ _ (s5 _ _ htb4) fotb;have hyb6:=kp _ _ (s5 _ _ hyb4) foyb;obtain⟨kvs,hd6,hk⟩:=fl4;have hd6:=kp _ _ (s5 _ _ hd6) fod;obtain⟨vq,hvq⟩:∃vq,ts[tk.1]? =some vq:=⟨_,getElem?_eq_getElem (by rw[qs.1];exact(gI0.mp hq).1)⟩;obtain⟨aq,rfl,haq⟩:=qs.2 _ _ _ hvq hq;have haq6:=kpT _ _ haq;have sy6:Sys H6 ys sd:=sy.mono kpT;refine⟨a,_,rfl,dv.of ha6,rfl,_,_,rfl,_,_,rfl,_,_,rfl,rfl,?_⟩;refine⟨_,rfl,_,rfl,xL htb6 (cN hvq) (xT haq6 rfl ?_)⟩;rw[<-dH hq];refine Fh (i:=8) (j:=9) (ta:=tj xf [] E0 (dR (gx 2) (dR (gx 6) (dR (gx 8) m8)))) (tb:=tj xn [] E0 (dR (gx 2) (dR (gx 7) (dR (gx 6) m8)))) (sd.any (iQ tk.2.1 (cT qd tk.1))) (sd.any (je tk.2.2 tk.2.1)) (λQ' q'=>⟨_,rfl,_,rfl,_,rfl,yb,ys,tk.2.1,cT qd tk.1,sd,rfl,hyb6,sy6,l60,q'⟩) (λH7 Q' s7 q'=>⟨_,rfl,_,rfl,_,rfl,yb,ys,tk.2.2,tk.2.1,sd,rfl,s7 _ _ hyb6,sy6.mono (Tk.of s7),q'⟩) (λH7 s7=>?_);have dg:dN H7 d (.str tk.2.2) (some (oV (floorOf tk.2.2 sd))):=by
   rw[<-hk _ hps];exact dN.k (k:=Sum.inr tk.2.2) (s7 _ _ hd6)
  have et:(eP 0 (eV qd)).take (i+1)=(eP 0 (eV qd)).take i++[tk]:=by
   rw[take_add_one,htk];rfl
  have hf7:=s7 _ _ hf6;have kp7:∀b o,H5 b=some o->b≠fo->H7 b=some o:=λb o e n=>s7 _ _ (kp b o e n);have tu7:=tu.mono (Tk.of s7);have no:da qd sd tk=false->fD H7 us (((eP 0 (eV qd)).take (i+1)).filter (da qd sd)):=λh=>by
   rw[et,filter_append,filter_cons,if_neg (by rw[h];exact bF0),filter_nil,append_nil];exact tu7
  refine⟨_,rfl,_,rfl,_,rfl,d,_,rfl,dg,cT qd tk.1,floorOf tk.2.2 sd,rfl,_,rfl,du (λhab=>⟨_,rfl,_,rfl,du (λhs=>?_) (λhs=>?_)⟩) (λhab=>cW ?_)⟩
  ·have ot:da qd sd tk=true:=by
    unfold da;rw[hab,hs];rfl
   refine⟨_,rfl,.inl ⟨rfl,_,cK.of hf7⟩,_,rfl,_,rfl,_,rfl,mM,λt1 ht1=>?_⟩;have s8:=cH.upd (o:=.tup [.int tk.1,.str tk.2.1,.str tk.2.2]) ht1;have t1f:t1≠fo:=(cE hf7 ht1).symm;refine⟨fo,us,.ref t1,rfl,rfl,s8 _ _ hf7,by omega,us++[.ref t1],_,_,_,_,_,rfl,λb o e n=>?_,cD,by rw[length_append];show us.length+1<=i+1;omega,?_⟩
   ·rw[cG n]
    exact s8 _ _ (kp7 b o e n)
   ·rw[et,filter_append,filter_cons,if_pos ot,filter_nil]
    refine(tu7.mono ((Tk.of s8).trans (Tk.upd (s8 _ _ hf7)))).snoc ⟨t1,rfl,?_⟩;rw[cG t1f];exact cD
  ·refine⟨us,_,_,_,_,_,rfl,kp7,hf7,by omega,no ?_⟩
   unfold da;rw[eF0 hs,Bool.and_false]
  ·refine⟨us,_,_,_,_,_,rfl,kp7,hf7,by omega,no ?_⟩
   unfold da;rw[eF0 hab,Bool.false_and]
 ·rintro σ H6 ⟨us,e1,e2,e3,e4,e5,rfl,kp,hf6,ul,tu⟩
  rw[tm.1,take_length]at tu;exact⟨_,rfl,k fo us H6 (λb o e=>kp b o (s5 _ _ (s04 _ _ e)) (cE e nfo)) nfo hf6 tu⟩
end K25
namespace K25
open PySem L2
variable {P:Program}{w:World}{K:FG0}{mg:Str->Option Value}{base:Heap}{kw C:Addr}{f:Addr}{fd:FuncData}
inductive FK  (vs:List V)(H:Hp)(Q:VK):Prop
 |mk(c k:Int)(h0:vs=[.int c,.int k])(h1:0<=k)(h2:k<=1000)(h3:∀m:Int,0<=m->m < 2147483647->Q (.int m) H)
def qf  :Sp:=λvs H Q _=>FK  vs H Q
structure nh(hs:List Int):Prop where
 len:hs.length=21
 ok:∀h∈hs,cO h
 mono:∀(i j:Nat) (a b:Int),i<=j->hs[i]? =some a->hs[j]? =some b->a<=b
inductive BQ  (vs:List V)(H:Hp)(Q:VK):Prop
 |mk(c:Int)(h0:vs=[.int c])(h1:∀(l:Addr)(hs:List Int)(H':Hp),cH H H'->H l=none->H' l=some (.lst (hs.map V.int))->nh hs->Q (.ref l) H')
def rQ  :Sp:=λvs H Q _=>BQ  vs H Q
def Mo(ps:List Str):SD->Prop
 |.knew p h=>p∈ps/\cO h
 |.unh p h=>p∈ps/\∀i,h=some i->cO i
 |.sil p b e=>p∈ps/\cO b/\cO e/\b<=e
 |.bar p q=>p∈ps/\q∈ps
inductive Dc  (vs:List V)(H:Hp)(Q:VK):Prop
 |mk(n at_:Int)(p q:Str)(cl:Addr)(hs:List Int)(ps:List Str)(h0:vs=[.int n,.str p,.str q,.ref cl,.int at_])(h1:H cl=some (.lst (hs.map V.int)))(h2:nh hs)(h3:0<=at_)(h4:at_<=20)(h5:p∈ps)(h6:q∈ps)(h7:∀(v:V)(d:SD)(H':Hp),cH H H'->ui H' v d->Mo ps d->Q v H')
def vk  :Sp:=λvs H Q _=>Dc  vs H Q
inductive CH  (vs:List V)(H:Hp)(Q:VK):Prop
 |mk(n k m:Int)(h0:vs=[.int n,.int k,.int m])(h1:0<=n)(h2:0<=k)(h3:1<=m)(h4:∀(t:Addr)(a f st:Int)(H':Hp),cH H H'->H' t=some (.tup [.int a,.int f,.int st])->0<=a->a<=20->0<=f->f < m->0<=st->Q (.ref t) H')
def vh  :Sp:=λvs H Q _=>CH  vs H Q
theorem k8{hs:List Int}(ok:nh hs){i:Int}(h0:0<=i)(h1:i<=20):∃h:Int,pj (hs.map V.int) i=some (.int h)/\hs[i.toNat]? =some h/\cO h:=by
 have hi:i.toNat < hs.length:=by
  rw[ok.len];omega
 have e:((i.toNat:Nat):Int)=i:=Int.toNat_of_nonneg h0;have:=cN (xs:=hs.map V.int) (j:=i.toNat) (v:=V.int hs[i.toNat]) (by rw[getElem?_map,getElem?_eq_getElem hi];rfl);rw[e]at this;exact⟨hs[i.toNat],this,getElem?_eq_getElem hi,ok.ok _ (getElem_mem hi)⟩
theorem both{G A:Prop}(g:G)(f:G->A):A:=f g
theorem c8(x:Int){m:Int}(h:0 < m):0<=x % m/\x % m < m:=⟨Int.emod_nonneg _ (Int.ne_of_gt h),Int.emod_lt_of_pos _ h⟩
theorem AN:cI ["_law_cell", "_law_k", "_law_some"] ["_law_cell", "_law_k"] (cF rb):={}
theorem Hf (D:Df K mg "_law_mix" rb ["_law_cell", "_law_k"] f fd):Gd P w K mg base 1 "_law_mix" qf:=by
 refine aF D AN λX H vs Q E hh h=>?_;obtain⟨c,k,rfl,k0,k1,q⟩:=h;obtain⟨S0,S1,S2,_⟩:=hh.d9 [0,1,2];refine⟨_,(ah (aA S2 hh.nd (az bu (az bu (az aY (aa S0) ae) (az bP (az bP ae (aa S1)) (aa S1))) ae))
 (ag (au (az aY (az bP (az aY (az bP (aa S2) (aa S2)) ae) (az bu (aa S1) ae)) ae)))),?_⟩
 refine⟨_,rfl,_,_,rfl,rfl,(by show(0:Int) < 1000000007;decide),_,rfl,_,_,rfl,rfl,.inl ⟨by decide,by decide⟩,_,rfl,_,_,rfl,rfl,.inr ⟨by omega,by omega⟩,_,_,rfl,rfl,_,_,rfl,rfl,?_⟩;have a:=c8 c (m:=1000000007) (by decide);have b:0<=31 * k * k/\31 * k * k<=31000000:=by
  have h1:31 * k * k=31 * (k * k):=Int.mul_assoc 31 k k;have h2:0<=k * k:=Int.mul_nonneg k0 k0;have h3:k * k<=1000 * 1000:=Int.mul_le_mul k1 k1 k0 (by decide);omega
 dsimp only;have sb:0<=c % 1000000007+31 * k * k+1/\c % 1000000007+31 * k * k+1<=1100000000:=by omega
 generalize c % 1000000007+31 * k * k+1=S at sb;clear a b;have r:=c8 (S * S % 2147483629 * (k+7)) (m:=2147483647) (by decide);exact⟨_,rfl,_,rfl,_,_,rfl,rfl,.inl ⟨by omega,by omega⟩,_,_,rfl,rfl,(by show(0:Int) < 2147483629;decide),_,rfl,_,_,rfl,rfl,_,_,rfl,rfl,.inr ⟨by omega,by omega⟩,_,_,rfl,rfl,(by show(0:Int) < 2147483647;decide),q _ r.1 r.2⟩
theorem vd:cI ["_law_cell", "_law_step", "_law_low"] ["_law_cell"] (cF lR):={}
theorem An (D:Df K mg "_law_clock" lR ["_law_cell"] f fd) (T:Txt K mg kw C):Gd P w K mg base 1 "_law_clock" rQ:=by
 refine aF D vd λX H vs Q E hh h=>?_;obtain⟨c,rfl,q⟩:=h;obtain⟨S0,S1,S2,_⟩:=hh.d9 [0,1,2];have G05:=hh.b T.b_range;have hsz:sizeLine=16777216:=sizeLine_eq;have e16:(10:Int) ^ Int.toNat 16=10000000000000000:=by decide+kernel
 have e17:(10:Int) ^ Int.toNat 17=100000000000000000:=by decide+kernel
 have e18:(10:Int) ^ Int.toNat 18=1000000000000000000:=by decide+kernel
 refine⟨_,(ah (aA S1 hh.nd (af aR (bA (bS ae ae ae (az bP ae (az J.lP ae ae)))) (az aY (aa S0) ae) bV))
 (ah (aA S2 hh.nd (af aR (bA (aP ae (az aY (az bf (aa S0) ae) (az J.lP ae ae)) (az J.lI (az J.lP ae ae) (az bP ae (aa S1))))) (az aY (az bf (aa S0) ae) ae) bV))
 (ag (au (cb (is:=[1,2]) (ns:=["_law_step", "_law_low"]) hh.calm (bR G05 (ak ae)) {} (λ_ _ _ _ _=>(az bu (bW (i:=1) rfl rfl (by decide) (by decide)) (az bP (bW (i:=0) rfl rfl (by decide) (by decide)) (bY rfl (by decide) (by decide))))) hh.hsc hh.hN))))),?_⟩
 refine⟨_,_,rfl,rfl,⟨by decide,by decide,by decide⟩,_,_,rfl,rfl,.inl ⟨by decide,by decide⟩,LC,λl1 hl1=>?_⟩;have s1:=cH.upd (o:=.lst [.int 1,.int 1,.int 7,.int (4 * 10 ^ Int.toNat 16)]) hl1;have m4:=c8 c (m:=4) (by decide);obtain⟨st,hst,st0⟩:∃st:Int,pj [V.int 1,.int 1,.int 7,.int (4 * 10 ^ Int.toNat 16)] (c % 4)=some (.int st)/\(st=1\/st=7\/st=40000000000000000):=by
  have:c % 4=0\/c % 4=1\/c % 4=2\/c % 4=3:=by omega
  rcases this with e|e|e|e<;>rw[e]
  ·exact⟨1,rfl,.inl rfl⟩
  ·exact⟨1,rfl,.inl rfl⟩
  ·exact⟨7,rfl,.inr (.inl rfl)⟩
  ·exact⟨_,rfl,.inr (.inr (by rw[e16];rfl))⟩
 refine⟨_,rfl,_,_,rfl,rfl,(by show(0:Int) < 4;decide),xL cD hst ?_⟩;have m3:=c8 (c / 4) (m:=3) (by decide);have m17:=c8 (c / 4) (m:=10 ^ Int.toNat 17) (by rw[e17];decide);obtain⟨lw,hlw,lw0,lw1⟩:∃lw:Int,pj [V.int 0,.int (c / 4 % 10 ^ Int.toNat 17),.int (10 ^ Int.toNat 18 - 20 * st)] (c / 4 % 3)=some (.int lw)/\0<=lw/\lw+st * 20<=1000000000000000000:=by
  have:c / 4 % 3=0\/c / 4 % 3=1\/c / 4 % 3=2:=by omega
  rcases this with e|e|e<;>rw[e]
  ·exact⟨0,rfl,by decide,by rcases st0 with z|z|z<;>rw[z]<;>decide⟩
  ·exact⟨_,rfl,m17.1,by rw[e17]at *;rcases st0 with z|z|z<;>rw[z]<;>omega⟩
  ·exact⟨_,rfl,by rw[e18];rcases st0 with z|z|z<;>rw[z]<;>decide,by rw[e18];omega⟩
 refine⟨_,rfl,_,_,rfl,rfl,⟨by decide,by decide⟩,_,_,rfl,rfl,⟨by decide,by decide,by decide⟩,_,_,rfl,rfl,(by show(0:Int) < 10 ^ Int.toNat 17;rw[e17];decide),_,_,rfl,rfl,⟨by decide,by decide,by decide⟩,_,rfl,_,_,rfl,rfl,.inl ⟨by decide,by decide⟩,_,_,rfl,rfl,mM,λl2 hl2=>?_⟩;have s2:=s1.trans (cH.upd (o:=.lst [.int 0,.int (c / 4 % 10 ^ Int.toNat 17),.int (10 ^ Int.toNat 18 - 20 * st)]) hl2);refine⟨_,rfl,_,_,rfl,rfl,⟨by decide,by decide⟩,_,_,rfl,rfl,(by show(0:Int) < 3;decide),xL cD hlw ?_⟩;refine⟨21,rfl,by decide,by decide,zI (lo:=0) (n:=21) (λv=>match v with|.int i=>.int (lw+st * i)|_=>.non) (by omega) (λi H2 Q' hi sm q'=>?_) (λD' hD=>?_)⟩
 ·exact⟨_,rfl,_,rfl,_,rfl,_,_,rfl,rfl,.inr ⟨by omega,by omega⟩,_,_,rfl,rfl,q'⟩
 ·have s3:=s2.trans (cH.upd (o:=.lst ((List.range 21).map λ(i:Nat)=>V.int (lw+st * (0+(i:Int))))) hD)
  have stp:0 < st:=by rcases st0 with z|z|z<;>rw[z]<;>decide
  refine q D' ((List.range 21).map λ(i:Nat)=>lw+st * (0+(i:Int))) _ s3 (s2.free hD) ?_ ⟨by rw[length_map,length_range],λh hm=>?_,λi j a b hij ha hb=>?_⟩
  ·rw[cD,map_map]
   rfl
  ·obtain⟨i,hi,rfl⟩:=mem_map.mp hm
   have hi':=mem_range.mp hi;have h1:st * (0+(i:Int))<=st * 20:=Int.mul_le_mul_of_nonneg_left (by omega) (by omega);have h2:0<=st * (0+(i:Int)):=Int.mul_nonneg (by omega) (by omega);exact⟨by omega,by rw[e18];omega⟩
  ·rw[getElem?_map]at ha hb
   obtain⟨i',hi',rfl⟩:=map_eq_some_iff.mp ha;obtain⟨j',hj',rfl⟩:=map_eq_some_iff.mp hb;obtain⟨h1,rfl⟩:=gI0.mp hi';obtain⟨h2,rfl⟩:=gI0.mp hj';rw[List.getElem_range,List.getElem_range];have h3:st * (0+(i:Int))<=st * (0+(j:Int)):=Int.mul_le_mul_of_nonneg_left (by omega) (by omega);omega
theorem tY:cI ["_law_number", "_law_one", "_law_other", "_law_clock_here", "_law_at", "_law_way", "_law_late"] ["_law_number", "_law_one", "_law_other", "_law_clock_here", "_law_at"] (cF j8):={}
theorem Cr (D:Df K mg "_law_saying" j8 ["_law_number", "_law_one", "_law_other", "_law_clock_here", "_law_at"] f fd) (T:Txt K mg kw C):Gd P w K mg base 1 "_law_saying" vk:=by
 refine aF D tY λX H vs Q E hh h=>?_;obtain⟨n,at_,p,q,cl,hs,ps,rfl,hc,ok,a0,a1,hp,hq,k⟩:=h;obtain⟨S0,S1,S2,S3,S4,S5,S6,_⟩:=hh.d9 [0,1,2,3,4,5,6];have G1c:=hh.b T.b_max;have G0U:=hh.b T.b_min;refine⟨_,(ah (aA S5 hh.nd (az aY (az bf (aa S0) ae) ae))
 (ah (aA S6 hh.nd (af aR (aa S3) (aJ G0U (J.f6 hh.calm) L2.qX (aD ae (az bu (aa S4) (az aY (az bf (aa S0) ae) ae)))) J.ro))
 (ah (aH (aB bO (aa S5) ae (L2.cJ _))
 (ag (au (aT (aP aM (aa S1) (aa S6)))))
 aI)
 (ah (aH (aX (bg (aB aL (aa S5) ae (L2.cJ _)) (bz (aB aL (az aY (az bf (aa S0) ae) ae) ae (L2.cJ _)))))
 (ag (au (aT (aP aM (aa S1) bE))))
 aI)
 (ah (aH (aB bO (aa S5) ae (L2.cJ _))
 (ag (au (aT (aP aM (aa S1) (af aR (aa S3) (aJ G1c (J.ic hh.calm) L2.u4 (aD ae (az J.lI (aa S4) (az aY (az bf (aa S0) ae) ae)))) J.ro)))))
 aI)
 (ah (aH (aB bO (aa S5) ae (L2.cJ _))
 (ag (au (aT (bS aM (aa S1) (af aR (aa S3) (aa S4) aK) (aa S6)))))
 aI)
 (ag (au (aT (aP aM (aa S1) (aa S2))))))))))),?_⟩
 have x8:=c8 (n / 131072) (m:=8) (by decide);have x6:=c8 (n / 131072) (m:=6) (by decide);obtain⟨late,eL,iL,kL⟩:=k8 ok (i:=if at_+n / 131072 % 8 < 20 then at_+n / 131072 % 8 else 20) (by split<;>omega) (by split<;>omega);obtain⟨here,eH,iH,kH⟩:=k8 ok (i:=at_) a0 a1;obtain⟨erl,eE,iE,kE⟩:=k8 ok (i:=if at_ - n / 131072 % 6 > 0 then at_ - n / 131072 % 6 else 0) (by split<;>omega) (by split<;>omega);have le:here<=late:=ok.mono _ _ _ _ (by split<;>omega) iH iL;refine⟨_,rfl,_,_,rfl,rfl,⟨by decide,by decide⟩,_,_,rfl,rfl,(by show(0:Int) < 8;decide),?_⟩;refine⟨_,rfl,_,rfl,_,rfl,_,_,rfl,rfl,⟨by decide,by decide⟩,_,_,rfl,rfl,(by show(0:Int) < 8;decide),_,_,rfl,rfl,_,_,rfl,xL hc eL ?_⟩;refine⟨_,rfl,_,_,rfl,rfl,_,rfl,du (λ_=>?_) (λ_=>?_)⟩
 ·exact⟨_,rfl,_,rfl,mM,λt ht=>k _ (.knew p late) _ (cH.upd ht) ⟨t,rfl,cD⟩ ⟨hp,kL⟩⟩
 refine both ?_ λother=>⟨_,rfl,rfl,_,rfl,du (λ_=>⟨_,rfl,_,_,rfl,rfl,⟨by decide,by decide⟩,_,_,rfl,rfl,(by show(0:Int) < 6;decide),rfl,_,rfl,du (λ_=>?_) (λ_=>other)⟩) (λ_=>cW other)⟩
 ·refine⟨_,rfl,_,_,rfl,rfl,_,rfl,du (λ_=>?_) (λ_=>?_)⟩
  ·exact⟨_,rfl,_,rfl,_,rfl,_,rfl,_,_,rfl,rfl,⟨by decide,by decide⟩,_,_,rfl,rfl,(by show(0:Int) < 6;decide),_,_,rfl,rfl,_,_,rfl,xL hc eE ⟨mM,λt ht=>k _ (.unh p (some erl)) _ (cH.upd ht) ⟨t,rfl,cD⟩ ⟨hp,λi e=>by cases e;exact kE⟩⟩⟩
  refine⟨_,rfl,_,_,rfl,rfl,_,rfl,du (λ_=>?_) (λ_=>?_)⟩
  ·exact⟨_,rfl,_,rfl,_,rfl,xL hc eH ⟨_,rfl,LC,λt ht=>k _ (.sil p here late) _ (cH.upd ht) ⟨t,rfl,cD⟩ ⟨hp,kH,kL,le⟩⟩⟩
  ·exact⟨_,rfl,_,rfl,mM,λt ht=>k _ (.bar p q) _ (cH.upd ht) ⟨t,rfl,cD⟩ ⟨hp,hq⟩⟩
 ·exact⟨_,rfl,mM,λt ht=>k _ (.unh p none) _ (cH.upd ht) ⟨t,rfl,cD⟩ ⟨hp,λi e=>by cases e⟩⟩
theorem zc:cI ["_law_number", "_law_k", "_law_many", "_law_at"] ["_law_number", "_law_k", "_law_many"] (cF oK):={}
theorem DV (D:Df K mg "_law_spot" oK ["_law_number", "_law_k", "_law_many"] f fd) (T:Txt K mg kw C):Gd P w K mg base 1 "_law_spot" vh:=by
 refine aF D zc λX H vs Q E hh h=>?_;obtain⟨n,k,m,rfl,n0,k0,m1,q⟩:=h;obtain⟨S0,S1,S2,S3,_⟩:=hh.d9 [0,1,2,3];have G1c:=hh.b T.b_max;have G0U:=hh.b T.b_min;refine⟨_,(ah (aH (aB b9 (aa S2) ae (L2.cJ _))
 (ag (au (aT (aP (aJ G0U (J.f6 hh.calm) L2.qX (aD ae (az bf (az bu (aa S1) ae) ae))) (az aY (az bf (aa S1) ae) (aa S2)) ae))))
 aI)
 (ah (aA S3 hh.nd (aJ G0U (J.f6 hh.calm) L2.qX (aD ae (az bu (az bf (aa S1) ae) (az aY (az bf (aa S0) ae) ae)))))
 (ag (au (aT (aP (aa S3) (az aY (az bf (aa S0) ae) (aa S2)) (az bu ae (az aY (az bf (aa S0) ae) (aJ G1c (J.ic hh.calm) L2.u4 (aD ae (az J.lI (aa S2) ae))))))))))),?_⟩
 refine⟨_,rfl,_,_,rfl,rfl,_,rfl,du (λ_=>?_) (λ_=>?_)⟩
 ·have a:=c8 (k / 3) (m:=m) (by omega)
  refine⟨_,rfl,_,_,rfl,rfl,_,_,rfl,rfl,⟨by decide,by decide⟩,_,_,rfl,_,rfl,_,_,rfl,rfl,⟨by decide,by decide⟩,_,rfl,_,_,rfl,rfl,(by omega),mM,λt ht=>q t _ _ _ _ (cH.upd ht) cD ?_ ?_ a.1 a.2 (by decide)⟩
  ·split<;>omega
  ·split<;>omega
 ·have b:=c8 (n / 8) (m:=6) (by decide)
  have c:=c8 (n / 64) (m:=m) (by omega);refine⟨_,rfl,_,_,rfl,rfl,⟨by decide,by decide⟩,_,rfl,_,_,rfl,rfl,⟨by decide,by decide⟩,_,_,rfl,rfl,(by show(0:Int) < 6;decide),_,_,rfl,rfl,_,_,rfl,?_⟩;refine⟨_,rfl,_,rfl,_,_,rfl,rfl,⟨by decide,by decide⟩,_,rfl,_,_,rfl,rfl,(by omega),_,rfl,_,_,rfl,rfl,⟨by decide,by decide⟩,_,rfl,_,_,rfl,rfl,_,_,rfl,_,_,rfl,rfl,(by split<;>omega),_,_,rfl,rfl,mM,λt ht=>q t _ _ _ _ (cH.upd ht) cD ?_ ?_ c.1 c.2 ?_⟩
  ·split<;>omega
  ·split<;>omega
  ·have:=Int.emod_nonneg (n / 1024) (b:=if m - 1 > 1 then m - 1 else 1) (by split<;>omega)
   omega
def Er(z:Str)(h:Int):SD->Bool
 |.unh q none=>decide (q=z)
 |.unh q (some i)=>decide (q=z) && decide (h<=i)
 |_=>false
def Ks(h:Int):Option Int->Bool
 |none=>false
 |some i=>decide (i < h)
theorem qE(h:Int):∀(us:List (Option Int)) (acc:Int),dG h (D4 acc us)=(decide (acc < h) && us.all (Ks h))
 |[],acc=>by
  show decide (acc < h)=(decide (acc < h) && true);rw[Bool.and_true]
 |none::r,acc=>by
  show false=(decide (acc < h) && (false && r.all (Ks h)));rw[Bool.false_and,Bool.and_false]
 |some i::r,acc=>by
  show dG h (D4 (if i > acc then i else acc) r)=(decide (acc < h) && (decide (i < h) && r.all (Ks h)));rw[qE h r,<-Bool.and_assoc]
  congr 1
  rw[Bool.eq_iff_iff,and_eq_true,decide_eq_true_iff,decide_eq_true_iff,decide_eq_true_iff];split<;>omega
theorem uc(z:Str)(h:Int):∀sd:List SD,(ng z sd).all (Ks h)= !(sd.any (Er z h))
 |[]=>rfl
 |d::r=>by
  have ih:=uc z h r;rw[any_cons,Bool.not_or,<-ih];cases d with
  |unh q o=>
   by_cases e:q=z
   ·subst e
    rw[sI,all_cons]
    congr 1
    cases o with
    |none=>
     show false= !(decide (q=q));rw[dT0 rfl];rfl
    |some i=>
     show decide (i < h)= !(decide (q=q) && decide (h<=i));rw[dT0 rfl,Bool.true_and];by_cases c:i < h
     ·rw[dT0 c,decide_eq_false (by omega)]
      rfl
     ·rw[decide_eq_false c,dT0 (by omega)]
      rfl
   ·rw[gC (show tH z (.unh q o)=false from decide_eq_false e)]
    have:Er z h (.unh q o)=false:=by
     cases o with
     |none=>exact decide_eq_false e
     |some i=>
      show(decide (q=z) && decide (h<=i))=false;rw[decide_eq_false e,Bool.false_and]
    rw[this];rfl
  |knew q i=>
   rw[gC rfl];rfl
  |sil q b e=>
   rw[gC rfl];rfl
  |bar q q'=>
   rw[gC rfl];rfl
theorem Cb{z:Str}{h:Int}{sd:List SD}(h0:0<=h):dG h (floorOf z sd)= !(sd.any (Er z h)):=by
 unfold floorOf;rw[qE,uc,dT0 (show(-1:Int) < h by omega),Bool.true_and]
inductive CV  (vs:List V)(H:Hp)(Q:VK):Prop
 |mk(y:Addr)(ys:List V)(z:Str)(h:Int)(sd:List SD)(h0:vs=[.ref y,.str z,.int h])(h1:H y=some (.lst ys))(h2:Sys H ys sd)(h3:0<=h)(h4:∀H',cH H H'->Q (.bl (dG h (floorOf z sd))) H')
def qU  :Sp:=λvs H Q _=>CV  vs H Q
inductive Cn  (vs:List V)(H:Hp)(Q:VK):Prop
 |mk(t:Addr)(ts:List V)(qd:List QD)(h0:vs=[.ref t])(h1:H t=some (.lst ts))(h2:Lz cY H ts qd)(h3:ts.length<=120)(h4:∀(l:Addr)(us:List V)(H':Hp),cH H H'->H l=none->H' l=some (.lst us)->fD H' us (eP 0 (eV qd))->Q (.ref l) H')
def vK  :Sp:=λvs H Q _=>Cn  vs H Q
inductive yi  (vs:List V)(H:Hp)(Q:VK):Prop
 |mk(t y:Addr)(ts ys:List V)(v:V)(tk:TK)(qd:List QD)(sd:List SD)(q:QD)(h0:vs=[.ref t,.ref y,v])(h1:H t=some (.lst ts))(h2:H y=some (.lst ys))(h3:Lz cY H ts qd)(h4:Sys H ys sd)(h5:oB H v tk)(h6:qd[tk.1]? =some q)(h7:cO q.1)(h8:∀H',cH H H'->Q (.bl (da qd sd tk)) H')
def pk  :Sp:=λvs H Q _=>yi  vs H Q
theorem sH{α:Type}{f:α->Bool}{l:List α}{i:Nat}{d:α}(h:l[i]? =some d)(h0:(l.take i).any f=false)(h1:f d=false):(l.take (i+1)).any f=false:=by
 rw[take_add_one,h,List.any_append,h0];show(false || (f d || false))=false;rw[h1];rfl
theorem Ao{α:Type}(f g:α->Bool):∀l:List α,(l.any λd=>f d || g d)=(l.any f || l.any g)
 |[]=>rfl
 |d::r=>by
  rw[any_cons,any_cons,any_cons,Ao f g r];cases f d<;>cases g d<;>cases r.any f<;>cases r.any g<;>rfl
theorem zf:cI ["_law_sayings", "_law_person", "_law_when", "_law_row"] ["_law_sayings", "_law_person", "_law_when"] (cF o4):={}
theorem Cs (D:Df K mg "_law_free" o4 ["_law_sayings", "_law_person", "_law_when"] f fd):Gd P w K mg base 1 "_law_free" qU:=by
 refine aF D zf λX H vs Q E hh h=>?_;obtain⟨y,ys,z,h,sd,rfl,hy,sy,h0,k⟩:=h;obtain⟨S0,S1,S2,S3,_⟩:=hh.d9 [0,1,2,3];rw[Cb h0]at k;refine⟨_,(ah (a9 hh.own hh.calm (aQ (aa S0)) (aE S3 hh.nd)
 (ag (aH (aX (bg (aB aL (af ao (aa S3) ae aj) aM (L2.cJ _)) (bg (aB aL (af ao (aa S3) ae aj) (aa S1) (L2.cJ _)) (bz (aX (bF (aB cu (af ao (aa S3) ae aj) bE (L2.cJ _)) (bG (aB bD (aa S2) (af ao (aa S3) ae aj) (L2.cJ _)))))))))
 (ag (au a5))
 aI)))
 (ag (au a5))),?_⟩
 refine⟨_,rfl,y,rfl,⟨_,cK.of hy⟩,dj (K:=X.K) (a:=y) (xs:=ys) (λi σ H2=>∃e:Option V,σ=[some (.ref y),some (.str z),some (.int h),e]/\cH H H2/\(sd.take i).any (Er z h)=false)
  ⟨none,rfl,cH.refl _,rfl⟩ ?_ ?_ ?_⟩
 ·rintro i σ H2 hi ⟨e,rfl,s2,_⟩
  exact cK.of (s2 _ _ hy)
 ·rintro i v σ H2 hv ⟨e,rfl,s2,ha0⟩
  obtain⟨d,a,hd,rfl,ha⟩:=sy.at hv;have ha2:=s2 _ _ ha;have yes:Er z h d=true->Q (.bl false) H2:=λhk=>by
   have:=k H2 s2;rw[show sd.any (Er z h)=true from any_eq_true.mpr ⟨d,mem_of_getElem? hd,hk⟩]at this;exact this
  have no:Er z h d=false->(sd.take (i+1)).any (Er z h)=false:=sH hd ha0;cases d with
  |knew q i'=>exact⟨_,rfl,xT ha2 rfl ⟨rfl,_,rfl,iN (cW ⟨_,rfl,s2,no rfl⟩)⟩⟩
  |sil q b e'=>exact⟨_,rfl,xT ha2 rfl ⟨rfl,_,rfl,iN (cW ⟨_,rfl,s2,no rfl⟩)⟩⟩
  |bar q q'=>exact⟨_,rfl,xT ha2 rfl ⟨rfl,_,rfl,iN (cW ⟨_,rfl,s2,no rfl⟩)⟩⟩
  |unh q o=>
   refine⟨_,rfl,xT ha2 rfl ⟨rfl,_,rfl,iP ⟨_,rfl,xT ha2 rfl ⟨_,rfl,rfl,_,rfl,du (λhq=>?_) (λhq=>cW ?_)⟩⟩⟩⟩
   ·have hq':q=z:=V.str.inj (of_decide_eq_true hq)
    cases o with
    |none=>exact⟨_,rfl,xT ha2 rfl ⟨rfl,_,rfl,fu (dT0 rfl) (dk (yes (dT0 hq')))⟩⟩
    |some j=>
     refine⟨_,rfl,xT ha2 rfl ⟨rfl,_,rfl,iW (by rw[decide_eq_true_iff];intro e;cases e) ⟨_,rfl,_,rfl,xT ha2 rfl ⟨_,_,rfl,rfl,_,rfl,du (λhj=>yes ?_) (λhj=>⟨_,rfl,s2,no ?_⟩)⟩⟩⟩⟩
     ·show(decide (q=z) && decide (h<=j))=true
      rw[dT0 hq',hj];rfl
     ·show(decide (q=z) && decide (h<=j))=false
      rw[eF0 hj,Bool.and_false]
   ·refine⟨_,rfl,s2,no ?_⟩
    have hq':¬q=z:=λe=>hq (dT0 (congrArg V.str e));cases o with
    |none=>exact decide_eq_false hq'
    |some j=>
     show(decide (q=z) && decide (h<=j))=false;rw[decide_eq_false hq',Bool.false_and]
 ·rintro σ H2 ⟨e,rfl,s2,ha0⟩
  rw[sy.1,take_length]at ha0;have:=k H2 s2;rw[ha0]at this;exact this
theorem p0:cI ["_law_talks", "_law_found", "_law_k"] ["_law_talks"] (cF iF):={}
theorem Cz (D:Df K mg "_law_tellings" iF ["_law_talks"] f fd) (T:Txt K mg kw C):Gd P w K mg base 1 "_law_tellings" vK:=by
 refine aF D p0 λX H vs Q E hh h=>?_;obtain⟨t,ts,qd,rfl,ht,qs,l120,k⟩:=h;obtain⟨S0,S1,S2,_⟩:=hh.d9 [0,1,2];have G00:=hh.b T.b_len;have G05:=hh.b T.b_range;have hsz:sizeLine=16777216:=sizeLine_eq;refine⟨_,(ah (aA S1 hh.nd (bA bK))
 (ah (a9 hh.own hh.calm (bR G05 (ak (aJ G00 bp L2.dA (ak (aa S0))))) (aE S2 hh.nd)
 (ah (bH (bJ plainAttrs_list PySem.F.slot_list_append PySem.F.type_list_append bI (aa S1) (ak (aT (aP (aa S2) (af ao (af aR (aa S0) (aa S2) aK) ae aj) (af ao (af aR (aa S0) (aa S2) aK) ae aj))))))
 (ag (aH (aB aL (af ao (af aR (aa S0) (aa S2) aK) ae aj) aM (L2.cJ _))
 (ag (bH (bJ plainAttrs_list PySem.F.slot_list_append PySem.F.type_list_append bI (aa S1) (ak (aT (aP (aa S2) (af ao (af aR (aa S0) (aa S2) aK) ae aj) (af ao (af aR (aa S0) (aa S2) aK) ae aj)))))))
 aI))))
 (ag (au (aa S1))))),?_⟩
 refine⟨zr,λl hl=>?_⟩;have s1:=cH.upd (o:=.lst []) hl;refine⟨_,rfl,t,_,rfl,.inl (cK.of (s1 _ _ ht)),(ts.length:Int),rfl,by omega,by omega,fZ (lo:=0) (n:=((ts.length:Nat):Int).toNat) (λi σ H2=>∃(us:List V) (e1:Option V),σ=[some (.ref t),some (.ref l),e1]/\cH H H2/\H2 l=some (.lst us)/\us.length<=2 * i/\fD H2 us (eP 0 ((eV qd).take i)))
  ⟨[],none,rfl,s1,cD,le_refl 0,fD.nil⟩ ?_ ?_⟩
 ·rintro i σ H2 hi ⟨us,e1,rfl,s2,hl2,ul,tl⟩
  rw[Int.toNat_natCast]at hi;have hv:ts[i]? =some ts[i]:=getElem?_eq_getElem hi;generalize ts[i]=v at hv;obtain⟨d,hd,a,rfl,ha⟩:=qs.at hv;have hd':(eV qd)[i]? =some d.2:=by
   unfold eV;rw[getElem?_map,hd];rfl
  have ha2:=s2 _ _ ha;have ht2:=s2 _ _ ht;have av:pj ts ((0:Int)+(i:Int))=some (.ref a):=by rw[Int.zero_add];exact cN hv
  refine⟨_,rfl,.inl ⟨rfl,_,cK.of hl2⟩,_,rfl,_,rfl,_,rfl,xL ht2 av (xT ha2 rfl ⟨_,rfl,_,rfl,xL ht2 av (xT ha2 rfl ⟨mM,λt1 ht1=>?_⟩)⟩)⟩;rw[Int.zero_add];have s4:=cH.upd (o:=.tup [.int i,.str d.2.1,.str d.2.2.1]) ht1;refine⟨l,us,.ref t1,rfl,rfl,s4 _ _ hl2,by omega,?_⟩;have t1l:t1≠l:=(cE hl2 ht1).symm;have tv5:oB (upd (upd H2 t1 (.tup [.int i,.str d.2.1,.str d.2.2.1])) l (.lst (us++[.ref t1]))) (.ref t1) (i,d.2.1,d.2.2.1):=⟨t1,rfl,by rw[cG t1l];exact cD⟩;have tk5:=(Tk.of s4).trans (Tk.upd (s4 _ _ hl2) (ys:=us++[.ref t1]));have tl5:=tl.mono tk5;have hl5:upd (upd H2 t1 (.tup [.int i,.str d.2.1,.str d.2.2.1])) l (.lst (us++[.ref t1])) l=some (.lst (us++[.ref t1])):=cD;have s05:cH H (upd (upd H2 t1 (.tup [.int i,.str d.2.1,.str d.2.2.1])) l (.lst (us++[.ref t1]))):=λb o e=>by
   rw[cG (cE e hl)];exact s4 _ _ (s2 _ _ e)
  generalize upd (upd H2 t1 (.tup [.int i,.str d.2.1,.str d.2.2.1])) l (.lst (us++[.ref t1]))=H5 at tv5 tl5 hl5 s05;have ha5:=s05 _ _ ha;have ht5:=s05 _ _ ht;have av':pj ts (i:Int)=some (.ref a):=cN hv;refine⟨_,rfl,_,rfl,xL ht5 av' (xT ha5 rfl ⟨rfl,_,rfl,du (λhb=>?_) (λhb=>?_)⟩)⟩
  ·have hb':d.2.2.2= "both" :=V.str.inj (of_decide_eq_true hb)
   refine⟨_,rfl,.inl ⟨rfl,_,cK.of hl5⟩,_,rfl,_,rfl,_,rfl,xL ht5 av' (xT ha5 rfl ⟨_,rfl,_,rfl,xL ht5 av' (xT ha5 rfl ⟨mM,λt2 ht2'=>?_⟩)⟩)⟩;have s6:=cH.upd (o:=.tup [.int i,.str d.2.2.1,.str d.2.1]) ht2';refine⟨l,_,.ref t2,rfl,rfl,s6 _ _ hl5,by rw[length_append];show us.length+1 < _;omega,?_⟩;have t2l:t2≠l:=(cE hl5 ht2').symm;have tk7:=(Tk.of s6).trans (Tk.upd (s6 _ _ hl5) (ys:=(us++[.ref t1])++[.ref t2]));refine⟨_,_,rfl,λb o e=>?_,cD,?_,(nB hd' (tl5.mono tk7)).1 hb' _ _ (tv5.mono tk7) ⟨t2,rfl,?_⟩⟩
   ·rw[cG (cE e hl)]
    exact s6 _ _ (s05 _ _ e)
   ·rw[length_append,length_append]
    show us.length+1+1<=2 * (i+1);omega
   ·rw[cG t2l]
    exact cD
  ·have hb':d.2.2.2≠ "both" :=λe=>hb (dT0 (congrArg V.str e))
   exact⟨_,_,rfl,s05,hl5,by rw[length_append];show us.length+1<=2 * (i+1);omega,(nB hd' tl5).2 hb' _ tv5⟩
 ·rintro σ H2 ⟨us,e1,rfl,s2,hl2,ul,tl⟩
  rw[Int.toNat_natCast,qs.1,show qd.length=(eV qd).length from (length_map ..).symm,take_length]at tl;exact⟨_,rfl,k l us H2 s2 hl hl2 tl⟩
theorem DM{i:Nat}{v:V}{tc:TT}{u t2:TS}{D:Ends}{σ:St}{H:Hp}(b:Bool)(hc:∀Q:Bool->Hp->Prop,Q b H->tc (σ.set i (some v)) H Q)(h1:b=true->u { D with nx:=t2 D } (σ.set i (some v)) H)(h2:b=false->t2 D (σ.set i (some v)) H):
  eS i v σ H (λσ2 H2=>tX (y8 tc u p9) t2 D σ2 H2):=by
 refine hc _ ?_;cases b with
 |true=>exact dk (h1 rfl)
 |false=>exact cW (h2 rfl)
def wb(te he:Str)(h:Int)(d:SD):Bool:=iQ te h d || je he te d
theorem rL:cI ["_law_talks", "_law_sayings", "_law_telling", "_law_k", "_law_teller", "_law_hearer", "_law_when", "_law_row"] ["_law_talks", "_law_sayings", "_law_telling"] (cF jd):={}
theorem vA (D:Df K mg "_law_is_open" jd ["_law_talks", "_law_sayings", "_law_telling"] f fd) (T:Txt K mg kw C) (G0G:Gd P w K mg base 1 "_law_free" qU):Gd P w K mg base 2 "_law_is_open" pk:=by
 refine aF D rL λX H vs Q E hh h=>?_;obtain⟨t,y,ts,ys,v,tk,qd,sd,q,rfl,ht,hy,qs,sy,⟨a,rfl,ha⟩,hq,hk,k⟩:=h;obtain⟨S0,S1,S2,S3,S4,S5,S6,S7,_⟩:=hh.d9 [0,1,2,3,4,5,6,7];have G2k:=hh.c G0G;have hu:=dY hh.room;obtain⟨vq,hvq⟩:∃vq,ts[tk.1]? =some vq:=⟨_,getElem?_eq_getElem (by rw[qs.1];exact(gI0.mp hq).1)⟩;obtain⟨aq,rfl,haq⟩:=qs.2 _ _ _ hvq hq;have ok:∀H',cH H H'->Q (.bl (dG q.1 (floorOf tk.2.2 sd) && !(sd.any (wb tk.2.1 tk.2.2 q.1)))) H':=λH' s'=>by
  have:=k H' s';unfold da at this;rw[dH hq,<-Ao]at this;exact this
 refine⟨_,(ah (bQ (aa S2) (bC hh.calm (aG (aE S3 hh.nd) (aG (aE S4 hh.nd) (aG (aE S5 hh.nd) bj)))))
 (ah (aA S6 hh.nd (af ao (af aR (aa S0) (aa S3) aK) ae aj))
 (ah (a9 hh.own hh.calm (aQ (aa S1)) (aE S7 hh.nd)
 (ah (aH (aX (bg (aB aL (af ao (aa S7) ae aj) aM (L2.cJ _)) (bg (aB aL (af ao (aa S7) ae aj) (aa S4) (L2.cJ _)) (bg (aB bD (af ao (aa S7) ae aj) (aa S6) (L2.cJ _)) (bz (aB bD (aa S6) (af ao (aa S7) ae aj) (L2.cJ _)))))))
 (ag (au a5))
 aI)
 (ag (aH (aB (J.qP hu) (aa S7) (aT (aP aM (aa S5) (aa S4))) (L2.cJ _))
 (ag (au a5))
 aI))))
 (ag (au (aw G2k (aP (aa S1) (aa S5) (aa S6)))))))),?_⟩
 refine⟨_,rfl,a,_,rfl,dv.of ha,rfl,_,_,rfl,_,_,rfl,_,_,rfl,rfl,?_⟩;refine⟨_,rfl,_,rfl,xL ht (cN hvq) (xT haq rfl ?_)⟩;refine⟨_,rfl,y,rfl,⟨_,cK.of hy⟩,dj (K:=X.K) (a:=y) (xs:=ys) (λi σ H2=>∃e:Option V,σ=[some (.ref t),some (.ref y),some (.ref a),some (.int tk.1),some (.str tk.2.1),some (.str tk.2.2),some (.int q.1),e]/\cH H H2/\(sd.take i).any (wb tk.2.1 tk.2.2 q.1)=false)
  ⟨none,rfl,cH.refl _,rfl⟩ ?_ ?_ ?_⟩
 ·rintro i σ H2 hi ⟨e,rfl,s2,_⟩
  exact cK.of (s2 _ _ hy)
 ·rintro i v σ H2 hv ⟨e,rfl,s2,ha0⟩
  obtain⟨d,b,hd,rfl,hb⟩:=sy.at hv;have hb2:=s2 _ _ hb;have yes:wb tk.2.1 tk.2.2 q.1 d=true->∀H3,cH H2 H3->Q (.bl false) H3:=λhk H3 s3=>by
   have:=ok H3 (s2.trans s3);rw[show sd.any (wb tk.2.1 tk.2.2 q.1)=true from any_eq_true.mpr ⟨d,mem_of_getElem? hd,hk⟩,Bool.not_true,Bool.and_false]at this;exact this
  refine DM (iQ tk.2.1 q.1 d) (λQ' q'=>?_) (λe=>yes ?_ H2 (cH.refl _)) (λe=>?_)
  ·cases d with
   |knew z i'=>exact⟨_,rfl,xT hb2 rfl ⟨rfl,_,rfl,iN q'⟩⟩
   |unh z i'=>exact⟨_,rfl,xT hb2 rfl ⟨rfl,_,rfl,iN q'⟩⟩
   |bar z z'=>exact⟨_,rfl,xT hb2 rfl ⟨rfl,_,rfl,iN q'⟩⟩
   |sil z c c'=>
    have q2:Q' (decide (z=tk.2.1) && (if c<=q.1 then decide (q.1<=c') else false)) H2:=q';refine⟨_,rfl,xT hb2 rfl ⟨rfl,_,rfl,iP ⟨_,rfl,xT hb2 rfl ⟨_,rfl,rfl,_,rfl,du (λhz=>⟨_,rfl,xT hb2 rfl ⟨_,rfl,_,_,rfl,rfl,_,rfl,du (λhc=>⟨_,rfl,_,rfl,xT hb2 rfl ⟨_,_,rfl,rfl,_,rfl,?_⟩⟩) (λhc=>?_)⟩⟩) (λhz=>?_)⟩⟩⟩⟩
    ·rw[if_pos (of_decide_eq_true hc),dT0 (V.str.inj (of_decide_eq_true hz)),Bool.true_and]at q2
     exact q2
    ·rw[if_neg (λe=>hc (dT0 e)),Bool.and_false]at q2
     exact q2
    ·rw[decide_eq_false (λe=>hz (dT0 (congrArg V.str e))),Bool.false_and]at q2
     exact q2
  ·unfold wb
   rw[e];rfl
  ·refine⟨_,rfl,_,rfl,_,rfl,mM,λc2 hc2=>?_⟩
   have s3:=cH.upd (o:=.tup [.str "barred",.str tk.2.2,.str tk.2.1]) hc2;refine⟨b,c2,_,_,rfl,rfl,s3 _ _ hb2,cD,sV d,rfl,_,rfl,?_⟩;have ek:wb tk.2.1 tk.2.2 q.1 d=zK d.tup [.str "barred",.str tk.2.2,.str tk.2.1]:=by
    unfold wb;rw[e,Bool.false_or,xP]
   rw[<-ek];exact du (λhk=>yes hk _ s3) (λhk=>⟨_,rfl,s2.trans s3,sH hd ha0 (eF0 hk)⟩)
 ·rintro σ H2 ⟨e,rfl,s2,ha0⟩
  rw[sy.1,take_length]at ha0;refine⟨_,rfl,_,rfl,_,rfl,y,ys,tk.2.2,q.1,sd,rfl,s2 _ _ hy,sy.mono (Tk.of s2),hk.1,λH3 s3=>?_⟩;have:=ok H3 (s2.trans s3);rw[ha0,Bool.not_false,Bool.and_true]at this;exact this
theorem tW{H:Hp}{us:List V}{ks:List TK}(p:TK->Bool)(h:fD H us ks):fD H (((us.zip ks).filter λx=>p x.2).map λx=>x.1) (ks.filter p):=by
 have e:ks.filter p=((us.zip ks).filter λx=>p x.2).map (λx=>x.2):=by
  have:(us.zip ks).map Prod.snd=ks:=List.map_snd_zip (by rw[h.1];exact le_refl _);have e2:ks.filter p=((us.zip ks).map Prod.snd).filter p:=by rw[this]
  rw[e2,List.filter_map];rfl
 rw[e];refine⟨by rw[length_map,length_map],λi u t hu ht=>?_⟩;rw[getElem?_map]at hu ht;obtain⟨x,hx,rfl⟩:=map_eq_some_iff.mp hu;rw[hx]at ht;cases ht;obtain⟨j,hj⟩:=getElem?_of_mem (mem_filter.mp (mem_of_getElem? hx)).1;obtain⟨h1,h2⟩:=sC hj;exact h.2 j _ _ h1 h2
inductive GL(vs:List V)(H:Hp)(Q:VK):Prop
 |mk(tt s t y:Addr)(ps:List Str)(ss ts ys:List V)(sg:List GD)(qd:List QD)(sd:List SD)(e:vs=[.ref tt])(htt:H tt=some (.tup [.ref s,.ref t,.ref y]))(hs:H s=some (.lst ss))(ht:H t=some (.lst ts))(hy:H y=some (.lst ys))(sl:ss.length<=24)(tl:ts.length<=120)
   (gs:Lz cU H ss sg)(gh:∀d∈sg,cO d.2)(qs:Lz cY H ts qd)(qk:∀d∈qd,iV ps d)(sy:Sys H ys sd)
   (k:∀(r nl tl:Addr)(us:List V)(H':Hp),cH H H'->H r=none->H nl=none->H tl=none->H' r=some (.tup [.ref nl,.ref tl])->H' nl=some (.lst (eC sg sd sg.length))->H' tl=some (.lst us)->fD H' us ((eP 0 (eV qd)).filter (da qd sd))->Q (.ref r) H')
def nO:Sp:=λvs H Q _=>GL vs H Q
theorem xY:cI ["_law_things_here", "_law_sights", "_law_talks", "_law_sayings", "_law_numbers"] ["_law_things_here"] (cF pq):={}
theorem CN (D:Df K mg "_law_open" pq ["_law_things_here"] f fd) (T:Txt K mg kw C) (G0G:Gd P w K mg base 1 "_law_free" qU) (G1e:Gd P w K mg base 1 "_law_tellings" vK) (G1j:Gd P w K mg base 2 "_law_is_open" pk):Gd P w K mg base 3 "_law_open" nO:=by
 refine aF D xY λX H vs Q E hh h=>?_;obtain⟨tt,s,t,y,ps,ss,ts,ys,sg,qd,sd,rfl,htt,hs,ht,hy,sl,tl,gs,gh,qs,qk,sy,k⟩:=h;obtain⟨S0,S1,S2,S3,S4,_⟩:=hh.d9 [0,1,2,3,4];have G00:=hh.b T.b_len;have G05:=hh.b T.b_range;have G1f:=hh.c G1e;have G1P:=hh.ci G0G;have G1g:=hh.ci G1j;have hsz:sizeLine=16777216:=sizeLine_eq;refine⟨_,(ah (bQ (aa S0) (bC hh.calm (aG (aE S1 hh.nd) (aG (aE S2 hh.nd) (aG (aE S3 hh.nd) bj)))))
 (ah (cn (is:=[1,3]) (xs:=["_law_i"]) (ns:=["_law_sights", "_law_sayings"]) S4 hh.nd hh.calm (bR G05 (ak (aJ G00 bp L2.dA (ak (aa S1))))) {} (λ_ _ _ _ _=>(a7 (i:=0) (by decide+kernel) rfl rfl)) (λ_ _ _ _ _=>(bX (ba (aw (G1P.lg rfl) (aP (a8 (i:=2) rfl rfl (by decide) (by decide)) (af br (af cj (a8 (i:=1) rfl rfl (by decide) (by decide)) (aO (i:=0) rfl rfl (by decide) (by decide)) aK) ae aj) (af br (af cj (a8 (i:=1) rfl rfl (by decide) (by decide)) (aO (i:=0) rfl rfl (by decide) (by decide)) aK) ae aj)))))) (λ_ _ _ _ _=>(aO (i:=0) rfl rfl (by decide) (by decide))) hh.hsc hh.hN (by decide+kernel))
 (ag (au (aT (aD (aa S4) (bL (is:=[2,3]) (xs:=["_law_telling"]) (ns:=["_law_talks", "_law_sayings"]) hh.calm (aQ (aw G1f (ak (aa S2)))) {} (λ_ _ _ _ _=>(a7 (i:=0) (by decide+kernel) rfl rfl)) (λ_ _ _ _ _=>(bX (ba (aw (G1g.lg rfl) (aP (a8 (i:=1) rfl rfl (by decide) (by decide)) (a8 (i:=2) rfl rfl (by decide) (by decide)) (aO (i:=0) rfl rfl (by decide) (by decide))))))) (λ_ _ _ _ _=>(aO (i:=0) rfl rfl (by decide) (by decide))) hh.hsc hh.hN))))))),?_⟩
 refine⟨_,rfl,tt,_,rfl,dv.of htt,rfl,_,_,rfl,_,_,rfl,_,_,rfl,rfl,?_⟩;refine⟨_,rfl,s,_,rfl,.inl (cK.of hs),(ss.length:Int),rfl,by omega,by omega,qr (lo:=0) (N:=((ss.length:Nat):Int).toNat) (eY sg (dJ sd)) (λi=>V.int (0+(i:Int))) (by omega) ?_ ?_⟩
 ·intro i os H2 K1 K2 hi hos s2 k1 k2
  match os,hos with
  |[o],_=>
   rw[Int.toNat_natCast]at hi;have hv:ss[i]? =some ss[i]:=getElem?_eq_getElem hi;generalize ss[i]=v at hv;obtain⟨g,hg,a,ta,rfl,ha⟩:=gs.at hv;rw[dw hg]at k1 k2;have ha2:=s2 _ _ ha;have av:pj ss ((0:Int)+(i:Int))=some (.ref a):=by rw[Int.zero_add];exact cN hv
   have g0:=gh g (mem_of_getElem? hg);exact⟨⟨[_],rfl,rfl⟩,_,rfl,_,rfl,_,rfl,xL (s2 _ _ hs) av (xT ha2 rfl ⟨_,rfl,_,rfl,xL (s2 _ _ hs) av (xT ha2 rfl ⟨y,ys,g.1,g.2,sd,rfl,s2 _ _ hy,sy.mono (Tk.of s2),g0.1,λH3 s3=>⟨_,rfl,du (λhb=>⟨_,rfl,k1 hb H3 s3⟩) (λhb=>k2 (eF0 hb) H3 s3)⟩⟩)⟩)⟩
 ·intro nl H1 nln s1 hnl
  have e:((List.range ((ss.length:Nat):Int).toNat).filter (eY sg (dJ sd))).map (λ(i:Nat)=>V.int (0+(i:Int)))=eC sg sd sg.length:=by
   rw[Int.toNat_natCast,gs.1];unfold eC;exact map_congr_left λi _=>by rw[Int.zero_add]
  rw[e]at hnl;refine⟨_,rfl,_,rfl,t,ts,qd,rfl,s1 _ _ ht,qs.mono (cY.mono (Tk.of s1)),tl,λl us H2 s2 ln hl tus=>?_⟩;have s12:=s1.trans s2;have ul:us.length<=240:=by
   have:=jA (eV qd) 0;have:=tus.1;have:=(zY qs).1;omega
  refine⟨l,rfl,⟨_,cK.of hl⟩,eI (xs:=us) (eY (us.zip (eP 0 (eV qd))) λx=>da qd sd x.2) (uM (us.zip (eP 0 (eV qd))) λx=>x.1) (cK.of hl) (by omega) ?_ ?_⟩
  ·intro i os v H3 K1 K2 hv hos s3 k1 k2
   match os,hos with
   |[o],_=>
    have hi:i < us.length:=(gI0.mp hv).1;obtain⟨tk,htk⟩:∃tk,(eP 0 (eV qd))[i]? =some tk:=⟨_,getElem?_eq_getElem (by rw[<-tus.1];exact hi)⟩;rw[dw (lM hv htk)]at k1 k2;rw[gD (lM hv htk)]at k1;obtain⟨q,hq,_⟩:=Gv qk (mem_of_getElem? htk);have s13:=s12.trans s3;exact⟨⟨[_],rfl,rfl⟩,_,rfl,_,rfl,_,rfl,t,y,ts,ys,v,tk,qd,sd,q,rfl,s13 _ _ ht,s13 _ _ hy,qs.mono (cY.mono (Tk.of s13)),sy.mono (Tk.of s13),(tus.2 i v tk hv htk).mono (Tk.of s3),hq,(qk q (mem_of_getElem? hq)).1,λH4 s4=>⟨_,rfl,du (λhb=>⟨_,rfl,k1 hb H4 s4⟩) (λhb=>k2 (eF0 hb) H4 s4)⟩⟩
  ·intro m H3 mn s3 hm
   have zl:(us.zip (eP 0 (eV qd))).length=us.length:=by
    rw[length_zip,<-tus.1,min_self]
   rw[<-zl,d6 (λx=>da qd sd x.2) (λx=>x.1) (us.zip (eP 0 (eV qd)))]at hm;refine⟨zU,λr hr=>?_⟩;have s4:=cH.upd (o:=.tup [.ref nl,.ref m]) hr;have s13:=s12.trans s3;exact k r nl m _ _ (s13.trans s4) (s13.free hr) nln (s12.free mn) cD (s4 _ _ (s3 _ _ (s2 _ _ hnl))) (s4 _ _ hm) ((tW (da qd sd) tus).mono (Tk.of (s3.trans s4)))
def oT:Str:= "bcdfghjklmnpqrstvwxz"
def rN(i:Int):Nat:=oT.cps.toList.getD i.toNat 0
theorem BO:∀i:Fin 20,pj oT.cps.toList ((i.val:Nat):Int)=some (rN (i.val:Nat))/\rN (i.val:Nat)∈lets.cps.toList:=by decide+kernel
theorem sL:∀i j:Fin 20,rN (i.val:Nat)=rN (j.val:Nat)->i=j:=by decide+kernel
theorem wM{i:Int}(h0:0<=i)(h1:i < 20):pj oT.cps.toList i=some (rN i)/\rN i∈lets.cps.toList:=by
 have e:((i.toNat:Nat):Int)=i:=Int.toNat_of_nonneg h0;have:=BO ⟨i.toNat,by omega⟩;rw[e]at this;exact this
theorem AK{i j:Int}(h0:0<=i)(h1:i < 20)(g0:0<=j)(g1:j < 20)(h:rN i=rN j):i=j:=by
 have e:((i.toNat:Nat):Int)=i:=Int.toNat_of_nonneg h0;have f:((j.toNat:Nat):Int)=j:=Int.toNat_of_nonneg g0;have:=sL ⟨i.toNat,by omega⟩ ⟨j.toNat,by omega⟩ (by rw[e,f];exact h);have:=congrArg Fin.val this;dsimp only at this;omega
def lf(c a k:Int)(j:Nat):Nat:=rN ((c+((j:Int) * j+3 * k * (if decide (V.int (j:Int)=V.int a)=true then 1 else 0))) % 20)
def wordOf(c a k:Int):Nat->Str
 |0=> ""
 |j+1=>wordOf c a k j++⟨#[lf c a k j]⟩
theorem gv(c a k:Int):∀n,(wordOf c a k n).cps.toList=(List.range n).map (lf c a k)
 |0=>rfl
 |n+1=>by
  show(wordOf c a k n++⟨#[lf c a k n]⟩).cps.toList=_;rw[nG,gv c a k n,range_succ,map_append];rfl
theorem gw(c a k:Int)(n:Nat):(wordOf c a k n).length=n:=by
 rw[<-kB,gv,length_map,length_range]
theorem Ic(c a k:Int)(j:Nat):lf c a k j∈lets.cps.toList:=(wM (c8 _ (by decide)).1 (c8 _ (by decide)).2).2
theorem v8(c a k:Int)(n:Nat):u7 (wordOf c a k n):=λx hx=>by
 rw[gv]at hx;obtain⟨j,_,rfl⟩:=mem_map.mp hx;exact Ic c a k j
def Kq(n:Int):Str:=Txt.mul "m" n
def nameOf(c a:Int)(n:Nat)(k:Nat):Str:=wordOf c a k n++Kq ((k:Int) / 20)
theorem rm{k:Nat}(h:k < 24):((k:Int) / 20=0\/(k:Int) / 20=1)/\(Kq ((k:Int) / 20)).length=k / 20/\u7 (Kq ((k:Int) / 20)):=by
 by_cases c:k < 20
 ·have e:(k:Int) / 20=0:=by omega
  rw[e];exact⟨.inl rfl,by rw[show k / 20=0 by omega];rfl,λx hx=>by have:x∈([]:List Nat):=hx;cases this⟩
 ·have e:(k:Int) / 20=1:=by omega
  rw[e];refine⟨.inr rfl,by rw[show k / 20=1 by omega];decide+kernel,?_⟩;show u7 "m";intro x hx
  revert x
  decide+kernel
theorem Ca{c a:Int}{n k:Nat}(n1:1<=n)(n2:n<=11)(hk:k < 24):dX (nameOf c a n k)=true:=by
 obtain⟨_,hl,hL⟩:=rm hk;have e:(nameOf c a n k).length=n+k / 20:=by
  unfold nameOf;rw[Dt,gw,hl]
 exact Ba (CQ (v8 c a k n) hL) (by omega) (by omega)
theorem Dl{c a:Int}{n i j:Nat}(a0:0<=a)(an:a < n)(hij:i < j)(hj:j < 24):nameOf c a n i≠nameOf c a n j:=by
 intro e;obtain⟨_,li,_⟩:=rm (k:=i) (by omega);obtain⟨_,lj,_⟩:=rm hj;have e1:=congrArg (λz:Str=>z.cps.toList) e;unfold nameOf at e1;rw[nG,nG]at e1;have hl:(wordOf c a i n).cps.toList.length=(wordOf c a j n).cps.toList.length:=by rw[kB,kB,gw,gw]
 obtain⟨w,m⟩:=List.append_inj e1 hl;have m2:=congrArg List.length m;rw[kB,kB,li,lj]at m2;rw[gv,gv]at w;have aN:a.toNat < n:=by omega
 have w2:=congrArg (λl:List Nat=>l[a.toNat]?) w;rw[getElem?_map,getElem?_map,List.getElem?_range aN]at w2;have w3:lf c a i a.toNat=lf c a j a.toNat:=Option.some.inj w2;have ea:((a.toNat:Nat):Int)=a:=Int.toNat_of_nonneg a0;unfold lf at w3;rw[ea,dT0 rfl]at w3;have w4:=AK (c8 _ (by decide)).1 (c8 _ (by decide)).2 (c8 _ (by decide)).1 (c8 _ (by decide)).2 w3;simp only[if_true,Int.mul_one]at w4;generalize a * a=A at w4;omega
theorem nodup_range{f:Nat->Str}{n:Nat}(h:∀i j,i < j->j < n->f i≠f j):((List.range n).map f).Nodup:=by
 unfold List.Nodup;rw[List.pairwise_map];exact List.Pairwise.imp_of_mem (λ{a b} _ hb hab=>h a b hab (mem_range.mp hb)) List.pairwise_lt_range
inductive zg  (vs:List V)(H:Hp)(Q:VK):Prop
 |mk(c m:Int)(h0:vs=[.int c,.int m])(h1:0<=c)(h2:1<=m)(h3:m<=24)(h4:∀(l:Addr)(us:List Str)(H':Hp),cH H H'->H l=none->H' l=some (.lst (us.map V.str))->fI us->Q (.ref l) H')
def ph  :Sp:=λvs H Q _=>zg  vs H Q
theorem vp:cI ["_law_cell", "_law_many", "_law_letters", "_law_size", "_law_at", "_law_names_here", "_law_k", "_law_word", "_law_j", "_law_step"] ["_law_cell", "_law_many"] (cF mh):={}
theorem yw (D:Df K mg "_law_names" mh ["_law_cell", "_law_many"] f fd) (T:Txt K mg kw C):Gd P w K mg base 1 "_law_names" ph:=by
 refine aF D vp λX H vs Q E hh h=>?_;obtain⟨c,m,rfl,c0,m1,m24,k⟩:=h;obtain⟨S0,S1,S2,S3,S4,S5,S6,S7,S8,S9,_⟩:=hh.d9 [0,1,2,3,4,5,6,7,8,9];have G2w:=hh.b T.b_int;have G05:=hh.b T.b_range;have hsz:sizeLine=16777216:=sizeLine_eq;refine⟨_,(ah (aA S2 hh.nd aM)
 (ah (aA S3 hh.nd (az bu ae (az aY (aa S0) ae)))
 (ah (aA S4 hh.nd (az aY (az bf (aa S0) ae) (aa S3)))
 (ah (aA S5 hh.nd (bA bK))
 (ah (a9 hh.own hh.calm (bR G05 (ak (aa S1))) (aE S6 hh.nd)
 (ah (aA S7 hh.nd aM)
 (ah (a9 hh.own hh.calm (bR G05 (ak (aa S3))) (aE S8 hh.nd)
 (ah (aA S9 hh.nd (az bu (az bP (aa S8) (aa S8)) (az bP (az bP ae (aa S6)) (bw G2w J.jE L2.v7 (ak (aU aL (aa S8) (aa S4) (L2.cJ _)))))))
 (ag (aA S7 hh.nd (az J.iG (aa S7) (af J.u3 (aa S2) (az aY (az bu (az bf (aa S0) ae) (aa S9)) ae) bV))))))
 (ag (bH (bJ plainAttrs_list PySem.F.slot_list_append PySem.F.type_list_append bI (aa S5) (ak (az J.iG (aa S7) (az J.r6 aM (az bf (aa S6) ae))))))))))
 (ag (au (aa S5)))))))),?_⟩
 have m11:=c8 c (m:=11) (by decide);refine⟨_,rfl,_,_,rfl,rfl,(by show(0:Int) < 11;decide),_,_,rfl,rfl,?_⟩;dsimp only;have sb:1<=1+c % 11/\1+c % 11<=11:=by omega
 generalize 1+c % 11=S at sb;clear m11;refine⟨_,rfl,_,_,rfl,rfl,⟨by decide,by decide⟩,_,rfl,_,_,rfl,rfl,(by omega),?_⟩;have ab:=c8 (c / 11) (m:=S) (by omega);dsimp only;generalize c / 11 % S=A at ab;refine⟨zr,λl hl=>?_⟩;refine⟨_,rfl,m,rfl,by omega,by omega,fZ (lo:=0) (n:=m.toNat) (λi σ H2=>∃e1 e2 e3 e4:Option V,σ=[some (.int c),some (.int m),some (.str oT),some (.int S),some (.int A),some (.ref l),e1,e2,e3,e4]/\cH H H2/\H2 l=some (.lst ((List.range i).map λj=>V.str (nameOf (c / 121) A S.toNat j))))
  ⟨none,none,none,none,rfl,cH.upd hl,cD⟩ ?_ ?_⟩
 ·rintro i σ H2 hi ⟨e1,e2,e3,e4,rfl,s2,hl2⟩
  rw[Int.zero_add];refine⟨_,rfl,S,rfl,by omega,by omega,fZ (lo:=0) (n:=S.toNat) (λj σ H3=>∃e3 e4:Option V,σ=[some (.int c),some (.int m),some (.str oT),some (.int S),some (.int A),some (.ref l),some (.int i),some (.str (wordOf (c / 121) A i j)),e3,e4]/\H3=H2)
   ⟨_,_,rfl,rfl⟩ ?_ ?_⟩
  ·rintro j σ H3 hj ⟨e3,e4,rfl,rfl⟩
   rw[Int.zero_add];have jb:(j:Int) < S:=by omega
   refine⟨_,rfl,_,rfl,_,_,rfl,rfl,.inl ⟨by omega,by omega⟩,_,rfl,_,_,rfl,rfl,.inl ⟨by decide,by decide⟩,_,rfl,_,rfl,rfl,.inr ⟨_,rfl,_,_,rfl,rfl,.inl ⟨by omega,by omega⟩,_,_,rfl,rfl,?_⟩⟩;have am:=c8 (c / 121+((j:Int) * j+3 * (i:Int) * (if decide (V.int (j:Int)=V.int A)=true then 1 else 0))) (m:=20) (by decide);have wl:=gw (c / 121) A i j;refine⟨_,rfl,_,rfl,_,rfl,_,_,rfl,rfl,⟨by decide,by decide⟩,_,rfl,_,_,rfl,rfl,_,_,rfl,rfl,(by show(0:Int) < 20;decide),oT,_,_,rfl,rfl,(by show oT.length<=sizeLine;decide+kernel),(wM am.1 am.2).1,_,_,rfl,rfl,(by show _+1<=_;omega),_,_,rfl,rfl⟩
  ·rintro σ H3 ⟨e3,e4,rfl,rfl⟩
   have wl:=gw (c / 121) A i S.toNat;obtain⟨h01,el,_⟩:=rm (k:=i) (by omega);refine⟨_,rfl,.inl ⟨rfl,_,cK.of hl2⟩,_,rfl,_,rfl,_,_,rfl,rfl,⟨by decide,by decide⟩,_,_,rfl,rfl,h01,_,_,rfl,rfl,(by show _+(Kq _).length<=_;omega),l,_,_,rfl,rfl,hl2,(by rw[length_map,length_range];omega),_,_,_,_,rfl,λb o e=>?_,?_⟩
   ·rw[cG (cE e hl)]
    exact s2 _ _ e
   ·rw[cD,range_succ,map_append]
    rfl
 ·rintro σ H2 ⟨e1,e2,e3,e4,rfl,s2,hl2⟩
  refine⟨_,rfl,k l ((List.range m.toNat).map λj=>nameOf (c / 121) A S.toNat j) H2 s2 hl (by rw[map_map];exact hl2) ⟨by rw[length_map,length_range];omega,by rw[length_map,length_range];omega,nodup_range λi j hij hj=>Dl ab.1 (by omega) hij (by omega),λz hz=>?_⟩⟩;obtain⟨j,hj,rfl⟩:=mem_map.mp hz;have:=mem_range.mp hj;exact Ca (by omega) (by omega) (by omega)
theorem Ge{ps:List Str}{H:Hp}{v:V}{d:SD}(h:ui H v d)(k:Cg ps d):fO ps H v:=by
 obtain⟨a,e,ha⟩:=h;refine⟨a,e,?_⟩;cases d with
 |knew p h=>exact .inl ⟨p,h,ha,k.1,k.2⟩
 |unh p h=>
  refine .inr (.inl ⟨p,oV h,ha,k.1,?_⟩);cases h with
  |none=>exact .inl rfl
  |some i=>exact .inr ⟨i,rfl,k.2 i rfl⟩
 |sil p b e=>exact .inr (.inr (.inl ⟨p,b,e,ha,k.1,k.2.1,k.2.2.1,k.2.2.2⟩))
 |bar p q=>exact .inr (.inr (.inr ⟨p,q,ha,k.1,k.2.1,k.2.2⟩))
inductive Et(c nl cl tt S Tt Y:Addr)(H5:Hp)(ps:List Str)(i:Nat)(σ:St)(H':Hp):Prop
 |mk(ss ts ys:List V)(e1 e2 e3 e4 e5 e6 e7 e8 e9:Option V)(e:σ=[some (.ref c),some (.ref nl),some (.ref cl),some (.ref tt),e1,e2,e3,e4,e5,e6,e7,e8,e9])
   (hs:H' S=some (.lst ss))(ht:H' Tt=some (.lst ts))(hy:H' Y=some (.lst ys))(kp:∀b o,H5 b=some o->b≠S->b≠Tt->b≠Y->H' b=some o)
   (ls:ss.length<=24)(li:ss.length<=i)(lt:ts.length<=i)(ly:ys.length<=i)(gs:∀v∈ss,d3 ps H' v)(gt:∀v∈ts,eW ps H' v)(gy:∀v∈ys,fO ps H' v)
inductive CP(vs:List V)(H:Hp)(Q:VK):Prop
 |mk(c nl cl:Addr)(ns:List Int)(ps:List Str)(hs:List Int)(e:vs=[.ref c,.ref nl,.ref cl])(hc:H c=some (.lst (ns.map V.int)))(n60:ns.length<=60)(hn:H nl=some (.lst (ps.map V.str)))(po:fI ps)(hcl:H cl=some (.lst (hs.map V.int)))(ck:nh hs)
   (k:∀(tt s t y:Addr)(ss ts ys:List V)(H':Hp),cH H H'->H tt=none->H s=none->H t=none->H y=none->[tt,s,t,y].Nodup->H' tt=some (.tup [.ref s,.ref t,.ref y])->H' s=some (.lst ss)->H' t=some (.lst ts)->H' y=some (.lst ys)->ss.length<=24->ts.length<=60->ys.length<=60->
    (∀v∈ss,d3 ps H' v)->(∀v∈ts,eW ps H' v)->(∀v∈ys,fO ps H' v)->Q (.ref tt) H')
def oJ:Sp:=λvs H Q _=>CP vs H Q
theorem xS{ps:List Str}{i:Int}(h0:0<=i)(h1:i < ps.length):∃z,pj (ps.map V.str) i=some (.str z)/\z∈ps:=by
 have hi:i.toNat < ps.length:=by omega
 have e:((i.toNat:Nat):Int)=i:=Int.toNat_of_nonneg h0;have:=cN (xs:=ps.map V.str) (j:=i.toNat) (v:=V.str ps[i.toNat]) (by rw[getElem?_map,getElem?_eq_getElem hi];rfl);rw[e]at this;exact⟨_,this,getElem_mem hi⟩
theorem HE{ps:List Str}{d:SD}(w:Mo ps d):∃v1 v2:V,pj d.tup 1=some v1/\pj d.tup 2=some v2/\E8 v1 v2=true/\(v1≠v2->Cg ps d):=by
 cases d with
 |knew p h=>exact⟨_,_,rfl,rfl,rfl,λ_=>w⟩
 |unh p h=>
  cases h with
  |none=>exact⟨_,_,rfl,rfl,rfl,λ_=>w⟩
  |some i=>exact⟨_,_,rfl,rfl,rfl,λ_=>w⟩
 |sil p b e=>exact⟨_,_,rfl,rfl,rfl,λ_=>w⟩
 |bar p q=>exact⟨_,_,rfl,rfl,rfl,λn=>⟨w.1,w.2,λe=>n (congrArg V.str e)⟩⟩
theorem Gu:dX "red" =true:=by decide+kernel
theorem uA:cI ["_law_cells", "_law_names_here", "_law_clock_here", "_law_things_here", "_law_k", "_law_number", "_law_at", "_law_first", "_law_steps", "_law_one", "_law_other", "_law_saying_here", "_law_way"] ["_law_cells", "_law_names_here", "_law_clock_here"] (cF j5):={}
theorem zb (D:Df K mg "_law_things" j5 ["_law_cells", "_law_names_here", "_law_clock_here"] f fd) (T:Txt K mg kw C) (G0d:Gd P w K mg base 1 "_law_mix" qf) (G2l:Gd P w K mg base 1 "_law_spot" vh) (G1y:Gd P w K mg base 1 "_law_saying" vk):Gd P w K mg base 2 "_law_things" oJ:=by
 refine aF D uA λX H vs Q E hh h=>?_;obtain⟨c,nl,cl,ns,ps,hs,rfl,hc,n60,hn,po,hcl,ck,k⟩:=h;obtain⟨S0,S1,S2,S3,S4,S5,S6,S7,S8,S9,S10,S11,S12,_⟩:=hh.d9 [0,1,2,3,4,5,6,7,8,9,10,11,12];have G00:=hh.b T.b_len;have G05:=hh.b T.b_range;have G08:=hh.c G0d;have G1z:=hh.c G1y;have G2m:=hh.c G2l;have hsz:sizeLine=16777216:=sizeLine_eq;have pl:(ps.map V.str).length=ps.length:=length_map ..;have plo:=po.lo;have nln:(ns.map V.int).length=ns.length:=length_map ..;refine⟨_,(ah (aA S3 hh.nd (aT (aP (bA bK) (bA bK) (bA bK))))
 (ah (a9 hh.own hh.calm (bR G05 (ak (aJ G00 bp L2.dA (ak (aa S0))))) (aE S4 hh.nd)
 (ah (aA S5 hh.nd (aw G08 (aD (af aR (aa S0) (aa S4) aK) (aa S4))))
 (ah (bQ (aw G2m (aP (aa S5) (aa S4) (aJ G00 bp L2.dA (ak (aa S1))))) (bC hh.calm (aG (aE S6 hh.nd) (aG (aE S7 hh.nd) (aG (aE S8 hh.nd) bj)))))
 (ah (aA S9 hh.nd (af aR (aa S1) (aa S7) aK))
 (ah (aA S10 hh.nd (af aR (aa S1) (az aY (az bu (aa S7) (aa S8)) (aJ G00 bp L2.dA (ak (aa S1)))) bV))
 (ag (aH (aX (bF (aB aL (aa S4) ae (L2.cJ _)) (bG (aX (bg (aB aL (az aY (aa S5) ae) ae (L2.cJ _)) (bz (aB bO (aJ G00 bp L2.dA (ak (af ao (aa S3) ae aj))) ae (L2.cJ _))))))))
 (ag (bH (bJ plainAttrs_list PySem.F.slot_list_append PySem.F.type_list_append bI (af ao (aa S3) ae aj) (ak (aT (aP (aa S9) (af aR (aa S2) (aa S6) aK) (aT (ak aM))))))))
 (ag (aH (aX (bF (aB bO (az aY (aa S5) ae) ae (L2.cJ _)) (bG (aB aL (aa S9) (aa S10) (L2.cJ _)))))
 (ah (aA S11 hh.nd (aw G1z (J.My (aa S5) (aa S9) (aa S10) (aa S2) (aa S6))))
 (ag (aH (aB bU (af ao (aa S11) ae aj) (af ao (aa S11) ae aj) (L2.cJ _))
 (ag (bH (bJ plainAttrs_list PySem.F.slot_list_append PySem.F.type_list_append bI (af ao (aa S3) ae aj) (ak (aa S11)))))
 aI)))
 (ah (aA S12 hh.nd (af aR (bA (aD aM aM)) (az aY (az bf (aa S5) ae) ae) bV))
 (ag (bH (bJ plainAttrs_list PySem.F.slot_list_append PySem.F.type_list_append bI (af ao (aa S3) ae aj) (ak (aT (bS (af aR (aa S2) (aa S6) aK) (aa S9) (aa S10) (aa S12)))))))))))))))))
 (ag (au (aa S3))))),?_⟩
 refine⟨zr,λS hSn=>⟨zr,λTt hTn=>⟨zr,λY hYn=>⟨mM,λtt httn=>?_⟩⟩⟩⟩;have sS:=cH.upd (o:=.lst []) hSn;have sT:=cH.upd (o:=.lst []) hTn;have sY:=cH.upd (o:=.lst []) hYn;have sU:=cH.upd (o:=.tup [.ref S,.ref Tt,.ref Y]) httn;have nST:S≠Tt:=cE cD hTn;have nSY:S≠Y:=cE (sT _ _ cD) hYn;have nTY:Tt≠Y:=cE cD hYn;have nuS:tt≠S:=(cE (sY _ _ (sT _ _ cD)) httn).symm;have nuT:tt≠Tt:=(cE (sY _ _ cD) httn).symm;have nuY:tt≠Y:=(cE cD httn).symm;have s05:=((sS.trans sT).trans sY).trans sU;have fS:H S=none:=hSn;have fT:H Tt=none:=sS.free hTn;have fY:H Y=none:=(sS.trans sT).free hYn;have fU:H tt=none:=((sS.trans sT).trans sY).free httn;have hS5:=sU _ _ (sY _ _ (sT _ _ (show upd H S (.lst []) S=some (.lst []) from cD)));have hT5:=sU _ _ (sY _ _ (show upd (upd H S (.lst [])) Tt (.lst []) Tt=some (.lst []) from cD));have hY5:=sU _ _ (show upd (upd (upd H S (.lst [])) Tt (.lst [])) Y (.lst []) Y=some (.lst []) from cD);have hU5:upd (upd (upd (upd H S (.lst [])) Tt (.lst [])) Y (.lst [])) tt (.tup [.ref S,.ref Tt,.ref Y]) tt=some (.tup [.ref S,.ref Tt,.ref Y]):=cD;generalize upd (upd (upd (upd H S (.lst [])) Tt (.lst [])) Y (.lst [])) tt (.tup [.ref S,.ref Tt,.ref Y])=H5 at s05 hS5 hT5 hY5 hU5;have hc5:=s05 _ _ hc;have hn5:=s05 _ _ hn;have hcl5:=s05 _ _ hcl;have keep:∀{b:Addr}{o:HO}{H6:Hp},(∀b o,H5 b=some o->b≠S->b≠Tt->b≠Y->H6 b=some o)->H b=some o->H6 b=some o:=λkp e=>kp _ _ (s05 _ _ e) (cE e fS) (cE e fT) (cE e fY);clear sS sT sY sU hSn hTn hYn httn;refine⟨_,rfl,c,_,rfl,.inl (cK.of hc5),(ns.length:Int),(by rw[nln]),by omega,by omega,fZ (lo:=0) (n:=((ns.length:Nat):Int).toNat) (Et c nl cl tt S Tt Y H5 ps)
  ⟨[],[],[],none,none,none,none,none,none,none,none,none,rfl,hS5,hT5,hY5,λb o e _ _ _=>e,by decide,le_refl 0,le_refl 0,le_refl 0,(λv hv=>by cases hv),(λv hv=>by cases hv),(λv hv=>by cases hv)⟩ ?_ ?_⟩
 ·rintro i σ H6 hi ⟨ss,ts,ys,e1,e2,e3,e4,e5,e6,e7,e8,e9,rfl,hs6,ht6,hy6,kp,ls,li,lt,ly,gs,gt,gy⟩
  rw[Int.toNat_natCast]at hi;have hc6:=keep kp hc;have hn6:=keep kp hn;have hcl6:=keep kp hcl;have hu6:=kp _ _ hU5 nuS nuT nuY;have av:pj (ns.map V.int) ((0:Int)+(i:Int))=some (.int ns[i]):=by
   rw[Int.zero_add];exact cN (by rw[getElem?_map,getElem?_eq_getElem hi];rfl)
  refine⟨_,rfl,_,rfl,xL hc6 av ⟨_,rfl,_,_,rfl,by omega,by omega,λN n0 n1=>?_⟩⟩;refine⟨_,rfl,_,rfl,_,rfl,nl,_,rfl,.inl (cK.of hn6),_,_,_,rfl,n0,by omega,by rw[pl];omega,λt a f st H7 s7 htp a0 a20 f0 fm st0=>?_⟩;rw[pl]at fm;obtain⟨y1,ay1,my1⟩:=xS f0 fm;have om:=c8 (f+st) (m:=(ps.length:Int)) (by omega);obtain⟨y2,ay2,my2⟩:=xS om.1 om.2;have hn7:=s7 _ _ hn6;have hcl7:=s7 _ _ hcl6;have hu7:=s7 _ _ hu6;have hs7:=s7 _ _ hs6;have ht7:=s7 _ _ ht6;have hy7:=s7 _ _ hy6;have kp7:∀b o,H5 b=some o->b≠S->b≠Tt->b≠Y->H7 b=some o:=λb o e n1 n2 n3=>s7 _ _ (kp b o e n1 n2 n3);have gs7:∀v∈ss,d3 ps H7 v:=λv hv=>(gs v hv).mono (Tk.of s7);have gt7:∀v∈ts,eW ps H7 v:=λv hv=>(gt v hv).mono (Tk.of s7);have gy7:∀v∈ys,fO ps H7 v:=λv hv=>(gy v hv).mono (Tk.of s7);refine⟨t,_,rfl,dv.of htp,rfl,_,_,rfl,_,_,rfl,_,_,rfl,rfl,?_⟩;refine⟨_,rfl,_,rfl,xL hn7 ay1 ?_⟩;refine⟨_,rfl,_,rfl,_,rfl,_,_,rfl,rfl,_,rfl,nl,_,rfl,.inl (cK.of hn7),_,_,rfl,rfl,(by rw[pl];omega),xL hn7 (by rw[pl];exact ay2) ?_⟩;obtain⟨hr,eH,iH,kH⟩:=k8 ck (i:=a) a0 a20;clear htp s7 gs gt gy hs6 ht6 hy6 kp hu6 hn6 hcl6 hc6;refine both (G:=ss.length < 24->_) ?_ λput=>both (G:=_) ?_ λother=>⟨_,rfl,rfl,_,rfl,du (λhk=>dk (put ?_)) (λ_=>⟨_,rfl,_,_,rfl,rfl,(by show(0:Int) < 8;decide),rfl,_,rfl,du (λ_=>⟨_,rfl,xT hu7 rfl ⟨S,_,rfl,.inl (cK.of hs7),_,_,rfl,rfl,_,rfl,du (λh24=>put ?_) (λ_=>other)⟩⟩) (λ_=>cW other)⟩)⟩
  ·intro h24
   refine⟨_,rfl,xT hu7 rfl ⟨.inl ⟨rfl,_,cK.of hs7⟩,_,rfl,_,rfl,_,rfl,xL hcl7 eH ⟨L7,λta hta=>⟨mM,λtp htp=>?_⟩⟩⟩⟩;have s8:=cH.upd (o:=.tup [.str "red"]) hta;have s9:=s8.trans (cH.upd (o:=.tup [.str y1,.int hr,.ref ta]) htp);refine⟨S,ss,.ref tp,rfl,rfl,s9 _ _ hs7,by omega,?_⟩;have tk:=(Tk.of s9).trans (Tk.upd (s9 _ _ hs7) (ys:=ss++[.ref tp]));have n1:tp≠S:=(cE (s8 _ _ hs7) htp).symm;have n2:ta≠S:=(cE hs7 hta).symm;refine⟨ss++[.ref tp],ts,ys,_,_,_,_,_,_,_,_,_,rfl,cD,(by rw[cG nST.symm];exact s9 _ _ ht7),(by rw[cG nSY.symm];exact s9 _ _ hy7),λb o e n1 n2 n3=>(by rw[cG n1];exact s9 _ _ (kp7 b o e n1 n2 n3)),(by rw[length_append];show ss.length+1<=24;omega),(by rw[length_append];show ss.length+1<=i+1;omega),by omega,by omega,λv hv=>?_,λv hv=>(gt7 v hv).mono tk,λv hv=>(gy7 v hv).mono tk⟩;rw[mem_append,mem_singleton]at hv;rcases hv with hv|rfl
   ·exact(gs7 v hv).mono tk
   ·exact⟨tp,y1,hr,ta,["red"],rfl,(by rw[cG n1];exact cD),my1,kH,(by rw[cG n2];exact(cH.upd htp) _ _ cD),by decide,by decide,λx hx=>by rw[mem_singleton]at hx;rw[hx];exact Gu⟩
  ·refine both (G:=_) ?_ λsaying=>⟨_,rfl,_,_,rfl,rfl,(by show(0:Int) < 8;decide),_,_,rfl,rfl,_,rfl,du (λ_=>dk saying) (λ_=>⟨_,rfl,_,rfl,rfl,_,rfl,du (λ_=>saying) (λhne=>?_)⟩)⟩
   ·refine⟨_,rfl,_,rfl,_,rfl,_,rfl,_,rfl,N,a,y1,y2,cl,hs,ps,rfl,hcl7,ck,a0,a20,my1,my2,λv d H8 s8 sd8 w8=>?_⟩
    obtain⟨b,rfl,hb⟩:=sd8;have keep8:∀{b:Addr}{o:HO},H7 b=some o->H8 b=some o:=λe=>s8 _ _ e;have fJ:Et c nl cl tt S Tt Y H5 ps (i+1) [some (.ref c),some (.ref nl),some (.ref cl),some (.ref tt),some (.int (0+(i:Int))),some (.int N),some (.int a),some (.int f),some (.int st),some (.str y1),some (.str y2),some (.ref b),e9] H8:=
     ⟨ss,ts,ys,_,_,_,_,_,_,_,_,_,rfl,s8 _ _ hs7,s8 _ _ ht7,s8 _ _ hy7,λb o e n1 n2 n3=>s8 _ _ (kp7 b o e n1 n2 n3),ls,by omega,by omega,by omega,λv hv=>(gs7 v hv).mono (Tk.of s8),λv hv=>(gt7 v hv).mono (Tk.of s8),λv hv=>(gy7 v hv).mono (Tk.of s8)⟩
    obtain⟨v1,v2,av1,av2,sc12,ok12⟩:=HE w8;refine⟨_,rfl,xT hb av1 ⟨_,rfl,xT hb av2 ⟨sc12,_,rfl,du (λhne=>?_) (λ_=>fJ)⟩⟩⟩;have ok:=ok12 λe=>by rw[dT0 e]at hne;cases hne
    have si:=Ge ⟨b,rfl,hb⟩ ok;refine⟨_,rfl,xT (s8 _ _ hu7) rfl ⟨.inl ⟨rfl,_,cK.of (s8 _ _ hy7)⟩,_,rfl,Y,ys,.ref b,rfl,rfl,s8 _ _ hy7,by omega,?_⟩⟩;have tk:=(Tk.of s8).trans (Tk.upd (s8 _ _ hy7) (ys:=ys++[.ref b]));refine⟨ss,ts,ys++[.ref b],_,_,_,_,_,_,_,_,_,rfl,(by rw[cG nSY];exact s8 _ _ hs7),(by rw[cG nTY];exact s8 _ _ ht7),cD,λb o e n1 n2 n3=>(by rw[cG n3];exact s8 _ _ (kp7 b o e n1 n2 n3)),ls,by omega,by omega,(by rw[length_append];show ys.length+1<=i+1;omega),λv hv=>(gs7 v hv).mono tk,λv hv=>(gt7 v hv).mono tk,λv hv=>?_⟩;rw[mem_append,mem_singleton]at hv;rcases hv with hv|rfl
    ·exact(gy7 v hv).mono tk
    ·exact si.mono (Tk.upd (s8 _ _ hy7))
   ·obtain⟨wv,hw,hwm⟩:=D6 (xs:=[V.str "both",V.str "one"]) (i:=N / 8192 % 2) (Int.emod_nonneg _ (by decide)) (by
     have:N / 8192 % 2 < 2:=Int.emod_lt_of_pos _ (by decide);show _ < (2:Int);omega)
    have hwy:∃wy:Str,wv=.str wy/\(wy= "both" \/wy= "one"):=by
     simp only[mem_cons,not_mem_nil,or_false]at hwm;rcases hwm with rfl|rfl
     ·exact⟨_,rfl,.inl rfl⟩
     ·exact⟨_,rfl,.inr rfl⟩
    obtain⟨wy,rfl,hwy⟩:=hwy;refine⟨zU,λb3 hb3=>?_⟩;have s8:=cH.upd (o:=.lst [.str "both",.str "one"]) hb3;refine⟨_,rfl,_,_,rfl,rfl,⟨by decide,by decide⟩,_,_,rfl,rfl,(by show(0:Int) < 2;decide),xL cD hw ?_⟩;refine⟨_,rfl,xT (s8 _ _ hu7) rfl ⟨.inl ⟨rfl,_,cK.of (s8 _ _ ht7)⟩,_,rfl,_,rfl,xL (s8 _ _ hcl7) eH ⟨_,rfl,_,rfl,_,rfl,LC,λtp htp=>?_⟩⟩⟩;have s9:=s8.trans (cH.upd (o:=.tup [.int hr,.str y1,.str y2,.str wy]) htp);refine⟨Tt,ts,.ref tp,rfl,rfl,s9 _ _ ht7,by omega,?_⟩;have tk:=(Tk.of s9).trans (Tk.upd (s9 _ _ ht7) (ys:=ts++[.ref tp]));have n1:tp≠Tt:=(cE (s8 _ _ ht7) htp).symm;refine⟨ss,ts++[.ref tp],ys,_,_,_,_,_,_,_,_,_,rfl,(by rw[cG nST];exact s9 _ _ hs7),cD,(by rw[cG nTY.symm];exact s9 _ _ hy7),λb o e n1 n2 n3=>(by rw[cG n2];exact s9 _ _ (kp7 b o e n1 n2 n3)),ls,by omega,(by rw[length_append];show ts.length+1<=i+1;omega),by omega,λv hv=>(gs7 v hv).mono tk,λv hv=>?_,λv hv=>(gy7 v hv).mono tk⟩;rw[mem_append,mem_singleton]at hv;rcases hv with hv|rfl
    ·exact(gt7 v hv).mono tk
    ·exact⟨tp,hr,y1,y2,wy,rfl,(by rw[cG n1];exact cD),kH,my1,my2,λe=>hne (dT0 (congrArg V.str e)),hwy⟩
  ·have:((0:Int)+(i:Int))=0:=by injection of_decide_eq_true hk
   omega
  ·rw[decide_eq_true_iff]at h24
   omega
 ·rintro σ H6 ⟨ss,ts,ys,e1,e2,e3,e4,e5,e6,e7,e8,e9,rfl,hs6,ht6,hy6,kp,ls,li,lt,ly,gs,gt,gy⟩
  rw[Int.toNat_natCast]at li lt ly;refine⟨_,rfl,k tt S Tt Y ss ts ys H6 (λb o e=>keep kp e) fU fS fT fY ?_ (kp _ _ hU5 nuS nuT nuY) hs6 ht6 hy6 ls (by omega) (by omega) gs gt gy⟩;simp only[nodup_cons,mem_cons,not_mem_nil,or_false,not_or,nodup_nil,and_true,not_false_eq_true];exact⟨⟨nuS,nuT,nuY⟩,⟨nST,nSY⟩,nTY⟩
def SK(kvs:List (Key×V))(zs:List Str):Prop:=kvs.map (·.1)=zs.map Sum.inr
def Ji(kvs:List (Key×V)):Prop:=∃zs,SK kvs zs/\zs.Nodup
theorem AG{kvs:List (Key×V)}{zs:List Str}{z:Str}(h:SK kvs zs):z∈zs↔(dr kvs (Sum.inr z)).isSome=true:=by
 rw[<-gn,any_eq_true];constructor
 ·intro m
  have:Sum.inr z∈kvs.map (·.1):=by rw[show kvs.map (·.1)=zs.map Sum.inr from h];exact mem_map_of_mem m
  obtain⟨kv,m1,e⟩:=mem_map.mp this;exact⟨kv,m1,dT0 e⟩
 ·rintro⟨kv,m,e⟩
  have:(Sum.inr z:Key)∈zs.map Sum.inr:=by rw[<-show kvs.map (·.1)=zs.map Sum.inr from h,<-of_decide_eq_true e];exact mem_map_of_mem m
  obtain⟨y,m1,e1⟩:=mem_map.mp this;cases e1;exact m1
theorem BH{kvs:List (Key×V)}{z:Str}{v:V}(h:Ji kvs):Ji (putK kvs (Sum.inr z) v):=by
 obtain⟨zs,h,nd⟩:=h;have e0:kvs.map (·.1)=zs.map Sum.inr:=h;unfold putK;rw[gn];cases c:(dr kvs (Sum.inr z)).isSome with
 |true=>
  rw[if_pos rfl];refine⟨zs,?_,nd⟩;show(kvs.map _).map _=_;rw[<-e0,map_map];refine map_congr_left λkv _=>?_;show(if kv.1=_ then(kv.1,v) else kv).1=kv.1;split<;>rfl
 |false=>
  rw[if_neg bF0];refine⟨zs++[z],?_,nodup_append.mpr ⟨nd,nodup_cons.mpr ⟨not_mem_nil,nodup_nil⟩,λa ha b hb e=>?_⟩⟩
  ·show(kvs++[_]).map _=_
   rw[map_append,map_append,e0];rfl
  ·rw[mem_singleton.mp hb]at e
   have:=(AG h).mp (e ▸ ha);rw[c]at this;cases this
theorem jv:∀{zs ps:List Str},zs.Nodup->(∀z∈zs,z∈ps)->zs.length<=ps.length
 |[],_,_,_=>zero_le _
 |z::r,ps,nd,m=>by
  obtain⟨n1,n2⟩:=nodup_cons.mp nd;have mz:=m z mem_cons_self;have:=jv (ps:=ps.erase z) n2 λy hy=>(List.mem_erase_of_ne λe=>n1 (by rw[<-e];exact hy)).mpr (m y (mem_cons_of_mem _ hy));rw[List.length_erase_of_mem mz]at this;have pl:=List.length_pos_of_mem mz;show r.length+1<=_;omega
def Nq(kvs:List (Key×V)):Prop:=∀(z:Str) (v:V),dr kvs (Sum.inr z)=some v->∃i:Int,v=.int i
def pL(F:Str->Option Int):SD->Bool
 |.knew q h=>match F q with
  |none=>false
  |some i=>decide (i<=h)
 |_=>true
inductive yQ  (vs:List V)(H:Hp)(Q:VK):Prop
 |mk(y d:Addr)(ys:List V)(sd:List SD)(kvs:List (Key×V))(F:Str->Option Int)(h0:vs=[.ref y,.ref d])(h1:H y=some (.lst ys))(h2:Sys H ys sd)(h3:H d=some (.dK kvs))(h4:(∀z,dr kvs (Sum.inr z)=(F z).map V.int))(h5:Q (.bl (sd.all (pL F))) H)
def oQ  :Sp:=λvs H Q _=>yQ  vs H Q
theorem rO:cI ["_law_sayings", "_law_found", "_law_row"] ["_law_sayings", "_law_found"] (cF i6):={}
theorem vX (D:Df K mg "_law_knew_so" i6 ["_law_sayings", "_law_found"] f fd):Gd P w K mg base 1 "_law_knew_so" oQ:=by
 refine aF D rO λX H vs Q E hh h=>?_;obtain⟨y,m,ys,sd,kvs,F,rfl,hy,sy,hm,get,k⟩:=h;obtain⟨S0,S1,S2,_⟩:=hh.d9 [0,1,2];have hu:=dY hh.room;refine⟨_,(ah (a9 hh.own hh.calm (aQ (aa S0)) (aE S2 hh.nd)
 (ag (aH (aX (bg (aB aL (af ao (aa S2) ae aj) aM (L2.cJ _)) (bz (aX (bF (J.jw hu (af ao (aa S2) ae aj) (aa S1)) (bG (aB b9 (bh hu (aa S1) (af ao (aa S2) ae aj) b8) (af ao (aa S2) ae aj) (L2.cJ _))))))))
 (ag (au a5))
 aI)))
 (ag (au a5))),?_⟩
 refine⟨_,rfl,y,rfl,⟨_,cK.of hy⟩,dj (K:=X.K) (a:=y) (xs:=ys) (λi σ H2=>∃e:Option V,σ=[some (.ref y),some (.ref m),e]/\H2=H/\∀d∈sd.take i,pL F d=true)
  ⟨none,rfl,rfl,λd hd=>by cases hd⟩ ?_ ?_ ?_⟩
 ·rintro i σ H2 hi ⟨e,rfl,rfl,al⟩
  exact cK.of hy
 ·rintro i v σ H2 hv ⟨e,rfl,rfl,al⟩
  obtain⟨d,a,hd,rfl,ha⟩:=sy.at hv;have nx:pL F d=true->∃e:Option V,[some (V.ref y),some (.ref m),some (.ref a)]=[some (.ref y),some (.ref m),e]/\H2=H2/\∀d∈sd.take (i+1),pL F d=true:=λo=>⟨_,rfl,rfl,λd' hd'=>by
   rw[take_add_one,hd,mem_append]at hd';rcases hd' with h|h
   ·exact al d' h
   ·rw[mem_singleton.mp h]
    exact o⟩
  have no:pL F d=false->Q (.bl false) H2:=λo=>by
   have e:sd.all (pL F)=false:=List.all_eq_false.mpr ⟨d,mem_of_getElem? hd,by rw[o];exact bF0⟩;rw[<-e];exact k
  cases d with
  |unh q i'=>exact⟨_,rfl,xT ha rfl ⟨rfl,_,rfl,iN (cW (nx rfl))⟩⟩
  |sil q b e'=>exact⟨_,rfl,xT ha rfl ⟨rfl,_,rfl,iN (cW (nx rfl))⟩⟩
  |bar q q'=>exact⟨_,rfl,xT ha rfl ⟨rfl,_,rfl,iN (cW (nx rfl))⟩⟩
  |knew q h=>
   have dg:=dN.k (k:=Sum.inr q) hm;rw[get]at dg;have ke:pL F (.knew q h)=(match F q with|none=>false|some i=>decide (i<=h)):=rfl;refine⟨_,rfl,xT ha rfl ⟨rfl,_,rfl,iP ⟨_,rfl,xT ha rfl ⟨_,rfl,m,_,rfl,dg,_,rfl,?_⟩⟩⟩⟩;cases hF:F q with
   |none=>
    rw[hF]at ke;exact fu rfl (dk (no ke))
   |some j=>
    rw[hF]at ke dg;refine iW bF0 ⟨_,rfl,_,rfl,xT ha rfl ⟨m,_,rfl,dg,_,rfl,xT ha rfl ⟨_,_,rfl,rfl,_,rfl,du (λe=>no ?_) (λe=>nx ?_)⟩⟩⟩
    ·rw[ke]
     have:=of_decide_eq_true e;exact decide_eq_false (by omega)
    ·rw[ke]
     have:¬j > h:=λx=>e (dT0 x);exact dT0 (by omega)
 ·rintro σ H2 ⟨e,rfl,rfl,al⟩
  rw[sy.1,take_length]at al;rw[all_eq_true.mpr al]at k;exact k
abbrev FH:=Str->Option Int
def mv:Option Int->Nat
 |none=>1000000000000000002
 |some i=>i.toNat
def nv:Option Int->Nat
 |none=>1
 |some _=>0
def mu(g:Option Int->Nat)(F:FH):List Str->Nat
 |[]=>0
 |z::r=>g (F z)+mu g F r
def ir(F:FH)(z:Str)(h:Int):FH:=λy=>if y=z then some h else F y
theorem dZ{F:FH}{z:Str}{h:Int}:ir F z h z=some h:=if_pos rfl
theorem dU{F:FH}{z y:Str}{h:Int}(n:¬y=z):ir F z h y=F y:=if_neg n
theorem Ag{g:Option Int->Nat}{F:FH}{z:Str}{h:Int}(l:g (some h)<=g (F z)):∀ps:List Str,mu g (ir F z h) ps<=mu g F ps
 |[]=>le_refl _
 |y::r=>by
  have ih:=Ag l r;show g (ir F z h y)+mu g (ir F z h) r<=g (F y)+mu g F r;by_cases e:y=z
  ·subst e
   rw[dZ];omega
  ·rw[dU e]
   omega
theorem AO{g:Option Int->Nat}{F:FH}{z:Str}{h:Int}(l:g (some h) < g (F z)):∀ps:List Str,z∈ps->mu g (ir F z h) ps < mu g F ps
 |[],m=>by cases m
 |y::r,m=>by
  have ih:=Ag (le_of_lt l) r;show g (ir F z h y)+mu g (ir F z h) r < g (F y)+mu g F r;by_cases e:y=z
  ·subst e
   rw[dZ];omega
  ·rw[dU e]
   rcases mem_cons.mp m with e'|m'
   ·exact absurd e'.symm e
   ·have:=AO l r m'
    omega
theorem wN:∀ps:List Str,mu nv (λ_=>none) ps=ps.length
 |[]=>rfl
 |z::r=>by
  show 1+mu nv (λ_=>none) r=r.length+1;rw[wN r];omega
structure zw(R:Str->Int->Prop)(ps:List Str)(kvs:List (Key×V))(F:FH):Prop where
 get:∀z,dr kvs (Sum.inr z)=(F z).map V.int
 ok:∀z i,F z=some i->cO i
 rc:∀z i,F z=some i->R z i
 len:kvs.length+mu nv F ps<=ps.length
 sk:Ji kvs
theorem zw.new{R:Str->Int->Prop}{ps:List Str}:zw R ps [] (λ_=>none):=⟨λ_=>rfl,(λ_ _ e=>by cases e),(λ_ _ e=>by cases e),(by rw[wN];show 0+_<=_;omega),⟨[],rfl,nodup_nil⟩⟩
theorem zw.put{R:Str->Int->Prop}{ps:List Str}{kvs:List (Key×V)}{F:FH}{z:Str}{h:Int}(d:zw R ps kvs F)(hz:z∈ps)(hh:cO h)(hc:R z h):zw R ps (putK kvs (Sum.inr z) (.int h)) (ir F z h):=by
 refine⟨λy=>?_,λy i e=>?_,λy i e=>?_,?_,BH d.sk⟩
 ·rw[fb]
  by_cases e:y=z
  ·subst e
   rw[if_pos rfl,dZ];rfl
  ·rw[if_neg (λq=>e (Sum.inr.inj q)),dU e]
   exact d.get y
 ·by_cases q:y=z
  ·subst q
   rw[dZ]at e;cases e;exact hh
  ·rw[dU q]at e
   exact d.ok y i e
 ·by_cases q:y=z
  ·subst q
   rw[dZ]at e;cases e;exact hc
  ·rw[dU q]at e
   exact d.rc y i e
 ·have dl:=d.len
  unfold putK;rw[gn,d.get z];cases hF:F z with
  |none=>
   have:=AO (g:=nv) (F:=F) (z:=z) (h:=h) (by rw[hF];exact Nat.zero_lt_one) ps hz;show(kvs++[_]).length+_<=_;rw[length_append];show kvs.length+1+_<=_;omega
  |some j=>
   have:=Ag (g:=nv) (F:=F) (z:=z) (h:=h) (zero_le _) ps;show(kvs.map _).length+_<=_;rw[length_map];omega
def Kf(F:FH)(g:GD):Prop:=∃j,F g.1=some j/\j<=g.2
def Kg(qd:List QD)(F:FH)(t:TK):Prop:=∀a,F t.2.1=some a->a < cT qd t.1->∃b,F t.2.2=some b/\b<=cT qd t.1
theorem Kf.set{F:FH}{g:GD}{z:Str}{m:Int}(h:Kf F g)(l:∀j,F z=some j->m<=j):Kf (ir F z m) g:=by
 obtain⟨j,e,k⟩:=h;by_cases q:g.1=z
 ·have:=l j (by rw[<-q];exact e)
  exact⟨m,(by rw[q];exact dZ),by omega⟩
 ·exact⟨j,(by rw[dU q];exact e),k⟩
def v9(sg:List GD)(F:FH)(ix:List Nat):Prop:=∀i∈ix,∀g,sg[i]? =some g->Kf F g
theorem v9.set{sg:List GD}{F:FH}{ix:List Nat}{z:Str}{m:Int}(h:v9 sg F ix)(l:∀j,F z=some j->m<=j):v9 sg (ir F z m) ix:=λi hi g hg=>(h i hi g hg).set l
theorem p6{α:Type}{l:List α}{i:Nat}{x y:α}(h:l[i]? =some x)(m:y∈l.take (i+1)):y∈l.take i\/y=x:=by
 rw[take_add_one,h,mem_append]at m;rcases m with m|m
 ·exact .inl m
 ·exact .inr (mem_singleton.mp m)
inductive jJ(sg:List GD)(qd:List QD)(ix:List Nat)(ks:List TK):Str->Int->Prop
 |saw {i:Nat}{g:GD}(m:i∈ix)(e:sg[i]? =some g):jJ sg qd ix ks g.1 g.2
 |hrd {t:TK}{h':Int}(m:t∈ks)(r:jJ sg qd ix ks t.2.1 h')(l:h' < cT qd t.1):jJ sg qd ix ks t.2.2 (cT qd t.1)
inductive LO(vs:List V)(H:Hp)(Q:VK):Prop
 |mk(th nb tl s t y:Addr)(ps:List Str)(ss ts us:List V)(sg:List GD)(qd:List QD)(ix:List Nat)(ks:List TK)(e:vs=[.ref th,.ref nb,.ref tl])(hth:H th=some (.tup [.ref s,.ref t,.ref y]))(hs:H s=some (.lst ss))(ht:H t=some (.lst ts))(hnb:H nb=some (.lst (ix.map λi=>V.int (i:Nat))))(htl:H tl=some (.lst us))
   (gs:Lz cU H ss sg)(gk:∀d∈sg,d.1∈ps/\cO d.2)(qs:Lz cY H ts qd)(qk:∀d∈qd,cO d.1)(tu:fD H us ks)(kk:∀t∈ks,t.1 < qd.length/\t.2.2∈ps)(ik:∀i∈ix,i < sg.length)(pl:ps.length<=24)
   (k:∀(d:Addr)(kvs:List (Key×V))(F:FH)(H':Hp),cH H H'->H d=none->H' d=some (.dK kvs)->zw (jJ sg qd ix ks) ps kvs F->v9 sg F ix->(∀t∈ks,Kg qd F t)->Q (.ref d) H')
def Aq:Sp:=λvs H Q _=>LO vs H Q
inductive Mt(R:Str->Int->Prop)(th nb tl s t y d:Addr)(H1:Hp)(ps:List Str)(sg:List GD)(ix:List Nat)(i:Nat)(σ:St)(H2:Hp):Prop
 |mk(e1:Option V)(kvs:List (Key×V))(F:FH)(e:σ=[some (.ref th),some (.ref nb),some (.ref tl),some (.ref s),some (.ref t),some (.ref y),some (.ref d),e1,none,none,none,none,none])(kp:∀b o,H1 b=some o->b≠d->H2 b=some o)(hd:H2 d=some (.dK kvs))(hr:zw R ps kvs F)(so:v9 sg F (ix.take i))
inductive Mb(R:Str->Int->Prop)(th nb tl s t y d:Addr)(H1:Hp)(ps:List Str)(sg:List GD)(qd:List QD)(ix:List Nat)(ks:List TK)(m:Nat)(σ:St)(H2:Hp):Prop
 |mk(b:Bool)(e1 e2 e3 e4 e5:Option V)(kvs:List (Key×V))(F:FH)(e:σ=[some (.ref th),some (.ref nb),some (.ref tl),some (.ref s),some (.ref t),some (.ref y),some (.ref d),e1,some (.bl b),e2,e3,e4,e5])(kp:∀b o,H1 b=some o->b≠d->H2 b=some o)(hd:H2 d=some (.dK kvs))(hr:zw R ps kvs F)(so:v9 sg F ix)(to:b=false->∀t∈ks,Kg qd F t)(me:m=2 * mu mv F ps+b.toNat)
inductive LU(R:Str->Int->Prop)(th nb tl s t y d:Addr)(H1:Hp)(ps:List Str)(sg:List GD)(qd:List QD)(ix:List Nat)(ks:List TK)(F0:FH)(i:Nat)(σ:St)(H2:Hp):Prop
 |mk(b:Bool)(e1 e2 e3 e4 e5:Option V)(kvs:List (Key×V))(F:FH)(e:σ=[some (.ref th),some (.ref nb),some (.ref tl),some (.ref s),some (.ref t),some (.ref y),some (.ref d),e1,some (.bl b),e2,e3,e4,e5])(kp:∀b o,H1 b=some o->b≠d->H2 b=some o)(hd:H2 d=some (.dK kvs))(hr:zw R ps kvs F)(so:v9 sg F ix)(to:b=false->F=F0/\∀t∈ks.take i,Kg qd F t)(me:b=true->mu mv F ps < mu mv F0 ps)
theorem vY:cI ["_law_things_here", "_law_numbers", "_law_tellings_here", "_law_sights", "_law_talks", "_law_sayings", "_law_found", "_law_i", "_law_changing", "_law_k", "_law_teller", "_law_hearer", "_law_when"] ["_law_things_here", "_law_numbers", "_law_tellings_here"] (cF lK):={}
theorem zv (D:Df K mg "_law_hours" lK ["_law_things_here", "_law_numbers", "_law_tellings_here"] f fd) (T:Txt K mg kw C):Gd P w K mg base 1 "_law_hours" Aq:=by
 refine aF D vY λX H vs Q E hh h=>?_;obtain⟨th,nb,tl,s,t,y,ps,ss,ts,us,sg,qd,ix,ks,rfl,hth,hs,ht,hnb,htl,gs,gk,qs,qk,tu,kk,ik,pl,k⟩:=h;obtain⟨S0,S1,S2,S3,S4,S5,S6,S7,S8,S9,S10,S11,S12,_⟩:=hh.d9 [0,1,2,3,4,5,6,7,8,9,10,11,12];have G0U:=hh.b T.b_min;have hu:=dY hh.room;have hsz:sizeLine=16777216:=sizeLine_eq;have small:∀{kvs:List (Key×V)}{F:FH},zw (jJ sg qd ix ks) ps kvs F->kvs.length < sizeLine:=λhr=>by
  have:=hr.len;omega
 clear hsz;refine⟨_,(ah (bQ (aa S0) (bC hh.calm (aG (aE S3 hh.nd) (aG (aE S4 hh.nd) (aG (aE S5 hh.nd) bj)))))
 (ah (aA S6 hh.nd cv)
 (ah (a9 hh.own hh.calm (aQ (aa S1)) (aE S7 hh.nd)
 (ag (bZ hu (aa S6) (af ao (af aR (aa S3) (aa S7) aK) ae aj) (aJ G0U (J.f6 hh.calm) L2.qX (aD (af ao (af aR (aa S3) (aa S7) aK) ae aj) (J.Hq hu (aa S6) (af ao (af aR (aa S3) (aa S7) aK) ae aj) (af ao (af aR (aa S3) (aa S7) aK) ae aj)))))))
 (ah (aA S8 hh.nd a5)
 (ah (J.K8 hh.own (J.rg (aa S8))
 (ah (aA S8 hh.nd a5)
 (ag (a9 hh.own hh.calm (aQ (aa S2)) (bC hh.calm (aG (aE S9 hh.nd) (aG (aE S10 hh.nd) (aG (aE S11 hh.nd) bj))))
 (ah (aA S12 hh.nd (af ao (af aR (aa S4) (aa S9) aK) ae aj))
 (ag (aH (aX (bg (J.uS hu (aa S10) (aa S6)) (bg (aB bO (bh hu (aa S6) (aa S10) aK) (aa S12) (L2.cJ _)) (bz (aB b9 (J.Hq hu (aa S6) (aa S11) (az bu (aa S12) ae)) (aa S12) (L2.cJ _))))))
 (ah (bZ hu (aa S6) (aa S11) (aa S12))
 (ag (aA S8 hh.nd a5)))
 aI)))))))
 (ag (au (aa S6)))))))),?_⟩
 refine⟨_,rfl,th,_,rfl,dv.of hth,rfl,_,_,rfl,_,_,rfl,_,_,rfl,rfl,λd hdn=>?_⟩;have s1:=cH.upd (o:=.dK []) hdn;have hd1:upd H d (.dK []) d=some (.dK []):=cD;generalize upd H d (.dK [])=H1 at s1 hd1;have keep:∀{b:Addr}{o:HO}{H2:Hp},(∀b o,H1 b=some o->b≠d->H2 b=some o)->H b=some o->H2 b=some o:=λkp e=>kp _ _ (s1 _ _ e) (cE e hdn);refine⟨_,rfl,nb,rfl,⟨_,cK.of (s1 _ _ hnb)⟩,dj (K:=X.K) (a:=nb) (xs:=ix.map λi=>V.int (i:Nat)) (Mt (jJ sg qd ix ks) th nb tl s t y d H1 ps sg ix)
  ⟨none,[],_,rfl,λb o e _=>e,hd1,zw.new,(λi hi=>by cases hi)⟩ ?_ ?_ ?_⟩
 ·rintro i σ H2 hi ⟨e1,kvs,F,rfl,kp,hd,hr,so⟩
  exact cK.of (keep kp hnb)
 ·rintro i v σ H2 hv ⟨e1,kvs,F,rfl,kp,hd,hr,so⟩
  rw[getElem?_map]at hv;obtain⟨n,hn,rfl⟩:=map_eq_some_iff.mp hv;have hnl:=ik n (mem_of_getElem? hn);obtain⟨g,hg⟩:∃g,sg[n]? =some g:=⟨_,getElem?_eq_getElem hnl⟩;obtain⟨vg,hvg⟩:∃vg,ss[n]? =some vg:=⟨_,getElem?_eq_getElem (by rw[gs.1];exact hnl)⟩;obtain⟨a,ta,rfl,ha⟩:=gs.2 _ _ _ hvg hg;have gk':=gk g (mem_of_getElem? hg);have hs2:=keep kp hs;have ha2:=keep kp ha;have dg:=dN.k (k:=Sum.inr g.1) hd;rw[hr.get]at dg;have put:∀m:Int,cO m->jJ sg qd ix ks g.1 m->m<=g.2->(∀j,F g.1=some j->m<=j)->Mt (jJ sg qd ix ks) th nb tl s t y d H1 ps sg ix (i+1) [some (.ref th),some (.ref nb),some (.ref tl),some (.ref s),some (.ref t),some (.ref y),some (.ref d),some (.int (n:Nat)),none,none,none,none,none] (upd H2 d (.dK (putK kvs (Sum.inr g.1) (.int m)))):=λm mo mc ml mj=>
   ⟨_,_,_,rfl,(λb o e n'=>by rw[cG n'];exact kp b o e n'),cD,hr.put gk'.1 mo mc,λq hq g' hg'=>by
    rcases p6 hn hq with hq|rfl
    ·exact(so q hq g' hg').set mj
    ·rw[hg]at hg'
     cases hg';exact⟨m,dZ,ml⟩⟩
  have lk:kvs.length < sizeLine:=small hr;cases hF:F g.1 with
  |none=>
   rw[hF]at dg;exact⟨_,rfl,_,rfl,xL hs2 (cN hvg) (xT ha2 rfl ⟨_,rfl,d,rfl,.inl ⟨_,.inl hd⟩,_,rfl,_,rfl,xL hs2 (cN hvg) (xT ha2 rfl ⟨_,rfl,_,rfl,xL hs2 (cN hvg) (xT ha2 rfl ⟨_,dg,g.2,g.2,rfl,_,rfl,_,rfl,_,rfl,xL hs2 (cN hvg) (xT ha2 rfl ⟨d,_,rfl,jc.k (k:=Sum.inr g.1) hd lk,put _ (by split<;>exact gk'.2) (by split<;>exact .saw (mem_of_getElem? hn) hg) (by split<;>omega) (λj e=>by rw[hF]at e;cases e)⟩)⟩)⟩)⟩)⟩
  |some j=>
   rw[hF]at dg;have jo:=hr.ok _ _ hF;exact⟨_,rfl,_,rfl,xL hs2 (cN hvg) (xT ha2 rfl ⟨_,rfl,d,rfl,.inl ⟨_,.inl hd⟩,_,rfl,_,rfl,xL hs2 (cN hvg) (xT ha2 rfl ⟨_,rfl,_,rfl,xL hs2 (cN hvg) (xT ha2 rfl ⟨_,dg,g.2,j,rfl,_,rfl,_,rfl,_,rfl,xL hs2 (cN hvg) (xT ha2 rfl ⟨d,_,rfl,jc.k (k:=Sum.inr g.1) hd lk,put _ (by split;exact jo;exact gk'.2) (by split;exact hr.rc _ _ hF;exact .saw (mem_of_getElem? hn) hg) (by split<;>omega) (λj' e=>by rw[hF]at e;cases e;split<;>omega)⟩)⟩)⟩)⟩)⟩
 ·rintro σ H2 ⟨e1,kvs,F,rfl,kp,hd,hr,so⟩
  rw[length_map,take_length]at so;refine⟨Mb (jJ sg qd ix ks) th nb tl s t y d H1 ps sg qd ix ks,⟨_,true,_,_,_,_,_,_,_,rfl,kp,hd,hr,so,(λe=>by cases e),rfl⟩,?_⟩;clear kp hd hr so;rintro m σ H3 ⟨b,e1,e2,e3,e4,e5,kvs,F,rfl,kp,hd,hr,so,to,me⟩;refine⟨_,rfl,b,rfl,?_⟩;cases b with
  |false=>exact cW ⟨_,rfl,k d kvs F H3 (λb o e=>keep kp e) hdn hd hr so (to rfl)⟩
  |true=>
   refine dk ⟨λσ' H'=>∃m',m' < m/\Mb (jJ sg qd ix ks) th nb tl s t y d H1 ps sg qd ix ks m' σ' H',λ_ _ h=>h,?_⟩;refine⟨_,rfl,tl,rfl,⟨_,cK.of (keep kp htl)⟩,dj (K:=X.K) (a:=tl) (xs:=us) (LU (jJ sg qd ix ks) th nb tl s t y d H1 ps sg qd ix ks F)
    ⟨false,_,_,_,_,_,kvs,F,rfl,kp,hd,hr,so,(λ_=>⟨rfl,λt ht=>by cases ht⟩),λe=>by cases e⟩ ?_ ?_ ?_⟩
   ·rintro i σ H4 hi ⟨b,e1,e2,e3,e4,e5,kvs,F',rfl,kp,hd,hr,so,to,me'⟩
    exact cK.of (keep kp htl)
   ·rintro i v σ H4 hv ⟨b,f1,f2,f3,f4,f5,kvs',F',rfl,kp',hd',hr',so',to',me'⟩
    obtain⟨tk,htk⟩:∃tk,ks[i]? =some tk:=⟨_,getElem?_eq_getElem (by rw[<-tu.1];exact(gI0.mp hv).1)⟩;obtain⟨a,rfl,ha⟩:=tu.2 _ _ _ hv htk;have kt:=kk tk (mem_of_getElem? htk);obtain⟨q,hq⟩:∃q,qd[tk.1]? =some q:=⟨_,getElem?_eq_getElem kt.1⟩;obtain⟨vq,hvq⟩:∃vq,ts[tk.1]? =some vq:=⟨_,getElem?_eq_getElem (by rw[qs.1];exact kt.1)⟩;obtain⟨aq,rfl,haq⟩:=qs.2 _ _ _ hvq hq;have qo:=qk q (mem_of_getElem? hq);have ha4:=keep kp' ha;have haq4:=keep kp' haq;have ht4:=keep kp' ht;have dt:=dN.k (k:=Sum.inr tk.2.1) hd';have dh:=dN.k (k:=Sum.inr tk.2.2) hd';rw[hr'.get]at dt dh;have lk:kvs'.length < sizeLine:=small hr';have fJ:Kg qd F' tk->LU (jJ sg qd ix ks) th nb tl s t y d H1 ps sg qd ix ks F (i+1) [some (.ref th),some (.ref nb),some (.ref tl),some (.ref s),some (.ref t),some (.ref y),some (.ref d),f1,some (.bl b),some (.int (tk.1:Nat)),some (.str tk.2.1),some (.str tk.2.2),some (.int q.1)] H4:=λok=>
     ⟨b,_,_,_,_,_,kvs',F',rfl,kp',hd',hr',so',(λe=>⟨(to' e).1,λt' ht'=>by
      rcases p6 htk ht' with ht'|rfl
      ·exact(to' e).2 t' ht'
      ·exact ok⟩),me'⟩
    have put:jJ sg qd ix ks tk.2.2 q.1->mv (some q.1) < mv (F' tk.2.2)->(∀j,F' tk.2.2=some j->q.1<=j)->LU (jJ sg qd ix ks) th nb tl s t y d H1 ps sg qd ix ks F (i+1) [some (.ref th),some (.ref nb),some (.ref tl),some (.ref s),some (.ref t),some (.ref y),some (.ref d),f1,some (.bl true),some (.int (tk.1:Nat)),some (.str tk.2.1),some (.str tk.2.2),some (.int q.1)] (upd H4 d (.dK (putK kvs' (Sum.inr tk.2.2) (.int q.1)))):=λrc lt mj=>
     ⟨true,_,_,_,_,_,_,_,rfl,(λb o e n'=>by rw[cG n'];exact kp' b o e n'),cD,hr'.put kt.2 qo rc,so'.set mj,(λe=>by cases e),λ_=>by
      have l1:=AO lt ps kt.2;cases b with
      |false=>
       rw[(to' rfl).1]at l1;rw[(to' rfl).1];exact l1
      |true=>
       have:=me' rfl;omega⟩
    have hh1:=dH hq;refine⟨a,_,rfl,dv.of ha4,rfl,_,_,rfl,_,_,rfl,_,_,rfl,rfl,?_⟩;refine⟨_,rfl,_,rfl,xL ht4 (cN hvq) (xT haq4 rfl ?_)⟩;refine⟨_,rfl,_,rfl,d,_,rfl,dt,_,rfl,?_⟩;cases hT:F' tk.2.1 with
    |none=>exact iW bF0 (cW (fJ λx e=>by rw[hT]at e;cases e))
    |some x=>
     rw[hT]at dt;refine fu rfl ⟨_,rfl,_,rfl,d,_,rfl,dt,_,rfl,_,_,rfl,rfl,_,rfl,du (λlt=>?_) (λnlt=>cW (fJ λx' e l=>?_))⟩
     ·have rc:jJ sg qd ix ks tk.2.2 q.1:=by
       have:=jJ.hrd (mem_of_getElem? htk) (hr'.rc _ _ hT) (by rw[hh1];exact of_decide_eq_true lt)
       rwa [hh1]at this
      cases hF:F' tk.2.2 with
      |none=>
       rw[hF]at dh;refine⟨_,rfl,d,rfl,.inl ⟨_,.inl hd'⟩,_,rfl,_,rfl,_,_,rfl,rfl,_,dh,_,rfl,q.1+1,q.1,rfl,rfl,_,rfl,fu (dT0 (by omega)) ⟨_,rfl,_,rfl,_,rfl,d,_,rfl,jc.k (k:=Sum.inr tk.2.2) hd' lk,put rc ?_ (λj e=>by rw[hF]at e;cases e)⟩⟩;rw[hF];show q.1.toNat < 1000000000000000002;have h18:(10:Int) ^ Int.toNat 18=1000000000000000000:=by decide
       have:=qo.2;rw[h18]at this;omega
      |some j=>
       rw[hF]at dh;have jo:=hr'.ok _ _ hF;refine⟨_,rfl,d,rfl,.inl ⟨_,.inl hd'⟩,_,rfl,_,rfl,_,_,rfl,rfl,_,dh,_,rfl,j,q.1,rfl,rfl,_,rfl,du (λgt=>⟨_,rfl,_,rfl,_,rfl,d,_,rfl,jc.k (k:=Sum.inr tk.2.2) hd' lk,put rc ?_ ?_⟩) (λngt=>fJ λx' e l=>?_)⟩
       ·rw[hF]
        rw[decide_eq_true_iff]at gt;show q.1.toNat < j.toNat;have:=qo.1;omega
       ·intro j' e
        rw[hF]at e;cases e;rw[decide_eq_true_iff]at gt;omega
       ·rw[decide_eq_true_iff]at ngt
        exact⟨j,hF,by rw[hh1];omega⟩
     ·rw[hT]at e
      cases e;rw[hh1]at l;exact absurd (dT0 l) nlt
   ·rintro σ H4 ⟨b,f1,f2,f3,f4,f5,kvs',F',rfl,kp',hd',hr',so',to',me'⟩
    rw[tu.1,take_length]at to';refine⟨_,?_,b,_,_,_,_,_,kvs',F',rfl,kp',hd',hr',so',λe=>(to' e).2,rfl⟩;cases b with
    |false=>
     rw[(to' rfl).1,me];exact lt_succ_self _
    |true=>
     have:=me' rfl;rw[me];show 2 * _+1 < 2 * _+1;omega
theorem Lm{te:TE}{σ:St}{H:Hp}{K1:VK}{K2:Hp->Prop}(h:te σ H K1):vZ σ H λb H5=>if b=true then te σ H5 K1 else K2 H5:=h
theorem DP(bs:List Bool):FD bs=bs.all id:=by
 unfold FD;rw[Bool.eq_iff_iff,all_eq_true,all_eq_true];constructor
 ·intro h b hb
  obtain⟨i,hi,rfl⟩:=List.getElem_of_mem hb;have:=h i (mem_range.mpr hi);rw[getD_eq_getElem?_getD,getElem?_eq_getElem hi]at this;exact this
 ·intro h i hi
  have hi':=mem_range.mp hi;rw[getD_eq_getElem?_getD,getElem?_eq_getElem hi'];exact h _ (getElem_mem hi')
theorem DK{J:It}{n:Nat}{is:List Nat}{g:TG}{te:TE}{σ:St}{H:Hp}{Q:VK}{N:Nat}(R:Nat->Hp->V->Prop)(mono:∀j v H H',Tk H H'->R j H v->R j H' v)(hz:N<=sizeLine)(hgo:∀i H2,cH H H2->i < N->J.go i H2)(hstop:∀H2,cH H H2->J.stop N H2)
  (he:∀(i:Nat)(os:St) v H2 H3 (K1:VK),i < N->os.length=n->cH H H2->J.yld i H2 v H3->(∀y H6,cH H2 H6->R i H6 y->K1 y H6)->
   g v (os++dP is σ) H3 λσ' H4=>(∃os':St,os'.length=n/\σ'=os'++dP is σ)/\te σ' H4 K1)
  (gm:∀v σ H (Q1 Q2:St->Hp->Prop),(∀σ' H',Q1 σ' H'->Q2 σ' H')->g v σ H Q1->g v σ H Q2)
  (q:∀D ys H',H D=none->cH H H'->H' D=some (.lst ys)->ys.length=N->(∀(j:Nat) v,ys[j]? =some v->R j H' v)->Q (.ref D) H'):eZ J n is g vZ te σ H Q:=by
 intro D hDn;refine⟨λi m ys H2=>m=N - i/\i<=N/\cH H H2/\H2 D=some (.lst ys)/\ys.length=i/\∀(j:Nat) v,ys[j]? =some v->R j H2 v,⟨_,rfl,zero_le _,cH.upd hDn,cD,rfl,λj v h=>by cases h⟩,?_⟩;rintro i m ys H2 ⟨rfl,hi,sm,hd,rfl,ra⟩;refine⟨hd,?_⟩;by_cases hlt:ys.length < N
 ·refine .inr ⟨hgo _ H2 sm hlt,λos v H3 hos y=>?_⟩
  refine gm _ _ _ _ _ (λσ' H' h=>⟨h.1,dk (B:=∃m',m' < N - ys.length/\m'=N - (ys.length+1)/\ys.length+1<=N/\cH H H'/\H' D=some (.lst ys)/\ys.length=ys.length+1/\∀(j:Nat) v,ys[j]? =some v->R j H' v) h.2⟩) (he _ os v H2 H3 _ hlt hos sm y λz H6 s6 rz=>⟨s6 _ _ hd,by omega,N - (ys.length+1),by omega,rfl,hlt,λb o e=>?_,cD,by rw[length_append];rfl,λj u hu=>?_⟩)
  ·rw[cG (cE e hDn)]
   exact s6 _ _ (sm _ _ e)
  ·have tk:=Tk.upd (s6 _ _ hd) (ys:=ys++[z])
   by_cases hj:j < ys.length
   ·rw[getElem?_append_left hj]at hu
    exact mono _ _ _ _ ((Tk.of s6).trans tk) (ra j u hu)
   ·have e:j=ys.length:=by
     have:=(gI0.mp hu).1;rw[length_append]at this;have:j < ys.length+1:=this;omega
    subst e;rw[getElem?_append_right (le_refl _),Nat.sub_self]at hu;cases hu;exact mono _ _ _ _ tk rz
 ·have e:ys.length=N:=by omega
  exact .inl ⟨by rw[e];exact hstop H2 sm,q D ys H2 hDn sm hd e ra⟩
theorem lA{K:FG0}{is:List Nat}{te:TE}{σ:St}{H:Hp}{Q:VK}{a:Addr}{xs:List V}(R:Nat->Hp->V->Prop)(mono:∀j v H H',Tk H H'->R j H v->R j H' v)(hq:cK K H a xs)(hz:xs.length<=sizeLine)
  (he:∀(i:Nat) v H2 (K1:VK),xs[i]? =some v->cH H H2->(∀y H6,cH H2 H6->R i H6 y->K1 y H6)->te ([some v]++dP is σ) H2 K1)
  (q:∀D ys H',H D=none->cH H H'->H' D=some (.lst ys)->ys.length=xs.length->(∀(j:Nat) v,ys[j]? =some v->R j H' v)->Q (.ref D) H'):eZ (BW K a) 1 is (eS 0) vZ te σ H Q:=
 DK R mono hz (λi H2 sm hi=>⟨xs,xs[i],sm.seq hq,by simp[hi]⟩) (λH2 sm=>⟨xs,sm.seq hq,le_refl _⟩) (λi os v H2 H3 K1 hi hos sm y k1=>by
  obtain⟨rfl,y⟩:=y
  match os,hos with
  |[o],_=>exact⟨⟨[some v],rfl,rfl⟩,he i v _ K1 (y xs (sm.seq hq)) sm k1⟩) (λ_ _ _ _ _ h k=>h _ _ k) q
theorem CG{i:Nat}{v:V}{tc:TT}{u t2:TS}{D:Ends}{σ:St}{H:Hp}(R:St->Hp->Prop)(hR:∀σ' H',R σ' H'->t2 D σ' H')(b:Bool)(hc:∀Q:Bool->Hp->Prop,Q b H->tc (σ.set i (some v)) H Q)(h1:b=true->(∀σ' H',R σ' H'->t2 D σ' H')->u { D with nx:=t2 D } (σ.set i (some v)) H)(h2:b=false->R (σ.set i (some v)) H):
  eS i v σ H (λσ2 H2=>tX (y8 tc u p9) t2 D σ2 H2):=by
 refine hc _ ?_;cases b with
 |true=>exact dk (h1 rfl hR)
 |false=>exact cW (hR _ _ (h2 rfl))
theorem BP{α:Type}{l:List α}{p:α->Bool}{i:Nat}{d:α}(h:l[i]? =some d):eY l p i=p d:=by
 unfold eY;rw[h]
theorem Lz.snoc{α:Type}{R:Hp->V->α->Prop}{H:Hp}{xs:List V}{ds:List α}{v:V}{d:α}(h:Lz R H xs ds)(hv:R H v d):Lz R H (xs++[v]) (ds++[d]):=by
 refine⟨by rw[length_append,length_append,h.1];rfl,λi u e hu he=>?_⟩;by_cases hi:i < xs.length
 ·rw[getElem?_append_left hi]at hu
  rw[getElem?_append_left (by rw[<-h.1];exact hi)]at he;exact h.2 i u e hu he
 ·rw[getElem?_append_right (by omega)]at hu
  rw[getElem?_append_right (by rw[<-h.1];omega),<-h.1]at he;obtain⟨h1,h2⟩:=gI0.mp hu;have h0:i - xs.length=0:=by
   have:i - xs.length < 1:=h1;omega
  rw[h0]at hu he;cases hu;cases he;exact hv
theorem oy{ps:List Str}{qd:List QD}(qk:∀d∈qd,iV ps d){tk:TK}(h:tk∈eP 0 (eV qd)):∃q,qd[tk.1]? =some q/\tk.2.1∈ps/\tk.2.2∈ps:=by
 obtain⟨j,d',hj,e1,e2⟩:=nL h;unfold eV at hj;rw[getElem?_map]at hj;obtain⟨q,hq,rfl⟩:=map_eq_some_iff.mp hj;have qo:=qk q (mem_of_getElem? hq);rw[zero_add]at e1;refine⟨q,(by rw[e1];exact hq),?_⟩;rcases e2 with e2|e2
 ·rw[e2]
  exact⟨qo.2.1,qo.2.2.1⟩
 ·rw[e2]
  exact⟨qo.2.2.1,qo.2.1⟩
inductive LN(C:Addr)(vs:List V)(H:Hp)(Q:VK):Prop
 |mk(nl th s t y:Addr)(ps:List Str)(ss ts ys:List V)(e:vs=[.ref nl,.ref th])(hn:H nl=some (.lst (ps.map V.str)))(hth:H th=some (.tup [.ref s,.ref t,.ref y]))(hs:H s=some (.lst ss))(ht:H t=some (.lst ts))(hy:H y=some (.lst ys))(pa:Parts H ps ss ts ys)
   (k:∀(x p' s' t' y':Addr)(H':Hp),cH H H'->H x=none->Bk C H' x p' s' t' y' ps ss ts ys->Q (.ref x) H')
def Bp(C:Addr):Sp:=λvs H Q _=>LN C vs H Q
theorem yt:cI ["_law_names_here", "_law_things_here"] ["_law_names_here", "_law_things_here"] (cF oE):={}
theorem B9 (D:Df K mg "_law_book" oE ["_law_names_here", "_law_things_here"] f fd) (T:Txt K mg kw C) (G2N:Kd P w K mg base 7 "Book" C (wc C)):Gd P w K mg base 9 "_law_book" (Bp C):=by
 refine aF D yt λX H vs Q E hh h=>?_;obtain⟨nl,th,s,t,y,ps,ss,ts,ys,rfl,hn,hth,hs,ht,hy,pa,k⟩:=h;obtain⟨S0,S1,_⟩:=hh.d9 [0,1];have G02:=hh.b T.b_list;have G2O:=hh.Kv G2N rfl (by decide) (by decide);refine⟨_,(ag (au (J.Kv G2O (bS (bw G02 bM L2.ei (ak (aa S0))) (bw G02 bM L2.ei (ak (af ao (aa S1) ae aj))) (bw G02 bM L2.ei (ak (af ao (aa S1) ae aj))) (bw G02 bM L2.ei (ak (af ao (aa S1) ae aj))))))),?_⟩;refine⟨_,rfl,nl,_,rfl,.inl (cK.of hn),λl1 n1=>?_⟩;have s1:=cH.upd (o:=.lst (ps.map V.str)) n1;have k1:upd H l1 (.lst (ps.map V.str)) l1=some (.lst (ps.map V.str)):=cD;generalize upd H l1 (.lst (ps.map V.str))=H1 at s1 k1;refine⟨_,rfl,xT (s1 _ _ hth) rfl ⟨s,_,rfl,.inl (cK.of (s1 _ _ hs)),λl2 n2=>?_⟩⟩;have s2:=cH.upd (o:=.lst ss) n2;have k2:upd H1 l2 (.lst ss) l2=some (.lst ss):=cD;generalize upd H1 l2 (.lst ss)=H2 at s2 k2;have t2:=s1.trans s2;refine⟨_,rfl,xT (t2 _ _ hth) rfl ⟨t,_,rfl,.inl (cK.of (t2 _ _ ht)),λl3 n3=>?_⟩⟩;have s3:=cH.upd (o:=.lst ts) n3;have k3:upd H2 l3 (.lst ts) l3=some (.lst ts):=cD;generalize upd H2 l3 (.lst ts)=H3 at s3 k3;have t3:=t2.trans s3;refine⟨_,rfl,xT (t3 _ _ hth) rfl ⟨y,_,rfl,.inl (cK.of (t3 _ _ hy)),λl4 n4=>?_⟩⟩;have s4:=cH.upd (o:=.lst ys) n4;have k4:upd H3 l4 (.lst ys) l4=some (.lst ys):=cD;generalize upd H3 l4 (.lst ys)=H4 at s4 k4;have t4:=t3.trans s4;intro x dx nx ndx nex;have s5:cH H4 (upd (upd H4 dx (.own x)) x (.ins C dx [])):=λb o e=>by
  rw[cG (cE e nx),cG (cE e ndx)];exact e
 have t5:=t4.trans s5;refine⟨x,dx,l1,l2,l3,l4,ps,ss,ts,ys,rfl,cD,s5 _ _ (s4 _ _ (s3 _ _ (s2 _ _ k1))),s5 _ _ (s4 _ _ (s3 _ _ k2)),s5 _ _ (s4 _ _ k3),s5 _ _ k4,pa.mono (Tk.of t5),λp' s' t' y' H6 _ _ _ _ bk kp=>⟨rfl,?_⟩⟩;exact k x p' s' t' y' H6 (λb o e=>kp b o (t5 _ _ e) (cE e (t4.free nx))) (t4.free nx) bk
structure vo(ps:List Str)(H:Hp)(th s t y:Addr)(ss ts ys:List V):Prop where
 hth:H th=some (.tup [.ref s,.ref t,.ref y])
 hs:H s=some (.lst ss)
 ht:H t=some (.lst ts)
 hy:H y=some (.lst ys)
 ls:ss.length<=24
 lt:ts.length<=60
 ly:ys.length<=60
 gs:∀v∈ss,d3 ps H v
 gt:∀v∈ts,eW ps H v
 gy:∀v∈ys,fO ps H v
theorem vo.mono{ps:List Str}{H H':Hp}{th s t y:Addr}{ss ts ys:List V}(sm:cH H H')(o:vo ps H th s t y ss ts ys):vo ps H' th s t y ss ts ys:=
 ⟨sm _ _ o.hth,sm _ _ o.hs,sm _ _ o.ht,sm _ _ o.hy,o.ls,o.lt,o.ly,λv hv=>(o.gs v hv).mono (Tk.of sm),λv hv=>(o.gt v hv).mono (Tk.of sm),λv hv=>(o.gy v hv).mono (Tk.of sm)⟩
theorem yK(us:List Int)(lo hi:Option Int):jm (us.map V.int) lo hi=(((us.drop (HT.nC us.length 0 lo)).take (HT.nC us.length us.length hi - HT.nC us.length 0 lo))).map V.int:=by
 unfold jm;rw[length_map,List.map_take,List.map_drop]
theorem pG(us:List Int){k:Int}(h0:0<=k):∃vs:List Int,jm (us.map V.int) none (some k)=vs.map V.int/\vs.length<=k.toNat:=by
 refine⟨_,yK ..,?_⟩;have e:HT.nC us.length us.length (some k)=min k.toNat us.length:=by
  show(if k < 0 then(k+(us.length:Int)).toNat else min k.toNat us.length)=_;rw[if_neg (Int.not_lt.mpr h0)]
 rw[length_take,length_drop,HT.BB,e];exact le_trans (Nat.min_le_left _ _) (le_trans (Nat.sub_le _ _) (Nat.min_le_left _ _))
theorem Aa{K:FG0}{is:List Nat}{tc:TT}{te:TE}{σ:St}{H:Hp}{Q:VK}{a:Addr}{xs:List V}(hq:cK K H a xs)(hz:xs.length<=sizeLine)
  (he:∀(i:Nat) v H2 (K1:VK)(K2:Hp->Prop),xs[i]? =some v->cH H H2->(∀H6,cH H2 H6->K1 v H6)->(∀H5,cH H2 H5->K2 H5)->tc ([some v]++dP is σ) H2 λb H5=>if b=true then te ([some v]++dP is σ) H5 K1 else K2 H5)
  (q:∀D ys H',H D=none->cH H H'->H' D=some (.lst ys)->ys.length<=xs.length->(∀v∈ys,v∈xs)->Q (.ref D) H'):eZ (BW K a) 1 is (eS 0) tc te σ H Q:=by
 intro D hDn;refine⟨λi m ys H2=>m=xs.length - i/\i<=xs.length/\cH H H2/\H2 D=some (.lst ys)/\ys.length<=i/\∀v∈ys,v∈xs,⟨_,rfl,zero_le _,cH.upd hDn,cD,le_refl 0,λv h=>by cases h⟩,?_⟩;rintro i m ys H2 ⟨rfl,hi,sm,hd,yl,ya⟩;refine⟨hd,?_⟩;by_cases hlt:i < xs.length
 ·refine .inr ⟨⟨xs,xs[i],sm.seq hq,by simp[hlt]⟩,λos v H3 hos y=>?_⟩
  obtain⟨rfl,y⟩:=y;have hv:=y xs (sm.seq hq)
  match os,hos with
  |[o],_=>
   refine⟨⟨[some v],rfl,rfl⟩,he i v _ _ _ hv sm (λH6 s6=>⟨s6 _ _ hd,by omega,xs.length - (i+1),by omega,rfl,hlt,λb o e=>?_,cD,?_,λu hu=>?_⟩) (λH5 s5=>⟨xs.length - (i+1),by omega,rfl,hlt,sm.trans s5,s5 _ _ hd,by omega,ya⟩)⟩
   ·rw[cG (cE e hDn)]
    exact s6 _ _ (sm _ _ e)
   ·rw[length_append]
    show ys.length+1<=i+1;omega
   ·rcases mem_append.mp hu with hu|hu
    ·exact ya u hu
    ·rw[mem_singleton.mp hu]
     exact mem_of_getElem? hv
 ·have e:i=xs.length:=by omega
  subst e;exact .inl ⟨⟨xs,sm.seq hq,le_refl _⟩,q D ys H2 hDn sm hd yl ya⟩
theorem DJ{tc:TT}{u t2:TS}{D:Ends}{σ:St}{H:Hp}(R:St->Hp->Prop)(hR:∀σ' H',R σ' H'->t2 D σ' H')(b:Bool)(hc:∀Q:Bool->Hp->Prop,Q b H->tc σ H Q)(h1:b=true->(∀σ' H',R σ' H'->t2 D σ' H')->u { D with nx:=t2 D } σ H)(h2:b=false->R σ H):
  tX (y8 tc u p9) t2 D σ H:=by
 refine hc _ ?_;cases b with
 |true=>exact dk (h1 rfl hR)
 |false=>exact cW (hR _ _ (h2 rfl))
theorem Lp{H:Hp}{v:V}{d:SD}(h:ui H v d):Sys H [v] [d]:=⟨rfl,λi u e hu he=>by
 cases i with
 |zero=>
  cases hu;cases he;exact h
 |succ i=>cases hu⟩
inductive KS(K:FG0)(vs:List V)(H:Hp)(Q:VK):Prop
 |mk(sc:Addr)(ns:List Int)(e:vs=[.ref sc,.int 50])(hsc:cK K H sc (ns.map V.int))(n63:ns.length<=63)
   (k:∀(r nl th s t y:Addr)(W:Int)(ps:List Str)(ss ts ys:List V)(H':Hp),cH H H'->H' r=some (.tup [.int W,.ref nl,.ref th])->0<=W->W < 2147483647->H' nl=some (.lst (ps.map V.str))->fI ps->vo ps H' th s t y ss ts ys->Q (.ref r) H')
def zC(K:FG0):Sp:=λvs H Q _=>KS K vs H Q
theorem uR:cI ["_law_script", "_law_most", "_law_whole", "_law_names_here", "_law_things_here", "_law_numbers", "_law_tellings_here", "_law_found", "_law_kept"] ["_law_script", "_law_most"] (cF lU):={}
theorem Bb (D:Df K mg "_law_drawn" lU ["_law_script", "_law_most"] f fd) (T:Txt K mg kw C) (G0d:Gd P w K mg base 1 "_law_mix" qf) (G1Q:Gd P w K mg base 1 "_law_names" ph) (G1R:Gd P w K mg base 1 "_law_clock" rQ) (G1A:Gd P w K mg base 2 "_law_things" oJ) (G0H:Gd P w K mg base 3 "_law_open" nO) (G1S:Gd P w K mg base 1 "_law_hours" Aq) (G1k:Gd P w K mg base 1 "_law_knew_so" oQ):Gd P w K mg base 4 "_law_drawn" (zC K):=by
 refine aF D uR λX H vs Q E hh h=>?_;obtain⟨sc,ns,rfl,hsc,n63,k⟩:=h;rw[<-hh.fK]at hsc;obtain⟨S0,S1,S2,S3,S4,S5,S6,S7,S8,_⟩:=hh.d9 [0,1,2,3,4,5,6,7,8];have G2w:=hh.b T.b_int;have G1L:=hh.b T.b_sum;have G1T:=hh.c G1R;have G1U:=hh.c G1S;have G08:=hh.c G0d;have G1V:=hh.c G1Q;have G0I:=hh.c G0H;have G1B:=hh.c G1A;have G1h:=hh.ci G1k;have hsz:sizeLine=16777216:=sizeLine_eq;refine⟨_,(ah (aA S2 hh.nd (aw G08 (aD (aJ G1L (J.ie hh.calm) L2.vn (ak (J.hU J.jF (aa S0) J.jB (J.jx ae)))) ae)))
 (ah (aA S3 hh.nd (aw G1V (aD (aa S2) (af aR (bA (aD (az bu ae (az aY (az bf (aa S2) ae) ae)) (az bu ae (az aY (az bf (aa S2) ae) ae)))) (bw G2w J.jE L2.v7 (ak (aU aL (az aY (az bf (aa S2) ae) ae) ae (L2.cJ _)))) J.ro))))
 (ah (aA S4 hh.nd (aw G1B (aP (J.hU J.jF (aa S0) J.jB (J.jx (aa S1))) (aa S3) (aw G1T (ak (aw G08 (aD (aJ G1L (J.ie hh.calm) L2.vn (ak (J.hU J.jF (aa S0) J.jB (J.jx ae)))) ae)))))))
 (ah (aH (aB aL (az aY (az bf (aa S2) ae) ae) ae (L2.cJ _))
 (ag (bH (J.Nv plainAttrs_list PySem.F.slot_list_reverse PySem.F.type_list_reverse J.jX (af ao (aa S4) ae aj))))
 aI)
 (ah (aH (aB b9 (az aY (az bf (aa S2) ae) ae) ae (L2.cJ _))
 (ah (bQ (aw G0I (ak (aa S4))) (bC hh.calm (aG (aE S5 hh.nd) (aG (aE S6 hh.nd) bj))))
 (ah (aA S7 hh.nd (aw G1U (aP (aa S4) (aa S5) (aa S6))))
 (ah (cn (is:=[7]) (xs:=["_law_row"]) (ns:=["_law_found"]) S8 hh.nd hh.calm (aQ (af ao (aa S4) ae aj)) {} (λ_ _ _ _ _=>(a7 (i:=0) (by decide+kernel) rfl rfl)) (λ_ _ _ _ _=>(bX (aX (bF (aB bU (af br (aO (i:=0) rfl rfl (by decide) (by decide)) ae aj) aM (L2.cJ _)) (bG (ba (aw (G1h.lg rfl) (aD (bA (ak (aO (i:=0) rfl rfl (by decide) (by decide)))) (a8 (i:=1) rfl rfl (by decide) (by decide)))))))))) (λ_ _ _ _ _=>(aO (i:=0) rfl rfl (by decide) (by decide))) hh.hsc hh.hN (by decide+kernel))
 (ag (aA S4 hh.nd (aT (aP (af ao (aa S4) ae aj) (af ao (aa S4) ae aj) (aa S8))))))))
 aI)
 (ag (au (aT (aP (aa S2) (aa S3) (aa S4)))))))))),?_⟩
 obtain⟨n1,c1,_⟩:=pG ns (k:=63) (by decide);obtain⟨n2,c2,l2⟩:=pG ns (k:=50) (by decide);refine⟨_,rfl,_,rfl,sc,_,rfl,hsc,λp1 np1=>?_⟩;have s1:=cH.upd (o:=.lst (jm (ns.map V.int) none (some 63))) np1;refine⟨p1,n1,rfl,cK.of (by rw[<-c1];exact cD),_,_,rfl,by decide,by decide,λW W0 W1=>?_⟩;generalize upd H p1 (.lst (jm (ns.map V.int) none (some 63)))=H1 at s1;have a6:=c8 (W / 7) (m:=6) (by decide);have a24:=c8 (W / 42) (m:=24) (by decide);refine⟨_,rfl,_,rfl,_,_,rfl,rfl,⟨by decide,by decide⟩,_,_,rfl,rfl,(by show(0:Int) < 6;decide),_,_,rfl,rfl,_,rfl,_,_,rfl,rfl,⟨by decide,by decide⟩,_,_,rfl,rfl,(by show(0:Int) < 24;decide),_,_,rfl,rfl,zU,λb1 nb1=>?_⟩;obtain⟨bv,hb,hbm⟩:=D6 (xs:=[V.int (2+W / 7 % 6),V.int (1+W / 42 % 24)]) (i:=if decide (V.int (W / 1008 % 4)=V.int 0) then 1 else 0) (by split<;>decide) (by show _ < (2:Int);split<;>decide);have hbv:∃m:Int,bv=.int m/\1<=m/\m<=24:=by
  simp only[mem_cons,not_mem_nil,or_false]at hbm;rcases hbm with rfl|rfl
  ·exact⟨_,rfl,by omega,by omega⟩
  ·exact⟨_,rfl,by omega,by omega⟩
 obtain⟨m,rfl,m1,m24⟩:=hbv;clear hbm a6 a24;have s2:=s1.trans (cH.upd (o:=.lst [V.int (2+W / 7 % 6),V.int (1+W / 42 % 24)]) nb1);refine⟨_,rfl,_,_,rfl,rfl,⟨by decide,by decide⟩,_,_,rfl,rfl,(by show(0:Int) < 4;decide),rfl,.inr ⟨_,rfl,xL cD hb ⟨W,m,rfl,W0,m1,m24,λnl ps H3 s3 nln hnl po=>?_⟩⟩⟩;have s03:=s2.trans s3;clear s2 s3 hb nb1;refine⟨_,rfl,_,rfl,_,rfl,sc,_,rfl,s03.seq hsc,λp2 np2=>?_⟩;have s4:=s03.trans (cH.upd (o:=.lst (jm (ns.map V.int) none (some 50))) np2);have hp2:upd H3 p2 (.lst (jm (ns.map V.int) none (some 50))) p2=some (.lst (n2.map V.int)):=by
  rw[<-c2];exact cD
 have hnl4:=cH.upd (o:=.lst (jm (ns.map V.int) none (some 50))) np2 _ _ hnl;generalize upd H3 p2 (.lst (jm (ns.map V.int) none (some 50)))=H4 at s4 hp2 hnl4;refine⟨_,rfl,_,rfl,_,rfl,sc,_,rfl,s4.seq hsc,λp3 np3=>?_⟩;have s45:=cH.upd (o:=.lst (jm (ns.map V.int) none (some 63))) np3;refine⟨p3,n1,rfl,cK.of (by rw[<-c1];exact cD),_,_,rfl,by decide,by decide,λZ Z0 Z1=>?_⟩;refine⟨_,rfl,λcl hs H6 s6 ncl hcl ck=>?_⟩;have s46:=s45.trans s6;refine⟨p2,nl,cl,n2,ps,hs,rfl,s46 _ _ hp2,(by omega),s46 _ _ hnl4,po,hcl,ck,λtt s t y ss ts ys H7 s7 ntt ns' nt ny nd htt hs7 ht7 hy7 ls lt ly gs gt gy=>?_⟩;have s07:=(s4.trans s46).trans s7;have hnl7:=s7 _ _ (s46 _ _ hnl4);have ok7:vo ps H7 tt s t y ss ts ys:=⟨htt,hs7,ht7,hy7,ls,lt,ly,gs,gt,gy⟩;have ntd:t≠nl/\t≠s/\t≠y:=by
  simp only[nodup_cons,mem_cons,not_mem_nil,or_false,not_or,nodup_nil,and_true,not_false_eq_true]at nd;refine⟨λe=>?_,λe=>nd.2.1.1 e.symm,nd.2.2⟩;rw[e,s46 _ _ hnl4]at nt;cases nt
 have t0:H t=none:=(s4.trans s46).free nt;clear s46 s6 s45 s4 hp2 hnl4 hcl ck ntt ns' nt ny nd htt hs7 ht7 hy7 gs gt gy ls lt ly np3 np2 s03 s7;dsimp only;refine CG (λσ' H'=>∃ts',σ'=[some (.ref sc),some (.int 50),some (.int W),some (.ref nl),some (.ref tt),none,none,none,none]/\cH H H'/\H' nl=some (.lst (ps.map V.str))/\vo ps H' tt s t y ss ts' ys) ?_ (decide (V.int (W / 5 % 3)=V.int 0)) (λQ' q'=>?_) (λ_ hR=>?_) (λ_=>?_)
 ·rintro σ' H8 ⟨ts',rfl,s08,hnl8,ok8⟩
  clear ok7 hnl7 s07 ntd;refine DJ (λσ' H'=>∃(th s' t' y':Addr) (ss' ts' ys':List V) (e5 e6 e7 e8:Option V),σ'=[some (.ref sc),some (.int 50),some (.int W),some (.ref nl),some (.ref th),e5,e6,e7,e8]/\cH H H'/\H' nl=some (.lst (ps.map V.str))/\vo ps H' th s' t' y' ss' ts' ys') ?_ (decide (W / 3 % 3 > 0)) (λQ' q'=>?_) (λ_ hR=>?_) (λ_=>?_)
  ·rintro σ' H9 ⟨th,s',t',y',ss',ts',ys',e5,e6,e7,e8,rfl,s9,hnl9,ok9⟩
   refine⟨_,rfl,_,rfl,_,rfl,mM,λr nr=>?_⟩;exact k r nl th s' t' y' W ps ss' ts' ys' _ (s9.trans (cH.upd nr)) cD W0 W1 (cH.upd nr _ _ hnl9) po (ok9.mono (cH.upd nr))
  ·exact⟨_,rfl,_,_,rfl,rfl,⟨by decide,by decide⟩,_,_,rfl,rfl,(by show(0:Int) < 3;decide),_,_,rfl,rfl,_,rfl,q'⟩
  ·obtain⟨sg,gs,gk⟩:=mR ok8.gs
   obtain⟨qd,qs,qk⟩:=AE ok8.gt;obtain⟨sd,sy,sk⟩:=lH ok8.gy;refine⟨_,rfl,tt,s,t,y,ps,ss,ts',ys,sg,qd,sd,rfl,ok8.hth,ok8.hs,ok8.ht,ok8.hy,ok8.ls,(by have:=ok8.lt;omega),gs,(λd hd=>(gk d hd).2),qs,qk,sy,λr nb tl us H9 s9 _ _ _ hr hnb htl tu=>?_⟩;refine⟨r,_,rfl,dv.of hr,rfl,_,_,rfl,_,_,rfl,rfl,?_⟩;have ok9:=ok8.mono s9;refine⟨_,rfl,_,rfl,_,rfl,tt,nb,tl,s,t,y,ps,ss,ts',us,sg,qd,(List.range sg.length).filter (eY sg (dJ sd)),(eP 0 (eV qd)).filter (da qd sd),rfl,ok9.hth,ok9.hs,ok9.ht,hnb,htl,gs.mono (cU.mono (Tk.of s9)),gk,qs.mono (cY.mono (Tk.of s9)),(λd hd=>(qk d hd).1),tu,(λtk hk=>?_),(λi hi=>mem_range.mp (mem_filter.mp hi).1),po.hi,λfo kvs F H10 s10 nfo hfo hrd _ _=>?_⟩
   ·obtain⟨q,hq,_,m2⟩:=oy qk (mem_filter.mp hk).1
    exact⟨(gI0.mp hq).1,m2⟩
   ·have s810:=s9.trans s10
    have ok10:=ok9.mono s10;refine⟨_,rfl,xT ok10.hth rfl ⟨y,rfl,⟨_,cK.of ok10.hy⟩,Aa (cK.of ok10.hy) (by have:=ok10.ly;omega) ?_ ?_⟩⟩
    ·intro i v H11 K1 K2 hv s11 k1 k2
     obtain⟨e,⟨a,rfl,ha⟩,_⟩:=ua (ok10.gy v (mem_of_getElem? hv));have ha11:=s11 _ _ ha;cases e with
     |unh q i'=>exact⟨_,rfl,xT ha11 rfl ⟨rfl,_,rfl,iP (dk (B:=K2 H11) ⟨_,rfl,k1 H11 (cH.refl _)⟩)⟩⟩
     |sil q b e'=>exact⟨_,rfl,xT ha11 rfl ⟨rfl,_,rfl,iP (dk (B:=K2 H11) ⟨_,rfl,k1 H11 (cH.refl _)⟩)⟩⟩
     |bar q q'=>exact⟨_,rfl,xT ha11 rfl ⟨rfl,_,rfl,iP (dk (B:=K2 H11) ⟨_,rfl,k1 H11 (cH.refl _)⟩)⟩⟩
     |knew q h=>
      refine⟨_,rfl,xT ha11 rfl ⟨rfl,_,rfl,iN ⟨_,rfl,L7,λl1 nl1=>?_⟩⟩⟩;have s12:=cH.upd (o:=.lst [.ref a]) nl1;exact⟨_,rfl,l1,fo,[.ref a],[SD.knew q h],kvs,F,rfl,cD,Lp ⟨a,rfl,s12 _ _ ha11⟩,s12 _ _ (s11 _ _ hfo),hrd.get,⟨_,rfl,du (λ_=>⟨_,rfl,k1 _ s12⟩) (λ_=>k2 _ s12)⟩⟩
    ·intro ke zs H11 nke s11 hke zl zi
     have ok11:=ok10.mono s11;refine⟨_,rfl,xT ok11.hth rfl ⟨_,rfl,xT ok11.hth rfl ⟨_,rfl,mM,λt3 nt3=>?_⟩⟩⟩;have s12:=cH.upd (o:=.tup [.ref s,.ref t,.ref ke]) nt3;have s813:=(s810.trans s11).trans s12;refine hR _ _ ⟨t3,s,t,ke,ss,ts',zs,_,_,_,_,rfl,s08.trans s813,s813 _ _ hnl8,cD,s12 _ _ ok11.hs,s12 _ _ ok11.ht,s12 _ _ hke,ok11.ls,ok11.lt,(by have:=ok11.ly;omega),?_,?_,?_⟩
     ·exact λv hv=>(ok11.gs v hv).mono (Tk.of s12)
     ·exact λv hv=>(ok11.gt v hv).mono (Tk.of s12)
     ·exact λv hv=>(ok11.gy v (zi v hv)).mono (Tk.of s12)
  ·exact⟨tt,s,t,y,ss,ts',ys,none,none,none,none,rfl,s08,hnl8,ok8⟩
 ·exact⟨_,rfl,_,_,rfl,rfl,⟨by decide,by decide⟩,_,_,rfl,rfl,(by show(0:Int) < 3;decide),rfl,_,rfl,q'⟩
 ·refine⟨_,rfl,xT ok7.hth rfl ⟨.inl ⟨rfl,_,cK.of ok7.ht⟩,t,ts,rfl,rfl,ok7.ht,hR _ _ ⟨ts.reverse,rfl,λb o e=>?_,?_,?_⟩⟩⟩
  ·rw[cG (cE e t0)]
   exact s07 _ _ e
  ·rw[cG ntd.1.symm]
   exact hnl7
  ·have tk:=Tk.upd ok7.ht (ys:=ts.reverse)
   exact⟨tk _ _ ok7.hth,(by rw[cG ntd.2.1.symm];exact ok7.hs),cD,(by rw[cG ntd.2.2.symm];exact ok7.hy),ok7.ls,(by rw[length_reverse];exact ok7.lt),ok7.ly,λv hv=>(ok7.gs v hv).mono tk,λv hv=>(ok7.gt v (mem_reverse.mp hv)).mono tk,λv hv=>(ok7.gy v hv).mono tk⟩
 ·exact⟨ts,rfl,s07,hnl7,ok7⟩
inductive EW
 |saw (i:Nat)
 |hrd (k:Nat)(te:Str)
abbrev ED:=Str×Int×EW
def yP(H:Hp)(wa:Addr):EW->Prop
 |.saw i=>H wa=some (.tup [.str "saw",.int (i:Nat)])
 |.hrd k te=>H wa=some (.tup [.str "heard",.int (k:Nat),.str te])
def eX(H:Hp)(a:Addr)(d:ED):Prop:=∃wa,H a=some (.tup [.str d.1,.int d.2.1,.ref wa])/\yP H wa d.2.2
theorem yP.mono{H H':Hp}(s:Tk H H'){wa:Addr}{w:EW}(h:yP H wa w):yP H' wa w:=by
 cases w with
 |saw i=>exact s _ _ h
 |hrd k te=>exact s _ _ h
theorem eX.mono{H H':Hp}(s:Tk H H'){a:Addr}{d:ED}(h:eX H a d):eX H' a d:=by
 obtain⟨wa,h1,h2⟩:=h;exact⟨wa,s _ _ h1,h2.mono s⟩
structure KY(H:Hp)(kvs:List (Key×V))(F:FH):Prop where
 no:∀z,F z=none->dr kvs (Sum.inr z)=none
 yes:∀z h,F z=some h->∃a w,dr kvs (Sum.inr z)=some (.ref a)/\H a=some (.tup [.str z,.int h,w])
def qA(F:FH)(d:ED):Bool:=match d.2.2 with
 |.saw _=>true
 |.hrd _ te=>match F te with
  |none=>false
  |some a=>decide (a < d.2.1)
inductive HM  (vs:List V)(H:Hp)(Q:VK):Prop
 |mk(a:Addr)(z:Str)(h:Int)(w:V)(h0:vs=[.ref a])(h1:H a=some (.tup [.str z,.int h,w]))(h2:Q (.int h) H)
def BD  :Sp:=λvs H Q _=>HM  vs H Q
inductive IB  (vs:List V)(H:Hp)(Q:VK):Prop
 |mk(kn a:Addr)(kvs:List (Key×V))(F:FH)(d:ED)(h0:vs=[.ref kn,.ref a])(h1:H kn=some (.dK kvs))(h2:KY H kvs F)(h3:eX H a d)(h4:Q (.bl (qA F d)) H)
def Fy  :Sp:=λvs H Q _=>IB  vs H Q
theorem vD:cI ["entry"] ["entry"] (cF lG):={}
theorem HF (D:Df K mg "hour_of" lG ["entry"] f fd):Gd P w K mg base 1 "hour_of" BD:=by
 refine aF D vD λX H vs Q E hh h=>?_;obtain⟨a,z,h,w,rfl,ha,k⟩:=h;obtain⟨S0,_⟩:=hh.d9 [0];exact⟨_,(ag (au (af ao (aa S0) ae aj))),_,rfl,xT ha rfl k⟩
theorem pR:cI ["known", "entry", "way"] ["known", "entry"] (cF iA):={}
theorem JN (D:Df K mg "can_follow" iA ["known", "entry"] f fd) (G0y:Gd P w K mg base 1 "hour_of" BD):Gd P w K mg base 2 "can_follow" Fy:=by
 refine aF D pR λX H vs Q E hh h=>?_;obtain⟨kn,a,kvs,F,d,rfl,hkn,kd,⟨wa,ha,hw⟩,k⟩:=h;obtain⟨S0,S1,S2,_⟩:=hh.d9 [0,1,2];have G1s:=hh.c G0y;have hu:=dY hh.room;refine⟨_,(ah (aA S2 hh.nd (af ao (aa S1) ae aj))
 (ah (aH (aB aL (af ao (aa S2) ae aj) aM (L2.cJ _))
 (ag (au a5))
 aI)
 (ag (au (aV (J.lN hu (af ao (aa S2) ae aj) (aa S0)) (aZ (aU bO (aw G1s (ak (bh hu (aa S0) (af ao (aa S2) ae aj) b8))) (aw G1s (ak (aa S1))) (L2.cJ _)))))))),?_⟩
 refine⟨_,rfl,xT ha rfl ?_⟩;obtain⟨z,h,way⟩:=d;cases way with
 |saw i=>exact⟨_,rfl,xT hw rfl ⟨rfl,_,rfl,iP k⟩⟩
 |hrd kk te=>
  refine⟨_,rfl,xT hw rfl ⟨rfl,_,rfl,iN ?_⟩⟩;have dg:=dN.k (k:=Sum.inr te) hkn;have k':Q (.bl (match F te with|none=>false|some a=>decide (a < h))) H:=k;cases hF:F te with
  |none=>
   rw[hF]at k';rw[kd.no te hF]at dg;exact⟨_,rfl,xT hw rfl ⟨_,rfl,kn,_,rfl,dg,_,rfl,cW k'⟩⟩
  |some b=>
   rw[hF]at k';obtain⟨ea,w2,e1,e2⟩:=kd.yes te b hF;rw[e1]at dg;exact⟨_,rfl,xT hw rfl ⟨_,rfl,kn,_,rfl,dg,_,rfl,dk ⟨_,rfl,_,rfl,xT hw rfl ⟨kn,_,rfl,dg,ea,te,b,w2,rfl,e2,_,rfl,a,z,h,_,rfl,ha,_,_,rfl,rfl,k'⟩⟩⟩⟩
inductive wo(ds:List ED):Str->Int->Prop
 |saw {z:Str}{h:Int}{i:Nat}(m:(z,h,EW.saw i)∈ds):wo ds z h
 |hrd {z te:Str}{h h':Int}{k:Nat}(m:(z,h,EW.hrd k te)∈ds)(r:wo ds te h')(l:h' < h):wo ds z h
def Dz(H:Hp)(a:Addr):Int:=match H a with
 |some (.tup [_,.int h,_])=>h
 |_=>0
theorem ou{H:Hp}{a:Addr}{d:ED}(h:eX H a d):Dz H a=d.2.1:=by
 obtain⟨wa,h1,_⟩:=h;unfold Dz;rw[h1]
theorem CY{H:Hp}{wa:Addr}{w w':EW}(h:yP H wa w)(h':yP H wa w'):w=w':=by
 cases w with
 |saw i=>
  cases w' with
  |saw j=>
   have e:=(show H wa=_ from h).symm.trans (show H wa=_ from h');simp only[Option.some.injEq,HO.tup.injEq,List.cons.injEq,V.int.injEq,and_true,true_and]at e;rw[show i=j by omega]
  |hrd k te=>
   have e:=(show H wa=_ from h).symm.trans (show H wa=_ from h');simp at e
 |hrd k te=>
  cases w' with
  |saw j=>
   have e:=(show H wa=_ from h).symm.trans (show H wa=_ from h');simp at e
  |hrd k' te'=>
   have e:=(show H wa=_ from h).symm.trans (show H wa=_ from h');simp only[Option.some.injEq,HO.tup.injEq,List.cons.injEq,V.int.injEq,V.str.injEq,and_true,true_and]at e;rw[show k=k' by omega,e.2]
theorem nK{H:Hp}{a:Addr}{d d':ED}(h:eX H a d)(h':eX H a d'):d=d':=by
 obtain⟨wa,h1,h2⟩:=h;obtain⟨wa',h1',h2'⟩:=h';have e:=h1.symm.trans h1';simp only[Option.some.injEq,HO.tup.injEq,List.cons.injEq,V.int.injEq,V.str.injEq,V.ref.injEq,and_true]at e;obtain⟨e1,e2,rfl⟩:=e;exact Prod.ext e1 (Prod.ext e2 (CY h2 h2'))
theorem BV{F:FH}{d e:ED}{z:Str}{h:Int}(h1:qA (ir F z h) e=true)(le:e.2.1<=h):qA F e=true:=by
 obtain⟨y,i,w⟩:=e;cases w with
 |saw _=>rfl
 |hrd k te=>
  have h1':(match ir F z h te with|none=>false|some a=>decide (a < i))=true:=h1;show(match F te with|none=>false|some a=>decide (a < i))=true;by_cases c:te=z
  ·subst c
   rw[dZ]at h1';have h2:decide (h < i)=true:=h1';rw[decide_eq_true_iff]at h2;have:i<=h:=le;omega
  ·rw[dU c]at h1'
   exact h1'
theorem wK{F:FH}{d:ED}{z:Str}{h:Int}(n:F z=none)(c:qA F d=true):qA (ir F z h) d=true:=by
 obtain⟨y,i,w⟩:=d;cases w with
 |saw _=>rfl
 |hrd k te=>
  have c':(match F te with|none=>false|some a=>decide (a < i))=true:=c;show(match ir F z h te with|none=>false|some a=>decide (a < i))=true;rw[dU (λe=>by rw[e,n]at c';cases c')];exact c'
def pE(F:FH)(z:Str)(h:Int)(d:ED):Bool:=decide (d.1=z) && (decide (d.2.1=h) && qA F d)
theorem zQ{F:FH}{z:Str}{h:Int}{d:ED}(e:pE F z h d=true):d.1=z/\d.2.1=h/\qA F d=true:=by
 unfold pE at e;rw[and_eq_true,and_eq_true]at e;exact⟨of_decide_eq_true e.1,of_decide_eq_true e.2.1,e.2.2⟩
theorem xg{α:Type}{p:α->Bool}:∀{l:List α}{j:Nat}{x:α},l[j]? =some x->(∀y∈l.take j,p y=false)->p x=true->l.find? p=some x
 |[],_,_,h,_,_=>by cases h
 |y::r,0,x,h,_,hx=>by
  cases h;rw[List.find?_cons_of_pos hx]
 |y::r,j+1,x,h,hn,hx=>by
  rw[List.find?_cons_of_neg (by rw[hn y mem_cons_self];exact bF0)];exact xg (j:=j) h (λu hu=>hn u (mem_cons_of_mem _ hu)) hx
theorem uv{α β:Type}{p:α->Bool}{q:β->Bool}:∀{as:List α}{ds:List β}{a:α},as.length=ds.length->(∀(i:Nat) a d,as[i]? =some a->ds[i]? =some d->p a=q d)->as.find? p=some a->∃(d:β) (i:Nat),ds.find? q=some d/\as[i]? =some a/\ds[i]? =some d
 |[],_,_,_,_,h=>by cases h
 |_::_,[],_,l,_,_=>by cases l
 |b::as,d::ds,a,l,e,h=>by
  have e0:=e 0 b d rfl rfl;cases c:p b with
  |true=>
   rw[List.find?_cons_of_pos c]at h;cases h;exact⟨d,0,by rw[List.find?_cons_of_pos (by rw[<-e0];exact c)],rfl,rfl⟩
  |false=>
   rw[List.find?_cons_of_neg (by rw[c];exact bF0)]at h;obtain⟨d',i,h1,h2,h3⟩:=uv (ds:=ds) (Nat.succ.inj l) (λi a d h1 h2=>e (i+1) a d h1 h2) h;exact⟨d',i+1,by rw[List.find?_cons_of_neg (by rw[<-e0,c];exact bF0)];exact h1,h2,h3⟩
theorem mQ{α:Type}{l:List α}{j:Nat}{y:α}(h:y∈l.take j):∃i,i < j/\l[i]? =some y:=by
 obtain⟨i,hi⟩:=getElem?_of_mem h;have il:=(gI0.mp hi).1;rw[length_take]at il;rw[getElem?_take_of_lt (by omega)]at hi;exact⟨i,by omega,hi⟩
open Classical in
theorem u6{H:Hp}{zs as:List Addr}{ds:List ED}{F:FH}{a:Addr}{d:ED}{j:Nat}(ll:as.length=ds.length)(le:∀(i:Nat) a d,as[i]? =some a->ds[i]? =some d->eX H a d)(fl:∀i,zs.filter (λa=>decide (Dz H a=i))=as.filter (λa=>decide (Dz H a=i)))
  (hj:zs[j]? =some a)(ev:eX H a d)(cf:qA F d=true)(no:∀j' a' d',j' < j->zs[j']? =some a'->eX H a' d'->d'.1=d.1->qA F d'=false):ds.find? (pE F d.1 d.2.1)=some d:=by
 have pv:∀a' d',eX H a' d'->decide (∃d2,eX H a' d2/\pE F d.1 d.2.1 d2=true)=pE F d.1 d.2.1 d':=λa' d' e=>by
  rw[Bool.eq_iff_iff,decide_eq_true_iff];exact⟨λ⟨d2,e2,h⟩=>nK e2 e ▸ h,λh=>⟨d',e,h⟩⟩
 have pt:pE F d.1 d.2.1 d=true:=by
  unfold pE;rw[cf,dT0 rfl,dT0 rfl];rfl
 have f1:zs.find? (λa'=>decide (∃d2,eX H a' d2/\pE F d.1 d.2.1 d2=true))=some a:=by
  refine xg hj (λy hy=>?_) (by rw[pv a d ev];exact pt);obtain⟨i,hi,e⟩:=mQ hy;refine decide_eq_false λ⟨d2,e2,h⟩=>?_;obtain⟨h1,_,h3⟩:=zQ h;rw[no i y d2 hi e e2 h1]at h3;cases h3
 have q:∀l:List Addr,l.find? (λa'=>decide (∃d2,eX H a' d2/\pE F d.1 d.2.1 d2=true))=(l.filter (λa=>decide (Dz H a=d.2.1))).find? (λa'=>decide (∃d2,eX H a' d2/\pE F d.1 d.2.1 d2=true)):=λl=>by
  rw[List.find?_filter]
  congr 1
  funext a'
  rw[Bool.eq_iff_iff];refine⟨λh=>dT0 ⟨dT0 ?_,h⟩,λh=>(of_decide_eq_true h).2⟩;obtain⟨d2,e2,h⟩:=of_decide_eq_true h;rw[ou e2];exact(zQ h).2.1
 have f2:=f1;rw[q zs,fl,<-q as]at f2;obtain⟨d',i,h1,h2,h3⟩:=uv ll (λi a d e1 e2=>pv a d (le i a d e1 e2)) f2;rw[h1,nK ev (le i a d' h2 h3)]
def Ky(H:Hp)(zs:List Addr)(F:FH)(kvs:List (Key×V))(i:Nat):Prop:=∀z h,F z=some h->∃a d j,dr kvs (Sum.inr z)=some (.ref a)/\j < i/\zs[j]? =some a/\eX H a d/\d.1=z/\d.2.1=h/\qA F d=true/\∀j' a' d',j' < j->zs[j']? =some a'->eX H a' d'->d'.1=z->qA F d'=false
def K9(H:Hp)(ds:List ED)(F:FH)(kvs:List (Key×V)):Prop:=∀z h,F z=some h->∃a w,dr kvs (Sum.inr z)=some (.ref a)/\eX H a (z,h,w)/\ds.find? (pE F z h)=some (z,h,w)
structure iO(ds:List ED)(F:FH):Prop where
 cl:∀d∈ds,qA F d=true->∃b,b<=d.2.1/\F d.1=some b
 so:∀z h,F z=some h->wo ds z h
inductive Ez(H:Hp)(en kn l:Addr)(zs:List Addr)(ds:List ED)(i:Nat)(σ:St)(H2:Hp):Prop
 |mk(e2:Option V)(kvs:List (Key×V))(F:FH)(e:σ=[some (.ref en),some (.ref kn),e2])(s:cH H H2)(hl:H2 l=some (.lst (zs.map V.ref)))(hk:H2 kn=some (.dK kvs))(kl:kvs.length<=i)(kd:KY H2 kvs F)(c:∀j a d,j < i->zs[j]? =some a->eX H a d->qA F d=true->∃b,b<=d.2.1/\F d.1=some b)(so:∀z h,F z=some h->wo ds z h)(m:∀z h,F z=some h->∀j a,i<=j->zs[j]? =some a->h<=Dz H a)(sk:Ji kvs)(ft:Ky H zs F kvs i)
inductive MH(vs:List V)(H:Hp)(Q:VK):Prop
 |mk(en:Addr)(as:List Addr)(ds:List ED)(e:vs=[.ref en])(he:H en=some (.lst (as.map V.ref)))(al:as.length<=400)(ll:as.length=ds.length)(le:∀(i:Nat) a d,as[i]? =some a->ds[i]? =some d->eX H a d)
   (k:∀(kn:Addr)(kvs:List (Key×V))(F:FH)(H':Hp),cH H H'->H kn=none->H' kn=some (.dK kvs)->KY H' kvs F->iO ds F->Ji kvs->K9 H' ds F kvs->Q (.ref kn) H')
def C6:Sp:=λvs H Q _=>MH vs H Q
theorem ma:cI ["entries", "known", "entry"] ["entries"] (cF fH):={}
theorem JK (D:Df K mg "first_entries" fH ["entries"] f fd) (T:Txt K mg kw C) (G0y:Gd P w K mg base 1 "hour_of" BD) (G1W:Gd P w K mg base 2 "can_follow" Fy):Gd P w K mg base 4 "first_entries" C6:=by
 refine aF D ma λX H vs Q E hh h=>?_;obtain⟨en,as,ds,rfl,he,al,ll,le,k⟩:=h;have ed:∀a∈as,∃d∈ds,eX H a d:=λa ha=>by
  obtain⟨i,hi⟩:=getElem?_of_mem ha;obtain⟨d,hd⟩:∃d,ds[i]? =some d:=⟨_,getElem?_eq_getElem (by rw[<-ll];exact(gI0.mp hi).1)⟩;exact⟨d,mem_of_getElem? hd,le i a d hi hd⟩
 have de:∀d∈ds,∃a∈as,eX H a d:=λd hd=>by
  obtain⟨i,hi⟩:=getElem?_of_mem hd;obtain⟨a,ha⟩:∃a,as[i]? =some a:=⟨_,getElem?_eq_getElem (by rw[ll];exact(gI0.mp hi).1)⟩;exact⟨a,mem_of_getElem? ha,le i a d ha hi⟩
 obtain⟨S0,S1,S2,_⟩:=hh.d9 [0,1,2];have G0e:=hh.b T.b_sorted;have G1X:=hh.c G1W;have G2x:=hh.LS G0y rfl (by first|decide|exact le_refl _) (by decide);have hu:=dY hh.room;have hsz:sizeLine=16777216:=sizeLine_eq;refine⟨_,(ah (aA S1 hh.nd cv)
 (ah (a9 hh.own hh.calm (aQ (J.HK G0e G2x (ak (aa S0)))) (aE S2 hh.nd)
 (ag (aH (aX (bg (J.jw hu (af ao (aa S2) ae aj) (aa S1)) (bz (ba (aw G1X (aD (aa S1) (aa S2)))))))
 (ag (bZ hu (aa S1) (af ao (aa S2) ae aj) (aa S2)))
 aI)))
 (ag (au (aa S1))))),?_⟩
 intro kn nkn;have s1:=cH.upd (o:=.dK []) nkn;have hk1:upd H kn (.dK []) kn=some (.dK []):=cD;generalize upd H kn (.dK [])=H1 at s1 hk1;refine⟨_,rfl,en,as,Dz H,rfl,cK.of (s1 _ _ he),λa ha Q' q'=>?_,λl zs nl pm pw fl=>?_⟩
 ·obtain⟨d,_,en'⟩:=ed a ha
  rw[ou en']at q';obtain⟨wa,h1,_⟩:=en';exact⟨a,_,_,_,rfl,s1 _ _ h1,q'⟩
 have s2:=s1.trans (cH.upd (o:=.lst (zs.map V.ref)) nl);have hl2:upd H1 l (.lst (zs.map V.ref)) l=some (.lst (zs.map V.ref)):=cD;have hk2:=cH.upd (o:=.lst (zs.map V.ref)) nl _ _ hk1;generalize upd H1 l (.lst (zs.map V.ref))=H2 at s2 hl2 hk2;have zl:zs.length<=400:=by rw[pm.length_eq];exact al
 have ent:∀{i:Nat}{a:Addr},zs[i]? =some a->∃d∈ds,eX H a d:=λh=>ed _ (pm.mem_iff.mp (mem_of_getElem? h));have gO:∀{i j:Nat}{a b:Addr},i < j->zs[i]? =some a->zs[j]? =some b->Dz H a<=Dz H b:=λ{i j a b} ij ha hb=>by
  obtain⟨h1,e1⟩:=gI0.mp ha;obtain⟨h2,e2⟩:=gI0.mp hb;have:=List.pairwise_iff_getElem.mp pw i j h1 h2 ij
  rwa [e1,e2]at this
 refine⟨l,rfl,⟨_,cK.of hl2⟩,dj (K:=X.K) (a:=l) (xs:=zs.map V.ref) (Ez H en kn l zs ds) ⟨none,[],λ_=>none,rfl,s2,hl2,hk2,le_refl 0,⟨λ_ _=>rfl,λ_ _ e=>by cases e⟩,(λj a d hj=>by omega),(λ_ _ e=>by cases e),(λ_ _ e=>by cases e),⟨[],rfl,nodup_nil⟩,(λ_ _ e=>by cases e)⟩ ?_ ?_ ?_⟩
 ·rintro i σ H3 hi ⟨e2,kvs,F,rfl,s3,hl3,hk3,kl,kd,c,so,m,sk,ft⟩
  exact cK.of hl3
 ·rintro i v σ H3 hv ⟨e2,kvs,F,rfl,s3,hl3,hk3,kl,kd,c,so,m,sk,ft⟩
  rw[getElem?_map]at hv;obtain⟨a,ha,rfl⟩:=map_eq_some_iff.mp hv;have il:=(gI0.mp ha).1;obtain⟨d,md,ev⟩:=ent ha;have hra:=ou ev;obtain⟨wa,h1,h2⟩:=id ev;have h3:=s3 _ _ h1;have dg:=dN.k (k:=Sum.inr d.1) hk3;have fJ:(qA F d=true->∃b,b<=d.2.1/\F d.1=some b)->Ez H en kn l zs ds (i+1) [some (.ref en),some (.ref kn),some (.ref a)] H3:=λcd=>
   ⟨_,kvs,F,rfl,s3,hl3,hk3,by omega,kd,λj a' d' hj ha' ev' cf=>by
    by_cases e:j=i
    ·subst e
     rw[ha]at ha';cases ha';rw[<-nK ev ev']at cf ⊢;exact cd cf
    ·exact c j a' d' (by omega) ha' ev' cf,so,λz h e j a' hj ha'=>m z h e j a' (by omega) ha',sk,λz h e=>by
     obtain⟨a0,d0,j0,q1,q2,q3⟩:=ft z h e;exact⟨a0,d0,j0,q1,by omega,q3⟩⟩
  cases hF:F d.1 with
  |some b=>
   obtain⟨ea,w2,e1,_⟩:=kd.yes _ _ hF;rw[e1]at dg;exact⟨_,rfl,xT h3 rfl ⟨_,rfl,kn,_,rfl,dg,_,rfl,cW (cW (fJ λ_=>⟨b,by rw[<-hra];exact m _ _ hF i a (le_refl _) ha,hF⟩))⟩⟩
  |none=>
   rw[kd.no _ hF]at dg;refine⟨_,rfl,xT h3 rfl ⟨_,rfl,kn,_,rfl,dg,_,rfl,dk ⟨_,rfl,_,rfl,kn,a,kvs,F,d,rfl,hk3,kd,ev.mono (Tk.of s3),_,rfl,?_⟩⟩⟩;cases hc:qA F d with
   |false=>exact cW (fJ λh=>by rw[hc]at h;cases h)
   |true=>
    refine dk ⟨_,rfl,_,rfl,_,rfl,xT h3 rfl ⟨kn,_,rfl,jc.k (k:=Sum.inr d.1) hk3 (by omega),?_⟩⟩;have nka:a≠kn:=λe=>by rw[e,hk3]at h3;cases h3
    have nkl:l≠kn:=λe=>by rw[e,hk3]at hl3;cases hl3
    have kp:∀b o,b≠kn->H3 b=some o->upd H3 kn (.dK (putK kvs (Sum.inr d.1) (.ref a))) b=some o:=λb o n e=>by rw[cG n];exact e
    refine⟨_,putK kvs (Sum.inr d.1) (.ref a),ir F d.1 d.2.1,rfl,λb o e=>kp b o (cE e nkn) (s3 _ _ e),kp _ _ nkl hl3,cD,le_trans (eT _ _ _) (by omega),⟨λz e=>?_,λz h e=>?_⟩,λj a' d' hj ha' ev' cf=>?_,λz h e=>?_,λz h e j a' hj ha'=>?_,BH sk,λz h e=>?_⟩
    ·by_cases c':z=d.1
     ·rw[c',dZ]at e
      cases e
     ·rw[dU c']at e
      rw[fb,if_neg (λx=>c' (Sum.inr.inj x))];exact kd.no z e
    ·by_cases c':z=d.1
     ·rw[c',dZ]at e
      cases e;exact⟨a,.ref wa,by rw[fb,if_pos (by rw[c'])],by rw[c'];exact kp _ _ nka h3⟩
     ·rw[dU c']at e
      obtain⟨ea,w2,e1,e2'⟩:=kd.yes z h e;exact⟨ea,w2,by rw[fb,if_neg (λx=>c' (Sum.inr.inj x))];exact e1,kp _ _ (λx=>by rw[x,hk3]at e2';cases e2') e2'⟩
    ·by_cases e:j=i
     ·subst e
      rw[ha]at ha';cases ha';rw[<-nK ev ev'];exact⟨_,Int.le_refl _,dZ⟩
     ·have le:d'.2.1<=d.2.1:=by
       rw[<-ou ev',<-hra];exact gO (by omega) ha' ha
      obtain⟨b,b1,b2⟩:=c j a' d' (by omega) ha' ev' (BV (d:=d) cf le);exact⟨b,b1,by rw[dU (λx=>by rw[x,hF]at b2;cases b2)];exact b2⟩
    ·by_cases c':z=d.1
     ·rw[c',dZ]at e
      cases e;rw[c'];obtain⟨y,i',w'⟩:=d;cases w' with
      |saw _=>exact .saw md
      |hrd kk te=>
       have hc':(match F te with|none=>false|some a=>decide (a < i'))=true:=hc;cases hT:F te with
       |none=>rw[hT]at hc';cases hc'
       |some x=>
        rw[hT]at hc';exact .hrd md (so _ _ hT) (of_decide_eq_true hc')
     ·rw[dU c']at e
      exact so z h e
    ·by_cases c':z=d.1
     ·rw[c',dZ]at e
      cases e;rw[<-hra];exact gO (by omega) ha ha'
     ·rw[dU c']at e
      exact m z h e j a' (by omega) ha'
    ·have no:∀j' a' d',j' < i->zs[j']? =some a'->eX H a' d'->qA (ir F d.1 d.2.1) d'=true->qA F d'=true:=λj' a' d' hj ha' ev' cf=>BV (d:=d) cf (by
      rw[<-ou ev',<-hra];exact gO hj ha' ha)
     by_cases c':z=d.1
     ·rw[c',dZ]at e
      cases e;refine⟨a,d,i,by rw[c',fb,if_pos rfl],lt_succ_self i,ha,ev,c'.symm,rfl,wK hF hc,λj' a' d' hj ha' ev' ed'=>?_⟩;cases cc:qA (ir F d.1 d.2.1) d' with
      |false=>rfl
      |true=>
       obtain⟨b,_,b2⟩:=c j' a' d' hj ha' ev' (no j' a' d' hj ha' ev' cc);rw[ed',c',hF]at b2;cases b2
     ·rw[dU c']at e
      obtain⟨a0,d0,j0,q1,q2,q3,q4,q5,q6,q7,q8⟩:=ft z h e;refine⟨a0,d0,j0,by rw[fb,if_neg (λx=>c' (Sum.inr.inj x))];exact q1,by omega,q3,q4,q5,q6,wK hF q7,λj' a' d' hj ha' ev' ed'=>?_⟩;cases cc:qA (ir F d.1 d.2.1) d' with
      |false=>rfl
      |true=>
       have:=q8 j' a' d' hj ha' ev' ed';rw[no j' a' d' (by omega) ha' ev' cc]at this;cases this
 ·rintro σ H3 ⟨e2,kvs,F,rfl,s3,hl3,hk3,kl,kd,c,so,m,sk,ft⟩
  refine⟨_,rfl,k kn kvs F H3 s3 nkn hk3 kd ⟨λd hd cf=>?_,so⟩ sk λz h e=>?_⟩
  rotate_left
  ·obtain⟨a0,d0,j0,q1,q2,q3,q4,q5,q6,q7,q8⟩:=ft z h e
   have ff:=u6 ll le fl q3 q4 q7 (by rw[q5];exact q8);obtain⟨y,i',w'⟩:=d0;cases q5;cases q6;exact⟨a0,w',q1,q4.mono (Tk.of s3),ff⟩
  obtain⟨a,ha,ev⟩:=de d hd;obtain⟨j,hj⟩:=getElem?_of_mem (pm.mem_iff.mpr ha);have jl:=(gI0.mp hj).1;exact c j a d (by rw[length_map];exact jl) hj ev cf
def kf(H:Hp)(v:V)(d:ED):Prop:=∃a,v=.ref a/\eX H a d
theorem kf.mono{H H':Hp}(s:Tk H H')(v:V)(d:ED)(h:kf H v d):kf H' v d:=by
 obtain⟨a,e,h⟩:=h;exact⟨a,e,h.mono s⟩
def C2(sg:List GD)(i:Nat):ED:=match sg[i]? with
 |some g=>(g.1,g.2,.saw i)
 |none=>("",0,.saw i)
def B5(qd:List QD)(t:TK):ED:=(t.2.2,cT qd t.1,.hrd t.1 t.2.1)
def j4(sg:List GD)(qd:List QD)(sd:List SD):List ED:=((List.range sg.length).filter (eY sg (dJ sd))).map (C2 sg)++((eP 0 (eV qd)).filter (da qd sd)).map (B5 qd)
inductive HG(x sb tb l:Addr)(H5:Hp)(d0:List ED)(td:List ED)(i:Nat)(σ:St)(H6:Hp):Prop
 |mk(us:List V)(e4 e5 e6:Option V)(e:σ=[some (.ref x),some (.ref sb),some (.ref tb),some (.ref l),e4,e5,e6])(kp:∀b o,H5 b=some o->b≠l->H6 b=some o)(hl:H6 l=some (.lst us))(ul:us.length<=24+i)(lz:Lz kf H6 us (d0++td.take i))
inductive NV(C:Addr)(vs:List V)(H:Hp)(Q:VK):Prop
 |mk(x p s t y:Addr)(ps:List Str)(ss ts ys:List V)(sg:List GD)(qd:List QD)(sd:List SD)(e:vs=[.ref x])(bk:Bk C H x p s t y ps ss ts ys)(pl:ps.length<=24)(sl:ss.length<=24)(tl:ts.length<=120)(gs:Lz cU H ss sg)(gp:∀d∈sg,d.1∈ps)(qs:Lz cY H ts qd)(qk:∀d∈qd,iV ps d)(sy:Sys H ys sd)(l:ys.length<=60)
   (k:∀(l:Addr)(us:List V)(H':Hp),cH H H'->H l=none->H' l=some (.lst us)->Lz kf H' us (j4 sg qd sd)->us.length<=400->Q (.ref l) H')
def DH(C:Addr):Sp:=λvs H Q _=>NV C vs H Q
theorem mY:cI ["book", "sights", "talks", "entries", "k", "teller", "hearer"] ["book"] (cF gr):={}
theorem IM (D:Df K mg "open_entries" gr ["book"] f fd) (T:Txt K mg kw C) (G0h:Md P w K mg base 1 C "sights" (c9 C λ_ s _ _=>s)) (G0p:Md P w K mg base 1 C "talks" (c9 C λ_ _ t _=>t)) (G0B:Gd P w K mg base 4 "open_sights" (nJ C)) (G0l:Gd P w K mg base 4 "open_tellings" (nA C)):Gd P w K mg base 5 "open_entries" (DH C):=by
 refine aF D mY λX H vs Q E hh h=>?_;obtain⟨x,p,s,t,y,ps,ss,ts,ys,sg,qd,sd,rfl,bk,pl,sl,tl,gs,gp,qs,qk,sy,l60,k⟩:=h;obtain⟨S0,S1,S2,S3,S4,S5,S6,_⟩:=hh.d9 [0,1,2,3,4,5,6];have G0C:=hh.c G0B;have G0m:=hh.c G0l;have G0i:=hh.met G0h (by decide);have G0q:=hh.met G0p (by decide);have hsz:sizeLine=16777216:=sizeLine_eq;refine⟨_,(ah (aA S1 hh.nd (bB G0i (aa S0) rfl))
 (ah (aA S2 hh.nd (bB G0q (aa S0) rfl))
 (ah (cn (is:=[1]) (xs:=["i"]) (ns:=["sights"]) S3 hh.nd hh.calm (aQ (aw G0C (ak (aa S0)))) {} (λ_ _ _ _ _=>(a7 (i:=0) (by decide+kernel) rfl rfl)) (λ_ _ _ _ _=>bN) (λ_ _ _ _ _=>(aT (aP (af br (af cj (a8 (i:=1) rfl rfl (by decide) (by decide)) (aO (i:=0) rfl rfl (by decide) (by decide)) aK) ae aj) (af br (af cj (a8 (i:=1) rfl rfl (by decide) (by decide)) (aO (i:=0) rfl rfl (by decide) (by decide)) aK) ae aj) (aT (aD aM (aO (i:=0) rfl rfl (by decide) (by decide))))))) hh.hsc hh.hN (by decide+kernel))
 (ah (a9 hh.own hh.calm (aQ (aw G0m (ak (aa S0)))) (bC hh.calm (aG (aE S4 hh.nd) (aG (aE S5 hh.nd) (aG (aE S6 hh.nd) bj))))
 (ag (bH (bJ plainAttrs_list PySem.F.slot_list_append PySem.F.type_list_append bI (aa S3) (ak (aT (aP (aa S6) (af ao (af aR (aa S2) (aa S4) aK) ae aj) (aT (aP aM (aa S4) (aa S5))))))))))
 (ag (au (aa S3))))))),?_⟩
 obtain⟨⟨dx,hx⟩,hp,hs,ht,hy⟩:=id bk;refine⟨_,rfl,x,dx,_,rfl,hx,eB _ _ _ _ (by decide+kernel) (by decide+kernel) (by decide+kernel) (by decide+kernel),x,p,s,t,y,ss,rfl,⟨dx,hx⟩,hs,λsb nsb=>?_⟩;have s1:=cH.upd (o:=.lst ss) nsb;have hsb1:upd H sb (.lst ss) sb=some (.lst ss):=cD;generalize upd H sb (.lst ss)=H1 at s1 hsb1;refine⟨_,rfl,x,dx,_,rfl,s1 _ _ hx,eB _ _ _ _ (by decide+kernel) (by decide+kernel) (by decide+kernel) (by decide+kernel),x,p,s,t,y,ts,rfl,⟨dx,s1 _ _ hx⟩,s1 _ _ ht,λtb ntb=>?_⟩;have s2:=s1.trans (cH.upd (o:=.lst ts) ntb);have hsb2:=cH.upd (o:=.lst ts) ntb _ _ hsb1;have htb2:upd H1 tb (.lst ts) tb=some (.lst ts):=cD;generalize upd H1 tb (.lst ts)=H2 at s2 hsb2 htb2;refine⟨_,rfl,x,p,s,t,y,ps,ss,ts,ys,sg,sd,rfl,bk.mono s2,pl,sl,gs.mono (cU.mono (Tk.of s2)),gp,sy.mono (Tk.of s2),l60,λlo H3 s3 nlo hlo=>?_⟩;have s03:=s2.trans s3;have hsb3:=s3 _ _ hsb2;have htb3:=s3 _ _ htb2;have gl:=gs.1;have ol:=n5 sg sd sg.length;refine⟨lo,rfl,⟨_,cK.of hlo⟩,lA (λj H' v=>∃i,((List.range sg.length).filter (eY sg (dJ sd)))[j]? =some i/\kf H' v (C2 sg i)) (λj v H H' tk ⟨i,e,h⟩=>⟨i,e,h.mono tk⟩) (cK.of hlo) (by omega) ?_ ?_⟩
 ·intro j v H4 K1 hv s4 k1
  unfold eC at hv;rw[getElem?_map]at hv;obtain⟨i,hi,rfl⟩:=map_eq_some_iff.mp hv;have il:i < sg.length:=mem_range.mp (mem_filter.mp (mem_of_getElem? hi)).1;obtain⟨vg,hvg⟩:∃vg,ss[i]? =some vg:=⟨_,getElem?_eq_getElem (by omega)⟩;have hg:sg[i]? =some sg[i]:=getElem?_eq_getElem il;obtain⟨ga,tale,rfl,hga⟩:=gs.2 _ _ _ hvg hg;have ga4:=s4 _ _ (s03 _ _ hga);have sb4:=s4 _ _ hsb3;have sdE:C2 sg i=(sg[i].1,sg[i].2,.saw i):=by
   unfold C2;rw[hg]
  refine⟨_,rfl,_,rfl,xL sb4 (cN hvg) (xT ga4 rfl ⟨_,rfl,_,rfl,xL sb4 (cN hvg) (xT ga4 rfl ⟨_,rfl,zU,λwa nwa=>⟨mM,λta nta=>?_⟩⟩)⟩)⟩;refine k1 _ _ ((cH.upd nwa).trans (cH.upd nta)) ⟨i,hi,ta,rfl,?_⟩;rw[sdE];exact⟨wa,cD,cH.upd nta _ _ cD⟩
 ·intro l us0 H4 nl s4 hl ul0 ur
  have s04:=s03.trans s4;have lz0:Lz kf H4 us0 (((List.range sg.length).filter (eY sg (dJ sd))).map (C2 sg)):=by
   refine⟨by rw[ul0,length_map];unfold eC;rw[length_map],λj v d hv hd=>?_⟩;obtain⟨i,hi,he⟩:=ur j v hv;rw[getElem?_map,hi]at hd;cases hd;exact he
  have ul24:us0.length<=24:=by omega
  clear ur;refine⟨_,rfl,x,p,s,t,y,ps,ss,ts,ys,qd,sd,rfl,bk.mono s04,pl,tl,qs.mono (cY.mono (Tk.of s04)),qk,sy.mono (Tk.of s04),l60,λm vs H5 s5 nm hm tu=>?_⟩;have s05:=s04.trans s5;have hl5:=s5 _ _ hl;have htb5:=s5 _ _ (s4 _ _ htb3);have tll:=tu.1;have tlen:=jA (eV qd) 0;have qle:(eV qd).length=qd.length:=length_map _;have qsl:=qs.1;have fl:=length_filter_le (da qd sd) (eP 0 (eV qd));have nml:m≠l:=λe=>by rw[e,hl]at nm;cases nm
  have nlt:tb≠l:=λe=>by rw[<-e,htb3]at nl;cases nl
  refine⟨m,rfl,⟨_,cK.of hm⟩,dj (K:=X.K) (a:=m) (xs:=vs) (HG x sb tb l H5 (((List.range sg.length).filter (eY sg (dJ sd))).map (C2 sg)) (((eP 0 (eV qd)).filter (da qd sd)).map (B5 qd))) ⟨us0,none,none,none,rfl,λb o e _=>e,hl5,by omega,by rw[take_zero,append_nil];exact lz0.mono (kf.mono (Tk.of s5))⟩ ?_ ?_ ?_⟩
  ·rintro i σ H6 hi ⟨us,e4,e5,e6,rfl,kp,hl6,ul,lz⟩
   exact cK.of (kp _ _ hm nml)
  ·rintro i v σ H6 hv ⟨us,e4,e5,e6,rfl,kp,hl6,ul,lz⟩
   have il:=(gI0.mp hv).1;obtain⟨tk,htk⟩:∃tk,((eP 0 (eV qd)).filter (da qd sd))[i]? =some tk:=⟨_,getElem?_eq_getElem (by rw[<-tu.1];exact il)⟩;obtain⟨a,rfl,ha⟩:=tu.2 _ _ _ hv htk;obtain⟨q,hq,_⟩:=oy qk (mem_filter.mp (mem_of_getElem? htk)).1;obtain⟨vq,hvq⟩:∃vq,ts[tk.1]? =some vq:=⟨_,getElem?_eq_getElem (by rw[qs.1];exact(gI0.mp hq).1)⟩;obtain⟨aq,rfl,haq⟩:=qs.2 _ _ _ hvq hq;have ntup:∀{b:Addr}{zs:List V},H5 b=some (.tup zs)->b≠l:=λh e=>by rw[e,hl5]at h;cases h
   have haq5:=s05 _ _ haq;have ha6:=kp _ _ ha (ntup ha);have haq6:=kp _ _ haq5 (ntup haq5);have htb6:=kp _ _ htb5 nlt;refine⟨a,_,rfl,dv.of ha6,rfl,_,_,rfl,_,_,rfl,_,_,rfl,rfl,?_⟩;refine⟨_,rfl,.inl ⟨rfl,_,cK.of hl6⟩,_,rfl,_,rfl,_,rfl,xL htb6 (cN hvq) (xT haq6 rfl ⟨_,rfl,_,rfl,mM,λwa nwa=>⟨mM,λta nta=>?_⟩⟩)⟩;have sA:=cH.upd (o:=.tup [.str "heard",.int (tk.1:Nat),.str tk.2.1]) nwa;have sB:=cH.upd (o:=.tup [.str tk.2.2,.int q.1,.ref wa]) nta;have sAB:=sA.trans sB;have hl7:=sAB _ _ hl6;refine⟨l,us,.ref ta,rfl,rfl,hl7,by omega,?_⟩;have tkU:=Tk.upd hl7 (ys:=us++[.ref ta]);have tdE:B5 qd tk=(tk.2.2,q.1,.hrd tk.1 tk.2.1):=by
    unfold B5;rw[dH hq]
   have tt:(((eP 0 (eV qd)).filter (da qd sd)).map (B5 qd)).take (i+1)=(((eP 0 (eV qd)).filter (da qd sd)).map (B5 qd)).take i++[B5 qd tk]:=by
    rw[take_add_one,getElem?_map,htk];rfl
   refine⟨us++[.ref ta],_,_,_,rfl,λb o e n=>by rw[cG n];exact sAB _ _ (kp b o e n),cD,by rw[length_append];show us.length+1<=_;omega,?_⟩;rw[tt,<-append_assoc];refine Lz.snoc ((lz.mono (kf.mono (Tk.of sAB))).mono (kf.mono tkU)) ⟨ta,rfl,?_⟩;rw[tdE];exact eX.mono tkU ⟨wa,cD,sB _ _ cD⟩
  ·rintro σ H6 ⟨us,e4,e5,e6,rfl,kp,hl6,ul,lz⟩
   refine⟨_,rfl,k l us H6 (λb o e=>kp b o (s05 _ _ e) (cE e (s03.free nl))) (s03.free nl) hl6 ?_ (by omega)⟩;rw[take_of_length_le (by rw[length_map];omega)]at lz;exact lz
def Ff(ds:List ED)(F:FH)(z:Str):ED:=(ds.find? (pE F z ((F z).getD 0))).getD (z,0,.saw 0)
theorem Gy{ds:List ED}{F:FH}{z:Str}{h:Int}{d:ED}(hF:F z=some h)(e:ds.find? (pE F z h)=some d):Ff ds F z=d:=by
 unfold Ff;rw[hF];show(ds.find? (pE F z h)).getD _=d;rw[e];rfl
structure uG(ds:List ED)(F:FH)(st:List ED):Prop where
 nd:(st.map (·.1)).Nodup
 so:PyProof.Rows.sortedS (st.map (·.1))=true
 me:∀z,z∈st.map (·.1)↔(F z).isSome=true
 fi:∀d∈st,F d.1=some d.2.1/\ds.find? (pE F d.1 d.2.1)=some d
theorem oF{ds:List ED}{z:Str}{h:Int}(r:wo ds z h):∃d∈ds,d.1=z:=by
 cases r with
 |saw m=>exact⟨_,m,rfl⟩
 |hrd m _ _=>exact⟨_,m,rfl⟩
inductive Nu(vs:List V)(H:Hp)(Q:VK):Prop
 |mk(en:Addr)(as:List Addr)(ds:List ED)(ps:List Str)(e:vs=[.ref en])(he:H en=some (.lst (as.map V.ref)))(al:as.length<=400)(ll:as.length=ds.length)(le:∀(i:Nat) a d,as[i]? =some a->ds[i]? =some d->eX H a d)(pl:ps.length<=24)(pm:∀d∈ds,d.1∈ps)
   (k:∀(l:Addr)(us:List V)(F:FH)(st:List ED)(H':Hp),cH H H'->H l=none->H' l=some (.lst us)->Lz kf H' us st->iO ds F->uG ds F st->Q (.ref l) H')
def EK:Sp:=λvs H Q _=>Nu vs H Q
theorem pB:cI ["entries", "known"] ["entries"] (cF gE):={}
theorem IG (D:Df K mg "first_story" gE ["entries"] f fd) (T:Txt K mg kw C) (G0n:Gd P w K mg base 4 "first_entries" C6):Gd P w K mg base 5 "first_story" EK:=by
 refine aF D pB λX H vs Q E hh h=>?_;obtain⟨en,as,ds,ps,rfl,he,al,ll,le,pl,pmm,k⟩:=h;obtain⟨S0,S1,_⟩:=hh.d9 [0,1];have G0e:=hh.b T.b_sorted;have G0o:=hh.c G0n;have hu:=dY hh.room;have hsz:sizeLine=16777216:=sizeLine_eq;refine⟨_,(ah (aA S1 hh.nd (aw G0o (ak (aa S0))))
 (ag (au (bL (is:=[1]) (xs:=["person"]) (ns:=["known"]) hh.calm (aQ (aJ G0e (J.fP hh.calm) L2.hE (ak (aa S1)))) {} (λ_ _ _ _ _=>(a7 (i:=0) (by decide+kernel) rfl rfl)) (λ_ _ _ _ _=>bN) (λ_ _ _ _ _=>(bh hu (a8 (i:=1) rfl rfl (by decide) (by decide)) (aO (i:=0) rfl rfl (by decide) (by decide)) aK)) hh.hsc hh.hN)))),?_⟩
 refine⟨_,rfl,en,as,ds,rfl,he,al,ll,le,λkn kvs F H1 s1 nkn hkn kd fo sk fst=>?_⟩;obtain⟨zs,sk,nd⟩:=sk;have zF:∀z,z∈zs↔(F z).isSome=true:=λz=>by
  rw[AG sk];cases hF:F z with
  |none=>
   rw[kd.no z hF];exact⟨λh=>(by cases h),λh=>(by cases h)⟩
  |some h=>
   obtain⟨a,w,e,_⟩:=kd.yes z h hF;rw[e];exact⟨λ_=>rfl,λ_=>rfl⟩
 have zl:zs.length<=ps.length:=jv nd λz hz=>by
  obtain⟨h,hF⟩:=isSome_iff_exists.mp ((zF z).mp hz);obtain⟨d,md,rfl⟩:=oF (fo.so z h hF);exact pmm d md
 refine⟨_,rfl,kn,kvs,zs,rfl,hkn,sk,by omega,λl1 zs' nl1 _ pm so=>?_⟩;have s2:=cH.upd (o:=.lst (zs'.map V.str)) nl1;have hl1:upd H1 l1 (.lst (zs'.map V.str)) l1=some (.lst (zs'.map V.str)):=cD;generalize upd H1 l1 (.lst (zs'.map V.str))=H2 at s2 hl1;have nd':zs'.Nodup:=pm.symm.nodup nd;have zF':∀z,z∈zs'↔(F z).isSome=true:=λz=>(pm.mem_iff).trans (zF z);have zl':=pm.length_eq;have ee:∀z∈zs',∃h a w,F z=some h/\Ff ds F z=(z,h,w)/\dr kvs (Sum.inr z)=some (.ref a)/\eX H1 a (z,h,w)/\ds.find? (pE F z h)=some (z,h,w):=λz hz=>by
  obtain⟨h,hF⟩:=isSome_iff_exists.mp ((zF' z).mp hz);obtain⟨a,w,e1,e2,e3⟩:=fst z h hF;exact⟨h,a,w,hF,Gy hF e3,e1,e2,e3⟩
 refine⟨l1,rfl,⟨_,cK.of hl1⟩,lA (λj H v=>∃z,zs'[j]? =some z/\kf H v (Ff ds F z)) (λ_ _ _ _ tk ⟨z,e,h⟩=>⟨z,e,h.mono tk⟩) (cK.of hl1) (by rw[length_map];omega) ?_ ?_⟩
 ·intro i v H5 K1 hv s5 k1
  rw[getElem?_map]at hv;obtain⟨z,hz,rfl⟩:=map_eq_some_iff.mp hv;obtain⟨h,a,w,hF,e0,e1,e2,_⟩:=ee z (mem_of_getElem? hz);have dg:=dN.k (k:=Sum.inr z) (s5 _ _ (s2 _ _ hkn));rw[e1]at dg;exact⟨_,rfl,_,rfl,kn,_,rfl,dg,k1 _ _ (cH.refl _) ⟨z,hz,a,rfl,by rw[e0];exact e2.mono (Tk.of (s2.trans s5))⟩⟩
 ·intro rw' ws H5 nrw s5 hrw wl wr
  have e1:(zs'.map (Ff ds F)).map (·.1)=zs':=by
   rw[map_map];refine(map_congr_left λz hz=>?_).trans (map_id _);obtain⟨h,a,w,_,e0,_⟩:=ee z hz;show(Ff ds F z).1=z;rw[e0]
  refine k rw' ws F (zs'.map (Ff ds F)) H5 ((s1.trans s2).trans s5) ((s1.trans s2).free nrw) hrw ⟨by rw[wl,length_map,length_map],λj v d hv hd=>?_⟩ fo ⟨by rw[e1];exact nd',by rw[e1];exact so,by rw[e1];exact zF',λd hd=>?_⟩
  ·obtain⟨z,hz,h⟩:=wr j v hv
   rw[getElem?_map,hz]at hd;cases hd;exact h
  ·obtain⟨z,hz,rfl⟩:=mem_map.mp hd
   obtain⟨h,a,w,hF,e0,_,_,ff⟩:=ee z hz;rw[e0];exact⟨hF,ff⟩
theorem wJ:∀{us:List V},(∀v∈us,∃a,v=V.ref a)->∃as:List Addr,us=as.map V.ref
 |[],_=>⟨[],rfl⟩
 |v::r,h=>by
  obtain⟨a,rfl⟩:=h v mem_cons_self;obtain⟨as,e⟩:=wJ λu hu=>h u (mem_cons_of_mem _ hu);exact⟨a::as,by rw[e];rfl⟩
theorem xC{H:Hp}{us:List V}{ds:List ED}(lz:Lz kf H us ds):∃as:List Addr,us=as.map V.ref/\as.length=ds.length/\∀(i:Nat) a d,as[i]? =some a->ds[i]? =some d->eX H a d:=by
 obtain⟨as,rfl⟩:=wJ (us:=us) λv hv=>by
  obtain⟨i,hi⟩:=getElem?_of_mem hv;obtain⟨d,_,a,e,_⟩:=lz.at hi;exact⟨a,e⟩
 refine⟨as,rfl,by rw[<-lz.1,length_map],λi a d ha hd=>?_⟩;obtain⟨a',e,h⟩:=lz.2 i _ d (by rw[getElem?_map,ha];rfl) hd;cases e;exact h
theorem rF{sg:List GD}{qd:List QD}{sd:List SD}{z:Str}{h:Int}{i:Nat}(m:(z,h,EW.saw i)∈j4 sg qd sd):i∈(List.range sg.length).filter (eY sg (dJ sd))/\sg[i]? =some (z,h):=by
 unfold j4 at m;rcases mem_append.mp m with m|m
 ·obtain⟨j,mj,e⟩:=mem_map.mp m
  have jl:=mem_range.mp (mem_filter.mp mj).1;have hg:sg[j]? =some sg[j]:=getElem?_eq_getElem jl;unfold C2 at e;rw[hg]at e;have e':(sg[j].1,sg[j].2,EW.saw j)=(z,h,EW.saw i):=e;cases e';exact⟨mj,hg⟩
 ·obtain⟨t,_,e⟩:=mem_map.mp m
  unfold B5 at e;cases e
theorem sD{sg:List GD}{qd:List QD}{sd:List SD}{z te:Str}{h:Int}{k:Nat}(m:(z,h,EW.hrd k te)∈j4 sg qd sd):(k,te,z)∈(eP 0 (eV qd)).filter (da qd sd)/\cT qd k=h:=by
 unfold j4 at m;rcases mem_append.mp m with m|m
 ·obtain⟨j,mj,e⟩:=mem_map.mp m
  unfold C2 at e;cases hg:sg[j]? with
  |none=>rw[hg]at e;cases e
  |some g=>rw[hg]at e;cases e
 ·obtain⟨t,mt,e⟩:=mem_map.mp m
  unfold B5 at e;cases e;exact⟨mt,rfl⟩
inductive NI(C:Addr)(vs:List V)(H:Hp)(Q:VK):Prop
 |mk(x p s t y:Addr)(ps:List Str)(ss ts ys:List V)(sg:List GD)(qd:List QD)(sd:List SD)(e:vs=[.ref x])(bk:Bk C H x p s t y ps ss ts ys)(pl:ps.length<=24)(sl:ss.length<=24)(tl:ts.length<=120)(gs:Lz cU H ss sg)(gp:∀d∈sg,d.1∈ps)(qs:Lz cY H ts qd)(qk:∀d∈qd,iV ps d)(sy:Sys H ys sd)(l:ys.length<=60)
   (k:∀(l:Addr)(us:List V)(F:FH)(st:List ED)(H':Hp),cH H H'->H l=none->H' l=some (.lst us)->Lz kf H' us st->iO (j4 sg qd sd) F->uG (j4 sg qd sd) F st->Q (.ref l) H')
def Fs(C:Addr):Sp:=λvs H Q _=>NI C vs H Q
theorem lu:cI ["book"] ["book"] (cF fh):={}
theorem JJ (D:Df K mg "earliest_story" fh ["book"] f fd) (G0r:Gd P w K mg base 5 "open_entries" (DH C)) (G1C:Gd P w K mg base 5 "first_story" EK):Gd P w K mg base 6 "earliest_story" (Fs C):=by
 refine aF D lu λX H vs Q E hh h=>?_;obtain⟨x,p,s,t,y,ps,ss,ts,ys,sg,qd,sd,rfl,bk,pl,sl,tl,gs,gp,qs,qk,sy,l60,k⟩:=h;obtain⟨S0,_⟩:=hh.d9 [0];have G1D:=hh.c G1C;have G0s:=hh.c G0r;refine⟨_,(ag (au (aw G1D (ak (aw G0s (ak (aa S0))))))),?_⟩;refine⟨_,rfl,x,p,s,t,y,ps,ss,ts,ys,sg,qd,sd,rfl,bk,pl,sl,tl,gs,gp,qs,qk,sy,l60,λen us H1 s1 Kl hen lz ul=>?_⟩;obtain⟨as,rfl,ll,le⟩:=xC lz;rw[length_map]at ul;refine⟨en,as,j4 sg qd sd,ps,rfl,hen,ul,ll,le,pl,λd hd=>?_,λl us F st H2 s2 nl hl lz2 fo so=>k l us F st H2 (s1.trans s2) (s1.free nl) hl lz2 fo so⟩;obtain⟨z,h,w⟩:=d;cases w with
 |saw i=>exact gp _ (mem_of_getElem? (rF hd).2)
 |hrd kk te=>
  obtain⟨q,hq,m1,m2⟩:=oy qk (mem_filter.mp (sD hd).1).1;exact m2
abbrev RD:=Str×Option Int
def lJ(H:Hp)(v:V)(d:RD):Prop:=∃a:Addr,v=.ref a/\H a=some (.tup [.str d.1,oV d.2])
theorem lJ.mono{H H':Hp}(s:Tk H H')(v:V)(d:RD)(h:lJ H v d):lJ H' v d:=by
 obtain⟨a,e,ha⟩:=h;exact⟨a,e,s _ _ ha⟩
def gO(ps:List Str):List Str:=ps.mergeSort λa b=> !PySem.Spec.ltCps b.cps.toList a.cps.toList
theorem jq(ps:List Str):(gO ps).Perm ps:=List.mergeSort_perm ..
theorem uT(ps:List Str):PyProof.Rows.sortedS (gO ps)=true:=by
 refine PyProof.Rows.sortedS_of_pairwise _ ((List.pairwise_mergeSort (le:=λa b=> !PySem.Spec.ltCps b.cps.toList a.cps.toList) (λa b c h1 h2=>?_) (λa b=>?_) ps).imp λ{a b} h=>?_)
 ·rw[not_eq_true']at *
  exact le_trans' h1 h2
 ·rw[or_eq_true,not_eq_true',not_eq_true',PyProof.Rows.ltCps_eq,PyProof.Rows.ltCps_eq,decide_eq_false_iff_not,decide_eq_false_iff_not,not_lt,not_lt]
  exact List.le_total _ _
 ·rw[not_eq_true']at h
  exact h
theorem Bw{zs ps:List Str}(h:zs.Perm ps)(s:PyProof.Rows.sortedS zs=true):zs=gO ps:=oI (h.trans (jq ps).symm) s (uT ps)
inductive LH(C:Addr)(vs:List V)(H:Hp)(Q:VK):Prop
 |mk(x p s t y:Addr)(ps:List Str)(ss ts ys:List V)(sg:List GD)(qd:List QD)(sd:List SD)(e:vs=[.ref x])(bk:Bk C H x p s t y ps ss ts ys)(pl:ps.length<=24)(sl:ss.length<=24)(tl:ts.length<=120)(gs:Lz cU H ss sg)(gp:∀d∈sg,d.1∈ps)(qs:Lz cY H ts qd)(qk:∀d∈qd,iV ps d)(sy:Sys H ys sd)(l:ys.length<=60)
   (k:∀(l:Addr)(us:List V)(F:FH)(H':Hp),cH H H'->H l=none->H' l=some (.lst us)->Lz lJ H' us ((gO ps).map λz=>(z,F z))->iO (j4 sg qd sd) F->Q (.ref l) H')
def xG(C:Addr):Sp:=λvs H Q _=>LH C vs H Q
theorem tO:cI ["book", "known"] ["book"] (cF jQ):={}
theorem Fw (D:Df K mg "earliest" jQ ["book"] f fd) (T:Txt K mg kw C) (G0w:Md P w K mg base 1 C "persons" (c9 C λp _ _ _=>p)) (G0r:Gd P w K mg base 5 "open_entries" (DH C)) (G0n:Gd P w K mg base 4 "first_entries" C6) (G0y:Gd P w K mg base 1 "hour_of" BD):Gd P w K mg base 6 "earliest" (xG C):=by
 refine aF D tO λX H vs Q E hh h=>?_;obtain⟨x,p,s,t,y,ps,ss,ts,ys,sg,qd,sd,rfl,bk,pl,sl,tl,gs,gp,qs,qk,sy,l60,k⟩:=h;obtain⟨S0,S1,_⟩:=hh.d9 [0,1];have G0e:=hh.b T.b_sorted;have G0o:=hh.c G0n;have G0s:=hh.c G0r;have G2y:=hh.ci G0y;have G0x:=hh.met G0w (by decide);have hu:=dY hh.room;have hsz:sizeLine=16777216:=sizeLine_eq;refine⟨_,(ah (aA S1 hh.nd (aw G0o (ak (aw G0s (ak (aa S0))))))
 (ag (au (bL (is:=[1]) (xs:=["person"]) (ns:=["known"]) hh.calm (aQ (aJ G0e J.fR L2.hE (ak (bB G0x (aa S0) rfl)))) {} (λ_ _ _ _ _=>(a7 (i:=0) (by decide+kernel) rfl rfl)) (λ_ _ _ _ _=>bN) (λ_ _ _ _ _=>(aT (aD (aO (i:=0) rfl rfl (by decide) (by decide)) (J.Iv (J.uS hu (aO (i:=0) rfl rfl (by decide) (by decide)) (a8 (i:=1) rfl rfl (by decide) (by decide))) (aw (G2y.lg rfl) (ak (bh hu (a8 (i:=1) rfl rfl (by decide) (by decide)) (aO (i:=0) rfl rfl (by decide) (by decide)) aK))) bE)))) hh.hsc hh.hN)))),?_⟩
 obtain⟨⟨dx,hx⟩,hp,hs,ht,hy⟩:=id bk;refine⟨_,rfl,x,p,s,t,y,ps,ss,ts,ys,sg,qd,sd,rfl,bk,pl,sl,tl,gs,gp,qs,qk,sy,l60,λen us H1 s1 Kl hen lz ul=>?_⟩;obtain⟨as,rfl,ll,le⟩:=xC lz;rw[length_map]at ul;refine⟨en,as,j4 sg qd sd,rfl,hen,ul,ll,le,λkn kvs F H2 s2 nkn hkn kd fo _ _=>?_⟩;have s02:=s1.trans s2;refine⟨_,rfl,x,dx,_,rfl,s02 _ _ hx,eB _ _ _ _ (by decide+kernel) (by decide+kernel) (by decide+kernel) (by decide+kernel),x,p,s,t,y,ps.map V.str,rfl,⟨dx,s02 _ _ hx⟩,s02 _ _ hp,λpb npb=>?_⟩;have s3:=cH.upd (o:=.lst (ps.map V.str)) npb;have hpb:upd H2 pb (.lst (ps.map V.str)) pb=some (.lst (ps.map V.str)):=cD;generalize upd H2 pb (.lst (ps.map V.str))=H3 at s3 hpb;refine⟨pb,ps,rfl,cK.of hpb,by omega,λl1 zs nl1 pm zo=>?_⟩;cases Bw pm zo;have srl:(gO ps).length=ps.length:=(jq ps).length_eq;have s4:=s3.trans (cH.upd (o:=.lst ((gO ps).map V.str)) nl1);have hl1:upd H3 l1 (.lst ((gO ps).map V.str)) l1=some (.lst ((gO ps).map V.str)):=cD;generalize upd H3 l1 (.lst ((gO ps).map V.str))=H4 at s4 hl1;refine⟨l1,rfl,⟨_,cK.of hl1⟩,lA (λj H v=>∃z,(gO ps)[j]? =some z/\lJ H v (z,F z)) (λ_ _ _ _ tk ⟨z,e,h⟩=>⟨z,e,h.mono tk⟩) (cK.of hl1) (by rw[length_map];omega) ?_ ?_⟩
 ·intro i v H5 K1 hv s5 k1
  rw[getElem?_map]at hv;obtain⟨z,hz,rfl⟩:=map_eq_some_iff.mp hv;have hkn5:=s5 _ _ (s4 _ _ hkn);have dg:=dN.k (k:=Sum.inr z) hkn5;cases hF:F z with
  |none=>
   rw[kd.no z hF]at dg;exact⟨_,rfl,_,rfl,_,rfl,kn,_,rfl,dg,_,rfl,cW ⟨zU,λt2 nt2=>k1 _ _ (cH.upd nt2) ⟨z,hz,t2,rfl,by rw[hF];exact cD⟩⟩⟩
  |some h=>
   obtain⟨ea,w2,e1,e2⟩:=kd.yes z h hF;rw[e1]at dg;exact⟨_,rfl,_,rfl,_,rfl,kn,_,rfl,dg,_,rfl,dk ⟨_,rfl,_,rfl,kn,_,rfl,dg,ea,z,h,w2,rfl,s5 _ _ (s4 _ _ e2),zU,λt2 nt2=>k1 _ _ (cH.upd nt2) ⟨z,hz,t2,rfl,by rw[hF];exact cD⟩⟩⟩
 ·intro rw' ws H5 nrw s5 hrw wl wr
  refine k rw' ws F H5 ((s02.trans s4).trans s5) ((s02.trans s4).free nrw) hrw ⟨by rw[wl,length_map,length_map],λj v d hv hd=>?_⟩ fo;obtain⟨z,hz,h⟩:=wr j v hv;rw[getElem?_map,hz]at hd;cases hd;exact h
inductive WI
 |saw (i:Int)
 |hrd (k:Int)(te:Str)
abbrev RI:=Str×Int×WI
def WI.tup:WI->List V
 |.saw i=>[.str "saw",.int i]
 |.hrd k te=>[.str "heard",.int k,.str te]
def Ei(H:Hp)(wa:Addr)(w:WI):Prop:=H wa=some (.tup w.tup)
def fq(H:Hp)(v:V)(d:RI):Prop:=∃a wa:Addr,v=.ref a/\H a=some (.tup [.str d.1,.int d.2.1,.ref wa])/\Ei H wa d.2.2
theorem fq.mono{H H':Hp}(s:Tk H H')(v:V)(d:RI)(h:fq H v d):fq H' v d:=by
 obtain⟨a,wa,e,h1,h2⟩:=h;exact⟨a,wa,e,s _ _ h1,s _ _ h2⟩
def z0(st:List RI):List (Key×V):=st.map λd=>(Sum.inr d.1,V.int d.2.1)
def hI(st:List RI):FH:=λz=>(st.find? λd=>decide (d.1=z)).map (·.2.1)
theorem Dw{st:List RI}{i:Nat}{d:RI}(nd:(st.map (·.1)).Nodup)(hd:st[i]? =some d):putK (z0 (st.take i)) (Sum.inr d.1) (.int d.2.1)=z0 (st.take (i+1)):=by
 have no:((z0 (st.take i)).any λkv=>decide (kv.1=Sum.inr d.1))=false:=by
  rw[any_eq_false];intro kv hkv e;obtain⟨d',hd',rfl⟩:=mem_map.mp hkv;have e':d'.1=d.1:=Sum.inr.inj (of_decide_eq_true e);obtain⟨j,hj,hj'⟩:=mQ hd';have h1:(st.map (·.1))[j]? =some d.1:=by rw[getElem?_map,hj'];exact congrArg some e'
  have h2:(st.map (·.1))[i]? =some d.1:=by rw[getElem?_map,hd];rfl
  have:=(List.getElem?_inj (by exact(gI0.mp h1).1) nd).mp (h1.trans h2.symm);omega
 unfold putK;rw[no,if_neg bF0,take_add_one,hd];unfold z0;rw[map_append];rfl
theorem rS(st:List RI)(z:Str):dr (z0 st) (Sum.inr z)=(hI st z).map V.int:=by
 unfold dr z0 hI;rw[List.find?_map];have e:((λkv:Key×V=>decide (kv.1=Sum.inr z)) ∘ λd:RI=>(Sum.inr d.1,V.int d.2.1))=λd:RI=>decide (d.1=z):=by
  funext d
  show decide ((Sum.inr d.1:Key)=Sum.inr z)=decide (d.1=z);exact decide_eq_decide.mpr ⟨λh=>Sum.inr.inj h,λh=>congrArg Sum.inr h⟩
 rw[e,Option.map_map,Option.map_map];rfl
theorem oY{st:List RI}{z:Str}{i:Int}(h:hI st z=some i):∃d∈st,d.1=z/\d.2.1=i:=by
 unfold hI at h;obtain⟨d,hd,rfl⟩:=map_eq_some_iff.mp h;exact⟨d,List.mem_of_find?_eq_some hd,of_decide_eq_true (List.find?_some (p:=λd:RI=>decide (d.1=z)) hd),rfl⟩
def CL(a b:Str):Bool:=decide (a.cps.toList < b.cps.toList)
def ltAt(zs:List Str)(i:Nat):Bool:=match zs[i]?,zs[i+1]? with
 |some a,some b=>CL a b
 |_,_=>false
def mZ(zs:List Str):Bool:=(List.range (zs.length - 1)).all (ltAt zs)
theorem Ct(a:Str):CL a a=false:=decide_eq_false (List.lt_irrefl _)
theorem zk{a b c:Str}(h1:CL a b=true)(h2:CL b c=true):CL a c=true:=dT0 (List.lt_trans (of_decide_eq_true h1) (of_decide_eq_true h2))
theorem qB(a b:Str)(r:List Str):mZ (a::b::r)=(CL a b && mZ (b::r)):=by
 unfold mZ;have e:(a::b::r).length - 1=(b::r).length - 1+1:=by simp
 rw[e,List.range_succ_eq_map,all_cons,all_map];rfl
theorem qy:∀{zs:List Str},mZ zs=true->zs.Pairwise λa b=>CL a b=true
 |[],_=>.nil
 |[a],_=>pairwise_singleton _ _
 |a::b::r,h=>by
  rw[qB,and_eq_true]at h;have ih:=qy h.2;refine pairwise_cons.mpr ⟨λc hc=>?_,ih⟩;rcases mem_cons.mp hc with rfl|hc
  ·exact h.1
  ·exact zk h.1 ((pairwise_cons.mp ih).1 c hc)
theorem wQ:∀{zs:List Str},(zs.Pairwise λa b=>CL a b=true)->mZ zs=true
 |[],_=>rfl
 |[a],_=>rfl
 |a::b::r,h=>by
  rw[qB,(pairwise_cons.mp h).1 b (.head _),wQ (pairwise_cons.mp h).2];rfl
theorem uQ{zs:List Str}(h:mZ zs=true):zs.Nodup:=(qy h).imp λ{a b} e z=>by
 rw[z,Ct]at e;cases e
inductive Hg  (vs:List V)(H:Hp)(Q:VK):Prop
 |mk(l:Addr)(zs:List Str)(h0:vs=[.ref l])(h1:H l=some (.lst (zs.map V.str)))(h2:zs.length<=1000)(h3:∀H',cH H H'->Q (.bl (mZ zs)) H')
def Bx  :Sp:=λvs H Q _=>Hg  vs H Q
def Kb(sg:List GD)(i:Int)(p:Str)(h:Int):Bool:=(decide (0<=i) && decide (i < sg.length)) && (match sg[i.toNat]? with
 |some d=>decide (d.1=p) && decide (d.2=h)
 |none=>false)
inductive Ny(vs:List V)(H:Hp)(Q:VK):Prop
 |mk(s:Addr)(ss:List V)(sg:List GD)(i:Int)(p:Str)(h:Int)(e:vs=[.ref s,.int i,.str p,.int h])(hs:H s=some (.lst ss))(gs:Lz cU H ss sg)(sl:ss.length<=24)(k:Q (.bl (Kb sg i p h)) H)
def GK:Sp:=λvs H Q _=>Ny vs H Q
abbrev F3:=Int->Str->Str->Option Int
def toD(F:F3)(k:Int)(te p:Str)(h:Int):Bool:=match F k te p with
 |none=>false
 |some j=>decide (j=h)
def sF(F:FH)(te:Str)(h:Int):Bool:=match F te with
 |none=>false
 |some j=>decide (j < h)
def D3(kvs:List (List Key×V))(F:F3):Prop:=∀k a b,dr kvs [Sum.inl k,Sum.inr a,Sum.inr b]=(F k a b).map V.int
inductive NQ(vs:List V)(H:Hp)(Q:VK):Prop
 |mk(d a:Addr)(kvs:List (List Key×V))(F:F3)(k:Int)(te p:Str)(h:Int)(e:vs=[.ref d,.ref a,.int h])(hd:H d=some (.dT kvs))(g:D3 kvs F)(ha:H a=some (.tup [.int k,.str te,.str p]))(q:Q (.bl (toD F k te p h)) H)
def Gn:Sp:=λvs H Q _=>NQ vs H Q
inductive Np(vs:List V)(H:Hp)(Q:VK):Prop
 |mk(l:Addr)(us:List V)(st:List RI)(e:vs=[.ref l])(hl:H l=some (.lst us))(lz:Lz fq H us st)(nd:(st.map (·.1)).Nodup)(sl:st.length<=100)(k:∀d H',cH H H'->H d=none->H' d=some (.dK (z0 st))->Q (.ref d) H')
def DF:Sp:=λvs H Q _=>Np vs H Q
def f3(qd:List QD):F3:=λk a b=>if 0<=k/\(k.toNat,a,b)∈eP 0 (eV qd) then some (cT qd k.toNat) else none
def Em(qd:List QD)(ks:List TK):F3:=λk a b=>if 0<=k/\(k.toNat,a,b)∈ks then some (cT qd k.toNat) else none
def Ld(t:TK):List Key:=[Sum.inl (t.1:Int),Sum.inr t.2.1,Sum.inr t.2.2]
theorem FN(qd:List QD):D3 [] (Em qd []):=λk a b=>by
 unfold Em;rw[if_neg (λh=>nomatch h.2)];rfl
theorem Fq{kvs:List (List Key×V)}{qd:List QD}{ks:List TK}{i:Nat}{tk:TK}{j:Int}(sn:D3 kvs (Em qd (ks.take i)))(ht:ks[i]? =some tk)(e:cT qd tk.1=j):D3 (putK kvs (Ld tk) (.int j)) (Em qd (ks.take (i+1))):=λk a b=>by
 have tk1:ks.take (i+1)=ks.take i++[tk]:=by rw[take_add_one,ht];rfl
 rw[fb];by_cases q:([Sum.inl k,Sum.inr a,Sum.inr b]:List Key)=Ld tk
 ·rw[if_pos q]
  obtain⟨n,a',b'⟩:=tk;injection q with q1 q2
  injection q2 with q2 q3
  injection q3 with q3 _
  replace q1:k=(n:Int):=Sum.inl.inj q1
  replace q2:a=a':=Sum.inr.inj q2
  replace q3:b=b':=Sum.inr.inj q3
  subst q1;subst q2;subst q3;unfold Em;rw[if_pos ⟨Int.natCast_nonneg n,by rw[tk1,Int.toNat_natCast];exact mem_append_right _ (.head _)⟩,Int.toNat_natCast,e];rfl
 ·rw[if_neg q,sn k a b]
  unfold Em;have e:(0<=k/\(k.toNat,a,b)∈ks.take i)↔(0<=k/\(k.toNat,a,b)∈ks.take (i+1)):=by
   rw[tk1];constructor
   ·exact λh=>⟨h.1,mem_append_left _ h.2⟩
   ·intro h
    refine⟨h.1,?_⟩;rcases mem_append.mp h.2 with z|z
    ·exact z
    ·have z:=mem_singleton.mp z
     refine absurd ?_ q;rw[<-z];show _=[Sum.inl ((k.toNat:Nat):Int),Sum.inr a,Sum.inr b];rw[Int.toNat_of_nonneg h.1]
  by_cases h:0<=k/\(k.toNat,a,b)∈ks.take i
  ·rw[if_pos h,if_pos (e.mp h)]
  ·rw[if_neg h,if_neg (λz=>h (e.mpr z))]
inductive LP(C:Addr)(vs:List V)(H:Hp)(Q:VK):Prop
 |mk(x p s t y:Addr)(ps:List Str)(ss ts ys:List V)(qd:List QD)(e:vs=[.ref x])(bk:Bk C H x p s t y ps ss ts ys)(tl:ts.length<=120)(qs:Lz cY H ts qd)(qk:∀d∈qd,iV ps d)
   (k:∀d kvs H',cH H H'->H d=none->H' d=some (.dT kvs)->D3 kvs (f3 qd)->Q (.ref d) H')
def BL(C:Addr):Sp:=λvs H Q _=>LP C vs H Q
inductive JR(x tb d:Addr)(H1:Hp)(qd:List QD)(ks:List TK)(i:Nat)(σ:St)(H2:Hp):Prop
 |mk(e3:Option V)(kvs:List (List Key×V))(e:σ=[some (.ref x),some (.ref tb),some (.ref d),e3])(kp:∀b o,H1 b=some o->b≠d->H2 b=some o)(hd:H2 d=some (.dT kvs))(kl:kvs.length<=i)(sn:D3 kvs (Em qd (ks.take i)))
def EH(sg:List GD)(F:F3)(G:FH)(d:RI):Bool:=match d.2.2 with
 |.saw i=>Kb sg i d.1 d.2.1
 |.hrd k te=>toD F k te d.1 d.2.1 && sF G te d.2.1
inductive Jy(fv vs:List V)(H:Hp)(Q:VK):Prop
 |mk(s th hs wa:Addr)(ss:List V)(sg:List GD)(kvs:List (List Key×V))(kvh:List (Key×V))(F:F3)(G:FH)(d:RI)(e1:fv=[.ref s,.ref th,.ref hs])(e2:vs=[.str d.1,.int d.2.1,.ref wa])(h1:H s=some (.lst ss))(gs:Lz cU H ss sg)(sl:ss.length<=24)(h2:H th=some (.dT kvs))(g3:D3 kvs F)(h3:H hs=some (.dK kvh))(g1:∀z,dr kvh (Sum.inr z)=(G z).map V.int)(hw:Ei H wa d.2.2)(k:∀H',cH H H'->Q (.bl (EH sg F G d)) H')
def Bz:Cp:=λfv vs H Q=>Jy fv vs H Q
def BZ(sg:List GD)(qd:List QD)(rs:List RI):Bool:=mZ (rs.map (·.1)) && rs.all (EH sg (f3 qd) (hI rs))
abbrev k7:Str:=Bj "is_story" eO "is_good"
abbrev iq:Pos:=Fc dO
inductive Nt(C P0:Addr)(vs:List V)(H:Hp)(Q:VK):Prop
 |mk(x p s t y l:Addr)(ps:List Str)(ss ts ys us:List V)(sg:List GD)(qd:List QD)(rs:List RI)(e:vs=[.ref x,.ref l])(bk:Bk C H x p s t y ps ss ts ys)(sl:ss.length<=24)(tl:ts.length<=120)(gs:Lz cU H ss sg)(qs:Lz cY H ts qd)(qk:∀d∈qd,iV ps d)(hl:H l=some (.lst us))(lz:Lz fq H us rs)(rl:rs.length<=100)(tb:ku H P0 iq k7)
   (k:∀H',jN P0 H H'->ku H' P0 iq k7->Q (.bl (BZ sg qd rs)) H')
def Fb(C P0:Addr):Sp:=λvs H Q _=>Nt C P0 vs H Q
theorem pP:cI ["names"] ["names"] (cF iw):={}
theorem Fd (D:Df K mg "are_rising" iw ["names"] f fd) (T:Txt K mg kw C):Gd P w K mg base 1 "are_rising" Bx:=by
 refine aF D pP λX H vs Q E hh h=>?_;obtain⟨l,zs,rfl,hl,zl,k⟩:=h;obtain⟨S0,_⟩:=hh.d9 [0];have G0a:=hh.b T.b_all;have G00:=hh.b T.b_len;have G05:=hh.b T.b_range;have hsz:sizeLine=16777216:=sizeLine_eq;refine⟨_,(ag (au (aJ G0a (bT hh.calm) L2.iz (ak (bL (is:=[0]) (xs:=["k"]) (ns:=["names"]) hh.calm (bR G05 (ak (az J.lI (aJ G00 bp L2.dA (ak (aa S0))) ae))) {} (λ_ _ _ _ _=>(a7 (i:=0) (by decide+kernel) rfl rfl)) (λ_ _ _ _ _=>bN) (λ_ _ _ _ _=>(aU J.mG (af cj (a8 (i:=1) rfl rfl (by decide) (by decide)) (aO (i:=0) rfl rfl (by decide) (by decide)) aK) (af cj (a8 (i:=1) rfl rfl (by decide) (by decide)) (az bu (aO (i:=0) rfl rfl (by decide) (by decide)) ae) bV) (L2.cJ _))) hh.hsc hh.hN))))),?_⟩;have ln:((((zs.map V.str).length:Nat):Int) - 1).toNat=zs.length - 1:=by
  rw[length_map];omega
 refine⟨_,rfl,l,_,rfl,.inl (cK.of hl),_,_,rfl,rfl,_,rfl,by rw[length_map];omega,by rw[length_map];omega,?_⟩;rw[ln];refine qr (lo:=0) (N:=zs.length - 1) (λ_=>true) (λi=>V.bl (ltAt zs i)) (by omega) ?_ ?_
 ·intro i os H2 K1 K2 hi hos s2 k1 k2
  match os,hos with
  |[o1],_=>
   obtain⟨a,ha⟩:∃a,zs[i]? =some a:=⟨_,getElem?_eq_getElem (by omega)⟩;obtain⟨b,hb⟩:∃b,zs[i+1]? =some b:=⟨_,getElem?_eq_getElem (by omega)⟩;have e1:pj (zs.map V.str) (0+(i:Int))=some (.str a):=by
    rw[Int.zero_add];exact cN (by rw[getElem?_map,ha];rfl)
   have e2:pj (zs.map V.str) (0+(i:Int)+1)=some (.str b):=by
    rw[Int.zero_add];exact cN (j:=i+1) (by rw[getElem?_map,hb];rfl)
   have e3:ltAt zs i=decide (a.cps.toList < b.cps.toList):=by
    unfold ltAt;rw[ha,hb];rfl
   have k1':=k1 rfl H2 (cH.refl _);rw[e3]at k1';exact⟨⟨[some (.int (0+(i:Int)))],rfl,rfl⟩,dk (B:=K2 H2) ⟨_,rfl,_,rfl,xL (s2 _ _ hl) e1 ⟨_,rfl,_,rfl,_,_,rfl,rfl,xL (s2 _ _ hl) e2 ⟨_,_,rfl,rfl,k1'⟩⟩⟩⟩
 ·intro D' H' hD' s' hd'
  rw[filter_eq_self.mpr (λ_ _=>rfl)]at hd';have e2:((List.range (zs.length - 1)).map λi=>V.bl (ltAt zs i))=((List.range (zs.length - 1)).map (ltAt zs)).map V.bl:=by rw[map_map];rfl
  rw[e2]at hd';refine⟨D',_,rfl,cK.of hd',?_⟩;have e3:((List.range (zs.length - 1)).map (ltAt zs)).all id=mZ zs:=by
   unfold mZ;rw[all_map];rfl
  rw[e3];exact k H' s'
theorem oi:cI ["sights", "i", "person", "hour"] ["sights", "i", "person", "hour"] (cF gL):={}
theorem HJ (D:Df K mg "is_sight_at" gL ["sights", "i", "person", "hour"] f fd) (T:Txt K mg kw C):Gd P w K mg base 1 "is_sight_at" GK:=by
 refine aF D oi λX H vs Q E hh h=>?_;obtain⟨s,ss,sg,i,p,h,rfl,hs,gs,sl,k⟩:=h;obtain⟨S0,S1,S2,S3,_⟩:=hh.d9 [0,1,2,3];have G00:=hh.b T.b_len;refine⟨_,(ag (au (aV (J.f9 bD bO ae (aa S1) (aJ G00 bp L2.dA (ak (aa S0))) L2.iK) (aV (aU aL (af ao (af aR (aa S0) (aa S1) aK) ae aj) (aa S2) (L2.cJ _)) (aZ (aU aL (af ao (af aR (aa S0) (aa S1) aK) ae aj) (aa S3) (L2.cJ _))))))),?_⟩;refine zB (decide (0<=i) && decide (i < sg.length)) _ (λQ' q=>⟨_,rfl,_,_,rfl,rfl,_,rfl,du (λh0=>⟨_,rfl,s,_,rfl,.inl (cK.of hs),_,_,rfl,rfl,?_⟩) (λh0=>?_)⟩) (λhb=>?_) k
 ·rw[h0,Bool.true_and,<-gs.1]at q
  exact q
 ·rw[eF0 h0,Bool.false_and]at q
  exact q
 ·rw[and_eq_true]at hb
  have h0:=of_decide_eq_true hb.1;have h1:=of_decide_eq_true hb.2;obtain⟨n,rfl⟩:=Int.eq_ofNat_of_zero_le h0;have hn:n < sg.length:=by omega
  obtain⟨d,hd⟩:∃d,sg[n]? =some d:=⟨_,getElem?_eq_getElem hn⟩;obtain⟨v,hv⟩:∃v,ss[n]? =some v:=⟨_,getElem?_eq_getElem (by rw[gs.1];exact hn)⟩;obtain⟨a,ta,rfl,ha⟩:=gs.2 _ _ _ hv hd;intro Q' q;rw[Int.toNat_natCast,hd]at q;refine zB (decide (d.1=p)) (decide (d.2=h)) (λQ' q=>⟨_,rfl,_,rfl,xL hs (cN hv) (xT ha rfl ⟨_,rfl,rfl,?_⟩)⟩) (λ_ Q' q=>⟨_,rfl,_,rfl,xL hs (cN hv) (xT ha rfl ⟨_,rfl,rfl,?_⟩)⟩) q
  ·rw[dS]
   exact q
  ·rw[dI]
   exact q
theorem p5:cI ["talk_hours", "telling", "hour"] ["talk_hours", "telling", "hour"] (cF iC):={}
theorem Hw (D:Df K mg "is_told_at" iC ["talk_hours", "telling", "hour"] f fd):Gd P w K mg base 1 "is_told_at" Gn:=by
 refine aF D p5 λX H vs Q E hh h=>?_;obtain⟨d,a,kvs,F,k,te,p,h,rfl,hd,g,ha,q⟩:=h;obtain⟨S0,S1,S2,_⟩:=hh.d9 [0,1,2];have hu:=dY hh.room;refine⟨_,(ag (au (aV (J.lN hu (aa S1) (aa S0)) (aZ (aU aL (bh hu (aa S0) (aa S1) aK) (aa S2) (L2.cJ _)))))),?_⟩;have dg:=dN.t (k:=[Sum.inl k,Sum.inr te,Sum.inr p]) hd ha;rw[g k te p]at dg;unfold toD at q;cases hF:F k te p with
 |none=>
  rw[hF]at dg q;exact⟨_,rfl,_,rfl,d,_,rfl,dg,_,rfl,iW bF0 q⟩
 |some j=>
  rw[hF]at dg q;refine⟨_,rfl,_,rfl,d,_,rfl,dg,_,rfl,fu rfl ⟨_,rfl,_,rfl,d,_,rfl,dg,_,rfl,rfl,?_⟩⟩;rw[dI];exact q
theorem uq:cI ["story", "hours", "person", "hour", "way"] ["story"] (cF j2):={}
theorem Io (D:Df K mg "hours_in" j2 ["story"] f fd):Gd P w K mg base 1 "hours_in" DF:=by
 refine aF D uq λX H vs Q E hh h=>?_;obtain⟨l,us,st,rfl,hl,lz,nd,sl,k⟩:=h;obtain⟨S0,S1,S2,S3,S4,_⟩:=hh.d9 [0,1,2,3,4];have hu:=dY hh.room;have hsz:sizeLine=16777216:=sizeLine_eq;refine⟨_,(ah (aA S1 hh.nd cv)
 (ah (a9 hh.own hh.calm (aQ (aa S0)) (bC hh.calm (aG (aE S2 hh.nd) (aG (aE S3 hh.nd) (aG (aE S4 hh.nd) bj))))
 (ag (bZ hu (aa S1) (aa S2) (aa S3))))
 (ag (au (aa S1))))),?_⟩
 intro kn nkn;have s3:=cH.upd (o:=.dK []) nkn;have hk3:upd H kn (.dK []) kn=some (.dK []):=cD;generalize upd H kn (.dK [])=H3 at s3 hk3;refine⟨_,rfl,l,rfl,⟨_,cK.of (s3 _ _ hl)⟩,dj (K:=X.K) (a:=l) (xs:=us) (λi σ H4=>∃e2 e3 e4:Option V,σ=[some (.ref l),some (.ref kn),e2,e3,e4]/\cH H H4/\H4 kn=some (.dK (z0 (st.take i)))) ⟨none,none,none,rfl,s3,hk3⟩ ?_ ?_ ?_⟩
 ·rintro i σ H4 hi ⟨e2,e3,e4,rfl,s4,hk4⟩
  exact cK.of (s4 _ _ hl)
 ·rintro i v σ H4 hv ⟨e2,e3,e4,rfl,s4,hk4⟩
  obtain⟨d,hd,a,wa,rfl,ha,hw⟩:=lz.at hv;have il:=(gI0.mp hd).1;have kl:(z0 (st.take i)).length < sizeLine:=by
   unfold z0;rw[length_map,length_take];omega
  refine⟨a,_,rfl,dv.of (s4 _ _ ha),rfl,_,_,rfl,_,_,rfl,_,_,rfl,rfl,?_⟩;refine⟨_,rfl,_,rfl,_,rfl,kn,_,rfl,jc.k (k:=Sum.inr d.1) hk4 kl,_,_,_,rfl,λb o e=>?_,?_⟩
  ·rw[cG (cE e nkn)]
   exact s4 _ _ e
  ·rw[cD,Dw nd hd]
 rintro σ H4 ⟨e2,e3,e4,rfl,s4,hk4⟩;rw[lz.1,take_length]at hk4;exact⟨_,rfl,k kn H4 s4 nkn hk4⟩
theorem i5:cI ["book", "talks", "hours", "telling"] ["book"] (cF eG):={}
theorem Ga (D:Df K mg "hours_of_tellings" eG ["book"] f fd) (T:Txt K mg kw C) (G0p:Md P w K mg base 1 C "talks" (c9 C λ_ _ t _=>t)) (G0M:Md P w K mg base 1 C "tellings" (iJ C)):Gd P w K mg base 2 "hours_of_tellings" (BL C):=by
 refine aF D i5 λX H vs Q E hh h=>?_;obtain⟨x,p,s,t,y,ps,ss,ts,ys,qd,rfl,bk,tl,qs,qk,k⟩:=h;obtain⟨S0,S1,S2,S3,_⟩:=hh.d9 [0,1,2,3];have G0q:=hh.met G0p (by decide);have G0N:=hh.met G0M (by decide);have hu:=dY hh.room;have hsz:sizeLine=16777216:=sizeLine_eq;obtain⟨⟨dx,hx⟩,hp,hs,ht,hy⟩:=id bk;refine⟨_,(ah (aA S1 hh.nd (bB G0q (aa S0) rfl))
 (ah (aA S2 hh.nd J.HB)
 (ah (a9 hh.own hh.calm (aQ (bB G0N (aa S0) rfl)) (aE S3 hh.nd)
 (ag (bZ hu (aa S2) (aa S3) (af ao (af aR (aa S1) (af ao (aa S3) ae aj) b8) ae aj))))
 (ag (au (aa S2)))))),?_⟩
 refine⟨_,rfl,x,dx,_,rfl,hx,eB _ _ _ _ (by decide+kernel) (by decide+kernel) (by decide+kernel) (by decide+kernel),x,p,s,t,y,ts,rfl,⟨dx,hx⟩,ht,λtb htb=>?_⟩;have s1:=cH.upd (o:=.lst ts) htb;have htb1:upd H tb (.lst ts) tb=some (.lst ts):=cD;generalize upd H tb (.lst ts)=H1 at s1 htb1;intro d nd;have s2:=cH.upd (o:=.dT []) nd;have hd2:upd H1 d (.dT []) d=some (.dT []):=cD;generalize upd H1 d (.dT [])=H2 at s2 hd2;have s02:=s1.trans s2;have hdH:H d=none:=s1.free nd;refine⟨_,rfl,x,dx,_,rfl,s02 _ _ hx,eB _ _ _ _ (by decide+kernel) (by decide+kernel) (by decide+kernel) (by decide+kernel),x,p,s,t,y,ps,ss,ts,ys,eV qd,rfl,bk.mono s02,zY (qs.mono (cY.mono (Tk.of s02))),tl,λl us H3 s3 ln hl tu=>?_⟩;have s03:=s02.trans s3;have s13:=s2.trans s3;have ul:us.length<=240:=by
  have:=jA (eV qd) 0;have:=tu.1;have:=(zY qs).1;omega
 have mem:∀tk∈eP 0 (eV qd),∃q,qd[tk.1]? =some q/\tk.2.2∈ps:=λtk hk=>Gv qk hk;have k:∀d kvs H',cH H H'->H d=none->H' d=some (.dT kvs)->D3 kvs (Em qd (eP 0 (eV qd)))->Q (.ref d) H':=k;generalize eP 0 (eV qd)=ks at tu k mem;refine⟨l,rfl,⟨_,cK.of hl⟩,dj (K:=X.K) (a:=l) (xs:=us) (JR x tb d H3 qd ks) ⟨none,[],rfl,λb o e _=>e,s3 _ _ hd2,le_refl 0,FN qd⟩ ?_ ?_ ?_⟩
 ·rintro i σ H4 hi ⟨e3,kvs,rfl,kp,hd,kl,sn⟩
  exact cK.of (kp _ _ hl (cE hd2 ln).symm)
 ·rintro i v σ H4 hv ⟨e3,kvs,rfl,kp,hd,kl,sn⟩
  have hil:=(gI0.mp hv).1;obtain⟨tk,htk⟩:∃tk,ks[i]? =some tk:=⟨_,getElem?_eq_getElem (by rw[<-tu.1];exact hil)⟩;obtain⟨a,rfl,ha⟩:=tu.2 _ _ _ hv htk;obtain⟨q,hq,_⟩:=mem tk (mem_of_getElem? htk);obtain⟨vq,hvq⟩:∃vq,ts[tk.1]? =some vq:=⟨_,getElem?_eq_getElem (by rw[qs.1];exact(gI0.mp hq).1)⟩;obtain⟨aq,rfl,haq⟩:=qs.2 _ _ _ hvq hq;have hd3:=s3 _ _ hd2;have ha4:=kp _ _ ha (λe=>by rw[e,hd3]at ha;cases ha);have haq4:=kp _ _ (s03 _ _ haq) (cE haq hdH);have htb4:=kp _ _ (s13 _ _ htb1) (cE htb1 nd);have lk:kvs.length < sizeLine:=by omega
  have eh:=dH hq;refine⟨_,rfl,_,rfl,xT ha4 rfl (xL htb4 (cN hvq) (xT haq4 rfl ⟨_,rfl,_,rfl,d,_,rfl,jc.t (k:=Ld tk) hd ha4 lk,_,_,rfl,(λb o e n'=>by rw[cG n'];exact kp b o e n'),cD,le_trans (eT _ _ _) (by omega),Fq sn htk eh⟩))⟩
 ·rintro σ H4 ⟨e3,kvs,rfl,kp,hd,kl,sn⟩
  rw[tu.1,take_length]at sn;exact⟨_,rfl,k d kvs H4 (λb o e=>kp _ _ (s03 _ _ e) (cE e hdH)) hdH hd sn⟩
theorem rG:nQ ["person", "hour", "way"] ["teller"] ["sights", "talk_hours", "hours"] (cF dO):=⟨rfl,rfl,rfl,by decide+kernel,by decide+kernel,by decide+kernel,by decide+kernel⟩
theorem CF (T:Txt K mg kw C) (G1E:Gd P w K mg base 1 "is_sight_at" GK) (G1Y:Gd P w K mg base 1 "is_told_at" Gn):AX P w K mg base 1 "is_good" k7 (di dO) (cP dO) (cF dO) ["person", "hour", "way"] ["teller"] ["sights", "talk_hours", "hours"] Bz:=by
 refine J.DU rG (λfv vs H Q h=>?_) (λcl doc pm c ctv us hl=>?_) (λX H fv vs Q hh h=>?_)
 ·obtain⟨s,th,hs,wa,ss,sg,kvs,kvh,F,G,d,rfl,rfl,_⟩:=h
  exact⟨rfl,rfl⟩
 ·match us,hl with
  |[_,_,_],_=>rfl
 ·obtain⟨s,th,hs,wa,ss,sg,kvs,kvh,F,G,d,rfl,rfl,h1,gs,sl,h2,g3,h3,g1,hw,k⟩:=h
  have S0:=hh.sl 0 "person";have S1:=hh.sl 1 "hour";have S2:=hh.sl 2 "way";have S3:=hh.sl 3 "teller";have F4:∀{p:Pos},J.JE X (.Name "sights" p) (L2.gx 4):=hh.LL 4 rfl rfl (by decide) (by decide);have F5:∀{p:Pos},J.JE X (.Name "talk_hours" p) (L2.gx 5):=hh.LL 5 rfl rfl (by decide) (by decide);have F6:∀{p:Pos},J.JE X (.Name "hours" p) (L2.gx 6):=hh.LL 6 rfl rfl (by decide) (by decide);have G00:=hh.b T.b_len;have G1F:=hh.c G1E;have G1Z:=hh.c G1Y;have hu:=dY hh.room;refine⟨_,(ah (aH (aX (bg (aB aL (af ao (aa S2) ae aj) aM (L2.cJ _)) (bz (aB aL (aJ G00 bp L2.dA (ak (aa S2))) ae (L2.cJ _)))))
 (ag (au (aw G1F (bS F4 (af ao (aa S2) ae aj) (aa S0) (aa S1)))))
 aI)
 (ah (aH (aX (bF (aB bU (af ao (aa S2) ae aj) aM (L2.cJ _)) (bG (aB bU (aJ G00 bp L2.dA (ak (aa S2))) ae (L2.cJ _)))))
 (ag (au a5))
 aI)
 (ah (aA S3 hh.nd (af ao (aa S2) ae aj))
 (ag (au (aV (aw G1Z (aP F5 (aT (aP (af ao (aa S2) ae aj) (aa S3) (aa S0))) (aa S1))) (aV (J.lN hu (aa S3) F6) (aZ (aU bO (bh hu F6 (aa S3) aK) (aa S1) (L2.cJ _)))))))))),?_⟩
  obtain⟨z,h,w⟩:=d;have es:gA [.str z,.int h,.ref wa] ["teller"] [.ref s,.ref th,.ref hs]=[some (.str z),some (.int h),some (.ref wa),none,some (.ref s),some (.ref th),some (.ref hs)]:=rfl;rw[es];cases w with
  |saw i=>
   have hw:H wa=some (.tup [.str "saw",.int i]):=hw;refine⟨_,rfl,xT hw rfl ⟨rfl,_,rfl,iP ⟨_,rfl,wa,_,rfl,.inr (dv.of hw),rfl,_,rfl,fu (dT0 rfl) ?_⟩⟩⟩;exact⟨_,rfl,_,rfl,xT hw rfl ⟨_,rfl,_,rfl,s,ss,sg,i,z,h,rfl,h1,gs,sl,k H (cH.refl _)⟩⟩
  |hrd kk te=>
   have hw:H wa=some (.tup [.str "heard",.int kk,.str te]):=hw;refine⟨_,rfl,xT hw rfl ⟨rfl,_,rfl,iN (cW ?_)⟩⟩;refine⟨_,rfl,xT hw rfl ⟨rfl,_,rfl,iN ⟨_,rfl,wa,_,rfl,.inr (dv.of hw),rfl,_,rfl,iW (by show ¬(!decide (V.int 3=V.int 3))=true;decide+kernel) ?_⟩⟩⟩;refine⟨_,rfl,xT hw rfl ?_⟩;refine⟨_,rfl,_,rfl,xT hw rfl ⟨_,rfl,_,rfl,mM,λc hc=>?_⟩⟩;have s2:=cH.upd (o:=.tup [.int kk,.str te,.str z]) hc;have hc2:upd H c (.tup [.int kk,.str te,.str z]) c=some (.tup [.int kk,.str te,.str z]):=cD;generalize upd H c (.tup [.int kk,.str te,.str z])=H2 at s2 hc2;have k':Q (.bl (toD F kk te z h && sF G te h)) H2:=k H2 s2;refine⟨_,rfl,th,c,kvs,F,kk,te,z,h,rfl,s2 _ _ h2,g3,hc2,_,rfl,du (λhb=>?_) (λhb=>?_)⟩
   ·rw[hb,Bool.true_and]at k'
    unfold sF at k';have dg:=dN.k (k:=Sum.inr te) (s2 _ _ h3);rw[g1 te]at dg;cases hG:G te with
    |none=>
     rw[hG]at dg k';exact⟨_,rfl,_,rfl,hs,_,rfl,dg,_,rfl,iW bF0 k'⟩
    |some j=>
     rw[hG]at dg k';exact⟨_,rfl,_,rfl,hs,_,rfl,dg,_,rfl,fu rfl ⟨_,rfl,_,rfl,hs,_,rfl,dg,_,rfl,_,_,rfl,rfl,k'⟩⟩
   ·rw[eF0 hb,Bool.false_and]at k'
    exact k'
theorem sQ:cI ["book", "some", "sights", "talk_hours", "hours", "is_good"] ["book", "some"] (cF eO):={}
theorem H0 {f c0 P0:Addr}{oc kV doc pm ct:Value}{od an:Option Addr}{osl:Array (Option Value)}(lk:K.lookup f=some ⟨oc,od,.func (fnOf "is_story" "is_story" (di eO) (cP eO) (cF eO) .none kV doc pm an (.ref c0) ct),osl⟩) (hcd:codeIn K (.ref c0) "is_story" =true) (kp:keepIn K (.ref f)=true) (nm:mg "is_story" =some (.ref f)) (hC:codeHdIn K c0 P0=true) (hM:K.In base) (hb:kT mg base)
  (T:Txt K mg kw C) (G2z:AX P w K mg base 1 "is_good" k7 (di dO) (cP dO) (cF dO) ["person", "hour", "way"] ["teller"] ["sights", "talk_hours", "hours"] Bz)
  (G20:Gd P w K mg base 1 "are_rising" Bx) (G0h:Md P w K mg base 1 C "sights" (c9 C λ_ s _ _=>s)) (G0S:Gd P w K mg base 2 "hours_of_tellings" (BL C)) (G0O:Gd P w K mg base 1 "hours_in" DF):Gd P w K mg base 3 "is_story" (Fb C P0):=by
 refine J.C5 (ps:=["book", "some"]) lk hcd kp nm (λus hl=>?_) sQ (λvs H Q E h=>?_) (λX H vs Q E hh hcode hq h=>?_)
 ·match us,hl with
  |[_,_],_=>rfl
 ·obtain⟨x,p,s,t,y,l,ps,ss,ts,ys,us,sg,qd,rs,rfl,_⟩:=h
  rfl
 ·obtain⟨x,p,s,t,y,l,ps,ss,ts,ys,us,sg,qd,rs,rfl,bk,sl,tl,gs,qs,qk,hl,lz,rl,tb,k⟩:=h
  obtain⟨S0,S1,S2,S3,S4,S5,_⟩:=hh.d9 [0,1,2,3,4,5];have G0a:=hh.b T.b_all;have G21:=hh.c G20;have G0E:=hh.c G0O;have G0T:=hh.c G0S;have G0i:=hh.met G0h (by decide);have hsz:sizeLine=16777216:=sizeLine_eq;have ul:=lz.1;obtain⟨⟨dx,hx⟩,hp,hs,ht,hy⟩:=id bk;refine⟨_,(ah (aH (bq (ba (aw G21 (ak (bL (is:=[]) (xs:=["entry"]) (ns:=[]) hh.calm (aQ (aa S1)) {} (λ_ _ _ _ _=>(a7 (i:=0) (by decide+kernel) rfl rfl)) (λ_ _ _ _ _=>bN) (λ_ _ _ _ _=>(af br (aO (i:=0) rfl rfl (by decide) (by decide)) ae aj)) hh.hsc hh.hN)))))
 (ag (au a5))
 aI)
 (ah (aA S2 hh.nd (bB G0i (aa S0) rfl))
 (ah (aA S3 hh.nd (aw G0T (ak (aa S0))))
 (ah (aA S4 hh.nd (aw G0E (ak (aa S1))))
 (ah (J.K7 hh hcode (hq _) hC hM hb S5 rfl rfl rfl (by decide+kernel))
 (ag (au (aJ G0a (bT hh.calm) L2.iz (ak (J.MC (sc:=L2.cF eO) (N:=["book", "some", "sights", "talk_hours", "hours", "is_good"]) (is:=[5]) (js:=[2,3,4]) (xs:=["person", "hour", "way"]) (ns:=["is_good"]) (i:=3) hh G2z (by first|decide|exact le_refl _) (aQ (aa S1)) {} (λ_ _ _ _ _=>(cq (n:=3) hh.calm (aG (a7 (i:=0) (by decide+kernel) rfl rfl) (aG (a7 (i:=1) (by decide+kernel) rfl rfl) (aG (a7 (i:=2) (by decide+kernel) rfl rfl) bj))))) (λ_ _ _ _ _=>bN) (λ_ _ _ _ _=>(a8 (i:=3) rfl rfl (by decide) (by decide))) (λ_ _ _ _ _=>(aP (aO (i:=0) rfl rfl (by decide) (by decide)) (aO (i:=1) rfl rfl (by decide) (by decide)) (aO (i:=2) rfl rfl (by decide) (by decide)))) (by decide+kernel) rfl)))))))))),?_⟩
  refine⟨_,rfl,l,rfl,⟨_,cK.of hl⟩,eI (xs:=us) (eY rs λ_=>true) (uM rs λd=>V.str d.1) (cK.of hl) (by omega) ?_ ?_⟩
  ·intro i os v H2 K1 K2 hv hos s2 k1 k2
   match os,hos with
   |[o1],_=>
    obtain⟨d,hd,a,wa,rfl,ha,hw⟩:=lz.at hv;rw[dw hd]at k1;rw[gD hd]at k1;exact⟨⟨[some (.ref a)],rfl,rfl⟩,dk (B:=K2 H2) ⟨_,rfl,xT (s2 _ _ ha) rfl (k1 rfl H2 (cH.refl _))⟩⟩
  intro o H1 no1 s1 ho;rw[ul,d6,filter_eq_self.mpr (λ_ _=>rfl)]at ho;have ho:H1 o=some (.lst ((rs.map (·.1)).map V.str)):=by
   rw[ho,map_map];rfl
  refine⟨o,rs.map (·.1),rfl,ho,by rw[length_map];omega,λH2 s2=>⟨_,rfl,du (λhr=>?_) (λhr=>?_)⟩⟩
  ·have s02:=s1.trans s2
   have e:BZ sg qd rs=false:=by
    unfold BZ;rw[(not_eq_true' _).mp hr];rfl
   have:=k H2 (.of s02) (tb.mono s02);rw[e]at this;exact this
  have hr:mZ (rs.map (·.1))=true:=by
   cases q:mZ (rs.map (·.1)) with
   |true=>rfl
   |false=>rw[q]at hr;exact absurd rfl hr
  have s02:=s1.trans s2;refine⟨_,rfl,x,dx,_,rfl,s02 _ _ hx,eB _ _ _ _ (by decide+kernel) (by decide+kernel) (by decide+kernel) (by decide+kernel),x,p,s,t,y,ss,rfl,⟨dx,s02 _ _ hx⟩,s02 _ _ hs,λtS ntS=>?_⟩;have s3:=cH.upd (o:=.lst ss) ntS;have htS:upd H2 tS (.lst ss) tS=some (.lst ss):=cD;generalize upd H2 tS (.lst ss)=H3 at s3 htS;have s03:=s02.trans s3;refine⟨_,rfl,x,p,s,t,y,ps,ss,ts,ys,qd,rfl,bk.mono s03,tl,qs.mono (cY.mono (Tk.of s03)),qk,λth kvs H4 s4 nth hth g3=>?_⟩;have s04:=s03.trans s4;refine⟨_,rfl,l,us,rs,rfl,s04 _ _ hl,lz.mono (fq.mono (Tk.of s04)),uQ hr,rl,λdh H5 s5 ndh hdh=>?_⟩;have s05:=s04.trans s5;refine B8 (tb.mono s05) λc q H6 sP tb6 nq nqP hq6 hc6=>?_;have neP:∀{b:Addr}{o:HO},H5 b=some o->(∀ps,o≠.tbl ps)->H6 b=some o:=λ{b o} e n=>by
   refine sP b o (λz=>?_) e;obtain⟨ps',h1,_⟩:=tb.mono s05;rw[z,h1]at e;cases e;exact n _ rfl
  have tk6:Tk H5 H6:=λb xs e=>neP e (by intro _ z;cases z);have hl6:=neP (s05 _ _ hl) (by intro _ z;cases z);have htS6:=neP (s5 _ _ (s4 _ _ htS)) (by intro _ z;cases z);have hth6:=neP (s5 _ _ hth) (by intro _ z;cases z);have hdh6:=neP hdh (by intro _ z;cases z);have tk06:Tk H H6:=(Tk.of s05).trans tk6;have lz6:=lz.mono (fq.mono tk06);have gs6:=gs.mono (cU.mono tk06);refine⟨_,rfl,l,rfl,⟨_,cK.of hl6⟩,eI (xs:=us) (eY rs λ_=>true) (uM rs λd=>V.bl (EH sg (f3 qd) (hI rs) d)) (cK.of hl6) (by omega) ?_ ?_⟩
  ·intro i os v H7 K1 K2 hv hos s7 k1 k2
   match os,hos with
   |[o1,o2,o3],_=>
    obtain⟨d,hd,a,wa,rfl,ha,hw⟩:=lz6.at hv;rw[dw hd]at k1;rw[gD hd]at k1;refine⟨a,_,rfl,dv.of (s7 _ _ ha),rfl,_,_,rfl,_,_,rfl,_,_,rfl,rfl,⟨[some (.str d.1),some (.int d.2.1),some (.ref wa)],rfl,rfl⟩,dk (B:=K2 H7) ?_⟩;exact⟨q,c,[.ref tS,.ref th,.ref dh],rfl,rfl,s7 _ _ hq6,_,rfl,_,rfl,_,rfl,s7 _ _ hq6,s7 _ _ hc6,tS,th,dh,wa,ss,sg,kvs,z0 rs,f3 qd,hI rs,d,rfl,rfl,s7 _ _ htS6,gs6.mono (cU.mono (Tk.of s7)),sl,s7 _ _ hth6,g3,s7 _ _ hdh6,rS rs,s7 _ _ hw,λH8 s8=>k1 rfl H8 s8⟩
  ·intro D' H7 hD' s7 hd'
   rw[ul,d6,filter_eq_self.mpr (λ_ _=>rfl)]at hd';have e2:(rs.map λd=>V.bl (EH sg (f3 qd) (hI rs) d))=(rs.map (EH sg (f3 qd) (hI rs))).map V.bl:=by rw[map_map];rfl
   rw[e2]at hd';refine⟨D',_,rfl,cK.of hd',?_⟩;have e3:(rs.map (EH sg (f3 qd) (hI rs))).all id=BZ sg qd rs:=by
    unfold BZ;rw[hr,Bool.true_and,all_map];rfl
   rw[e3];exact k H7 (((jN.of s05).trans sP).trans (.of s7)) (tb6.mono s7)
theorem Ei.mono{H H':Hp}(s:Tk H H'){wa:Addr}{w:WI}(h:Ei H wa w):Ei H' wa w:=s _ _ h
def Hj(q:QD)(a b:Str):Bool:=(decide (a=q.2.1) && decide (b=q.2.2.1)) || (decide (q.2.2.2= "both") && (decide (a=q.2.2.1) && decide (b=q.2.1)))
theorem jz(n:Nat)(a b:Str):∀(qd:List QD) (k:Nat),(n,a,b)∈eP k (eV qd)↔∃j q,qd[j]? =some q/\n=k+j/\Hj q a b=true
 |[],k=>⟨λh=>(by cases h),λ⟨j,q,h,_⟩=>by cases h⟩
 |q::r,k=>by
  have e:eP k (eV (q::r))=dM k q.2++eP (k+1) (eV r):=rfl;rw[e,mem_append,jz n a b r (k+1)];have one:(n,a,b)∈dM k q.2↔n=k/\Hj q a b=true:=by
   unfold dM Hj;by_cases hb:q.2.2.2= "both"
   ·rw[if_pos hb,dT0 hb,Bool.true_and,mem_cons,mem_singleton,or_eq_true,and_eq_true,and_eq_true,decide_eq_true_iff,decide_eq_true_iff,decide_eq_true_iff,decide_eq_true_iff]
    simp only[Prod.mk.injEq];constructor
    ·rintro(⟨h1,h2,h3⟩|⟨h1,h2,h3⟩)
     ·exact⟨h1,.inl ⟨h2,h3⟩⟩
     ·exact⟨h1,.inr ⟨h2,h3⟩⟩
    ·rintro⟨h1,⟨h2,h3⟩|⟨h2,h3⟩⟩
     ·exact .inl ⟨h1,h2,h3⟩
     ·exact .inr ⟨h1,h2,h3⟩
   ·rw[if_neg hb,decide_eq_false hb,Bool.false_and,Bool.or_false,mem_singleton,and_eq_true,decide_eq_true_iff,decide_eq_true_iff]
    simp only[Prod.mk.injEq]
  rw[one];constructor
  ·rintro(⟨h1,h2⟩|⟨j,q',h1,h2,h3⟩)
   ·exact⟨0,q,rfl,h1,h2⟩
   ·exact⟨j+1,q',h1,by omega,h3⟩
  ·rintro⟨j,q',h1,h2,h3⟩
   cases j with
   |zero=>
    cases h1;exact .inl ⟨h2,h3⟩
   |succ j=>exact .inr ⟨j,q',h1,by omega,h3⟩
theorem Gj{qd:List QD}{n:Nat}{q:QD}{a b:Str}{h:Int}(hq:qd[n]? =some q):toD (f3 qd) (n:Int) a b h=(Hj q a b && decide (q.1=h)):=by
 unfold toD f3;have e:=jz n a b qd 0;rw[Int.toNat_natCast];by_cases m:Hj q a b=true
 ·rw[if_pos ⟨Int.natCast_nonneg n,e.mpr ⟨n,q,hq,by omega,m⟩⟩,m,dH hq]
  rfl
 ·rw[if_neg (λz=>m (by
   obtain⟨j,q',h1,h2,h3⟩:=e.mp z.2;have:j=n:=by omega
   rw[this,hq]at h1;cases h1;exact h3)),eF0 m]
  rfl
def zT(sg:List GD)(qd:List QD)(i:Int)(z:Str):WI->Prop
 |.saw n=>0<=n/\sg[n.toNat]? =some (z,i)
 |.hrd k te=>0<=k/\∃q,qd[k.toNat]? =some q/\q.1=i/\Hj q te z=true
def Ip(sg:List GD)(qd:List QD)(st:List RI):Prop:=∀d∈st,zT sg qd d.2.1 d.1 d.2.2/\∀k te,d.2.2=.hrd k te->sF (hI st) te d.2.1=true
theorem uk{st:List RI}{d:RI}(nd:(st.map (·.1)).Nodup)(m:d∈st):hI st d.1=some d.2.1:=by
 unfold hI;cases h:st.find? λx=>decide (x.1=d.1) with
 |none=>exact absurd (dT0 rfl) (List.find?_eq_none.mp h d m)
 |some e=>
  have e1:e.1=d.1:=of_decide_eq_true (List.find?_some (p:=λx:RI=>decide (x.1=d.1)) h);have me:=List.mem_of_find?_eq_some h;obtain⟨i,hi⟩:=getElem?_of_mem me;obtain⟨j,hj⟩:=getElem?_of_mem m;have h1:(st.map (·.1))[i]? =some d.1:=by rw[getElem?_map,hi];exact congrArg some e1
  have h2:(st.map (·.1))[j]? =some d.1:=by rw[getElem?_map,hj];rfl
  have:=(List.getElem?_inj (gI0.mp h1).1 nd).mp (h1.trans h2.symm);subst this;rw[hi]at hj;cases hj;rfl
theorem xD{st:List RI}{d:RI}{te:Str}{h:Int}(e:sF (hI st) te h=true):sF (hI (st++[d])) te h=true:=by
 unfold sF hI at e ⊢;rw[List.find?_append];cases q:st.find? λx=>decide (x.1=te) with
 |none=>rw[q]at e;cases e
 |some x=>
  rw[q]at e;exact e
theorem BC{sg:List GD}{qd:List QD}{st:List RI}{z:Str}{h:Int}{w:WI}(g:Ip sg qd st)(hk:zT sg qd h z w)(hg:∀k te,w=.hrd k te->sF (hI st) te h=true):Ip sg qd (st++[(z,h,w)]):=λd hd=>by
 rcases mem_append.mp hd with hd|hd
 ·obtain⟨h1,h2⟩:=g d hd
  exact⟨h1,λk te e=>xD (h2 k te e)⟩
 ·rw[mem_singleton.mp hd]
  exact⟨hk,λk te e=>xD (hg k te e)⟩
theorem oZ:∀{zs:List Str},zs.Nodup->PyProof.Rows.sortedS zs=true->zs.Pairwise λa b=>CL a b=true
 |[],_,_=>.nil
 |x::r,nd,h=>by
  refine pairwise_cons.mpr ⟨λy hy=>?_,oZ (nodup_cons.mp nd).2 (i9 h)⟩;have h1:=iM h y hy;cases q:PySem.Spec.ltCps x.cps.toList y.cps.toList with
  |true=>
   rw[PyProof.Rows.ltCps_eq]at q;exact q
  |false=>
   have e:x=y:=su (qC q h1);exact absurd (e ▸ hy) (nodup_cons.mp nd).1
theorem zG{sg:List GD}{qd:List QD}{G:FH}{d:RI}(h:zT sg qd d.2.1 d.1 d.2.2)(hl:∀k te,d.2.2=.hrd k te->sF G te d.2.1=true):EH sg (f3 qd) G d=true:=by
 obtain⟨z,i,w⟩:=d;cases w with
 |saw n=>
  obtain⟨h0,h1⟩:=h;have hn:=(gI0.mp h1).1;show Kb sg n z i=true;unfold Kb;rw[h1,dT0 h0,dT0 (show n < sg.length by omega)];show((true && true) && (decide (z=z) && decide (i=i)))=true;rw[dT0 (rfl:z=z),dT0 (rfl:i=i)];rfl
 |hrd k te=>
  obtain⟨h0,q,h1,h2,h3⟩:=h;obtain⟨n,rfl⟩:=Int.eq_ofNat_of_zero_le h0;rw[Int.toNat_natCast]at h1;show(toD (f3 qd) (n:Int) te z i && sF G te i)=true;rw[Gj h1,h3,dT0 h2,hl _ te rfl];rfl
abbrev KA:=RI×Addr
def qg(ks:List KA):List (Key×V):=ks.map λp=>(Sum.inr p.1.1,V.ref p.2)
def HH(H:Hp)(ks:List KA):Prop:=∀p∈ks,∃w,H p.2=some (.tup [.int p.1.2.1,.ref w])/\Ei H w p.1.2.2
theorem HH.mono{H H':Hp}(s:Tk H H'){ks:List KA}(h:HH H ks):HH H' ks:=λp hp=>by
 obtain⟨w,h1,h2⟩:=h p hp;exact⟨w,s _ _ h1,h2.mono s⟩
theorem lB:∀(ks:List KA) (z:Str),(dr (qg ks) (Sum.inr z)=none/\∀p∈ks,p.1.1≠z)\/∃p∈ks,p.1.1=z/\dr (qg ks) (Sum.inr z)=some (.ref p.2)
 |[],z=>.inl ⟨rfl,λp hp=>by cases hp⟩
 |p::ks,z=>by
  by_cases e:p.1.1=z
  ·refine .inr ⟨p,.head _,e,?_⟩
   unfold dr qg;rw[map_cons,List.find?_cons_of_pos (by exact dT0 (congrArg Sum.inr e))];rfl
  ·have e2:dr (qg (p::ks)) (Sum.inr z)=dr (qg ks) (Sum.inr z):=by
    unfold dr qg;rw[map_cons,List.find?_cons_of_neg (by
     intro h;exact e (Sum.inr.inj (of_decide_eq_true h)))]
   rw[e2];rcases lB ks z with ⟨h1,h2⟩|⟨p',m,h1,h2⟩
   ·exact .inl ⟨h1,λp' hp'=>by
     rcases mem_cons.mp hp' with rfl|hp'
     ·exact e
     ·exact h2 p' hp'⟩
   ·exact .inr ⟨p',.tail _ m,h1,h2⟩
theorem CD{ks:List KA}{p:KA}(h:∀q∈ks,q.1.1≠p.1.1):putK (qg ks) (Sum.inr p.1.1) (.ref p.2)=qg (ks++[p]):=by
 have no:((qg ks).any λkv=>decide (kv.1=Sum.inr p.1.1))=false:=by
  rw[any_eq_false];intro kv hkv e;obtain⟨q,hq,rfl⟩:=mem_map.mp hkv;exact h q hq (Sum.inr.inj (of_decide_eq_true e))
 unfold putK;rw[no,if_neg bF0];unfold qg;rw[map_append];rfl
theorem C0{ks:List KA}{p:KA}{te:Str}{h:Int}(nd:(ks.map (·.1.1)).Nodup)(m:p∈ks)(e:p.1.1=te)(l:p.1.2.1 < h):sF (hI (ks.map (·.1))) te h=true:=by
 have:=uk (st:=ks.map (·.1)) (d:=p.1) (by rw[map_map];exact nd) (mem_map_of_mem m);unfold sF;rw[<-e,this];exact dT0 l
theorem yE{sg:List GD}{qd:List QD}{ks:List KA}{st:List RI}(gd:Ip sg qd (ks.map (·.1)))(nk:(ks.map (·.1.1)).Nodup)(pm:(st.map (·.1)).Perm (ks.map (·.1.1)))(nd:(st.map (·.1)).Nodup)(so:PyProof.Rows.sortedS (st.map (·.1))=true)(ho:∀d∈st,∃p∈ks,d=p.1):BZ sg qd st=true:=by
 unfold BZ;rw[wQ (oZ nd so),Bool.true_and,all_eq_true];intro d hd;obtain⟨p,mp,rfl⟩:=ho d hd;obtain⟨h1,h2⟩:=gd p.1 (mem_map_of_mem mp);refine zG h1 λk te e=>?_;have h3:=h2 k te e;unfold sF at h3;cases hF:hI (ks.map (·.1)) te with
 |none=>rw[hF]at h3;cases h3
 |some j=>
  rw[hF]at h3;obtain⟨d',md',e1,e2⟩:=oY hF;obtain⟨p',mp',rfl⟩:=mem_map.mp md';obtain⟨d2,md2,e3⟩:=mem_map.mp (pm.mem_iff.mpr (mem_map.mpr ⟨p',mp',rfl⟩));obtain⟨p2,mp2,rfl⟩:=ho d2 md2;have hh:=uk nd md2;have u1:=uk (st:=ks.map (·.1)) (d:=p2.1) (by rw[map_map];exact nk) (mem_map_of_mem mp2);have e3:p2.1.1=p'.1.1:=e3;rw[e3,e1,hF]at u1;rw[e3,e1]at hh;unfold sF;rw[hh,<-Option.some.inj u1];exact h3
theorem xv{H:Hp}{O:RI->Prop}:∀(ys:List V) (zs:List Str),ys.length=zs.length->(∀(j:Nat) v z,ys[j]? =some v->zs[j]? =some z->∃d:RI,d.1=z/\O d/\fq H v d)->∃st:List RI,st.map (·.1)=zs/\Lz fq H ys st/\∀d∈st,O d
 |[],[],_,_=>⟨[],rfl,⟨rfl,λi v d h=>by cases h⟩,λd hd=>by cases hd⟩
 |[],_::_,h,_=>by cases h
 |_::_,[],h,_=>by cases h
 |v::ys,z::zs,h,k=>by
  obtain⟨st,e,lz,ho⟩:=xv ys zs (Nat.succ.inj h) λj v z h1 h2=>k (j+1) v z h1 h2;obtain⟨d,e1,h1,h2⟩:=k 0 v z rfl rfl;refine⟨d::st,by rw[map_cons,e1,e],⟨congrArg Nat.succ lz.1,λi u d' hu hd=>?_⟩,λd' hd=>?_⟩
  ·cases i with
   |zero=>
    cases hu;cases hd;exact h2
   |succ i=>exact lz.2 i u d' hu hd
  ·rcases mem_cons.mp hd with rfl|hd
   ·exact h1
   ·exact ho d' hd
def GA(F:FH)(q:Str)(o:Option Int):Bool:=match F q with
 |none=>true
 |some i=>match o with
  |none=>false
  |some j=>decide (i > j)
inductive M9(vs:List V)(H:Hp)(Q:VK):Prop
 |mk(d:Addr)(q:Str)(o:Option Int)(kvs:List (Key×V))(F:FH)(e:vs=[.ref d,.str q,oV o])(hd:H d=some (.dK kvs))(get:∀z,dr kvs (Sum.inr z)=(F z).map V.int)(k:Q (.bl (GA F q o)) H)
def Gg:Sp:=λvs H Q _=>M9 vs H Q
def xi(q:Str)(d:RI):Bool:=match d.2.2 with
 |.saw _=>false
 |.hrd _ te=>decide (te=q)
def CA(p:Str)(d:RI):Bool:=decide (d.1=p) && (match d.2.2 with|.saw _=>false|.hrd _ _=>true)
theorem wY{H:Hp}:∀{us:List V}{st:List RI},Lz fq H us st->∃ws:List (Addr×RI),ws.map (·.2)=st/\∀(i:Nat) v pr,us[i]? =some v->ws[i]? =some pr->∃a,v=.ref a/\H a=some (.tup [.str pr.2.1,.int pr.2.2.1,.ref pr.1])/\Ei H pr.1 pr.2.2.2
 |[],[],_=>⟨[],rfl,λi v pr h=>by cases h⟩
 |[],_::_,lz=>by cases lz.1
 |_::_,[],lz=>by cases lz.1
 |u::us,d::st,lz=>by
  obtain⟨a,wa,rfl,ha,hw⟩:=lz.2 0 u d rfl rfl;obtain⟨ws,e,h⟩:=wY (us:=us) (st:=st) ⟨Nat.succ.inj lz.1,λi v d h1 h2=>lz.2 (i+1) v d h1 h2⟩;refine⟨(wa,d)::ws,by rw[map_cons,e],λi v pr h1 h2=>?_⟩;cases i with
  |zero=>
   cases h1;cases h2;exact⟨a,rfl,ha,hw⟩
  |succ j=>exact h j v pr h1 h2
theorem mV:cI ["hours", "person", "hour"] ["hours", "person", "hour"] (cF gb):={}
theorem Jv (D:Df K mg "fits_unheard" gb ["hours", "person", "hour"] f fd):Gd P w K mg base 1 "fits_unheard" Gg:=by
 refine aF D mV λX H vs Q E hh h=>?_;obtain⟨d,q,o,kvs,F,rfl,hd,get,k⟩:=h;obtain⟨S0,S1,S2,_⟩:=hh.d9 [0,1,2];have hu:=dY hh.room;refine⟨_,(ag (au (J.qp (J.lT hu (aa S1) (aa S0)) (aZ (aV (aU cC (aa S2) bE (L2.cJ _)) (aZ (aU b9 (bh hu (aa S0) (aa S1) aK) (aa S2) (L2.cJ _)))))))),?_⟩;have dg:=dN.k (k:=Sum.inr q) hd;rw[get]at dg;unfold GA at k;cases hI:F q with
 |none=>
  rw[hI]at k dg;exact⟨_,rfl,_,rfl,d,_,rfl,dg,_,rfl,dk k⟩
 |some i=>
  rw[hI]at k dg;cases o with
  |none=>exact⟨_,rfl,_,rfl,d,_,rfl,dg,_,rfl,cW ⟨_,rfl,rfl,_,rfl,cW k⟩⟩
  |some j=>exact⟨_,rfl,_,rfl,d,_,rfl,dg,_,rfl,cW ⟨_,rfl,rfl,_,rfl,dk ⟨_,rfl,_,rfl,d,_,rfl,dg,_,rfl,_,_,rfl,rfl,k⟩⟩⟩
def Hm(F:FH)(q:Str)(h:Int):Bool:=match F q with
 |none=>false
 |some i=>decide (i<=h)
def Ej(b e h:Int):Bool:=decide (b<=h) && decide (h<=e)
def J7(q:Str)(b e:Int)(d:RI):Bool:=xi q d && Ej b e d.2.1
def HL(p q:Str)(d:RI):Bool:=CA p d && xi q d
def tI(st:List RI):SD->Bool
 |.knew q h=>Hm (hI st) q h
 |.unh q o=>GA (hI st) q o
 |.sil q b e=> !(st.any (J7 q b e))
 |.bar p q=> !(st.any (HL p q))
inductive NH(vs:List V)(H:Hp)(Q:VK):Prop
 |mk(d:Addr)(q:Str)(h:Int)(kvs:List (Key×V))(F:FH)(e:vs=[.ref d,.str q,.int h])(hd:H d=some (.dK kvs))(get:∀z,dr kvs (Sum.inr z)=(F z).map V.int)(k:Q (.bl (Hm F q h)) H)
def EU:Sp:=λvs H Q _=>NH vs H Q
inductive MV(vs:List V)(H:Hp)(Q:VK):Prop
 |mk(l:Addr)(us:List V)(st:List RI)(q:Str)(b e:Int)(ev:vs=[.ref l,.str q,.int b,.int e])(hl:H l=some (.lst us))(lz:Lz fq H us st)(sl:st.length<=24)(k:∀H',cH H H'->Q (.bl (!(st.any (J7 q b e)))) H')
def Ft:Sp:=λvs H Q _=>MV vs H Q
inductive M8(vs:List V)(H:Hp)(Q:VK):Prop
 |mk(l:Addr)(us:List V)(st:List RI)(p q:Str)(ev:vs=[.ref l,.str p,.str q])(hl:H l=some (.lst us))(lz:Lz fq H us st)(sl:st.length<=24)(k:∀H',cH H H'->Q (.bl (!(st.any (HL p q)))) H')
def GJ:Sp:=λvs H Q _=>M8 vs H Q
inductive MK(vs:List V)(H:Hp)(Q:VK):Prop
 |mk(l a:Addr)(us:List V)(st:List RI)(d:SD)(e:vs=[.ref l,.ref a])(hl:H l=some (.lst us))(lz:Lz fq H us st)(nd:(st.map (·.1)).Nodup)(sl:st.length<=24)(ha:H a=some (.tup d.tup))(k:∀H',cH H H'->Q (.bl (tI st d)) H')
def Gm:Sp:=λvs H Q _=>MK vs H Q
def bx(st:List RI)(sd:List SD):List V:=((List.range sd.length).filter (eY sd λd=> !tI st d)).map λi=>V.int (i:Nat)
inductive NP(C:Addr)(vs:List V)(H:Hp)(Q:VK):Prop
 |mk(x p s t y l:Addr)(ps:List Str)(ss ts ys us:List V)(sd:List SD)(st:List RI)(e:vs=[.ref x,.ref l])(bk:Bk C H x p s t y ps ss ts ys)(sy:Sys H ys sd)(l60:ys.length<=60)(hl:H l=some (.lst us))(lz:Lz fq H us st)(nd:(st.map (·.1)).Nodup)(sl:st.length<=24)
   (k:∀o H',cH H H'->H o=none->H' o=some (.lst (bx st sd))->Q (.ref o) H')
def zE(C:Addr):Sp:=λvs H Q _=>NP C vs H Q
theorem pf{α:Type}(f g:α->Bool)(l:List α):((l.filter f).map g).any id=l.any λd=>f d && g d:=by
 induction l with
 |nil=>rfl
 |cons d r ih=>
  rw[filter_cons,any_cons];cases h:f d with
  |true=>
   rw[if_pos rfl,map_cons,any_cons,ih];rfl
  |false=>
   rw[if_neg bF0,ih];rfl
theorem rA:cI ["hours", "person", "hour"] ["hours", "person", "hour"] (cF i7):={}
theorem Hx (D:Df K mg "fits_knew" i7 ["hours", "person", "hour"] f fd):Gd P w K mg base 1 "fits_knew" EU:=by
 refine aF D rA λX H vs Q E hh h=>?_;obtain⟨d,q,h,kvs,F,rfl,hd,get,k⟩:=h;obtain⟨S0,S1,S2,_⟩:=hh.d9 [0,1,2];have hu:=dY hh.room;refine⟨_,(ag (au (aV (J.lN hu (aa S1) (aa S0)) (aZ (aU bD (bh hu (aa S0) (aa S1) aK) (aa S2) (L2.cJ _)))))),?_⟩;have dg:=dN.k (k:=Sum.inr q) hd;rw[get]at dg;unfold Hm at k;cases hI:F q with
 |none=>
  rw[hI]at k dg;exact⟨_,rfl,_,rfl,d,_,rfl,dg,_,rfl,cW k⟩
 |some i=>
  rw[hI]at k dg;exact⟨_,rfl,_,rfl,d,_,rfl,dg,_,rfl,dk ⟨_,rfl,_,rfl,d,_,rfl,dg,_,rfl,_,_,rfl,rfl,k⟩⟩
theorem ox:cI ["story", "person", "begin", "end", "heard"] ["story", "person", "begin", "end"] (cF gM):={}
theorem HV (D:Df K mg "fits_silent" gM ["story", "person", "begin", "end"] f fd) (T:Txt K mg kw C):Gd P w K mg base 1 "fits_silent" Ft:=by
 refine aF D ox λX H vs Q E hh h=>?_;obtain⟨l,us,st,q,b,e,rfl,hl,lz,sl,k⟩:=h;obtain⟨S0,S1,S2,S3,S4,_⟩:=hh.d9 [0,1,2,3,4];have G1d:=hh.b T.b_any;have hsz:sizeLine=16777216:=sizeLine_eq;have ul:=lz.1;refine⟨_,(ah (cn (is:=[1]) (xs:=["hearer", "hour", "way"]) (ns:=["person"]) S4 hh.nd hh.calm (aQ (aa S0)) {} (λ_ _ _ _ _=>(cq (n:=3) hh.calm (aG (a7 (i:=0) (by decide+kernel) rfl rfl) (aG (a7 (i:=1) (by decide+kernel) rfl rfl) (aG (a7 (i:=2) (by decide+kernel) rfl rfl) bj))))) (λ_ _ _ _ _=>(bX (aX (bg (aB aL (af br (aO (i:=2) rfl rfl (by decide) (by decide)) ae aj) aM (L2.cJ _)) (bz (aB aL (af br (aO (i:=2) rfl rfl (by decide) (by decide)) ae aj) (a8 (i:=3) rfl rfl (by decide) (by decide)) (L2.cJ _))))))) (λ_ _ _ _ _=>(aO (i:=1) rfl rfl (by decide) (by decide))) hh.hsc hh.hN (by decide+kernel))
 (ag (au (J.oq (aJ G1d (J.hZ hh.calm) L2.vB (ak (bL (is:=[2,3]) (xs:=["hour"]) (ns:=["begin", "end"]) hh.calm (aQ (aa S4)) {} (λ_ _ _ _ _=>(a7 (i:=0) (by decide+kernel) rfl rfl)) (λ_ _ _ _ _=>bN) (λ_ _ _ _ _=>(J.f9 bD bD (a8 (i:=1) rfl rfl (by decide) (by decide)) (aO (i:=0) rfl rfl (by decide) (by decide)) (a8 (i:=2) rfl rfl (by decide) (by decide)) L2.iK)) hh.hsc hh.hN))))))),?_⟩
 refine⟨_,rfl,l,rfl,⟨_,cK.of hl⟩,eI (xs:=us) (eY st (xi q)) (uM st λd=>V.int d.2.1) (cK.of hl) (by omega) ?_ ?_⟩
 ·intro i os v H2 K1 K2 hv hos s2 k1 k2
  match os,hos with
  |[o1,o2,o3],_=>
   obtain⟨d,hd,a,wa,rfl,ha,hw⟩:=lz.at hv;rw[dw hd]at k1 k2;rw[gD hd]at k1;refine⟨a,_,rfl,dv.of (s2 _ _ ha),rfl,_,_,rfl,_,_,rfl,_,_,rfl,rfl,⟨[some (.str d.1),some (.int d.2.1),some (.ref wa)],rfl,rfl⟩,?_⟩;obtain⟨z,h,w⟩:=d;cases w with
   |saw i'=>exact⟨_,rfl,xT (s2 _ _ hw) rfl ⟨rfl,_,rfl,iN (cW (k2 rfl H2 (cH.refl _)))⟩⟩
   |hrd kk te=>
    refine⟨_,rfl,xT (s2 _ _ hw) rfl ⟨rfl,_,rfl,iP ⟨_,rfl,xT (s2 _ _ hw) rfl ⟨_,rfl,rfl,_,rfl,du (λhq=>⟨_,rfl,k1 ?_ H2 (cH.refl _)⟩) (λhq=>k2 ?_ H2 (cH.refl _))⟩⟩⟩⟩
    ·exact dT0 (V.str.inj (of_decide_eq_true hq))
    ·exact decide_eq_false λe=>hq (dT0 (congrArg V.str e))
 intro o H1 no1 s1 ho;rw[ul,d6]at ho;have fl:=length_filter_le (xi q) st;refine⟨_,rfl,o,rfl,⟨_,cK.of ho⟩,eI (xs:=(st.filter (xi q)).map λd=>V.int d.2.1) (eY (st.filter (xi q)) λ_=>true) (uM (st.filter (xi q)) λd=>V.bl (Ej b e d.2.1)) (cK.of ho) (by rw[length_map];omega) ?_ ?_⟩
 ·intro i os v H2 K1 K2 hv hos s2 k1 k2
  match os,hos with
  |[o1],_=>
   rw[getElem?_map]at hv;obtain⟨d,hd,rfl⟩:=map_eq_some_iff.mp hv;rw[dw hd]at k1;rw[gD hd]at k1;unfold Ej at k1;refine⟨⟨[some (.int d.2.1)],rfl,rfl⟩,dk (B:=K2 H2) ⟨_,rfl,_,rfl,_,_,rfl,rfl,_,rfl,du (λhb=>⟨_,rfl,_,_,rfl,rfl,?_⟩) (λhb=>?_)⟩⟩
   ·rw[hb,Bool.true_and]at k1
    exact k1 rfl H2 (cH.refl _)
   ·rw[eF0 hb,Bool.false_and]at k1
    exact k1 rfl H2 (cH.refl _)
 ·intro D2 H3 hD2 s3 hd3
  rw[length_map,d6,filter_eq_self.mpr (λ_ _=>rfl)]at hd3;have e2:((st.filter (xi q)).map λd=>V.bl (Ej b e d.2.1))=((st.filter (xi q)).map λd=>Ej b e d.2.1).map V.bl:=by rw[map_map];rfl
  rw[e2]at hd3;refine⟨D2,_,rfl,cK.of hd3,?_⟩;rw[pf];exact⟨_,rfl,k _ (s1.trans s3)⟩
theorem pH:cI ["story", "person", "other", "ways"] ["story", "person", "other"] (cF gG):={}
theorem JQ (D:Df K mg "fits_barred" gG ["story", "person", "other"] f fd) (T:Txt K mg kw C):Gd P w K mg base 1 "fits_barred" GJ:=by
 refine aF D pH λX H vs Q E hh h=>?_;obtain⟨l,us,st,p,q,rfl,hl,lz,sl,k⟩:=h;obtain⟨S0,S1,S2,S3,_⟩:=hh.d9 [0,1,2,3];have G1d:=hh.b T.b_any;have hsz:sizeLine=16777216:=sizeLine_eq;obtain⟨ws,we,wr⟩:=wY lz;have ul:=lz.1;have wl:ws.length=st.length:=by rw[<-we,length_map]
 have wat:∀{i:Nat}{v:V},us[i]? =some v->∃pr,ws[i]? =some pr:=λh=>⟨_,getElem?_eq_getElem (by rw[wl,<-ul];exact(gI0.mp h).1)⟩;refine⟨_,(ah (cn (is:=[1]) (xs:=["hearer", "hour", "way"]) (ns:=["person"]) S3 hh.nd hh.calm (aQ (aa S0)) {} (λ_ _ _ _ _=>(cq (n:=3) hh.calm (aG (a7 (i:=0) (by decide+kernel) rfl rfl) (aG (a7 (i:=1) (by decide+kernel) rfl rfl) (aG (a7 (i:=2) (by decide+kernel) rfl rfl) bj))))) (λ_ _ _ _ _=>(bX (aX (bg (aB aL (aO (i:=0) rfl rfl (by decide) (by decide)) (a8 (i:=3) rfl rfl (by decide) (by decide)) (L2.cJ _)) (bz (aB aL (af br (aO (i:=2) rfl rfl (by decide) (by decide)) ae aj) aM (L2.cJ _))))))) (λ_ _ _ _ _=>(aO (i:=2) rfl rfl (by decide) (by decide))) hh.hsc hh.hN (by decide+kernel))
 (ag (au (J.oq (aJ G1d (J.hZ hh.calm) L2.vB (ak (bL (is:=[2]) (xs:=["way"]) (ns:=["other"]) hh.calm (aQ (aa S3)) {} (λ_ _ _ _ _=>(a7 (i:=0) (by decide+kernel) rfl rfl)) (λ_ _ _ _ _=>bN) (λ_ _ _ _ _=>(aU aL (af br (aO (i:=0) rfl rfl (by decide) (by decide)) ae aj) (a8 (i:=1) rfl rfl (by decide) (by decide)) (L2.cJ _))) hh.hsc hh.hN))))))),?_⟩
 refine⟨_,rfl,l,rfl,⟨_,cK.of hl⟩,eI (xs:=us) (eY ws λpr=>CA p pr.2) (uM ws λpr=>V.ref pr.1) (cK.of hl) (by omega) ?_ ?_⟩
 ·intro i os v H2 K1 K2 hv hos s2 k1 k2
  match os,hos with
  |[o1,o2,o3],_=>
   obtain⟨⟨wa,d⟩,hpr⟩:=wat hv;obtain⟨a,rfl,ha,hw⟩:=wr i _ _ hv hpr;rw[dw hpr]at k1 k2;rw[gD hpr]at k1;refine⟨a,_,rfl,dv.of (s2 _ _ ha),rfl,_,_,rfl,_,_,rfl,_,_,rfl,rfl,⟨[some (.str d.1),some (.int d.2.1),some (.ref wa)],rfl,rfl⟩,?_⟩;obtain⟨z,h,w⟩:=d;refine⟨_,rfl,_,rfl,rfl,_,rfl,du (λe1=>?_) (λe1=>cW (k2 ?_ H2 (cH.refl _)))⟩
   ·have e1':z=p:=V.str.inj (of_decide_eq_true e1)
    cases w with
    |saw i'=>
     refine⟨_,rfl,xT (s2 _ _ hw) rfl ⟨rfl,_,rfl,iN (k2 ?_ H2 (cH.refl _))⟩⟩;exact Bool.and_false _
    |hrd kk te=>
     refine⟨_,rfl,xT (s2 _ _ hw) rfl ⟨rfl,_,rfl,iP ⟨_,rfl,k1 ?_ H2 (cH.refl _)⟩⟩⟩;show(decide (z=p) && true)=true;rw[dT0 e1'];rfl
   ·show(decide (z=p) && _)=false
    rw[decide_eq_false λe=>e1 (dT0 (congrArg V.str e))];rfl
 intro o H1 no1 s1 ho;rw[ul,<-wl,d6]at ho;have fl:=length_filter_le (λpr:Addr×RI=>CA p pr.2) ws;refine⟨_,rfl,o,rfl,⟨_,cK.of ho⟩,eI (xs:=(ws.filter λpr=>CA p pr.2).map λpr=>V.ref pr.1) (eY (ws.filter λpr=>CA p pr.2) λ_=>true) (uM (ws.filter λpr=>CA p pr.2) λpr=>V.bl (xi q pr.2)) (cK.of ho) (by rw[length_map];omega) ?_ ?_⟩
 ·intro i os v H2 K1 K2 hv hos s2 k1 k2
  match os,hos with
  |[o1],_=>
   rw[getElem?_map]at hv;obtain⟨⟨wa,d⟩,hd,rfl⟩:=map_eq_some_iff.mp hv;rw[dw hd]at k1;rw[gD hd]at k1;obtain⟨md,mf⟩:=mem_filter.mp (mem_of_getElem? hd);obtain⟨j,hj⟩:=getElem?_of_mem md;obtain⟨vj,hvj⟩:∃vj,us[j]? =some vj:=⟨_,getElem?_eq_getElem (by rw[ul,<-wl];exact(gI0.mp hj).1)⟩;obtain⟨a,_,_,hw⟩:=wr j _ _ hvj hj;obtain⟨z,h,w⟩:=d;cases w with
   |saw i'=>
    have mf':(decide (z=p) && false)=true:=mf;rw[Bool.and_false]at mf';cases mf'
   |hrd kk te=>
    refine⟨⟨[some (.ref wa)],rfl,rfl⟩,dk (B:=K2 H2) ⟨_,rfl,xT (s2 _ _ (s1 _ _ hw)) rfl ⟨_,rfl,rfl,?_⟩⟩⟩;have e3:decide (V.str te=V.str q)=xi q (z,h,.hrd kk te):=decide_eq_decide.mpr ⟨λe=>V.str.inj e,λe=>congrArg V.str e⟩;rw[e3];exact k1 rfl H2 (cH.refl _)
 ·intro D2 H3 hD2 s3 hd3
  rw[length_map,d6,filter_eq_self.mpr (λ_ _=>rfl)]at hd3;have e2:((ws.filter λpr=>CA p pr.2).map λpr=>V.bl (xi q pr.2))=((ws.filter λpr=>CA p pr.2).map λpr=>xi q pr.2).map V.bl:=by rw[map_map];rfl
  rw[e2]at hd3;refine⟨D2,_,rfl,cK.of hd3,?_⟩;rw[pf];have e4:(ws.any λpr=>CA p pr.2 && xi q pr.2)=st.any (HL p q):=by rw[<-we,any_map];rfl
  rw[e4];exact⟨_,rfl,k _ (s1.trans s3)⟩
theorem Cu:cI ["story", "saying"] ["story", "saying"] (cF vc):={}
theorem J0 (D:Df K mg "fits" vc ["story", "saying"] f fd) (G0O:Gd P w K mg base 1 "hours_in" DF) (G2n:Gd P w K mg base 1 "fits_knew" EU) (G1l:Gd P w K mg base 1 "fits_unheard" Gg) (G1G:Gd P w K mg base 1 "fits_silent" Ft) (G1H:Gd P w K mg base 1 "fits_barred" GJ):Gd P w K mg base 2 "fits" Gm:=by
 refine aF D Cu λX H vs Q E hh h=>?_;obtain⟨l,a,us,st,d,rfl,hl,lz,nd,sl,ha,k⟩:=h;obtain⟨S0,S1,_⟩:=hh.d9 [0,1];have G1I:=hh.c G1H;have G2o:=hh.c G2n;have G1J:=hh.c G1G;have G1m:=hh.c G1l;have G0E:=hh.c G0O;refine⟨_,(ah (aH (aB aL (af ao (aa S1) ae aj) aM (L2.cJ _))
 (ag (au (aw G2o (aP (aw G0E (ak (aa S0))) (af ao (aa S1) ae aj) (af ao (aa S1) ae aj)))))
 aI)
 (ah (aH (aB aL (af ao (aa S1) ae aj) aM (L2.cJ _))
 (ag (au (aw G1m (aP (aw G0E (ak (aa S0))) (af ao (aa S1) ae aj) (af ao (aa S1) ae aj)))))
 aI)
 (ah (aH (aB aL (af ao (aa S1) ae aj) aM (L2.cJ _))
 (ag (au (aw G1J (bS (aa S0) (af ao (aa S1) ae aj) (af ao (aa S1) ae aj) (af ao (aa S1) ae aj)))))
 aI)
 (ag (au (aw G1I (aP (aa S0) (af ao (aa S1) ae aj) (af ao (aa S1) ae aj)))))))),?_⟩
 cases d with
 |knew q h=>
  refine⟨_,rfl,xT ha rfl ⟨rfl,_,rfl,iP ⟨_,rfl,l,us,st,rfl,hl,lz,nd,(by omega),λkn H1 s1 _ hk=>?_⟩⟩⟩;exact⟨_,rfl,xT (s1 _ _ ha) rfl ⟨_,rfl,xT (s1 _ _ ha) rfl ⟨kn,q,h,_,hI st,rfl,hk,rS st,k _ s1⟩⟩⟩
 |unh q o=>
  refine⟨_,rfl,xT ha rfl ⟨rfl,_,rfl,iN ⟨_,rfl,xT ha rfl ⟨rfl,_,rfl,iP ⟨_,rfl,l,us,st,rfl,hl,lz,nd,(by omega),λkn H1 s1 _ hk=>?_⟩⟩⟩⟩⟩;exact⟨_,rfl,xT (s1 _ _ ha) rfl ⟨_,rfl,xT (s1 _ _ ha) rfl ⟨kn,q,o,_,hI st,rfl,hk,rS st,k _ s1⟩⟩⟩
 |sil q b e=>
  refine⟨_,rfl,xT ha rfl ⟨rfl,_,rfl,iN ⟨_,rfl,xT ha rfl ⟨rfl,_,rfl,iN ⟨_,rfl,xT ha rfl ⟨rfl,_,rfl,iP ?_⟩⟩⟩⟩⟩⟩;exact⟨_,rfl,_,rfl,xT ha rfl ⟨_,rfl,xT ha rfl ⟨_,rfl,xT ha rfl ⟨l,us,st,q,b,e,rfl,hl,lz,sl,k⟩⟩⟩⟩
 |bar p o=>
  refine⟨_,rfl,xT ha rfl ⟨rfl,_,rfl,iN ⟨_,rfl,xT ha rfl ⟨rfl,_,rfl,iN ⟨_,rfl,xT ha rfl ⟨rfl,_,rfl,iN ?_⟩⟩⟩⟩⟩⟩;exact⟨_,rfl,_,rfl,xT ha rfl ⟨_,rfl,xT ha rfl ⟨l,us,st,p,o,rfl,hl,lz,sl,k⟩⟩⟩
theorem tQ:cI ["book", "story"] ["book", "story"] (cF jU):={}
theorem Jo (D:Df K mg "unfitted" jU ["book", "story"] f fd) (T:Txt K mg kw C) (G0u:Md P w K mg base 1 C "sayings" (c9 C λ_ _ _ y=>y)) (G2P:Gd P w K mg base 2 "fits" Gm):Gd P w K mg base 3 "unfitted" (zE C):=by
 refine aF D tQ λX H vs Q E hh h=>?_;obtain⟨x,p,s,t,y,l,ps,ss,ts,ys,us,sd,st,rfl,bk,sy,l60,hl,lz,nd,sl,k⟩:=h;obtain⟨S0,S1,_⟩:=hh.d9 [0,1];have G0g:=hh.b T.b_enumerate;have G2M:=hh.ci G2P;have G0v:=hh.met G0u (by decide);have hsz:sizeLine=16777216:=sizeLine_eq;refine⟨_,(ag (au (bL (is:=[1]) (xs:=["k", "saying"]) (ns:=["story"]) hh.calm (J.lx G0g (ak (bB G0v (aa S0) rfl))) {} (λ_ _ _ _ _=>(cq (n:=2) hh.calm (aG (a7 (i:=0) (by decide+kernel) rfl rfl) (aG (a7 (i:=1) (by decide+kernel) rfl rfl) bj)))) (λ_ _ _ _ _=>(bX (bq (ba (aw (G2M.lg rfl) (aD (a8 (i:=2) rfl rfl (by decide) (by decide)) (aO (i:=1) rfl rfl (by decide) (by decide)))))))) (λ_ _ _ _ _=>(aO (i:=0) rfl rfl (by decide) (by decide))) hh.hsc hh.hN))),?_⟩;obtain⟨⟨dx,hx⟩,hp,hs,ht,hy⟩:=id bk;refine⟨_,rfl,x,dx,_,rfl,hx,eB _ _ _ _ (by decide+kernel) (by decide+kernel) (by decide+kernel) (by decide+kernel),x,p,s,t,y,ys,rfl,⟨dx,hx⟩,hy,λyl nyl=>?_⟩;have s1:=cH.upd (o:=.lst ys) nyl;have hyl:upd H yl (.lst ys) yl=some (.lst ys):=cD;generalize upd H yl (.lst ys)=H1 at s1 hyl;refine⟨yl,rfl,⟨_,cK.of hyl⟩,uJ (xs:=ys) (eY sd λd=> !tI st d) (λi=>V.int (i:Nat)) (cK.of hyl) (by omega) ?_ ?_⟩
 ·intro i os v q H2 K1 K2 hv hos s3 hq k1 k2
  match os,hos with
  |[o1,o2],_=>
   obtain⟨d,a,hd,rfl,ha⟩:=sy.at hv;rw[dw hd]at k1 k2;have s4:=cH.upd (o:=.tup [.int i,.ref a]) hq;have s14:=(s1.trans s3).trans s4;refine⟨q,_,rfl,dv.of cD,rfl,_,_,rfl,_,_,rfl,rfl,⟨[_,_],rfl,rfl⟩,?_⟩;refine⟨_,rfl,_,rfl,l,a,us,st,d,rfl,s14 _ _ hl,lz.mono (fq.mono (Tk.of s14)),nd,sl,s14 _ _ ha,λH5 s5=>⟨_,rfl,du (λhb=>⟨_,rfl,k1 hb _ (s4.trans s5)⟩) (λhb=>k2 (eF0 hb) _ (s4.trans s5))⟩⟩
 ·intro D' H' hD' s' hd'
  rw[sy.1]at hd';exact k D' H' (s1.trans s') (s1.free hD') hd'
def pS:SD->Bool
 |.knew _ _=>true
 |_=>false
def Ki(st:List RI)(sd:List SD):Bool:=sd.all λd=>pS d || tI st d
def B0(sg:List GD)(qd:List QD)(sd:List SD)(d:RI):Bool:=match d.2.2 with
 |.saw n=>decide (0<=n) && eY sg (dJ sd) n.toNat
 |.hrd k te=>decide (0<=k) && decide ((k.toNat,te,d.1)∈(eP 0 (eV qd)).filter (da qd sd))
theorem fV{z:Str}{h:Int}{sd:List SD}(h0:0<=h):dG h (floorOf z sd)=true↔∀o,SD.unh z o∈sd->∃i,o=some i/\i < h:=by
 have mem:∀o,o∈ng z sd↔SD.unh z o∈sd:=λo=>by
  unfold ng;rw[mem_map];constructor
  ·rintro⟨d,hd,rfl⟩
   obtain⟨h1,h2⟩:=mem_filter.mp hd;cases d with
   |unh p o=>
    have e:p=z:=of_decide_eq_true h2;rw[<-e];exact h1
   |knew p h=>cases h2
   |sil p b e=>cases h2
   |bar p q=>cases h2
  ·intro h
   exact⟨.unh z o,mem_filter.mpr ⟨h,dT0 rfl⟩,rfl⟩
 unfold floorOf;by_cases hn:none∈ng z sd
 ·rw[tP hn]
  constructor
  ·intro q
   cases q
  ·intro q
   obtain⟨i,e,_⟩:=q none ((mem none).mp hn);cases e
 ·obtain⟨vs,hv⟩:=all_some hn
  obtain⟨m,h1,h2,h3⟩:=ug vs (-1);rw[hv,h1];constructor
  ·intro q o ho
   have ho':o∈vs.map some:=by
    rw[<-hv];exact(mem o).mpr ho
   obtain⟨i,hi,rfl⟩:=mem_map.mp ho';have:=h3 i (.tail _ hi);have q:m < h:=of_decide_eq_true q;exact⟨i,rfl,by omega⟩
  ·intro q
   refine dT0 ?_;rcases mem_cons.mp h2 with e|hm
   ·omega
   ·obtain⟨i,e,hi⟩:=q (some m) ((mem _).mp (by rw[hv];exact mem_map_of_mem hm))
    cases e;exact hi
theorem xF{sg:List GD}{qd:List QD}{sd:List SD}{d:RI}(g:zT sg qd d.2.1 d.1 d.2.2):B0 sg qd sd d=true↔dG d.2.1 (floorOf d.1 sd)=true/\∀k te,d.2.2=.hrd k te->∀e∈sd,iQ te d.2.1 e=false/\je d.1 te e=false:=by
 obtain⟨z,h,w⟩:=d;cases w with
 |saw n=>
  obtain⟨h0,h1⟩:=g;have e:B0 sg qd sd (z,h,.saw n)=dG h (floorOf z sd):=by
   show(decide (0<=n) && eY sg (dJ sd) n.toNat)=_;rw[dT0 h0,Bool.true_and,dw h1];rfl
  rw[e];exact⟨λq=>⟨q,λ_ _ z=>by cases z⟩,λq=>q.1⟩
 |hrd k te=>
  obtain⟨h0,q,h1,h2,h3⟩:=g;have m:(k.toNat,te,z)∈eP 0 (eV qd):=(jz _ _ _ qd 0).mpr ⟨k.toNat,q,h1,by omega,h3⟩;have h2:q.1=h:=h2;have e:B0 sg qd sd (z,h,.hrd k te)=(dG h (floorOf z sd) && !(sd.any (iQ te h) || sd.any (je z te))):=by
   show(decide (0<=k) && decide ((k.toNat,te,z)∈(eP 0 (eV qd)).filter (da qd sd)))=_;rw[dT0 h0,Bool.true_and];have e1:da qd sd (k.toNat,te,z)=(dG h (floorOf z sd) && !(sd.any (iQ te h) || sd.any (je z te))):=by
    show(dG (cT qd k.toNat) (floorOf z sd) && !(sd.any (iQ te (cT qd k.toNat)) || sd.any (je z te)))=_;rw[dH h1,h2]
   rw[<-e1];rw[Bool.eq_iff_iff,decide_eq_true_iff,mem_filter];exact⟨λz=>z.2,λz=>⟨m,z⟩⟩
  rw[e,and_eq_true,not_eq_true',Bool.or_eq_false_iff,any_eq_false,any_eq_false];constructor
  ·rintro⟨a,b,c⟩
   exact⟨a,λk' te' z e he=>by cases z;exact⟨eF0 (b e he),eF0 (c e he)⟩⟩
  ·rintro⟨a,b⟩
   exact⟨a,λe he=>by rw[(b _ _ rfl e he).1];exact bF0,λe he=>by rw[(b _ _ rfl e he).2];exact bF0⟩
theorem tD(z p:Str)(h b c:Int):iQ z h (.sil p b c)=(decide (p=z) && Ej b c h):=by
 show(decide (p=z) && if b<=h then decide (h<=c) else false)=(decide (p=z) && (decide (b<=h) && decide (h<=c)));by_cases y:b<=h
 ·rw[if_pos y,dT0 y,Bool.true_and]
 ·rw[if_neg y,decide_eq_false y,Bool.false_and]
theorem uL{sg:List GD}{qd:List QD}{sd:List SD}{st:List RI}(gd:∀d∈st,zT sg qd d.2.1 d.1 d.2.2)(nd:(st.map (·.1)).Nodup)(ho:∀d∈st,0<=d.2.1):st.all (B0 sg qd sd)=Ki st sd:=by
 unfold Ki;rw[Bool.eq_iff_iff,all_eq_true,all_eq_true];constructor
 ·intro al e he
  have al':=λd hd=>(xF (sd:=sd) (gd d hd)).mp (al d hd);cases e with
  |knew p h=>rfl
  |unh p o=>
   show(false || GA (hI st) p o)=true;rw[Bool.false_or];unfold GA;cases hF:hI st p with
   |none=>rfl
   |some i=>
    obtain⟨d,md,rfl,rfl⟩:=oY hF;obtain⟨j,rfl,hj⟩:=(fV (ho d md)).mp (al' d md).1 o he;exact dT0 hj
  |sil p b c=>
   show(false || !(st.any (J7 p b c)))=true;rw[Bool.false_or,not_eq_true',any_eq_false];intro d md q;obtain⟨z,h,w⟩:=d;cases w with
   |saw n=>cases q
   |hrd k te=>
    have q:(decide (te=p) && Ej b c h)=true:=q;rw[and_eq_true]at q;have e1:te=p:=of_decide_eq_true q.1;have:=((al' _ md).2 k te rfl _ he).1;rw[e1]at this;have t2:iQ p h (.sil p b c)=true:=by
     rw[tD,dT0 (rfl:p=p),Bool.true_and];exact q.2
    rw[show iQ p ((z,h,WI.hrd k te):RI).2.1 (.sil p b c)=iQ p h (.sil p b c) from rfl,t2]at this;cases this
  |bar p q=>
   show(false || !(st.any (HL p q)))=true;rw[Bool.false_or,not_eq_true',any_eq_false];intro d md y;obtain⟨z,h,w⟩:=d;cases w with
   |saw n=>
    have y:((decide (z=p) && false) && false)=true:=y;rw[Bool.and_false]at y;cases y
   |hrd k te=>
    have y:((decide (z=p) && true) && decide (te=q))=true:=y;rw[Bool.and_true,and_eq_true]at y;have e1:z=p:=of_decide_eq_true y.1;have e2:te=q:=of_decide_eq_true y.2;have t:=((al' _ md).2 k te rfl _ he).2;have t2:je z te (.bar p q)=true:=by
     rw[e1,e2];show(decide (p=p) && decide (q=q))=true;rw[dT0 rfl,dT0 rfl];rfl
    rw[show je ((z,h,WI.hrd k te):RI).1 te (.bar p q)=je z te (.bar p q) from rfl,t2]at t;cases t
 ·intro al d md
  have al':∀e∈sd,pS e=false->tI st e=true:=λe he hk=>by
   have:=al e he;rw[hk,Bool.false_or]at this;exact this
  refine(xF (gd d md)).mpr ⟨(fV (ho d md)).mpr λo hu=>?_,λk te hw e he=>?_⟩
  ·have:=al' _ hu rfl
   have this:GA (hI st) d.1 o=true:=this;unfold GA at this;rw[uk nd md]at this;cases o with
   |none=>cases this
   |some j=>exact⟨j,rfl,of_decide_eq_true this⟩
  ·obtain⟨z,h,w⟩:=d
   have hw:w=.hrd k te:=hw;subst hw;constructor
   ·cases e with
    |sil p b c=>
     cases q:iQ te h (.sil p b c) with
     |false=>first|exact q|rfl
     |true=>
      have q':=q;rw[tD,and_eq_true]at q';have f:=al' _ he rfl;have f:(!(st.any (J7 p b c)))=true:=f;rw[not_eq_true',any_eq_false]at f;refine absurd ?_ (f _ md);show(decide (te=p) && Ej b c h)=true;rw[dT0 (of_decide_eq_true q'.1).symm,Bool.true_and];exact q'.2
    |knew p h'=>rfl
    |unh p o=>rfl
    |bar p q=>rfl
   ·cases e with
    |bar p q=>
     cases y:je z te (.bar p q) with
     |false=>first|exact y|rfl
     |true=>
      have y':(decide (p=z) && decide (q=te))=true:=y;rw[and_eq_true]at y';have f:=al' _ he rfl;have f:(!(st.any (HL p q)))=true:=f;rw[not_eq_true',any_eq_false]at f;refine absurd ?_ (f _ md);show((decide (z=p) && true) && decide (te=q))=true;rw[dT0 (of_decide_eq_true y'.1).symm,dT0 (of_decide_eq_true y'.2).symm];rfl
    |knew p h'=>rfl
    |unh p o=>rfl
    |sil p b c=>rfl
theorem Fe{ds st:List ED}{F:FH}{ps:List Str}(so:uG ds F st)(fo:iO ds F)(pl:ps.length<=24)(pm:∀d∈ds,d.1∈ps):st.length<=24:=by
 have:=jv so.nd (ps:=ps) λz hz=>by
  obtain⟨h,hF⟩:=isSome_iff_exists.mp ((so.me z).mp hz);obtain⟨d,md,rfl⟩:=oF (fo.so z h hF);exact pm d md
 rw[length_map]at this;omega
theorem qW{sg:List GD}{qd:List QD}{sd:List SD}{ps:List Str}(gp:∀d∈sg,d.1∈ps)(qk:∀d∈qd,iV ps d):∀d∈j4 sg qd sd,d.1∈ps:=λd hd=>by
 obtain⟨z,h,w⟩:=d;cases w with
 |saw i=>exact gp _ (mem_of_getElem? (rF hd).2)
 |hrd kk te=>
  obtain⟨q,hq,m1,m2⟩:=oy qk (mem_filter.mp (sD hd).1).1;exact m2
def xQ:Option Int->Int->Bool
 |none,_=>false
 |some i,h=>decide (i<=h)
inductive E5  (vs:List V)(H:Hp)(Q:VK):Prop
 |mk(o:Option Int)(h:Int)(h0:vs=[oV o,.int h])(h1:Q (.bl (xQ o h)) H)
def wX  :Sp:=λvs H Q _=>E5  vs H Q
structure Jm(ps:List Str)(kvs:List (Key×V))(G:FH):Prop where
 get:∀z∈ps,dr kvs (Sum.inr z)=some (oV (G z))
def Bs(qd:List QD)(G:FH)(t:TK):Bool:= !((match G t.2.1 with
 |none=>false
 |some a=>decide (a < cT qd t.1)) && !(xQ (G t.2.2) (cT qd t.1)))
inductive Nc(C:Addr)(vs:List V)(H:Hp)(Q:VK):Prop
 |mk(x p s t y:Addr)(ps:List Str)(ss ts ys:List V)(qd:List QD)(sd:List SD)(d:Addr)(kvs:List (Key×V))(G:FH)(e:vs=[.ref x,.ref d])(bk:Bk C H x p s t y ps ss ts ys)(pl:ps.length<=24)(tl:ts.length<=120)(qs:Lz cY H ts qd)(qk:∀d∈qd,iV ps d)(sy:Sys H ys sd)(l:ys.length<=60)(hd:H d=some (.dK kvs))(og:Jm ps kvs G)
   (k:∀H',cH H H'->Q (.bl (((eP 0 (eV qd)).filter (da qd sd)).all (Bs qd G))) H')
def Gs(C:Addr):Sp:=λvs H Q _=>Nc C vs H Q
theorem o8:cI ["hour", "bound"] ["hour", "bound"] (cF gI):={}
theorem tf (D:Df K mg "is_no_later" gI ["hour", "bound"] f fd):Gd P w K mg base 1 "is_no_later" wX:=by
 refine aF D o8 λX H vs Q E hh h=>?_;obtain⟨o,h,rfl,k⟩:=h;obtain⟨S0,S1,_⟩:=hh.d9 [0,1];refine⟨_,(ag (au (aV (aU cC (aa S0) bE (L2.cJ _)) (aZ (aU bD (aa S0) (aa S1) (L2.cJ _)))))),?_⟩;cases o with
 |none=>exact⟨_,rfl,rfl,_,rfl,iN k⟩
 |some i=>exact⟨_,rfl,rfl,_,rfl,fu (by rw[decide_eq_false (λe=>by cases e)];rfl) ⟨_,rfl,_,rfl,_,_,rfl,rfl,k⟩⟩
theorem kA:cI ["book", "hours", "talks", "k", "teller", "hearer", "hour", "is_told"] ["book", "hours"] (cF fe):={}
theorem kN (D:Df K mg "keeps_tellings" fe ["book", "hours"] f fd) (T:Txt K mg kw C) (G0p:Md P w K mg base 1 C "talks" (c9 C λ_ _ t _=>t)) (G0l:Gd P w K mg base 4 "open_tellings" (nA C)) (G0D:Gd P w K mg base 1 "is_no_later" wX):Gd P w K mg base 5 "keeps_tellings" (Gs C):=by
 refine aF D kA λX H vs Q E hh h=>?_;obtain⟨x,p,s,t,y,ps,ss,ts,ys,qd,sd,d,kvs,G,rfl,bk,pl,tl,qs,qk,sy,l60,hd,og,k⟩:=h;obtain⟨S0,S1,S2,S3,S4,S5,S6,S7,_⟩:=hh.d9 [0,1,2,3,4,5,6,7];have G1K:=hh.c G0D;have G0m:=hh.c G0l;have G0q:=hh.met G0p (by decide);have hu:=dY hh.room;obtain⟨⟨dx,hx⟩,hp,hs,ht,hy⟩:=id bk;refine⟨_,(ah (aA S2 hh.nd (bB G0q (aa S0) rfl))
 (ah (a9 hh.own hh.calm (aQ (aw G0m (ak (aa S0)))) (bC hh.calm (aG (aE S3 hh.nd) (aG (aE S4 hh.nd) (aG (aE S5 hh.nd) bj))))
 (ah (aA S6 hh.nd (af ao (af aR (aa S2) (aa S3) aK) ae aj))
 (ah (aA S7 hh.nd (aV (aU cC (bh hu (aa S1) (aa S4) aK) bE (L2.cJ _)) (aZ (aU bO (bh hu (aa S1) (aa S4) aK) (aa S6) (L2.cJ _)))))
 (ag (aH (aX (bg (J.rg (aa S7)) (bz (bq (ba (aw G1K (aD (bh hu (aa S1) (aa S5) aK) (aa S6))))))))
 (ag (au a5))
 aI)))))
 (ag (au a5)))),?_⟩
 refine⟨_,rfl,x,dx,_,rfl,hx,eB _ _ _ _ (by decide+kernel) (by decide+kernel) (by decide+kernel) (by decide+kernel),x,p,s,t,y,ts,rfl,⟨dx,hx⟩,ht,λtb htb=>?_⟩;have s1:=cH.upd (o:=.lst ts) htb;have htb1:upd H tb (.lst ts) tb=some (.lst ts):=cD;generalize upd H tb (.lst ts)=H1 at s1 htb1;refine⟨_,rfl,x,p,s,t,y,ps,ss,ts,ys,qd,sd,rfl,bk.mono s1,pl,tl,qs.mono (cY.mono (Tk.of s1)),qk,sy.mono (Tk.of s1),l60,λl us H2 s2 ln hl tu=>?_⟩;have s02:=s1.trans s2;have hd2:=s02 _ _ hd;have htb2:=s2 _ _ htb1;have mem:∀tk∈(eP 0 (eV qd)).filter (da qd sd),∃q,qd[tk.1]? =some q/\tk.2.1∈ps/\tk.2.2∈ps:=λtk hk=>by
  obtain⟨j,d',hj,e1,e2⟩:=nL (mem_filter.mp hk).1;unfold eV at hj;rw[getElem?_map]at hj;obtain⟨q,hq,rfl⟩:=map_eq_some_iff.mp hj;have qo:=qk q (mem_of_getElem? hq);rw[zero_add]at e1;refine⟨q,(by rw[e1];exact hq),?_⟩;rcases e2 with e2|e2
  ·rw[e2]
   exact⟨qo.2.1,qo.2.2.1⟩
  ·rw[e2]
   exact⟨qo.2.2.1,qo.2.1⟩
 generalize (eP 0 (eV qd)).filter (da qd sd)=ks at tu k mem;refine⟨l,rfl,⟨_,cK.of hl⟩,dj (K:=X.K) (a:=l) (xs:=us) (λi σ H3=>∃e3 e4 e5 e6 e7:Option V,σ=[some (.ref x),some (.ref d),some (.ref tb),e3,e4,e5,e6,e7]/\cH H2 H3/\(ks.take i).all (Bs qd G)=true)
  ⟨none,none,none,none,none,rfl,cH.refl _,rfl⟩ ?_ ?_ ?_⟩
 ·rintro i σ H3 hi ⟨e3,e4,e5,e6,e7,rfl,s3,_⟩
  exact cK.of (s3 _ _ hl)
 ·rintro i v σ H3 hv ⟨e3,e4,e5,e6,e7,rfl,s3,al⟩
  obtain⟨tk,htk⟩:∃tk,ks[i]? =some tk:=⟨_,getElem?_eq_getElem (by rw[<-tu.1];exact(gI0.mp hv).1)⟩;obtain⟨a,rfl,ha⟩:=tu.2 _ _ _ hv htk;obtain⟨q,hq,m1,m2⟩:=mem tk (mem_of_getElem? htk);obtain⟨vq,hvq⟩:∃vq,ts[tk.1]? =some vq:=⟨_,getElem?_eq_getElem (by rw[qs.1];exact(gI0.mp hq).1)⟩;obtain⟨aq,rfl,haq⟩:=qs.2 _ _ _ hvq hq;have ha3:=s3 _ _ ha;have haq3:=s3 _ _ (s02 _ _ haq);have htb3:=s3 _ _ htb2;have hd3:=s3 _ _ hd2;have dt:=dN.k (k:=Sum.inr tk.2.1) hd3;have dh:=dN.k (k:=Sum.inr tk.2.2) hd3;rw[og.get _ m1]at dt;rw[og.get _ m2]at dh;have tb_eq:Bs qd G tk= !((match G tk.2.1 with
    |none=>false
    |some a=>decide (a < q.1)) && !(xQ (G tk.2.2) q.1)):=by
   unfold Bs;rw[dH hq]
  have yes:Bs qd G tk=true->(ks.take (i+1)).all (Bs qd G)=true:=λh=>by
   rw[take_add_one,htk,List.all_append,al];show(true && (Bs qd G tk && true))=true;rw[h];rfl
  have no:Bs qd G tk=false->Q (.bl false) H3:=λh=>by
   have:=k H3 (s02.trans s3);rw[show ks.all (Bs qd G)=false from List.all_eq_false.mpr ⟨tk,mem_of_getElem? htk,by rw[h];exact bF0⟩]at this;exact this
  refine⟨a,_,rfl,dv.of ha3,rfl,_,_,rfl,_,_,rfl,_,_,rfl,rfl,?_⟩;refine⟨_,rfl,_,rfl,xL htb3 (cN hvq) (xT haq3 rfl ?_)⟩;refine⟨_,rfl,_,rfl,d,_,rfl,dt,rfl,_,rfl,?_⟩;cases hT:G tk.2.1 with
  |none=>
   rw[hT]at tb_eq;exact iN ⟨_,rfl,_,rfl,iN (cW ⟨_,_,_,_,_,rfl,s3,yes (by rw[tb_eq];rfl)⟩)⟩
  |some x'=>
   rw[hT]at tb_eq dt;refine fu (by rw[decide_eq_false (λe=>by cases e)];rfl) ⟨_,rfl,_,rfl,d,_,rfl,dt,_,rfl,_,_,rfl,rfl,_,rfl,_,rfl,du (λlt=>⟨_,rfl,_,rfl,d,_,rfl,dh,_,rfl,G tk.2.2,q.1,rfl,_,rfl,?_⟩) (λnlt=>cW ⟨_,_,_,_,_,rfl,s3,yes ?_⟩)⟩
   ·refine du (λn=>no ?_) (λn=>⟨_,_,_,_,_,rfl,s3,yes ?_⟩)
    ·rw[tb_eq]
     show(!(decide (x' < q.1) && !(xQ (G tk.2.2) q.1)))=false;rw[lt,n];rfl
    ·rw[tb_eq]
     show(!(decide (x' < q.1) && !(xQ (G tk.2.2) q.1)))=true;rw[eF0 n,Bool.and_false];rfl
   ·rw[tb_eq]
    show(!(decide (x' < q.1) && !(xQ (G tk.2.2) q.1)))=true;rw[eF0 nlt];rfl
 ·rintro σ H3 ⟨e3,e4,e5,e6,e7,rfl,s3,al⟩
  rw[tu.1,take_length]at al;have:=k H3 (s02.trans s3);rw[al]at this;exact this
def zV(sg:List GD)(G:FH):V->V
 |.int i=>.bl (eY sg (λg=>xQ (G g.1) g.2) i.toNat)
 |_=>.non
theorem Ak(sg:List GD)(sd:List SD)(G:FH):((((List.range sg.length).filter (eY sg (dJ sd))).map (eY sg λg=>xQ (G g.1) g.2)).map V.bl)=(eC sg sd sg.length).map (zV sg G):=by
 unfold eC;rw[map_map,map_map];rfl
inductive MS(C:Addr)(vs:List V)(H:Hp)(Q:VK):Prop
 |mk(x p s t y:Addr)(ps:List Str)(ss ts ys:List V)(sg:List GD)(sd:List SD)(d:Addr)(kvs:List (Key×V))(G:FH)(e:vs=[.ref x,.ref d])(bk:Bk C H x p s t y ps ss ts ys)(pl:ps.length<=24)(sl:ss.length<=24)(gs:Lz cU H ss sg)(gp:∀d∈sg,d.1∈ps)(sy:Sys H ys sd)(l:ys.length<=60)(hd:H d=some (.dK kvs))(og:Jm ps kvs G)
   (k:∀H',cH H H'->Q (.bl (((List.range sg.length).filter (eY sg (dJ sd))).all (eY sg λg=>xQ (G g.1) g.2))) H')
def He(C:Addr):Sp:=λvs H Q _=>MS C vs H Q
theorem mU:cI ["book", "hours", "sights"] ["book", "hours"] (cF gj):={}
theorem m9 (D:Df K mg "keeps_sights" gj ["book", "hours"] f fd) (T:Txt K mg kw C) (G0h:Md P w K mg base 1 C "sights" (c9 C λ_ s _ _=>s)) (G0B:Gd P w K mg base 4 "open_sights" (nJ C)) (G0D:Gd P w K mg base 1 "is_no_later" wX):Gd P w K mg base 5 "keeps_sights" (He C):=by
 refine aF D mU λX H vs Q E hh h=>?_;obtain⟨x,p,s,t,y,ps,ss,ts,ys,sg,sd,d,kvs,G,rfl,bk,pl,sl,gs,gp,sy,l60,hd,og,k⟩:=h;obtain⟨S0,S1,S2,_⟩:=hh.d9 [0,1,2];have G0a:=hh.b T.b_all;have G0C:=hh.c G0B;have G1n:=hh.ci G0D;have G0i:=hh.met G0h (by decide);have hu:=dY hh.room;obtain⟨⟨dx,hx⟩,hp,hs,ht,hy⟩:=id bk;refine⟨_,(ah (aA S2 hh.nd (bB G0i (aa S0) rfl))
 (ag (au (aJ G0a (bT hh.calm) L2.iz (ak (cb (is:=[1,2]) (ns:=["hours", "sights"]) hh.calm (aQ (aw G0C (ak (aa S0)))) {} (λ_ _ _ _ _=>(aw (G1n.lc rfl) (aD (bh hu (bW (i:=0) rfl rfl (by decide) (by decide)) (af J.xo (af J.sZ (bW (i:=1) rfl rfl (by decide) (by decide)) (bY rfl (by decide) (by decide)) aK) ae aj) b8) (af J.xo (af J.sZ (bW (i:=1) rfl rfl (by decide) (by decide)) (bY rfl (by decide) (by decide)) aK) ae aj)))) hh.hsc hh.hN)))))),?_⟩
 refine⟨_,rfl,x,dx,_,rfl,hx,eB _ _ _ _ (by decide+kernel) (by decide+kernel) (by decide+kernel) (by decide+kernel),x,p,s,t,y,ss,rfl,⟨dx,hx⟩,hs,λtb htb=>?_⟩;have s1:=cH.upd (o:=.lst ss) htb;have htb1:upd H tb (.lst ss) tb=some (.lst ss):=cD;generalize upd H tb (.lst ss)=H1 at s1 htb1;refine⟨_,rfl,x,p,s,t,y,ps,ss,ts,ys,sg,sd,rfl,bk.mono s1,pl,sl,gs.mono (cU.mono (Tk.of s1)),gp,sy.mono (Tk.of s1),l60,λl H2 s2 ln hl=>?_⟩;have s02:=s1.trans s2;have hd2:=s02 _ _ hd;have htb2:=s2 _ _ htb1;refine⟨l,rfl,⟨_,cK.of hl⟩,Ce (xs:=eC sg sd sg.length) (f:=zV sg G) (cK.of hl) ?_ ?_ ?_⟩
 ·have:=n5 sg sd sg.length
  have hsz:sizeLine=16777216:=sizeLine_eq;have hgl:=gs.1;omega
 ·intro v H3 Q' hv s3 q'
  unfold eC at hv;obtain⟨i,hi,rfl⟩:=mem_map.mp hv;have hil:=mem_range.mp (mem_filter.mp hi).1;obtain⟨g,hg⟩:∃g,sg[i]? =some g:=⟨_,getElem?_eq_getElem hil⟩;obtain⟨vg,hvg⟩:∃vg,ss[i]? =some vg:=⟨_,getElem?_eq_getElem (by rw[gs.1];exact hil)⟩;obtain⟨a,ta,rfl,ha⟩:=gs.2 _ _ _ hvg hg;have ha3:=s3 _ _ (s02 _ _ ha);have htb3:=s3 _ _ htb2;have dg:=dN.k (k:=Sum.inr g.1) (s3 _ _ hd2);rw[og.get _ (gp g (mem_of_getElem? hg))]at dg;refine⟨_,rfl,_,rfl,_,rfl,xL htb3 (cN hvg) (xT ha3 rfl ⟨d,_,rfl,dg,_,rfl,_,rfl,xL htb3 (cN hvg) (xT ha3 rfl ⟨G g.1,g.2,rfl,?_⟩)⟩)⟩;rw[show zV sg G (.int (i:Nat))=.bl (xQ (G g.1) g.2) from congrArg V.bl (BP hg)]at q';exact q'
 ·intro D hD
  refine⟨D,((List.range sg.length).filter (eY sg (dJ sd))).map (eY sg λg=>xQ (G g.1) g.2),rfl,?_,?_⟩
  ·rw[show((((List.range sg.length).filter (eY sg (dJ sd))).map (eY sg λg=>xQ (G g.1) g.2)).map V.bl)=(eC sg sd sg.length).map (zV sg G) from Ak ..]
   exact cK.of cD
  ·have:=k _ (s02.trans (cH.upd (o:=.lst ((eC sg sd sg.length).map (zV sg G))) hD))
   rw[all_map];exact this
theorem DA:∀(as bs:List Str),as.length=bs.length->FD ((as.zip bs).map λp=>p.1 == p.2)=decide (as=bs):=λas bs h=>by
 rw[DP]
 induction as generalizing bs with
 |nil=>
  cases bs with
  |nil=>rfl
  |cons=>cases h
 |cons a r ih=>
  cases bs with
  |nil=>cases h
  |cons b t=>
   have:=ih t (Nat.succ.inj h);show((a == b) && ((r.zip t).map λp=>p.1 == p.2).all id)=_;rw[this,Bool.eq_iff_iff,and_eq_true,decide_eq_true_iff,decide_eq_true_iff,beq_iff_eq,List.cons.injEq]
theorem ME{K:FG0}{H:Hp}{a b:Addr}{as bs:List Str}{Q:VK}(s:cK K H a (as.map V.str))(t:cK K H b (bs.map V.str))(q:Q (.bl (!(decide (as=bs)))) H):Dq K (.ref a) (.ref b) H Q:=by
 by_cases h:as.length=bs.length
 ·have zl:((as.zip bs).map λp=>p.1 == p.2).length=as.length:=by rw[length_map,length_zip,<-h,min_self]
  rw[<-DA as bs h]at q;refine .same a b _ _ _ rfl rfl s t (by rw[length_map,zl]) (by rw[length_map,zl,h]) (λi u v c hu hv hc=>?_) q;rw[getElem?_map]at hu hv hc;obtain⟨x,hx,rfl⟩:=map_eq_some_iff.mp hu;obtain⟨y,hy,rfl⟩:=map_eq_some_iff.mp hv;obtain⟨z,hz,rfl⟩:=map_eq_some_iff.mp hc;rw[lM hx hy]at hz;cases hz;rfl
 ·rw[decide_eq_false (λe=>h (congrArg List.length e))]at q
  exact .other a b _ _ rfl rfl s t (by rw[length_map,length_map];exact h) q
def x9(rd:List RD)(F:FH):FH:=rd.foldl (λF d y=>if y=d.1 then d.2 else F y) F
def fN(rd:List RD):List (Key×V):=rd.map λd=>(Sum.inr d.1,oV d.2)
theorem xk:∀(rd:List RD) (kvs:List (Key×V)) (F:FH) (S:Str->Prop),(∀z,S z->dr kvs (Sum.inr z)=some (oV (F z)))->∀z,S z\/z∈rd.map (·.1)->dr (dQ kvs (fN rd)) (Sum.inr z)=some (oV (x9 rd F z))
 |[],kvs,F,S,h,z,hz=>h z (hz.resolve_right λe=>by cases e)
 |d::r,kvs,F,S,h,z,hz=>by
  refine xk r (putK kvs (Sum.inr d.1) (oV d.2)) (λy=>if y=d.1 then d.2 else F y) (λy=>S y\/y=d.1) (λy hy=>?_) z ?_
  ·rw[fb]
   by_cases e:y=d.1
   ·rw[if_pos (by rw[e]),if_pos e]
   ·rw[if_neg (λq=>e (Sum.inr.inj q)),if_neg e]
    exact h y (hy.resolve_right e)
  ·rcases hz with hz|hz
   ·exact .inl (.inl hz)
   ·rcases mem_cons.mp hz with e|hz
    ·exact .inl (.inr e)
    ·exact .inr hz
theorem tZ{G:FH}:∀(rd:List RD) (F:FH),(∀d∈rd,d.2=G d.1)->∀z,(F z=G z\/z∈rd.map (·.1))->x9 rd F z=G z
 |[],F,h,z,hz=>hz.resolve_right λe=>by cases e
 |d::r,F,h,z,hz=>by
  refine tZ r _ (λe he=>h e (mem_cons_of_mem _ he)) z ?_;by_cases e:z=d.1
  ·refine .inl ?_
   show(if z=d.1 then d.2 else F z)=G z;rw[if_pos e,e];exact h d mem_cons_self
  ·rcases hz with hz|hz
   ·refine .inl ?_
    show(if z=d.1 then d.2 else F z)=G z;rw[if_neg e];exact hz
   ·rcases mem_cons.mp hz with q|hz
    ·exact absurd q e
    ·exact .inr hz
theorem yx(rd:List RD):((rd.filter λ_=>true).map λd=>V.str d.1)=(rd.map (·.1)).map V.str:=by
 rw[filter_eq_self.mpr λ_ _=>rfl,map_map];rfl
def p8(sg:List GD)(qd:List QD)(sd:List SD)(G:FH):Bool:=((List.range sg.length).filter (eY sg (dJ sd))).all (eY sg λg=>xQ (G g.1) g.2) && ((eP 0 (eV qd)).filter (da qd sd)).all (Bs qd G)
def o5(ps:List Str)(sg:List GD)(qd:List QD)(sd:List SD)(rd:List RD):Bool:=decide (rd.map (·.1)=gO ps) && p8 sg qd sd (x9 rd λ_=>none)
theorem zZ{ps:List Str}{rd:List RD}(h:rd.map (·.1)=gO ps):Jm ps (dQ [] (fN rd)) (x9 rd λ_=>none):=
 ⟨λz hz=>xk rd [] _ (λ_=>False) (λ_ h=>h.elim) z (.inr (by rw[h];exact(jq ps).mem_iff.mpr hz))⟩
inductive Lj(C:Addr)(vs:List V)(H:Hp)(Q:VK):Prop
 |mk(x p s t y:Addr)(ps:List Str)(ss ts ys:List V)(sg:List GD)(qd:List QD)(sd:List SD)(so:Addr)(rs:List V)(rd:List RD)(e:vs=[.ref x,.ref so])(bk:Bk C H x p s t y ps ss ts ys)(pl:ps.length<=24)(sl:ss.length<=24)(tl:ts.length<=120)(gs:Lz cU H ss sg)(gp:∀d∈sg,d.1∈ps)(qs:Lz cY H ts qd)(qk:∀d∈qd,iV ps d)(sy:Sys H ys sd)(l:ys.length<=60)(hso:H so=some (.lst rs))(rz:Lz lJ H rs rd)(rl:rs.length<=100)
   (k:∀H',cH H H'->Q (.bl (o5 ps sg qd sd rd)) H')
def xB(C:Addr):Sp:=λvs H Q _=>Lj C vs H Q
theorem uH:cI ["book", "some", "hours"] ["book", "some"] (cF jZ):={}
theorem tR (D:Df K mg "is_paper" jZ ["book", "some"] f fd) (T:Txt K mg kw C) (G0w:Md P w K mg base 1 C "persons" (c9 C λp _ _ _=>p)) (G1o:Gd P w K mg base 5 "keeps_sights" (He C)) (G18:Gd P w K mg base 5 "keeps_tellings" (Gs C)):Gd P w K mg base 6 "is_paper" (xB C):=by
 refine aF D uH λX H vs Q E hh h=>?_;obtain⟨x,p,s,t,y,ps,ss,ts,ys,sg,qd,sd,so,rs,rd,rfl,bk,pl,sl,tl,gs,gp,qs,qk,sy,l60,hso,rz,rl,k⟩:=h;obtain⟨S0,S1,S2,_⟩:=hh.d9 [0,1,2];have G22:=hh.b T.b_dict;have G0e:=hh.b T.b_sorted;have G1p:=hh.c G1o;have G19:=hh.c G18;have G0x:=hh.met G0w (by decide);have hu:=dY hh.room;have hsz:sizeLine=16777216:=sizeLine_eq;obtain⟨⟨dx,hx⟩,hp,hs,ht,hy⟩:=id bk;refine⟨_,(ah (aH (aB (J.kj hu) (bL (is:=[]) (xs:=["person", "hour"]) (ns:=[]) hh.calm (aQ (aa S1)) {} (λ_ _ _ _ _=>(cq (n:=2) hh.calm (aG (a7 (i:=0) (by decide+kernel) rfl rfl) (aG (a7 (i:=1) (by decide+kernel) rfl rfl) bj)))) (λ_ _ _ _ _=>bN) (λ_ _ _ _ _=>(aO (i:=0) rfl rfl (by decide) (by decide))) hh.hsc hh.hN) (aJ G0e J.fR L2.hE (ak (bB G0x (aa S0) rfl))) (L2.cJ _))
 (ag (au a5))
 aI)
 (ah (aA S2 hh.nd (bw G22 (J.eJ hh.calm) L2.xJ (ak (aa S1))))
 (ag (au (aV (aw G1p (aD (aa S0) (aa S2))) (aZ (aw G19 (aD (aa S0) (aa S2))))))))),?_⟩
 refine⟨_,rfl,so,rfl,⟨_,cK.of hso⟩,eI (xs:=rs) (eY rd λ_=>true) (uM rd λd=>.str d.1) (cK.of hso) (by omega) ?_ ?_⟩
 ·intro i os v H2 K1 K2 hv hos s2 k1 k2
  obtain⟨d,hd,a,rfl,ha⟩:=rz.at hv;rw[dw hd,gD hd]at k1
  match os,hos with
  |[o1,o2],_=>exact⟨a,_,rfl,dv.of (s2 _ _ ha),rfl,_,_,rfl,_,_,rfl,rfl,⟨[_,_],rfl,rfl⟩,Lm ⟨_,rfl,k1 rfl H2 (cH.refl _)⟩⟩
 ·intro l1 H1 n1 s1 hl1
  rw[rz.1,d6 (λ_=>true) (λd:RD=>V.str d.1) rd,yx]at hl1;refine⟨_,rfl,x,dx,_,rfl,s1 _ _ hx,eB _ _ _ _ (by decide+kernel) (by decide+kernel) (by decide+kernel) (by decide+kernel),x,p,s,t,y,ps.map V.str,rfl,⟨dx,s1 _ _ hx⟩,s1 _ _ hp,λtb htb=>⟨tb,ps,rfl,cK.of cD,by omega,λl2 zs n2 pm zo=>?_⟩⟩;cases Bw pm zo;have s2:=s1.trans ((cH.upd (o:=.lst (ps.map V.str)) htb).trans (cH.upd (o:=.lst ((gO ps).map V.str)) n2));have hl1':=((cH.upd (o:=.lst (ps.map V.str)) htb).trans (cH.upd (o:=.lst ((gO ps).map V.str)) n2)) _ _ hl1;have hl2:upd (upd H1 tb (.lst (ps.map V.str))) l2 (.lst ((gO ps).map V.str)) l2=some (.lst ((gO ps).map V.str)):=cD;generalize upd (upd H1 tb (.lst (ps.map V.str))) l2 (.lst ((gO ps).map V.str))=H2 at s2 hl1' hl2;refine ME (cK.of hl1') (cK.of hl2) ⟨_,rfl,du (λne=>?_) (λeq=>?_)⟩
  ·have:=k H2 s2
   unfold o5 at this;rw[show decide (rd.map (·.1)=gO ps)=false by rw[not_eq_true']at ne;exact ne,Bool.false_and]at this;exact this
  ·have nm:rd.map (·.1)=gO ps:=by
    rw[Bool.not_eq_true,Bool.not_eq_false']at eq;exact of_decide_eq_true eq
   refine⟨_,rfl,so,rs,fN rd,rfl,cK.of (s2 _ _ hso),(by rw[rz.1];exact(length_map ..).symm),λi v kv hv hkv=>?_,λd hdn=>?_⟩
   ·unfold fN at hkv
    rw[getElem?_map]at hkv;obtain⟨r,hr,rfl⟩:=map_eq_some_iff.mp hkv;obtain⟨a,rfl,ha⟩:=rz.2 _ _ _ hv hr;exact⟨a,rfl,s2 _ _ ha⟩
   ·have s3:=s2.trans (cH.upd (o:=.dK (dQ [] (fN rd))) hdn)
    have hd3:upd H2 d (.dK (dQ [] (fN rd))) d=some (.dK (dQ [] (fN rd))):=cD;generalize upd H2 d (.dK (dQ [] (fN rd)))=H3 at s3 hd3;have od:=zZ nm;have k':∀H',cH H H'->Q (.bl (p8 sg qd sd (x9 rd λ_=>none))) H':=λH' s'=>by
     have:=k H' s';unfold o5 at this;rw[dT0 nm,Bool.true_and]at this;exact this
    refine⟨_,rfl,_,rfl,x,p,s,t,y,ps,ss,ts,ys,sg,sd,d,_,_,rfl,bk.mono s3,pl,sl,gs.mono (cU.mono (Tk.of s3)),gp,sy.mono (Tk.of s3),l60,hd3,od,λH4 s4=>⟨_,rfl,du (λyes=>?_) (λno=>?_)⟩⟩
    ·have s34:=s3.trans s4
     refine⟨_,rfl,_,rfl,x,p,s,t,y,ps,ss,ts,ys,qd,sd,d,_,_,rfl,bk.mono s34,pl,tl,qs.mono (cY.mono (Tk.of s34)),qk,sy.mono (Tk.of s34),l60,s4 _ _ hd3,od,λH5 s5=>?_⟩;have:=k' H5 (s34.trans s5);unfold p8 at this;rw[yes,Bool.true_and]at this;exact this
    ·have:=k' H4 (s3.trans s4)
     unfold p8 at this;rw[eF0 no,Bool.false_and]at this;exact this
end K25
namespace K25
open PySem L2
variable {P:Program}{w:World}{K:FG0}{mg:Str->Option Value}{base:Heap}{kw C:Addr}{f:Addr}{fd:FuncData}
def wI:EW->WI
 |.saw i=>.saw (i:Int)
 |.hrd k te=>.hrd (k:Int) te
def rI(d:ED):RI:=(d.1,d.2.1,wI d.2.2)
theorem DX{H:Hp}{us:List V}{st:List ED}(lz:Lz kf H us st):Lz fq H us (st.map rI):=by
 refine⟨by rw[length_map];exact lz.1,λi v d hv hd=>?_⟩;rw[getElem?_map]at hd;obtain⟨e,he,rfl⟩:=map_eq_some_iff.mp hd;obtain⟨a,rfl,wa,ha,hw⟩:=lz.2 i v e hv he;refine⟨a,wa,rfl,ha,?_⟩;obtain⟨z,h,w⟩:=e;cases w with
 |saw n=>exact hw
 |hrd k te=>exact hw
theorem vf{ds:List ED}{F:FH}(fo:iO ds F){z:Str}{h:Int}(r:wo ds z h):∃b,b<=h/\F z=some b:=by
 induction r with
 |saw m=>exact fo.cl _ m rfl
 | @hrd z te h h' k m r l ih=>
  obtain⟨b,lb,e⟩:=ih;refine fo.cl _ m ?_;show(match F te with|none=>false|some a=>decide (a < h))=true;rw[e];exact dT0 (by omega)
theorem v5{ds:List ED}{F G:FH}(f:iO ds F)(g:iO ds G):F=G:=by
 funext z
 cases hF:F z with
 |none=>
  cases hG:G z with
  |none=>rfl
  |some h=>
   obtain⟨b,_,e⟩:=vf f (g.so z h hG);rw[hF]at e;cases e
 |some h=>
  obtain⟨b,l1,e1⟩:=vf g (f.so z h hF);obtain⟨c,l2,e2⟩:=vf f (g.so z b e1);rw[hF]at e2;cases e2;rw[e1,show b=h from by omega]
theorem zx{sg:List GD}{qd:List QD}{sd:List SD}{i:Nat}{g:GD}(hg:sg[i]? =some g)(o:eY sg (dJ sd) i=true):(g.1,g.2,EW.saw i)∈j4 sg qd sd:=by
 refine mem_append_left _ (mem_map.mpr ⟨i,mem_filter.mpr ⟨mem_range.mpr (gI0.mp hg).1,o⟩,?_⟩);unfold C2;rw[hg]
theorem AI{sg:List GD}{qd:List QD}{sd:List SD}{t:TK}(m:t∈(eP 0 (eV qd)).filter (da qd sd)):(t.2.2,cT qd t.1,EW.hrd t.1 t.2.1)∈j4 sg qd sd:=mem_append_right _ (mem_map.mpr ⟨t,m,rfl⟩)
theorem DL{sg:List GD}{qd:List QD}{sd:List SD}{F:FH}(fo:iO (j4 sg qd sd) F):p8 sg qd sd F=true:=by
 unfold p8;rw[and_eq_true,all_eq_true,all_eq_true];constructor
 ·intro i hi
  obtain⟨m,o⟩:=mem_filter.mp hi;obtain⟨g,hg⟩:∃g,sg[i]? =some g:=⟨_,getElem?_eq_getElem (mem_range.mp m)⟩;rw[dw hg];obtain⟨b,l,e⟩:=fo.cl _ (zx hg o) rfl;have e:F g.1=some b:=e;rw[e];exact dT0 l
 ·intro t ht
  unfold Bs;cases hF:F t.2.1 with
  |none=>rfl
  |some a=>
   by_cases l:a < cT qd t.1
   ·obtain⟨b,lb,e⟩:=fo.cl _ (AI (sg:=sg) ht) (by
     show(match F t.2.1 with|none=>false|some a=>decide (a < cT qd t.1))=true;rw[hF];exact dT0 l)
    have e:F t.2.2=some b:=e;rw[e];show(!(decide (a < cT qd t.1) && !decide (b<=cT qd t.1)))=true;rw[dT0 (show b<=cT qd t.1 from lb),Bool.not_true,Bool.and_false];rfl
   ·show(!(decide (a < cT qd t.1) && !(xQ (F t.2.2) (cT qd t.1))))=true
    rw[decide_eq_false l,Bool.false_and];rfl
theorem EG{ds:List ED}{F:FH}{ps:List Str}(fo:iO ds F)(pm:∀d∈ds,d.1∈ps){z:Str}{h:Int}(e:F z=some h):z∈ps:=by
 obtain⟨d,md,rfl⟩:=oF (fo.so z h e);exact pm d md
theorem q0(ps:List Str)(F:FH):((gO ps).map λz=>(z,F z)).map (·.1)=gO ps:=by
 rw[map_map];exact map_id _
theorem xK{ds:List ED}{F:FH}{ps:List Str}(fo:iO ds F)(pm:∀d∈ds,d.1∈ps):x9 ((gO ps).map λz=>(z,F z)) (λ_=>none)=F:=by
 funext z
 refine tZ _ _ (λd hd=>?_) z ?_
 ·obtain⟨y,_,rfl⟩:=mem_map.mp hd
  rfl
 ·by_cases m:z∈ps
  ·right
   rw[q0];exact(jq ps).mem_iff.mpr m
  ·left
   cases hF:F z with
   |none=>rfl
   |some h=>exact absurd (EG fo pm hF) m
theorem zP{sg:List GD}{qd:List QD}{sd:List SD}{F:FH}{ps:List Str}(fo:iO (j4 sg qd sd) F)(pm:∀d∈j4 sg qd sd,d.1∈ps):o5 ps sg qd sd ((gO ps).map λz=>(z,F z))=true:=by
 unfold o5;rw[xK fo pm,DL fo,dT0 (q0 ps F)];rfl
structure za(sg:List GD)(qd:List QD)(sd:List SD)(st:List RI):Prop where
 sl:st.length<=24
 is:BZ sg qd st=true
 nd:(st.map (·.1)).Nodup
 ev:∀d∈st,zT sg qd d.2.1 d.1 d.2.2/\0<=d.2.1
 op:∀d∈st,B0 sg qd sd d=true
theorem Hy{sg:List GD}{qd:List QD}{st:List RI}(h:BZ sg qd st=true){d:RI}(m:d∈st){k:Int}{te:Str}(e:d.2.2=.hrd k te):sF (hI st) te d.2.1=true:=by
 unfold BZ at h;rw[and_eq_true,all_eq_true]at h;have:=h.2 d m;unfold EH at this;rw[e]at this;have this:(toD (f3 qd) k te d.1 d.2.1 && sF (hI st) te d.2.1)=true:=this;rw[and_eq_true]at this;exact this.2
theorem Ed{sg:List GD}{qd:List QD}{sd:List SD}{F:FH}{st:List RI}(fo:iO (j4 sg qd sd) F)(g:za sg qd sd st):∀(n:Nat) (d:RI),d∈st->d.2.1.toNat < n->∃b,b<=d.2.1/\F d.1=some b:=by
 intro n
 induction n with
 |zero=>exact λd _ h=>absurd h (Nat.not_lt_zero _)
 |succ n ih=>
  intro d md hn;have ev:=g.ev d md;have op:=g.op d md;have ls:=λk te=>Hy g.is md (k:=k) (te:=te);obtain⟨z,h,w⟩:=d;cases w with
  |saw i=>
   obtain⟨⟨h0,h1⟩,_⟩:=ev;have op:(decide (0<=i) && eY sg (dJ sd) i.toNat)=true:=op;rw[and_eq_true]at op;exact fo.cl _ (zx h1 op.2) rfl
  |hrd k te=>
   obtain⟨⟨h0,q,h1,h2,h3⟩,hh⟩:=ev;have op:(decide (0<=k) && decide ((k.toNat,te,z)∈(eP 0 (eV qd)).filter (da qd sd)))=true:=op;rw[and_eq_true]at op;have m:=of_decide_eq_true op.2;have l:=ls k te rfl;unfold sF at l;cases hF:hI st te with
   |none=>
    rw[hF]at l;cases l
   |some j=>
    rw[hF]at l;have l:j < h:=of_decide_eq_true l;obtain⟨d',md',rfl,rfl⟩:=oY hF;have:=(g.ev d' md').2;have hn:h.toNat < n+1:=hn;have hh:0<=h:=hh;obtain⟨b,lb,e⟩:=ih d' md' (by omega);have eh:cT qd k.toNat=h:=by rw[dH h1];exact h2
    have:=fo.cl _ (AI (sg:=sg) m) (by
     show(match F d'.1 with|none=>false|some a=>decide (a < cT qd k.toNat))=true;rw[e,eh];exact dT0 (by omega))
    have this:∃b,b<=cT qd k.toNat/\F z=some b:=this;rw[eh]at this;exact this
theorem GH{sg:List GD}{qd:List QD}{sd:List SD}{st:List RI}(g:za sg qd sd st){d:SD}(m:d∈sd)(n:pS d=false):tI st d=true:=by
 have:=uL (sd:=sd) (λd hd=>(g.ev d hd).1) g.nd λd hd=>(g.ev d hd).2;rw[all_eq_true.mpr g.op]at this;unfold Ki at this;have:=all_eq_true.mp this.symm d m;rw[n,Bool.false_or]at this;exact this
theorem Gi{sg:List GD}{qd:List QD}{sd:List SD}{F:FH}{st:List RI}(fo:iO (j4 sg qd sd) F)(g:za sg qd sd st){d:SD}(h:pL F d=false):tI st d=false:=by
 cases d with
 |unh q o=>cases h
 |sil q b e=>cases h
 |bar p q=>cases h
 |knew q i=>
  show Hm (hI st) q i=false;unfold Hm;cases hF:hI st q with
  |none=>rfl
  |some j=>
   obtain⟨d',md',rfl,rfl⟩:=oY hF;obtain⟨b,lb,e⟩:=Ed fo g _ d' md' (lt_succ_self _);have h:(match F d'.1 with|none=>false|some a=>decide (a<=i))=false:=h;rw[e]at h;have h:¬b<=i:=of_decide_eq_false h;exact decide_eq_false (by omega)
theorem Ai{ds:List ED}{F:FH}{st:List ED}(so:uG ds F st){d:ED}(m:d∈st):d∈ds/\qA F d=true:=⟨List.mem_of_find?_eq_some (so.fi d m).2,(zQ (List.find?_some (so.fi d m).2)).2.2⟩
theorem ID{ds:List ED}{F:FH}{st:List ED}(so:uG ds F st):hI (st.map rI)=F:=by
 funext z
 cases hF:F z with
 |none=>
  cases hI':hI (st.map rI) z with
  |none=>rfl
  |some i=>
   obtain⟨d,md,rfl,rfl⟩:=oY hI';obtain⟨e,me,rfl⟩:=mem_map.mp md;have:=(so.fi e me).1;have hF:F e.1=none:=hF;rw[hF]at this;cases this
 |some h=>
  obtain⟨e,me,rfl⟩:=mem_map.mp ((so.me z).mpr (by rw[hF];rfl));have:=uk (st:=st.map rI) (d:=rI e) (by rw[map_map];exact so.nd) (mem_map_of_mem me);have e1:=(so.fi e me).1;rw[hF]at e1;cases e1;exact this
theorem Iw{sg:List GD}{qd:List QD}{sd:List SD}{F:FH}{st:List ED}(so:uG (j4 sg qd sd) F st)(sl:st.length<=24)(gh:∀d∈sg,cO d.2)(qk:∀d∈qd,cO d.1):(∀d∈st.map rI,zT sg qd d.2.1 d.1 d.2.2/\0<=d.2.1)/\∀d∈st.map rI,B0 sg qd sd d=true:=by
 have key:∀e∈st,(zT sg qd (rI e).2.1 (rI e).1 (rI e).2.2/\0<=(rI e).2.1)/\B0 sg qd sd (rI e)=true:=by
  intro e me;obtain⟨m,_⟩:=Ai so me;obtain⟨z,h,w⟩:=e;cases w with
  |saw i=>
   obtain⟨m1,m2⟩:=rF m;refine⟨⟨⟨Int.natCast_nonneg i,by rw[Int.toNat_natCast];exact m2⟩,(gh _ (mem_of_getElem? m2)).1⟩,?_⟩;show(decide (0<=(i:Int)) && eY sg (dJ sd) (i:Int).toNat)=true;rw[dT0 (Int.natCast_nonneg i),Int.toNat_natCast,(mem_filter.mp m1).2];rfl
  |hrd k te=>
   obtain⟨m1,m2⟩:=sD m;obtain⟨j,q,hq,e1,e2⟩:=(jz k te z qd 0).mp (mem_filter.mp m1).1;obtain rfl:k=j:=by omega
   have e3:q.1=h:=by rw[<-m2,dH hq]
   refine⟨⟨⟨Int.natCast_nonneg k,q,by rw[Int.toNat_natCast];exact hq,e3,e2⟩,?_⟩,?_⟩
   ·show 0<=h
    rw[<-e3];exact(qk q (mem_of_getElem? hq)).1
   ·show(decide (0<=(k:Int)) && decide (((k:Int).toNat,te,z)∈(eP 0 (eV qd)).filter (da qd sd)))=true
    rw[dT0 (Int.natCast_nonneg k),Int.toNat_natCast,dT0 m1];rfl
 constructor
 ·intro d hd
  obtain⟨e,me,rfl⟩:=mem_map.mp hd;exact(key e me).1
 ·intro d hd
  obtain⟨e,me,rfl⟩:=mem_map.mp hd;exact(key e me).2
theorem EL{sg:List GD}{qd:List QD}{sd:List SD}{F:FH}{st:List ED}(so:uG (j4 sg qd sd) F st)(sl:st.length<=24)(gh:∀d∈sg,cO d.2)(qk:∀d∈qd,cO d.1){d:SD}(m:d∈sd):tI (st.map rI) d=pL F d:=by
 cases d with
 |knew q h=>
  show Hm (hI (st.map rI)) q h=_;rw[ID so];rfl
 |_=>
  obtain⟨h1,h2⟩:=Iw so sl gh qk;have:=uL (sd:=sd) (λd hd=>(h1 d hd).1) (by rw[map_map];exact so.nd) λd hd=>(h1 d hd).2;rw[all_eq_true.mpr h2]at this;unfold Ki at this;exact all_eq_true.mp this.symm _ m
def BI(F:FH)(sd:List SD):List Nat:=(List.range sd.length).filter (eY sd λd=> !pL F d)
theorem Ie{sg:List GD}{qd:List QD}{sd:List SD}{F:FH}{st:List ED}(so:uG (j4 sg qd sd) F st)(sl:st.length<=24)(gh:∀d∈sg,cO d.2)(qk:∀d∈qd,cO d.1):bx (st.map rI) sd=(BI F sd).map λi=>V.int (i:Nat):=by
 unfold bx BI
 congr 1
 refine filter_congr λi hi=>?_;obtain⟨d,hd⟩:∃d,sd[i]? =some d:=⟨_,getElem?_eq_getElem (mem_range.mp hi)⟩;rw[dw hd,dw hd,EL so sl gh qk (mem_of_getElem? hd)]
inductive FY(C:Addr)(vs:List V)(H:Hp)(Q:VK):Prop
 |mk(x p s t y:Addr)(ps:List Str)(ss ts ys:List V)(sg:List GD)(qd:List QD)(sd:List SD)(e:vs=[.ref x])(bk:Bk C H x p s t y ps ss ts ys)(pl:ps.length<=24)(sl:ss.length<=24)(tl:ts.length<=120)(gs:Lz cU H ss sg)(gk:∀d∈sg,d.1∈ps/\cO d.2)(qs:Lz cY H ts qd)(qk:∀d∈qd,iV ps d)(sy:Sys H ys sd)(l:ys.length<=60)
   (k1:∀(r l:Addr) (F:FH) (H':Hp),cH H H'->H' r=some (.tup [.str "story",.ref l])->iO (j4 sg qd sd) F->BI F sd=[]->Q (.ref r) H')
   (k2:∀(r l:Addr) (us:List V) (F:FH) (n:Nat) (m:List Nat) (H':Hp),cH H H'->H' r=some (.tup [.str "paper",.ref l,.int (n:Nat)])->H' l=some (.lst us)->Lz lJ H' us ((gO ps).map λz=>(z,F z))->iO (j4 sg qd sd) F->BI F sd=n::m->Q (.ref r) H')
def wF(C:Addr):Sp:=λvs H Q _=>FY C vs H Q
theorem vR:cI ["book", "story", "broken"] ["book"] (cF l0):={}
theorem FU (D:Df K mg "settled" l0 ["book"] f fd) (G1a:Gd P w K mg base 6 "earliest_story" (Fs C)) (G0P:Gd P w K mg base 3 "unfitted" (zE C)) (G0Q:Gd P w K mg base 6 "earliest" (xG C)):Gd P w K mg base 7 "settled" (wF C):=by
 refine aF D vR λX H vs Q E hh h=>?_;obtain⟨x,p,s,t,y,ps,ss,ts,ys,sg,qd,sd,rfl,bk,pl,sl,tl,gs,gk,qs,qk,sy,l60,k1,k2⟩:=h;have gp:∀d∈sg,d.1∈ps:=λd hd=>(gk d hd).1;obtain⟨S0,S1,S2,_⟩:=hh.d9 [0,1,2];have G0R:=hh.c G0Q;have G1b:=hh.c G1a;have G0F:=hh.c G0P;have hu:=dY hh.room;refine⟨_,(ah (aA S1 hh.nd (aw G1b (ak (aa S0))))
 (ah (aA S2 hh.nd (aw G0F (aD (aa S0) (aa S1))))
 (ah (aH (aB (J.sh hu) (aa S2) (bA bK) (L2.cJ _))
 (ag (au (aT (aD aM (aa S1)))))
 aI)
 (ag (au (aT (aP aM (aw G0R (ak (aa S0))) (af aR (aa S2) ae aj)))))))),?_⟩
 refine⟨_,rfl,x,p,s,t,y,ps,ss,ts,ys,sg,qd,sd,rfl,bk,pl,sl,tl,gs,gp,qs,qk,sy,l60,λl us F st H1 s1 nl hl lz fo so=>?_⟩;have stl:=Fe so fo pl (qW gp qk);refine⟨_,rfl,_,rfl,x,p,s,t,y,l,ps,ss,ts,ys,us,sd,st.map rI,rfl,bk.mono s1,sy.mono (Tk.of s1),l60,hl,DX lz,(by rw[map_map];exact so.nd),(by rw[length_map];exact stl),λo H2 s2 no ho=>?_⟩;rw[Ie so stl (λd hd=>(gk d hd).2) λd hd=>(qk d hd).1]at ho;have s12:=s1.trans s2;refine⟨_,rfl,zr,λe0 ne0=>?_⟩;have s3:=cH.upd (o:=.lst []) ne0;have he0:upd H2 e0 (.lst []) e0=some (.lst []):=cD;generalize upd H2 e0 (.lst [])=H3 at s3 he0;have s13:=s12.trans s3;cases hb:BI F sd with
 |nil=>
  rw[hb]at ho;refine .same o e0 [] [] [] rfl rfl (cK.of (s3 _ _ ho)) (cK.of he0) rfl rfl (λi u v c h=>by cases h) ⟨_,rfl,dk ⟨_,rfl,zU,λr nr=>?_⟩⟩;exact k1 r l F _ (s13.trans (cH.upd (o:=.tup [.str "story",.ref l]) nr)) cD fo hb
 |cons n m=>
  rw[hb]at ho;refine .other o e0 _ [] rfl rfl (cK.of (s3 _ _ ho)) (cK.of he0) (λe=>by cases e) ⟨_,rfl,cW ?_⟩;refine⟨_,rfl,x,p,s,t,y,ps,ss,ts,ys,sg,qd,sd,rfl,bk.mono s13,pl,sl,tl,gs.mono (cU.mono (Tk.of s13)),gp,qs.mono (cY.mono (Tk.of s13)),qk,sy.mono (Tk.of s13),l60,λl2 us2 G H4 s4 nl2 hl2 rz fo2=>?_⟩;obtain rfl:F=G:=v5 fo fo2;have ho4:=s4 _ _ (s3 _ _ ho);refine⟨_,rfl,xL ho4 (cN (j:=0) (v:=V.int (n:Nat)) rfl) ⟨mM,λr nr=>?_⟩⟩;have s5:=cH.upd (o:=.tup [.str "paper",.ref l2,.int (n:Nat)]) nr;exact k2 r l2 us2 F n m _ ((s13.trans s4).trans s5) cD (s5 _ _ hl2) (rz.mono (lJ.mono (Tk.of s5))) fo hb
inductive MD(vs:List V)(H:Hp)(Q:VK):Prop
 |mk(th s t y nb tl:Addr)(n:Int)(ps:List Str)(ss ts us:List V)(sg:List GD)(qd:List QD)(sd:List SD)(e:vs=[.ref th,.ref nb,.ref tl,.int n])(hth:H th=some (.tup [.ref s,.ref t,.ref y]))(hs:H s=some (.lst ss))(ht:H t=some (.lst ts))(hnb:H nb=some (.lst (eC sg sd sg.length)))(htl:H tl=some (.lst us))(tu:fD H us ((eP 0 (eV qd)).filter (da qd sd)))(sl:ss.length<=24)(tlb:ts.length<=120)(gs:Lz cU H ss sg)(gk:∀d∈sg,d.1∈ps/\cO d.2)(qs:Lz cY H ts qd)(qk:∀d∈qd,iV ps d)(pl:ps.length<=24)
   (k:∀l vs st H',cH H H'->H l=none->H' l=some (.lst vs)->Lz fq H' vs st->za sg qd sd st->Q (.ref l) H')
def FL:Sp:=λvs H Q _=>MD vs H Q
inductive Lk(th nb tl kn:Addr)(n:Int)(ps:List Str)(sg:List GD)(qd:List QD)(sd:List SD)(H:Hp)(σ:St)(H2:Hp):Prop
 |mk(ks:List KA)(e5 e6 e7 e8 e9 e10 e11 e12 e13:Option V)(e:σ=[some (.ref th),some (.ref nb),some (.ref tl),some (.int n),some (.ref kn),e5,e6,e7,e8,e9,e10,e11,e12,e13])(s:cH H H2)(hk:H2 kn=some (.dK (qg ks)))(ka:HH H2 ks)(nd:(ks.map (·.1.1)).Nodup)(g:∀p∈ks,p.1.1∈ps/\cO p.1.2.1)(gd:Ip sg qd (ks.map (·.1)))(op:∀p∈ks,B0 sg qd sd p.1=true)
theorem Ay{th nb tl kn c1 wa:Addr}{n h:Int}{ps:List Str}{sg:List GD}{qd:List QD}{sd:List SD}{H H3 H5:Hp}{z:Str}{w:WI}{ks:List KA}(nkn:H kn=none)(s3:cH H H3)(hk3:H3 kn=some (.dK (qg ks)))(ka:HH H3 ks)(nd:(ks.map (·.1.1)).Nodup)(g3:∀p∈ks,p.1.1∈ps/\cO p.1.2.1)(gd:Ip sg qd (ks.map (·.1)))(op:∀p∈ks,B0 sg qd sd p.1=true)
  (no:∀p∈ks,p.1.1≠z)(hz:z∈ps)(hi:cO h)(hk:zT sg qd h z w)(hg:∀k te,w=.hrd k te->sF (hI (ks.map (·.1))) te h=true)(ow:B0 sg qd sd (z,h,w)=true)(s5:cH H3 H5)(h1:H5 c1=some (.tup [.int h,.ref wa]))(hw:Ei H5 wa w){σ:St}{e5 e6 e7 e8 e9 e10 e11 e12 e13:Option V}(e:σ=[some (.ref th),some (.ref nb),some (.ref tl),some (.int n),some (.ref kn),e5,e6,e7,e8,e9,e10,e11,e12,e13]):
  Lk th nb tl kn n ps sg qd sd H σ (upd H5 kn (.dK (putK (qg ks) (Sum.inr z) (.ref c1)))):=by
 have pe:putK (qg ks) (Sum.inr z) (.ref c1)=qg (ks++[((z,h,w),c1)]):=CD (p:=((z,h,w),c1)) no;have hk5:=s5 _ _ hk3;have tk:Tk H5 (upd H5 kn (.dK (qg (ks++[((z,h,w),c1)])))):=λb xs e=>by
  rw[cG (mO e hk5 (by intro z;cases z))];exact e
 rw[pe];refine⟨ks++[((z,h,w),c1)],_,_,_,_,_,_,_,_,_,e,λb o e=>?_,cD,λp hp=>?_,?_,λp hp=>?_,by rw[map_append];exact BC gd hk hg,λp hp=>?_⟩
 ·rw[cG (cE e nkn)]
  exact s5 _ _ (s3 _ _ e)
 ·rcases mem_append.mp hp with hp|hp
  ·exact(ka.mono ((Tk.of s5).trans tk)) p hp
  ·rw[mem_singleton.mp hp]
   exact⟨wa,tk _ _ h1,hw.mono tk⟩
 ·rw[map_append]
  refine nodup_append.mpr ⟨nd,pairwise_singleton _ _,λa ha b hb e=>?_⟩;obtain⟨p,hp,rfl⟩:=mem_map.mp ha;exact no p hp (e.trans (mem_singleton.mp hb))
 ·rcases mem_append.mp hp with hp|hp
  ·exact g3 p hp
  ·rw[mem_singleton.mp hp]
   exact⟨hz,hi⟩
 ·rcases mem_append.mp hp with hp|hp
  ·exact op p hp
  ·rw[mem_singleton.mp hp]
   exact ow
theorem Kl{K:FG0}{a e:Addr}{xs:List V}{H:Hp}{Q:VK}(h:H a=some (.lst xs))(n:H e=none)(k:∀H',cH H H'->Q (.bl (!xs.isEmpty)) H'):Dq K (.ref a) (.ref e) (upd H e (.lst [])) Q:=by
 have s1:=cH.upd (o:=.lst []) n;cases xs with
 |nil=>exact .same a e [] [] [] rfl rfl (cK.of (s1 _ _ h)) (cK.of cD) rfl rfl (λi u v c hu=>by cases hu) (k _ s1)
 |cons x0 xr=>exact .other a e (x0::xr) [] rfl rfl (cK.of (s1 _ _ h)) (cK.of cD) (by show xr.length+1≠0;omega) (k _ s1)
theorem zA{α:Type}{l:List α}{m:Int}(h:l≠[]):0 < (l.length:Int)/\∃(j:Nat) (v:α),m % (l.length:Int)=(j:Int)/\l[j]? =some v:=by
 have h0:0 < l.length:=List.length_pos_iff.mpr h;have h1:0 < (l.length:Int):=by omega
 have a:=Int.emod_nonneg m (show(l.length:Int)≠0 by omega);have b:=Int.emod_lt_of_pos m h1;refine⟨h1,(m % (l.length:Int)).toNat,_,(Int.toNat_of_nonneg a).symm,getElem?_eq_getElem (by omega)⟩
theorem HA{b:Bool}{t u:TT}{σ:St}{H:Hp}{Q:Bool->Hp->Prop}(b1 b2:Bool)(h1:∀Q':Bool->Hp->Prop,Q' b1 H->t σ H Q')(h2:∀Q':Bool->Hp->Prop,Q' b2 H->u σ H Q')(k:Q (b && (b1 || b2)) H):if b=true then Ly t u σ H Q else Q false H:=by
 cases b with
 |false=>exact cW k
 |true=>
  refine dk (h1 _ ?_);cases b1 with
  |true=>exact dk k
  |false=>exact cW (h2 _ k)
theorem HY{xs:List V}(h:xs.isEmpty=false):xs≠[]:=λe=>by
 rw[e]at h;cases h
theorem vz:cI ["_law_things_here", "_law_numbers", "_law_tellings_here", "_law_number", "_law_known", "_law_turn", "_law_part", "_law_i", "_law_person", "_law_when", "_law_tale", "_law_k", "_law_teller", "_law_hearer"] ["_law_things_here", "_law_numbers", "_law_tellings_here", "_law_number"] (cF mH):={}
theorem IA (D:Df K mg "_law_grown" mH ["_law_things_here", "_law_numbers", "_law_tellings_here", "_law_number"] f fd) (T:Txt K mg kw C) (G0d:Gd P w K mg base 1 "_law_mix" qf):Gd P w K mg base 2 "_law_grown" FL:=by
 refine aF D vz λX H vs Q E hh h=>?_;obtain⟨th,s,t,y,nb,tl,n,ps,ss,ts,us,sg,qd,sd,rfl,hth,hs,ht,hnb,htl,tu,sl,tlb,gs,gk,qs,qk,pl,k⟩:=h;obtain⟨S0,S1,S2,S3,S4,S5,S6,S7,S8,S9,S10,S11,S12,S13,_⟩:=hh.d9 [0,1,2,3,4,5,6,7,8,9,10,11,12,13];have G00:=hh.b T.b_len;have G05:=hh.b T.b_range;have G0e:=hh.b T.b_sorted;have G08:=hh.c G0d;have hu:=dY hh.room;have hsz:sizeLine=16777216:=sizeLine_eq;refine⟨_,(ah (aA S4 hh.nd cv)
 (ah (a9 hh.own hh.calm (bR G05 (ak ae)) (aE S5 hh.nd)
 (ah (aA S6 hh.nd (aw G08 (aD (aa S3) (aa S5))))
 (ag (aH (aX (bg (aB (J.kj hu) (aa S1) (bA bK) (L2.cJ _)) (bz (aX (bF (aB aL (aa S5) ae (L2.cJ _)) (bG (aB aL (az aY (aa S6) ae) ae (L2.cJ _))))))))
 (ah (aA S7 hh.nd (af aR (aa S1) (az aY (az bf (aa S6) ae) (aJ G00 bp L2.dA (ak (aa S1)))) bV))
 (ah (bQ (af aR (af ao (aa S0) ae aj) (aa S7) aK) (bC hh.calm (aG (aE S8 hh.nd) (aG (aE S9 hh.nd) (aG (aE S10 hh.nd) bj)))))
 (ag (aH (J.jw hu (aa S8) (aa S4))
 (ag (bZ hu (aa S4) (aa S8) (aT (aD (aa S9) (aT (aD aM (aa S7)))))))
 aI))))
 (ag (aH (aB (J.kj hu) (aa S2) (bA bK) (L2.cJ _))
 (ah (bQ (af aR (aa S2) (az aY (az bf (aa S6) ae) (aJ G00 bp L2.dA (ak (aa S2)))) bV) (bC hh.calm (aG (aE S11 hh.nd) (aG (aE S12 hh.nd) (aG (aE S13 hh.nd) bj)))))
 (ah (aA S9 hh.nd (af ao (af aR (af ao (aa S0) ae aj) (aa S11) aK) ae aj))
 (ag (aH (aX (bg (J.uS hu (aa S12) (aa S4)) (bg (aB bO (af ao (bh hu (aa S4) (aa S12) aK) ae aj) (aa S9) (L2.cJ _)) (bz (J.jw hu (aa S13) (aa S4))))))
 (ag (bZ hu (aa S4) (aa S13) (aT (aD (aa S9) (aT (aP aM (aa S11) (aa S12)))))))
 aI))))
 aI))))))
 (ag (au (bL (is:=[4]) (xs:=["_law_person"]) (ns:=["_law_known"]) hh.calm (aQ (aJ G0e (J.fP hh.calm) L2.hE (ak (aa S4)))) {} (λ_ _ _ _ _=>(a7 (i:=0) (by decide+kernel) rfl rfl)) (λ_ _ _ _ _=>bN) (λ_ _ _ _ _=>(aT (aP (aO (i:=0) rfl rfl (by decide) (by decide)) (af br (bh hu (a8 (i:=1) rfl rfl (by decide) (by decide)) (aO (i:=0) rfl rfl (by decide) (by decide)) aK) ae aj) (af br (bh hu (a8 (i:=1) rfl rfl (by decide) (by decide)) (aO (i:=0) rfl rfl (by decide) (by decide)) aK) ae aj)))) hh.hsc hh.hN))))),?_⟩
 refine λkn nkn=>?_;have s1:=cH.upd (o:=.dK []) nkn;have hk1:upd H kn (.dK []) kn=some (.dK []):=cD;generalize upd H kn (.dK [])=H1 at s1 hk1;refine⟨(12:Int),rfl,by omega,by omega,fZ (lo:=0) (n:=(12:Int).toNat) (λi σ H2=>Lk th nb tl kn n ps sg qd sd H σ H2) ⟨[],none,none,none,none,none,none,none,none,none,rfl,s1,hk1,(λp hp=>nomatch hp),nodup_nil,(λp hp=>nomatch hp),(λp hp=>nomatch hp),(λp hp=>nomatch hp)⟩ ?_ ?_⟩
 ·rintro i σ H2 hi ⟨ks,e5,e6,e7,e8,e9,e10,e11,e12,e13,rfl,s2,hk2,ka,nd,g3,gd,op⟩
  refine⟨_,rfl,_,rfl,n,0+(i:Int),rfl,by omega,by omega,λm m0 m1=>?_⟩;have hi12:i < 12:=hi;refine⟨_,rfl,zr,λe0 ne0=>Kl (s2 _ _ hnb) ne0 λH3 s3=>?_⟩;have s23:=s2.trans s3;have hk3:=s3 _ _ hk2;have ka3:=ka.mono (Tk.of s3);have kl:(qg ks).length < sizeLine:=by
   have:=jv nd (ps:=ps) λz hz=>by
    obtain⟨p,hp,rfl⟩:=mem_map.mp hz;exact(g3 p hp).1
   unfold qg;rw[length_map]at this ⊢;omega
  refine⟨_,rfl,HA (decide (V.int (0+(i:Int))=V.int 0)) (decide (V.int (m % 4)=V.int 0)) (λQ' q=>⟨_,rfl,rfl,_,rfl,q⟩) (λQ' q=>⟨_,rfl,_,_,rfl,rfl,(by show(0:Int) < 4;decide),rfl,_,rfl,q⟩) (du (λhc=>?_) (λhc=>?_))⟩
  ·
   rw[and_eq_true,not_eq_true']at hc;obtain⟨h1,j,v,ej,hv⟩:=zA (m:=m / 4) (HY hc.1);obtain⟨ix,hix,rfl⟩:=mem_map.mp (mem_of_getElem? hv);obtain⟨hr,hop⟩:=mem_filter.mp hix;obtain⟨g,hg⟩:∃g,sg[ix]? =some g:=⟨_,getElem?_eq_getElem (mem_range.mp hr)⟩;obtain⟨sv,hsv⟩:∃sv,ss[ix]? =some sv:=⟨_,getElem?_eq_getElem (by rw[gs.1];exact mem_range.mp hr)⟩;obtain⟨a,ta,rfl,ha⟩:=gs.2 _ _ _ hsv hg;have hnb3:=s23 _ _ hnb;refine⟨_,rfl,_,rfl,_,_,rfl,rfl,⟨by decide,by decide⟩,_,rfl,nb,_,rfl,.inl (cK.of hnb3),_,_,rfl,rfl,h1,xL hnb3 (by rw[ej];exact cN hv) ?_⟩;refine⟨_,rfl,xT (s23 _ _ hth) rfl ⟨_,rfl,xL (s23 _ _ hs) (cN hsv) ?_⟩⟩;refine⟨a,_,rfl,dv.of (s23 _ _ ha),rfl,_,_,rfl,_,_,rfl,_,_,rfl,rfl,?_⟩;have dg:=dN.k (k:=Sum.inr g.1) hk3;rcases lB ks g.1 with ⟨e1,no⟩|⟨p,mp,e1,e2⟩
   ·rw[e1]at dg
    refine⟨_,rfl,_,rfl,kn,_,rfl,dg,_,rfl,dk ?_⟩;refine⟨_,rfl,_,rfl,zU,λq nq=>⟨zU,λc1 nc1=>?_⟩⟩;have s4:=cH.upd (o:=.tup [.str "saw",.int (ix:Nat)]) nq;have h4:upd H3 q (.tup [.str "saw",.int (ix:Nat)]) q=some (.tup [.str "saw",.int (ix:Nat)]):=cD;generalize upd H3 q (.tup [.str "saw",.int (ix:Nat)])=H4 at s4 h4 nc1;have s5:=cH.upd (o:=.tup [.int g.2,.ref q]) nc1;have h5:upd H4 c1 (.tup [.int g.2,.ref q]) c1=some (.tup [.int g.2,.ref q]):=cD;generalize upd H4 c1 (.tup [.int g.2,.ref q])=H5 at s5 h5;have ek:zT sg qd g.2 g.1 (.saw (ix:Int)):=⟨Int.natCast_nonneg ix,by rw[Int.toNat_natCast];exact hg⟩;refine⟨_,rfl,_,rfl,kn,_,rfl,jc.k (k:=Sum.inr g.1) (s5 _ _ (s4 _ _ hk3)) kl,Ay (w:=.saw (ix:Int)) nkn s23 hk3 ka3 nd g3 gd op no (gk g (mem_of_getElem? hg)).1 (gk g (mem_of_getElem? hg)).2 ek (λ_ _ e=>by cases e) ?_ (s4.trans s5) h5 (s5 _ _ h4) rfl⟩;show(decide (0<=(ix:Int)) && eY sg (dJ sd) (ix:Int).toNat)=true;rw[dT0 (Int.natCast_nonneg ix),Int.toNat_natCast,hop];rfl
   ·rw[e2]at dg
    exact⟨_,rfl,_,rfl,kn,_,rfl,dg,_,rfl,cW ⟨ks,_,_,_,_,_,_,_,_,_,rfl,s23,hk3,ka3,nd,g3,gd,op⟩⟩
  ·
   refine⟨_,rfl,zr,λe1 ne1=>Kl (s23 _ _ htl) ne1 λH4 s4=>?_⟩;have s24:=s23.trans s4;have hk4:=s4 _ _ hk3;have ka4:=ka3.mono (Tk.of s4);have same:∀{σ:St}{e5 e6 e7 e8 e9 e10 e11 e12 e13:Option V},σ=[some (.ref th),some (.ref nb),some (.ref tl),some (.int n),some (.ref kn),e5,e6,e7,e8,e9,e10,e11,e12,e13]->Lk th nb tl kn n ps sg qd sd H σ H4:=λe=>⟨ks,_,_,_,_,_,_,_,_,_,e,s24,hk4,ka4,nd,g3,gd,op⟩;refine⟨_,rfl,du (λhd=>?_) (λhd=>same rfl)⟩;rw[not_eq_true']at hd;obtain⟨h1,j,v,ej,hv⟩:=zA (m:=m / 4) (HY hd);obtain⟨tk,htk⟩:∃tk,((eP 0 (eV qd)).filter (da qd sd))[j]? =some tk:=⟨_,getElem?_eq_getElem (by rw[<-tu.1];exact(gI0.mp hv).1)⟩;obtain⟨a,rfl,ha⟩:=tu.2 _ _ _ hv htk;have mtk:=mem_of_getElem? htk;obtain⟨kk,te,z⟩:=tk;obtain⟨q,hq,m1',m2'⟩:=oy qk (mem_filter.mp mtk).1;obtain⟨jj,q',hq',ejj,mt⟩:=(jz kk te z qd 0).mp (mem_filter.mp mtk).1;obtain rfl:kk=jj:=by omega
   have hq:qd[kk]? =some q:=hq;rw[hq]at hq';cases hq';obtain⟨tv,htv⟩:∃tv,ts[kk]? =some tv:=⟨_,getElem?_eq_getElem (by rw[qs.1];exact(gI0.mp hq).1)⟩;obtain⟨aq,rfl,haq⟩:=qs.2 _ _ _ htv hq;have htl4:=s24 _ _ htl;refine⟨_,rfl,_,rfl,_,_,rfl,rfl,⟨by decide,by decide⟩,_,rfl,tl,_,rfl,.inl (cK.of htl4),_,_,rfl,rfl,h1,xL htl4 (by rw[ej];exact cN hv) ?_⟩;refine⟨a,_,rfl,dv.of (s24 _ _ ha),rfl,_,_,rfl,_,_,rfl,_,_,rfl,rfl,?_⟩;refine⟨_,rfl,xT (s24 _ _ hth) rfl ⟨_,rfl,xL (s24 _ _ ht) (cN htv) (xT (s24 _ _ haq) rfl ?_)⟩⟩;have dgt:=dN.k (k:=Sum.inr te) hk4;have dgz:=dN.k (k:=Sum.inr z) hk4;rcases lB ks te with ⟨e1,no⟩|⟨p,mp,e1,e2⟩
   ·rw[e1]at dgt
    exact⟨_,rfl,_,rfl,kn,_,rfl,dgt,_,rfl,cW (cW (same rfl))⟩
   ·rw[e2]at dgt
    obtain⟨w2,hp2,_⟩:=ka4 p mp;refine⟨_,rfl,_,rfl,kn,_,rfl,dgt,_,rfl,dk ⟨_,rfl,_,rfl,kn,_,rfl,dgt,xT hp2 rfl ⟨_,rfl,_,_,rfl,rfl,_,rfl,du (λhl=>?_) (λhl=>cW (same rfl))⟩⟩⟩;rcases lB ks z with ⟨z1,no⟩|⟨p',mp',z1,z2⟩
    ·rw[z1]at dgz
     refine⟨_,rfl,_,rfl,kn,_,rfl,dgz,_,rfl,dk ?_⟩;refine⟨_,rfl,_,rfl,_,rfl,mM,λq3 nq=>⟨zU,λc1 nc1=>?_⟩⟩;have s5:=cH.upd (o:=.tup [.str "heard",.int (kk:Nat),.str te]) nq;have h5:upd H4 q3 (.tup [.str "heard",.int (kk:Nat),.str te]) q3=some (.tup [.str "heard",.int (kk:Nat),.str te]):=cD;generalize upd H4 q3 (.tup [.str "heard",.int (kk:Nat),.str te])=H5 at s5 h5 nc1;have s6:=cH.upd (o:=.tup [.int q.1,.ref q3]) nc1;have h6:upd H5 c1 (.tup [.int q.1,.ref q3]) c1=some (.tup [.int q.1,.ref q3]):=cD;generalize upd H5 c1 (.tup [.int q.1,.ref q3])=H6 at s6 h6;have ek:zT sg qd q.1 z (.hrd (kk:Int) te):=⟨Int.natCast_nonneg kk,q,by rw[Int.toNat_natCast];exact hq,rfl,mt⟩;refine⟨_,rfl,_,rfl,kn,_,rfl,jc.k (k:=Sum.inr z) (s6 _ _ (s5 _ _ hk4)) kl,Ay (w:=.hrd (kk:Int) te) nkn s24 hk4 ka4 nd g3 gd op no m2' (qk q (mem_of_getElem? hq)).1 ek (λ_ _ e=>by cases e;exact C0 nd mp e1 (of_decide_eq_true hl)) ?_ (s5.trans s6) h6 (s6 _ _ h5) rfl⟩;show(decide (0<=(kk:Int)) && decide (((kk:Int).toNat,te,z)∈(eP 0 (eV qd)).filter (da qd sd)))=true;rw[dT0 (Int.natCast_nonneg kk),Int.toNat_natCast,dT0 mtk];rfl
    ·rw[z2]at dgz
     exact⟨_,rfl,_,rfl,kn,_,rfl,dgz,_,rfl,cW (same rfl)⟩
 ·rintro σ H2 ⟨ks,e5,e6,e7,e8,e9,e10,e11,e12,e13,rfl,s2,hk2,ka,nd,g3,gd,op⟩
  have kl:ks.length<=24:=by
   have:=jv nd (ps:=ps) λz hz=>by
    obtain⟨p,hp,rfl⟩:=mem_map.mp hz;exact(g3 p hp).1
   rw[length_map]at this;omega
  refine⟨_,rfl,kn,qg ks,ks.map (·.1.1),rfl,hk2,(by unfold qg;rw[map_map,map_map];rfl),(by rw[length_map];omega),λl2 zs nl2 znd pm gO=>?_⟩;have s4:=cH.upd (o:=.lst (zs.map V.str)) nl2;have hl4:upd H2 l2 (.lst (zs.map V.str)) l2=some (.lst (zs.map V.str)):=cD;generalize upd H2 l2 (.lst (zs.map V.str))=H4 at s4 hl4;have zl:zs.length=ks.length:=by rw[pm.length_eq,length_map]
  refine⟨l2,rfl,⟨_,cK.of hl4⟩,lA (λj H v=>∃z,zs[j]? =some z/\∃p∈ks,p.1.1=z/\fq H v p.1) (λ_ v _ _ tk ⟨z,e,p,m,e2,h⟩=>⟨z,e,p,m,e2,fq.mono tk v _ h⟩) (cK.of hl4) (by rw[length_map];omega) ?_ ?_⟩
  ·intro j v H5 K1 hv s5 k1
   rw[getElem?_map]at hv;obtain⟨z,hz,rfl⟩:=map_eq_some_iff.mp hv;have hk5:=s5 _ _ (s4 _ _ hk2);have dg:=dN.k (k:=Sum.inr z) hk5;rcases lB ks z with ⟨e1,no⟩|⟨p,mp,e1,e2⟩
   ·exfalso
    obtain⟨p,hp,e⟩:=mem_map.mp (pm.mem_iff.mp (mem_of_getElem? hz));exact no p hp e
   ·rw[e2]at dg
    obtain⟨w2,hp2,hw2⟩:=(ka.mono (Tk.of (s4.trans s5))) p mp;refine⟨_,rfl,_,rfl,_,rfl,kn,_,rfl,dg,xT hp2 rfl ⟨_,rfl,_,rfl,kn,_,rfl,dg,xT hp2 rfl ⟨mM,λc1 hc1=>?_⟩⟩⟩;have s6:=cH.upd (o:=.tup [.str z,.int p.1.2.1,.ref w2]) hc1;refine k1 _ _ s6 ⟨z,hz,p,mp,e1,c1,w2,rfl,?_,hw2.mono (Tk.of s6)⟩;rw[e1];exact cD
  ·intro D' ys H' hD' s' hd' yl hy
   rw[length_map]at yl;obtain⟨st,e1,lz,ho⟩:=xv (H:=H') (O:=λd=>∃p∈ks,d=p.1) ys zs (by rw[yl]) λj v z hv hz=>by
    obtain⟨z',hz',p,mp,e2,en⟩:=hy j v hv;rw[hz]at hz';cases hz';exact⟨p.1,e2,⟨p,mp,rfl⟩,en⟩
   refine k D' ys st H' ((s2.trans s4).trans s') ((s2.trans s4).free hD') hd' lz ⟨by rw[<-lz.1];omega,yE gd nd (by rw[e1];exact pm) (by rw[e1];exact pm.nodup_iff.mpr znd) (by rw[e1];exact gO) ho,by rw[e1];exact pm.nodup_iff.mpr znd,λd hd=>?_,λd hd=>?_⟩
   ·obtain⟨p,mp,rfl⟩:=ho d hd
    exact⟨(gd p.1 (mem_map_of_mem mp)).1,(g3 p mp).2.1⟩
   ·obtain⟨p,mp,rfl⟩:=ho d hd
    exact op p mp
def L9(sg:List GD)(qd:List QD)(sd:List SD)(H:Hp)(a:Addr):Prop:=∃(rs:List V) (st:List RI),H a=some (.lst rs)/\Lz fq H rs st/\za sg qd sd st
inductive Lv(K:FG0)(vs:List V)(H:Hp)(Q:VK):Prop
 |mk(sc th s t y:Addr)(ns:List Int)(ps:List Str)(ss ts ys:List V)(sg:List GD)(qd:List QD)(sd:List SD)(e:vs=[.ref sc,.ref th])(hsc:cK K H sc (ns.map V.int))(hth:H th=some (.tup [.ref s,.ref t,.ref y]))(hs:H s=some (.lst ss))(ht:H t=some (.lst ts))(hy:H y=some (.lst ys))(sl:ss.length<=24)(tl:ts.length<=120)(gs:Lz cU H ss sg)(gk:∀d∈sg,d.1∈ps/\cO d.2)(qs:Lz cY H ts qd)(qk:∀d∈qd,iV ps d)(sy:Sys H ys sd)(pl:ps.length<=24)
   (k:∀l us H',cH H H'->H' l=some (.lst us)->us.length<=10->(∀v∈us,∃a,v=.ref a/\L9 sg qd sd H' a)->Q (.ref l) H')
def Ad(K:FG0):Sp:=λvs H Q _=>Lv K vs H Q
theorem se:cI ["_law_script", "_law_things_here", "_law_numbers", "_law_tellings_here", "_law_some", "_law_k"] ["_law_script", "_law_things_here"] (cF i8):={}
theorem EO (D:Df K mg "_law_stories" i8 ["_law_script", "_law_things_here"] f fd) (T:Txt K mg kw C) (G0d:Gd P w K mg base 1 "_law_mix" qf) (G0H:Gd P w K mg base 3 "_law_open" nO) (G23:Gd P w K mg base 2 "_law_grown" FL):Gd P w K mg base 4 "_law_stories" (Ad K):=by
 refine aF D se λX H vs Q E hh h=>?_;obtain⟨sc,th,s,t,y,ns,ps,ss,ts,ys,sg,qd,sd,rfl,hsc,hth,hs,ht,hy,sl,tlb,gs,gk,qs,qk,sy,pl,k⟩:=h;rw[<-hh.fK]at hsc;obtain⟨S0,S1,S2,S3,S4,S5,_⟩:=hh.d9 [0,1,2,3,4,5];have G05:=hh.b T.b_range;have G1L:=hh.b T.b_sum;have G24:=hh.c G23;have G08:=hh.c G0d;have G0I:=hh.c G0H;have hsz:sizeLine=16777216:=sizeLine_eq;refine⟨_,(ah (bQ (aw G0I (ak (aa S1))) (bC hh.calm (aG (aE S2 hh.nd) (aG (aE S3 hh.nd) bj))))
 (ah (aA S4 hh.nd (bA bK))
 (ah (a9 hh.own hh.calm (bR G05 (ak ae)) (aE S5 hh.nd)
 (ag (bH (bJ plainAttrs_list PySem.F.slot_list_append PySem.F.type_list_append bI (aa S4) (ak (aw G24 (bS (aa S1) (aa S2) (aa S3) (aw G08 (aD (aJ G1L (J.ie hh.calm) L2.vn (ak (J.hU J.jF (aa S0) J.jB (J.jx ae)))) (az bu ae (aa S5)))))))))))
 (ag (au (aa S4)))))),?_⟩
 refine⟨_,rfl,th,s,t,y,ps,ss,ts,ys,sg,qd,sd,rfl,hth,hs,ht,hy,sl,tlb,gs,(λd hd=>(gk d hd).2),qs,qk,sy,λr nb tl us H1 s1 _ _ _ hr hnb htl tu=>?_⟩;refine⟨r,_,rfl,dv.of hr,rfl,_,_,rfl,_,_,rfl,rfl,?_⟩;refine⟨zr,λl nl=>?_⟩;have s2:=cH.upd (o:=.lst []) nl;have hl2:upd H1 l (.lst []) l=some (.lst []):=cD;generalize upd H1 l (.lst [])=H2 at s2 hl2;obtain⟨n1,c1,_⟩:=pG ns (k:=63) (by decide);refine⟨(10:Int),rfl,by omega,by omega,fZ (lo:=0) (n:=(10:Int).toNat) (λi σ H3=>∃(e5:Option V) (ws:List V),σ=[some (.ref sc),some (.ref th),some (.ref nb),some (.ref tl),some (.ref l),e5]/\cH H1 H3/\H3 l=some (.lst ws)/\ws.length=i/\∀v∈ws,∃a,v=.ref a/\a≠l/\L9 sg qd sd H3 a) ⟨none,[],rfl,s2,hl2,rfl,λv hv=>nomatch hv⟩ ?_ ?_⟩
 ·rintro i σ H3 hi ⟨e5,ws,rfl,s3,hl3,wl,wa⟩
  have hi10:i < 10:=hi;have s13:=s1.trans s3;refine⟨_,rfl,.inl ⟨rfl,_,cK.of hl3⟩,_,rfl,_,rfl,_,rfl,_,rfl,_,rfl,sc,_,rfl,s13.seq hsc,λp1 np1=>?_⟩;have s4:=cH.upd (o:=.lst (jm (ns.map V.int) none (some 63))) np1;refine⟨p1,n1,rfl,cK.of (by rw[<-c1];exact cD),_,rfl,_,_,rfl,rfl,_,40+(0+(i:Int)),rfl,by omega,by omega,λm m0 m1=>?_⟩;generalize upd H3 p1 (.lst (jm (ns.map V.int) none (some 63)))=H4 at s4;have s14:=s3.trans s4;have s04:=s13.trans s4;refine⟨th,s,t,y,nb,tl,m,ps,ss,ts,us,sg,qd,sd,rfl,s04 _ _ hth,s04 _ _ hs,s04 _ _ ht,s14 _ _ hnb,s14 _ _ htl,tu.mono (Tk.of s14),sl,tlb,gs.mono (cU.mono (Tk.of s04)),gk,qs.mono (cY.mono (Tk.of s04)),qk,pl,λa vs st H5 s5 na ha lz go=>?_⟩;have s35:=s4.trans s5;have hl5:=s35 _ _ hl3;refine⟨l,ws,.ref a,rfl,rfl,hl5,by omega,?_⟩;have tkU:=Tk.upd hl5 (ys:=ws++[.ref a]);refine⟨_,ws++[.ref a],rfl,λb o e=>?_,cD,by rw[length_append,wl];rfl,λv hv=>?_⟩
  ·rw[cG (cE e nl)]
   exact s35 _ _ (s3 _ _ e)
  ·rcases mem_append.mp hv with hv|hv
   ·obtain⟨b,rfl,nb',rs,st',h1,h2,h3⟩:=wa v hv
    exact⟨b,rfl,nb',rs,st',by rw[cG nb'];exact s35 _ _ h1,(h2.mono (fq.mono (Tk.of s35))).mono (fq.mono tkU),h3⟩
   ·have nal:a≠l:=λe=>by
     rw[e,s4 _ _ hl3]at na;cases na
    exact⟨a,mem_singleton.mp hv,nal,vs,st,by rw[cG nal];exact ha,lz.mono (fq.mono tkU),go⟩
 ·rintro σ H3 ⟨e5,ws,rfl,s3,hl3,wl,wa⟩
  refine⟨_,rfl,k l ws H3 (s1.trans s3) hl3 (by rw[wl];exact le_refl _) λv hv=>?_⟩;obtain⟨a,e,_,h⟩:=wa v hv;exact⟨a,e,h⟩
def kh(H H':Hp):Prop:=∀b o,H b=some o->(∀ps,o≠.tbl ps)->H' b=some o
theorem kh.of{P0:Addr}{H H':Hp}{pos:Pos}{qual:Str}(s:jN P0 H H')(tb:ku H P0 pos qual):kh H H':=λb o e n=>by
 refine s b o (λz=>?_) e;obtain⟨ps',h1,_⟩:=tb;rw[z,h1]at e;cases e;exact n _ rfl
theorem kh.same{H H':Hp}(s:cH H H'):kh H H':=λb o e _=>s b o e
theorem kh.trans{H H1 H2:Hp}(a:kh H H1)(b:kh H1 H2):kh H H2:=λc o e n=>b c o (a c o e n) n
theorem kh.lst{H H':Hp}(s:kh H H'){a:Addr}{xs:List V}(h:H a=some (.lst xs)):H' a=some (.lst xs):=s _ _ h (by intro _ z;cases z)
theorem kh.tk{H H':Hp}(s:kh H H'):Tk H H':=λb xs e=>s b _ e (by intro _ z;cases z)
theorem kh.bk{H H':Hp}(s:kh H H'){C x p q t y:Addr}{ps:List Str}{ss ts ys:List V}(h:Bk C H x p q t y ps ss ts ys):Bk C H' x p q t y ps ss ts ys:=by
 obtain⟨⟨dx,hx⟩,hp,hs,ht,hy⟩:=h;exact⟨⟨dx,s _ _ hx (by intro _ z;cases z)⟩,s.lst hp,s.lst hs,s.lst ht,s.lst hy⟩
def oN:Option Nat->V
 |none=>.non
 |some n=>.int (n:Nat)
inductive NT(C P0:Addr)(vs:List V)(H:Hp)(Q:VK):Prop
 |mk(x p' s' t' y' th s t y l fi:Addr)(ps:List Str)(ss ts ys rs:List V)(sg:List GD)(qd:List QD)(sd:List SD)(st:List RI)(kvs:List (Key×V))(F:FH)(bo:Option Nat)(e:vs=[.ref x,.ref th,.ref l,.ref fi,oN bo])(bk:Bk C H x p' s' t' y' ps ss ts ys)(hth:H th=some (.tup [.ref s,.ref t,.ref y]))(hy:H y=some (.lst ys))(sl:ss.length<=24)(tl:ts.length<=120)(yl:ys.length<=60)(gs:Lz cU H ss sg)(gp:∀d∈sg,d.1∈ps)(qs:Lz cY H ts qd)(qk:∀d∈qd,iV ps d)(sy:Sys H ys sd)(hl:H l=some (.lst rs))(lz:Lz fq H rs st)(go:za sg qd sd st)(hfi:H fi=some (.dK kvs))(og:Jm ps kvs F)(fo:iO (j4 sg qd sd) F)(hb:∀n,bo=some n->eY sd (λd=> !pL F d) n=true/\n < sd.length)(tb:ku H P0 iq k7)
   (k:∀H',kh H H'->ku H' P0 iq k7->Q (.bl true) H')
def Fm(C P0:Addr):Sp:=λvs H Q _=>NT C P0 vs H Q
section
variable {P:Program}{w:World}{K:FG0}{mg:Str->Option Value}{base:Heap}{kw C P0:Addr}
theorem mS:cI ["_law_book_here", "_law_things_here", "_law_story", "_law_first", "_law_broken", "_law_k", "_law_person", "_law_when", "_law_way"] ["_law_book_here", "_law_things_here", "_law_story", "_law_first", "_law_broken"] (cF gf):={}
theorem Ju {f:Addr}{fd:FuncData}(D:Df K mg "_law_story_well" gf ["_law_book_here", "_law_things_here", "_law_story", "_law_first", "_law_broken"] f fd) (G2A:Gd P w K mg base 3 "is_story" (Fb C P0)) (G0P:Gd P w K mg base 3 "unfitted" (zE C)):Gd P w K mg base 4 "_law_story_well" (Fm C P0):=by
 refine aF D mS λX H vs Q E hh h=>?_;obtain⟨x,p',s',t',y',th,s,t,y,l,fi,ps,ss,ts,ys,rs,sg,qd,sd,st,kvs,F,bo,rfl,bk,hth,hy,sl,tl,yl,gs,gp,qs,qk,sy,hl,lz,go,hfi,og,fo,hb,tb,k⟩:=h;obtain⟨S0,S1,S2,S3,S4,S5,S6,S7,S8,_⟩:=hh.d9 [0,1,2,3,4,5,6,7,8];have G2B:=hh.c G2A;have G0F:=hh.c G0P;have hu:=dY hh.room;have hsz:sizeLine=16777216:=sizeLine_eq;refine⟨_,(ah (aH (aB J.qZ (aw G2B (aD (aa S0) (aa S2))) a5 (L2.cJ _))
 (ag (au a5))
 aI)
 (ah (a9 hh.own hh.calm (aQ (aw G0F (aD (aa S0) (aa S2)))) (aE S5 hh.nd)
 (ag (aH (aB bU (af ao (af aR (af ao (aa S1) ae aj) (aa S5) aK) ae aj) aM (L2.cJ _))
 (ag (au a5))
 aI)))
 (ah (a9 hh.own hh.calm (aQ (aa S2)) (bC hh.calm (aG (aE S6 hh.nd) (aG (aE S7 hh.nd) (aG (aE S8 hh.nd) bj))))
 (ag (aH (aX (bF (aB cu (bh hu (aa S3) (aa S6) aK) bE (L2.cJ _)) (bG (aB b9 (bh hu (aa S3) (aa S6) aK) (aa S7) (L2.cJ _)))))
 (ag (au a5))
 aI)))
 (ag (au (J.qp (aU cu (aa S4) bE (L2.cJ _)) (aZ (aU J.hJ (aa S4) (aw G0F (aD (aa S0) (aa S2))) J.ze)))))))),?_⟩
 have stl:=go.sl;refine⟨_,rfl,_,rfl,x,p',s',t',y',l,ps,ss,ts,ys,rs,sg,qd,st,rfl,bk,sl,tl,gs,qs,qk,hl,lz,(by omega),tb,λH1 sP tb1=>?_⟩;have k1:kh H H1:=.of sP tb;rw[go.is];refine⟨_,_,rfl,rfl,_,rfl,cW ?_⟩;have nd:=go.nd;have unf:∀{H2:Hp}{Q':VK},kh H1 H2->(∀o H',cH H2 H'->H2 o=none->H' o=some (.lst (bx st sd))->Q' (.ref o) H')->zE C [.ref x,.ref l] H2 Q' E0:=λ{H2 Q'} kp kk=>
  ⟨x,p',s',t',y',l,ps,ss,ts,ys,rs,sd,st,rfl,(k1.trans kp).bk bk,sy.mono (k1.trans kp).tk,yl,(k1.trans kp).lst hl,lz.mono (fq.mono (k1.trans kp).tk),nd,stl,kk⟩
 have bin:∀(j:Nat) v,(bx st sd)[j]? =some v->∃(n:Nat) (q:Str) (h:Int),v=.int (n:Nat)/\sd[n]? =some (.knew q h):=λj v hv=>by
  obtain⟨n,hn,rfl⟩:=mem_map.mp (mem_of_getElem? hv);obtain⟨n1,n2⟩:=mem_filter.mp hn;obtain⟨d,hd⟩:∃d,sd[n]? =some d:=⟨_,getElem?_eq_getElem (mem_range.mp n1)⟩;rw[dw hd,not_eq_true']at n2;cases hk:pS d with
  |false=>
   rw[GH go (mem_of_getElem? hd) hk]at n2;cases n2
  |true=>
   cases d with
   |knew q h=>exact⟨n,q,h,rfl,hd⟩
   |unh q o=>cases hk
   |sil q b e=>cases hk
   |bar p q=>cases hk
 have bl:(bx st sd).length<=60:=by
  unfold bx;rw[length_map];exact le_trans (length_filter_le _ _) (by rw[length_range,<-sy.1];exact yl)
 refine⟨_,rfl,_,rfl,unf (.same (cH.refl _)) λo H2 s2 no ho=>?_⟩;refine⟨o,rfl,⟨_,cK.of ho⟩,dj (K:=X.K) (a:=o) (xs:=bx st sd) (λi σ H3=>∃e5:Option V,σ=[some (.ref x),some (.ref th),some (.ref l),some (.ref fi),some (oN bo),e5,none,none,none]/\cH H2 H3) ⟨none,rfl,cH.refl _⟩ ?_ ?_ ?_⟩
 ·rintro i σ H3 hi ⟨e5,rfl,s3⟩
  exact cK.of (s3 _ _ ho)
 ·rintro i v σ H3 hv ⟨e5,rfl,s3⟩
  obtain⟨n,q,h,rfl,hd⟩:=bin i v hv;obtain⟨sv,hsv⟩:∃sv,ys[n]? =some sv:=⟨_,getElem?_eq_getElem (by rw[sy.1];exact(gI0.mp hd).1)⟩;have k3:kh H H3:=k1.trans (.same (s2.trans s3));obtain⟨d',a,hd',rfl,ha⟩:=(sy.mono k3.tk).at hsv;rw[hd]at hd';cases hd';refine⟨_,rfl,xT (k3.tk _ _ hth) rfl ⟨_,rfl,xL (k3.lst hy) (cN hsv) (xT ha rfl ⟨rfl,_,rfl,iN ⟨_,rfl,s3⟩⟩)⟩⟩
 rintro σ H3 ⟨e5,rfl,s3⟩;have k3:kh H H3:=k1.trans (.same (s2.trans s3));have k13:kh H1 H3:=.same (s2.trans s3);refine⟨_,rfl,l,rfl,⟨_,cK.of (k3.lst hl)⟩,dj (K:=X.K) (a:=l) (xs:=rs) (λi σ H4=>∃e6 e7 e8:Option V,σ=[some (.ref x),some (.ref th),some (.ref l),some (.ref fi),some (oN bo),e5,e6,e7,e8]/\cH H3 H4) ⟨none,none,none,rfl,cH.refl _⟩ ?_ ?_ ?_⟩
 ·rintro i σ H4 hi ⟨e6,e7,e8,rfl,s4⟩
  exact cK.of (s4 _ _ (k3.lst hl))
 ·rintro i v σ H4 hv ⟨e6,e7,e8,rfl,s4⟩
  have k4:kh H H4:=k3.trans (.same s4);obtain⟨d,hd,a,wa,rfl,ha,hw⟩:=(lz.mono (fq.mono k4.tk)).at hv;obtain⟨b,lb,eF⟩:=Ed fo go _ d (mem_of_getElem? hd) (lt_succ_self _);have dg:=dN.k (k:=Sum.inr d.1) (k4 _ _ hfi (by intro _ z;cases z));rw[og.get d.1 (EG fo (qW gp qk) eF),eF]at dg;refine⟨a,_,rfl,dv.of ha,rfl,_,_,rfl,_,_,rfl,_,_,rfl,rfl,?_⟩;exact⟨_,rfl,_,rfl,fi,_,rfl,dg,rfl,_,rfl,cW ⟨_,rfl,_,rfl,fi,_,rfl,dg,_,rfl,_,_,rfl,rfl,_,rfl,iW (by rw[decide_eq_true_iff];omega) ⟨_,_,_,rfl,s4⟩⟩⟩
 rintro σ H4 ⟨e6,e7,e8,rfl,s4⟩;have k14:kh H1 H4:=k13.trans (.same s4);have tb4:ku H4 P0 iq k7:=tb1.mono ((s2.trans s3).trans s4);cases bo with
 |none=>exact⟨_,rfl,rfl,_,rfl,dk (k H4 (k1.trans k14) tb4)⟩
 |some n=>
  refine⟨_,rfl,rfl,_,rfl,cW ⟨_,rfl,_,rfl,_,rfl,unf k14 λo2 H5 s5 no2 ho2=>?_⟩⟩;obtain⟨h1,h2⟩:=hb n rfl;have m:V.int (n:Nat)∈bx st sd:=by
   refine mem_map.mpr ⟨n,mem_filter.mpr ⟨mem_range.mpr h2,?_⟩,rfl⟩;obtain⟨d,hd⟩:∃d,sd[n]? =some d:=⟨_,getElem?_eq_getElem h2⟩;rw[dw hd,not_eq_true']at h1;rw[dw hd,Gi fo go h1];rfl
  have kz:=k H5 ((k1.trans k14).trans (.same s5)) (tb4.mono s5);refine⟨o2,_,rfl,.inl (cK.of ho2),rfl,all_eq_true.mpr λv hv=>?_,?_⟩
  ·obtain⟨n',_,rfl⟩:=mem_map.mp hv
   rfl
  ·have e:zu (V.int (n:Nat)) (bx st sd)=true:=by
    unfold zu;exact any_eq_true.mpr ⟨_,m,dT0 rfl⟩
   show Q (.bl (zu (V.int (n:Nat)) (bx st sd))) H5;rw[e];exact kz
end
theorem vO{sd sd':List SD}(h:∀d,pS d=false->(d∈sd'↔d∈sd)){sg:List GD}(gh:∀d∈sg,0<=d.2){i:Nat}:eY sg (dJ sd') i=eY sg (dJ sd) i:=by
 cases hg:sg[i]? with
 |none=>
  unfold eY;rw[hg]
 |some g=>
  rw[dw hg,dw hg];show dG g.2 (floorOf g.1 sd')=dG g.2 (floorOf g.1 sd);have:=gh g (mem_of_getElem? hg);rw[Bool.eq_iff_iff,fV this,fV this];exact⟨λk o m=>k o ((h _ rfl).mpr m),λk o m=>k o ((h _ rfl).mp m)⟩
theorem sJ{sd sd':List SD}(h:∀d,pS d=false->(d∈sd'↔d∈sd)){p:SD->Bool}(n:∀d,p d=true->pS d=false):sd'.any p=sd.any p:=by
 rw[Bool.eq_iff_iff,any_eq_true,any_eq_true];exact⟨λ⟨d,m,e⟩=>⟨d,(h d (n d e)).mp m,e⟩,λ⟨d,m,e⟩=>⟨d,(h d (n d e)).mpr m,e⟩⟩
theorem By{sg:List GD}{qd:List QD}{sd sd':List SD}(h:∀d,pS d=false->(d∈sd'↔d∈sd))(gh:∀d∈sg,0<=d.2)(qh:∀d∈qd,0<=d.1):j4 sg qd sd'=j4 sg qd sd:=by
 unfold j4;have e1:(List.range sg.length).filter (eY sg (dJ sd'))=(List.range sg.length).filter (eY sg (dJ sd)):=filter_congr λi _=>vO h gh;have e2:(eP 0 (eV qd)).filter (da qd sd')=(eP 0 (eV qd)).filter (da qd sd):=filter_congr λt ht=>by
  obtain⟨k,te,z⟩:=t;obtain⟨j,q,hq,e,_⟩:=(jz k te z qd 0).mp ht;obtain rfl:k=j:=by omega
  have e0:cT qd k=q.1:=dH hq;show(dG (cT qd k) (floorOf z sd') && !(sd'.any (iQ te (cT qd k)) || sd'.any (je z te)))=(dG (cT qd k) (floorOf z sd) && !(sd.any (iQ te (cT qd k)) || sd.any (je z te)));rw[e0,sJ h (p:=iQ te q.1) (λd e=>by cases d<;>first|rfl|cases e),sJ h (p:=je z te) (λd e=>by cases d<;>first|rfl|cases e)];have a:dG q.1 (floorOf z sd')=dG q.1 (floorOf z sd):=by
   have:=qh q (mem_of_getElem? hq);rw[Bool.eq_iff_iff,fV this,fV this];exact⟨λk o m=>k o ((h _ rfl).mpr m),λk o m=>k o ((h _ rfl).mp m)⟩
  rw[a]
 rw[e1,e2]
theorem Cq{F:FH}{sd:List SD}(h:∀d∈sd,pL F d=true):BI F sd=[]:=List.filter_eq_nil_iff.mpr λi hi=>by
 obtain⟨d,hd⟩:∃d,sd[i]? =some d:=⟨_,getElem?_eq_getElem (mem_range.mp hi)⟩;rw[dw hd,h d (mem_of_getElem? hd)];exact bF0
theorem GF{F:FH}{sd:List SD}{n:Nat}{m:List Nat}(h:BI F sd=n::m):eY sd (λd=> !pL F d) n=true/\n < sd.length:=by
 have:n∈BI F sd:=by
  rw[h];exact .head _
 obtain⟨a,b⟩:=mem_filter.mp this;exact⟨b,mem_range.mp a⟩
inductive KC(ps:List Str)(sg:List GD)(qd:List QD)(sd:List SD)(r:Addr)(H:Hp):Prop
 |story (l:Addr) (F:FH) (hr:H r=some (.tup [.str "story",.ref l])) (fo:iO (j4 sg qd sd) F) (hb:BI F sd=[])
 |paper (l:Addr) (us:List V) (F:FH) (n:Nat) (m:List Nat) (hr:H r=some (.tup [.str "paper",.ref l,.int (n:Nat)])) (hl:H l=some (.lst us)) (rz:Lz lJ H us ((gO ps).map λz=>(z,F z))) (fo:iO (j4 sg qd sd) F) (hb:BI F sd=n::m)
theorem Br{C x p s t y:Addr}{ps:List Str}{ss ts ys:List V}{sg:List GD}{qd:List QD}{sd:List SD}{H:Hp}{Q:VK}(bk:Bk C H x p s t y ps ss ts ys)(pl:ps.length<=24)(sl:ss.length<=24)(tl:ts.length<=120)(gs:Lz cU H ss sg)(gk:∀d∈sg,d.1∈ps/\cO d.2)(qs:Lz cY H ts qd)(qk:∀d∈qd,iV ps d)(sy:Sys H ys sd)(l:ys.length<=60)(k:∀(r:Addr)(H':Hp),cH H H'->KC ps sg qd sd r H'->Q (.ref r) H'):wF C [.ref x] H Q E0:=
 ⟨x,p,s,t,y,ps,ss,ts,ys,sg,qd,sd,rfl,bk,pl,sl,tl,gs,gk,qs,qk,sy,l,λr l F H' s hr fo hb=>k r H' s (.story l F hr fo hb),λr l us F n m H' s hr hl rz fo hb=>k r H' s (.paper l us F n m hr hl rz fo hb)⟩
theorem BJ{F:FH}{d:SD}(h:pS d=false):pL F d=true:=by
 cases d with
 |knew q i=>cases h
 |_=>rfl
theorem DT{i j:Nat}{v:V}{tc:TT}{u t2:TS}{D:Ends}{σ:St}{H:Hp}(R:St->Hp->Prop)(hR:∀σ' H',R σ' H'->t2 D σ' H')(b:Bool)(hc:∀Q:Bool->Hp->Prop,Q b H->tc ((σ.set i (some v)).set j (some .non)) H Q)(h1:b=true->(∀σ' H',R σ' H'->t2 D σ' H')->u { D with nx:=t2 D } ((σ.set i (some v)).set j (some .non)) H)(h2:b=false->R ((σ.set i (some v)).set j (some .non)) H):
  eS i v σ H (λσ2 H2=>tX (rJ (tC .non) (eS j)) (tX (y8 tc u p9) t2) D σ2 H2):=by
 refine hc _ ?_;cases b with
 |true=>exact dk (h1 rfl hR)
 |false=>exact cW (hR _ _ (h2 rfl))
abbrev FO(sc nl th x rw fi r:Addr)(W:Int)(bo:Option Nat)(a b c:Option V):St:=[some (.ref sc),some (.int W),some (.ref nl),some (.ref th),some (.ref x),some (.ref rw),some (.ref fi),some (.ref r),some (oN bo),a,b,c]
inductive LM(f:Option V->St)(kp:Addr)(F:FH)(sd:List SD)(ys:List V)(H9:Hp)(i:Nat)(σ:St)(H:Hp):Prop
 |mk(e:Option V)(ws:List V)(eq:σ=f e)(s:cH H9 H)(hk:H kp=some (.lst ws))(wl:ws.length<=i)(wi:∀v∈ws,v∈ys)(sw:Sys H ws ((sd.take i).filter (pL F)))
inductive FI  (K:FG0)(P0:Addr)(vs:List V)(H:Hp)(Q:VK):Prop
 |mk(a:Addr)(ns:List Int)(h0:vs=[.ref a])(h1:cK K H a (ns.map V.int))(h2:ns.length<=63)(h3:H P0=some (.tbl #[]))(h4:∀H',Q (.bl true) H')
def wZ  (K:FG0)(P0:Addr):Sp:=λvs H Q _=>FI K P0 vs H Q
section
variable {P:Program}{w:World}{K:FG0}{mg:Str->Option Value}{base:Heap}{kw C P0:Addr}
theorem F8:cI ["_law_script", "_law_whole", "_law_names_here", "_law_things_here", "_law_book_here", "_law_rows", "_law_first", "_law_told", "_law_broken", "_law_story", "_law_kept", "_law_row"] ["_law_script"] (cF oP):={}
theorem EV {f:Addr}{fd:FuncData}(F:o7 K "law" "law" oP f fd) (T:Txt K mg kw C) (G25:Gd P w K mg base 4 "_law_drawn" (zC K)) (G2p:Gd P w K mg base 9 "_law_book" (Bp C)) (G0Q:Gd P w K mg base 6 "earliest" (xG C)) (G2J:Gd P w K mg base 7 "settled" (wF C)) (G2C:Gd P w K mg base 6 "is_paper" (xB C)) (G1q:Gd P w K mg base 4 "_law_stories" (Ad K)) (G0X:Gd P w K mg base 4 "_law_story_well" (Fm C P0)):eD P w K mg base kg 10 f fd ["_law_script"] (wZ K P0):=by
 refine J.nN F F8 (λvs H Q E h=>?_) (λX H vs Q E hh h=>?_)
 ·obtain⟨a,ns,rfl,_⟩:=h
  rfl
 ·obtain⟨sc,ns,rfl,hsc,n63,hP,q⟩:=h
  obtain⟨S0,S1,S2,S3,S4,S5,S6,S7,S8,S9,S10,S11,_⟩:=hh.d9 [0,1,2,3,4,5,6,7,8,9,10,11];have G22:=hh.b T.b_dict;have G0Z:=hh.c G2p;have G2a:=hh.c G25;have G1r:=hh.c G1q;have G0Y:=hh.c G0X;have G0R:=hh.c G0Q;have G1i:=hh.c G2C;have G1t:=hh.c G2J;have hu:=dY hh.room;obtain rfl:=hh.fK;have hsz:sizeLine=16777216:=sizeLine_eq;have tb:ku H P0 iq k7:=⟨#[],hP,trivial,.inl rfl⟩;refine⟨_,(ah (bQ (aw G2a (aD (aa S0) ae)) (bC hh.calm (aG (aE S1 hh.nd) (aG (aE S2 hh.nd) (aG (aE S3 hh.nd) bj)))))
 (ah (aA S4 hh.nd (aw G0Z (aD (aa S2) (aa S3))))
 (ah (aA S5 hh.nd (aw G0R (ak (aa S4))))
 (ah (aA S6 hh.nd (bw G22 (J.eJ hh.calm) L2.xJ (ak (aa S5))))
 (ah (aA S7 hh.nd (aw G1t (ak (aa S4))))
 (ah (aA S8 hh.nd bE)
 (ah (aH (aB aL (af ao (aa S7) ae aj) aM (L2.cJ _))
 (ah (aA S8 hh.nd (af ao (aa S7) ae aj))
 (ag (aH (aX (bF (bq (ba (aw G1i (aD (aa S4) (af ao (aa S7) ae aj))))) (bG (aB bU (af ao (af aR (af ao (aa S3) ae aj) (aa S8) aK) ae aj) aM (L2.cJ _)))))
 (ag (au a5))
 aI)))
 aI)
 (ah (aH (bq (ba (aw G1i (aD (aa S4) (aa S5)))))
 (ag (au a5))
 aI)
 (ah (a9 hh.own hh.calm (aQ (aw G1r (aD (aa S0) (aa S3)))) (aE S9 hh.nd)
 (ag (aH (bq (ba (aw G0Y (J.My (aa S4) (aa S3) (aa S9) (aa S6) (aa S8)))))
 (ag (au a5))
 aI)))
 (ah (aA S10 hh.nd (bA bK))
 (ah (a9 hh.own hh.calm (aQ (af ao (aa S3) ae aj)) (aE S11 hh.nd)
 (ag (aH (aX (bF (aB bU (af ao (aa S11) ae aj) aM (L2.cJ _)) (bG (aX (bg (aB cC (bh hu (aa S6) (af ao (aa S11) ae aj) b8) bE (L2.cJ _)) (bz (aB bD (bh hu (aa S6) (af ao (aa S11) ae aj) b8) (af ao (aa S11) ae aj) (L2.cJ _))))))))
 (ag (bH (bJ plainAttrs_list PySem.F.slot_list_append PySem.F.type_list_append bI (aa S10) (ak (aa S11)))))
 aI)))
 (ag (au (aU aL (af ao (aw G1t (ak (aw G0Z (aD (aa S2) (aT (aP (af ao (aa S3) ae aj) (af ao (aa S3) ae aj) (aa S10))))))) ae aj) aM (L2.cJ _))))))))))))))),?_⟩
  refine⟨_,rfl,sc,ns,rfl,hsc,n63,λr nl th s t y W ps ss ts ys H1 s1 hr W0 W1 hnl po ok=>?_⟩;refine⟨r,_,rfl,dv.of hr,rfl,_,_,rfl,_,_,rfl,_,_,rfl,rfl,?_⟩;clear hr;obtain⟨sg,gs,gk⟩:=mR ok.gs;obtain⟨qd,qs,qk⟩:=AE ok.gt;obtain⟨sd,sy,sk⟩:=lH ok.gy;have ll:=ok.lt;have plo:=po.lo;have phi:=po.hi;have lly:=ok.ly;have lls:=ok.ls;have gp:∀d∈sg,d.1∈ps:=λd hd=>(gk d hd).1;refine⟨_,rfl,_,rfl,nl,th,s,t,y,ps,ss,ts,ys,rfl,hnl,ok.hth,ok.hs,ok.ht,ok.hy,⟨po,ok.ls,ok.gs,by omega,ok.gt,ok.ly,ok.gy⟩,λx p' s' t' y' H2 s2 nx bk=>?_⟩;have bkk:∀{H3:Hp},kh H2 H3->Bk C H3 x p' s' t' y' ps ss ts ys:=λk=>k.bk bk;refine⟨_,rfl,x,p',s',t',y',ps,ss,ts,ys,sg,qd,sd,rfl,bk,phi,lls,by omega,gs.mono (cU.mono (Tk.of s2)),gp,qs.mono (cY.mono (Tk.of s2)),qk,sy.mono (Tk.of s2),lly,λrw' us F H3 s3 nrw hrw rz fo=>?_⟩;have s23:=s2.trans s3;have srl:(gO ps).length=ps.length:=(jq ps).length_eq;have ul:=rz.1;rw[length_map]at ul;have og:Jm ps (dQ [] (fN ((gO ps).map λz=>(z,F z)))) F:=by
   have:=zZ (q0 ps F);rw[xK fo (qW gp qk)]at this;exact this
  refine⟨_,rfl,rw',us,fN ((gO ps).map λz=>(z,F z)),rfl,cK.of hrw,(by rw[rz.1];exact(length_map ..).symm),λi v kv hv hkv=>?_,λfi nfi=>?_⟩
  ·unfold fN at hkv
   rw[getElem?_map]at hkv;obtain⟨d,hd,rfl⟩:=map_eq_some_iff.mp hkv;obtain⟨a,rfl,ha⟩:=rz.2 _ _ _ hv hd;exact⟨a,rfl,ha⟩
  have s4:=cH.upd (o:=.dK (dQ [] (fN ((gO ps).map λz=>(z,F z))))) nfi;have hfi:upd H3 fi (.dK (dQ [] (fN ((gO ps).map λz=>(z,F z))))) fi=some (.dK (dQ [] (fN ((gO ps).map λz=>(z,F z))))):=cD;generalize upd H3 fi (.dK (dQ [] (fN ((gO ps).map λz=>(z,F z)))))=H4 at s4 hfi;generalize dQ [] (fN ((gO ps).map λz=>(z,F z)))=kvs at og hfi;have s24:=s3.trans s4;have s14:=s2.trans s24;have gs4:=gs.mono (cU.mono (Tk.of s14));have qs4:=qs.mono (cY.mono (Tk.of s14));have sy4:=sy.mono (Tk.of s14);have bk4:=bk.mono s24;have ok4:=ok.mono s14;have hnl4:=s14 _ _ hnl;have hrw4:=s4 _ _ hrw;have rz4:=rz.mono (lJ.mono (Tk.of s4));have hsc4:=(s1.trans s14).seq hsc;have tb4:=tb.mono (s1.trans s14);clear s1 s2 s3 s4 s23 s24 s14 gs qs sy bk ok hnl hrw rz hsc tb bkk hP nx nrw nfi;have paper:∀{H5:Hp}{l:Addr}{us:List V}{Q':VK},kh H4 H5->H5 l=some (.lst us)->Lz lJ H5 us ((gO ps).map λz=>(z,F z))->(∀H',cH H5 H'->Q' (.bl true) H')->xB C [.ref x,.ref l] H5 Q' E0:=λ{H5 l us Q'} kp hl rz kk=>
   ⟨x,p',s',t',y',ps,ss,ts,ys,sg,qd,sd,l,us,_,rfl,kp.bk bk4,phi,lls,by omega,gs4.mono (cU.mono kp.tk),gp,qs4.mono (cY.mono kp.tk),qk,sy4.mono kp.tk,lly,hl,rz,(by rw[rz.1,length_map];omega),λH' s'=>by rw[zP fo (qW gp qk)];exact kk H' s'⟩
  refine⟨_,rfl,Br bk4 phi lls (by omega) gs4 gk qs4 qk sy4 lly λr H5 s5 hr=>?_⟩;obtain⟨b,hA,hB⟩:∃b:Bool,(b=false->∃l:Addr,H5 r=some (.tup [.str "story",.ref l]))/\(b=true->∃(l:Addr) (us:List V) (n:Nat) (m:List Nat),H5 r=some (.tup [.str "paper",.ref l,.int (n:Nat)])/\H5 l=some (.lst us)/\Lz lJ H5 us ((gO ps).map λz=>(z,F z))/\BI F sd=n::m):=by
   cases hr with
   |story l G hr fo' hb=>exact⟨false,λ_=>⟨l,hr⟩,(λh=>nomatch h)⟩
   |paper l us G n m hr hl rz fo' hb=>
    obtain rfl:F=G:=v5 fo fo';exact⟨true,(λh=>nomatch h),λ_=>⟨l,us,n,m,hr,hl,rz,hb⟩⟩
  dsimp only;refine DT (λσ' H'=>∃bo:Option Nat,σ'=(FO sc nl th x rw' fi r W bo none none none)/\cH H4 H'/\∀n,bo=some n->eY sd (λd=> !pL F d) n=true/\n < sd.length) ?_ b (λQ' q'=>?_) (λhb hR=>?_) (λ_=>?_)
  rotate_left
  ·cases b with
   |false=>
    obtain⟨l,hr⟩:=hA rfl;exact⟨_,rfl,xT hr rfl ⟨rfl,_,rfl,q'⟩⟩
   |true=>
    obtain⟨l,us2,n,m,hr,_⟩:=hB rfl;exact⟨_,rfl,xT hr rfl ⟨rfl,_,rfl,q'⟩⟩
  ·obtain⟨l,us2,n,m,hr,hl,rz5,hbx⟩:=hB hb
   obtain⟨h1,h2⟩:=GF hbx;obtain⟨d,hd⟩:∃d,sd[n]? =some d:=⟨_,getElem?_eq_getElem h2⟩;have hkn:pL F d=false:=by
    rw[dw hd,not_eq_true']at h1;exact h1
   refine⟨_,rfl,xT hr rfl ?_⟩;refine⟨_,rfl,_,rfl,xT hr rfl (paper (.same s5) hl rz5 λH6 s6=>⟨_,rfl,cW ?_⟩)⟩;have s46:=s5.trans s6;obtain⟨sv,hsv⟩:∃sv,ys[n]? =some sv:=⟨_,getElem?_eq_getElem (by rw[sy4.1];exact h2)⟩;obtain⟨d',a,hd',rfl,ha⟩:=(sy4.mono (Tk.of s46)).at hsv;rw[hd]at hd';cases hd';cases d with
   |knew qq i=>exact⟨_,rfl,xT (s46 _ _ ok4.hth) rfl ⟨_,rfl,xL (s46 _ _ ok4.hy) (cN hsv) (xT ha rfl ⟨rfl,_,rfl,iN (hR _ _ ⟨some n,rfl,s46,λn' e=>by cases e;exact⟨h1,h2⟩⟩)⟩)⟩⟩
   |unh qq o=>cases hkn
   |sil qq b e=>cases hkn
   |bar pp qq=>cases hkn
  ·exact⟨none,rfl,s5,(λn e=>nomatch e)⟩
  rintro σ' H6 ⟨bo,rfl,s6,hbo⟩;refine⟨_,rfl,_,rfl,paper (.same s6) (s6 _ _ hrw4) (rz4.mono (lJ.mono (Tk.of s6))) λH7 s7=>⟨_,rfl,cW ?_⟩⟩;have s47:=s6.trans s7;refine⟨_,rfl,_,rfl,sc,th,s,t,y,ns,ps,ss,ts,ys,sg,qd,sd,rfl,s47.seq hsc4,s47 _ _ ok4.hth,s47 _ _ ok4.hs,s47 _ _ ok4.ht,s47 _ _ ok4.hy,lls,by omega,gs4.mono (cU.mono (Tk.of s47)),gk,qs4.mono (cY.mono (Tk.of s47)),qk,sy4.mono (Tk.of s47),phi,λlz us' H8 s8 hlz zl zs=>?_⟩;have s48:=s47.trans s8;refine⟨lz,rfl,⟨_,cK.of hlz⟩,dj (K:=X.K) (a:=lz) (xs:=us') (λi σ H9=>∃e9:Option V,σ=(FO sc nl th x rw' fi r W bo e9 none none)/\kh H8 H9/\ku H9 P0 iq k7) ⟨none,rfl,.same (cH.refl _),tb4.mono s48⟩ ?_ ?_ ?_⟩
  ·rintro i σ H9 hi ⟨e9,rfl,k9,_⟩
   exact cK.of (k9.lst hlz)
  ·rintro i v σ H9 hv ⟨e9,rfl,k9,tb9⟩
   obtain⟨a,rfl,rs,st,ha,lzr,go⟩:=zs v (mem_of_getElem? hv);have k49:kh H4 H9:=(kh.same s48).trans k9;exact⟨_,rfl,_,rfl,_,rfl,_,rfl,_,rfl,x,p',s',t',y',th,s,t,y,a,fi,ps,ss,ts,ys,rs,sg,qd,sd,st,kvs,F,bo,rfl,k49.bk bk4,k49.tk _ _ ok4.hth,k49.lst ok4.hy,lls,by omega,lly,gs4.mono (cU.mono k49.tk),gp,qs4.mono (cY.mono k49.tk),qk,sy4.mono k49.tk,k9.lst ha,lzr.mono (fq.mono k9.tk),go,k49 _ _ hfi (by intro _ z;cases z),og,fo,hbo,tb9,λH10 k10 tb10=>⟨_,rfl,cW ⟨_,rfl,k9.trans k10,tb10⟩⟩⟩
  rintro σ H9 ⟨e9,rfl,k9,_⟩;have k49:kh H4 H9:=(kh.same s48).trans k9;have hnl9:=k49.lst hnl4;have gs9:=gs4.mono (cU.mono k49.tk);have qs9:=qs4.mono (cY.mono k49.tk);have sy9:=sy4.mono k49.tk;have hth9:=k49.tk _ _ ok4.hth;have hs9:=k49.lst ok4.hs;have ht9:=k49.lst ok4.ht;have hy9:=k49.lst ok4.hy;have hfi9:=k49 _ _ hfi (by intro _ z;cases z);have gS9:∀v∈ss,d3 ps H9 v:=λv hv=>(ok4.gs v hv).mono k49.tk;have gT9:∀v∈ts,eW ps H9 v:=λv hv=>(ok4.gt v hv).mono k49.tk;have gY9:∀v∈ys,fO ps H9 v:=λv hv=>(ok4.gy v hv).mono k49.tk;clear k49 k9 s48 s8 s47 s7 s6 s5 hlz zl zs gs4 qs4 sy4 ok4 hfi hnl4 hsc4 tb4 bk4 paper rz4 hrw4 hr hA hB hbo;refine⟨zr,λkp nkp=>?_⟩;have s10:=cH.upd (o:=.lst []) nkp;have hkp:upd H9 kp (.lst []) kp=some (.lst []):=cD;generalize upd H9 kp (.lst [])=H10 at s10 hkp;refine⟨_,rfl,xT (s10 _ _ hth9) rfl ⟨y,rfl,⟨_,cK.of (s10 _ _ hy9)⟩,dj (K:=X.K) (a:=y) (xs:=ys) (LM (FO sc nl th x rw' fi r W bo e9 (some (.ref kp))) kp F sd ys H9) ⟨none,[],rfl,s10,hkp,le_refl _,(λv hv=>nomatch hv),Sys.nil⟩ ?_ ?_ ?_⟩⟩
  ·rintro i σ H11 hi ⟨e11,ws,rfl,s11,_⟩
   exact cK.of (s11 _ _ hy9)
  ·rintro i v σ H11 hv ⟨e11,ws,rfl,s11,hkp11,wl,wi,sw⟩
   obtain⟨d,a,hd,rfl,ha⟩:=(sy9.mono (Tk.of s11)).at hv;have il:=(gI0.mp hv).1;have tk1:sd.take (i+1)=sd.take i++[d]:=by rw[take_add_one,hd];rfl
   have skip:pL F d=false->∀e,LM (FO sc nl th x rw' fi r W bo e9 (some (.ref kp))) kp F sd ys H9 (i+1) (FO sc nl th x rw' fi r W bo e9 (some (.ref kp)) e) H11:=λhn e=>by
    refine⟨e,ws,rfl,s11,hkp11,by omega,wi,?_⟩;rw[tk1,filter_append,List.filter_cons_of_neg (by rw[hn];exact bF0),filter_nil,append_nil];exact sw
   have apd:pL F d=true->∀{Dd:Ends},(∀σ' H',LM (FO sc nl th x rw' fi r W bo e9 (some (.ref kp))) kp F sd ys H9 (i+1) σ' H'->Dd.nx σ' H')->(xR (Li X.K "list" rM (gx 10) (dR (gx 11) m8))) Dd (FO sc nl th x rw' fi r W bo e9 (some (.ref kp)) (some (.ref a))) H11:=λhn {Dd} hD=>by
    have tkU:=Tk.upd hkp11 (ys:=ws++[.ref a]);refine⟨_,rfl,.inl ⟨rfl,_,cK.of hkp11⟩,_,rfl,kp,ws,.ref a,rfl,rfl,hkp11,by omega,hD _ _ ⟨_,ws++[.ref a],rfl,λb o e=>by rw[cG (cE e nkp)];exact s11 _ _ e,cD,by rw[length_append];show ws.length+1<=_;omega,λv hv'=>?_,?_⟩⟩
    ·rcases mem_append.mp hv' with h|h
     ·exact wi v h
     ·rw[mem_singleton.mp h]
      exact mem_of_getElem? hv
    ·rw[tk1,filter_append,List.filter_cons_of_pos hn,filter_nil]
     exact Lz.snoc (R:=ui) (sw.mono tkU) ⟨a,rfl,tkU _ _ ha⟩
   cases hk:pS d with
   |false=>
    have hn:=BJ (F:=F) hk;cases d with
    |knew qq i=>cases hk
    |unh qq o=>exact⟨_,rfl,xT ha rfl ⟨rfl,_,rfl,iP (dk (apd hn λ_ _ h=>h))⟩⟩
    |sil qq b e=>exact⟨_,rfl,xT ha rfl ⟨rfl,_,rfl,iP (dk (apd hn λ_ _ h=>h))⟩⟩
    |bar pp qq=>exact⟨_,rfl,xT ha rfl ⟨rfl,_,rfl,iP (dk (apd hn λ_ _ h=>h))⟩⟩
   |true=>
    cases d with
    |unh qq o=>cases hk
    |sil qq b e=>cases hk
    |bar pp qq=>cases hk
    |knew qq h=>
     have mq:qq∈ps:=(sk _ (mem_of_getElem? hd)).1;have dg:=dN.k (k:=Sum.inr qq) (s11 _ _ hfi9);rw[og.get qq mq]at dg;cases hF:F qq with
     |none=>
      rw[hF]at dg;have hn:pL F (.knew qq h)=false:=by
       show(match F qq with|none=>false|some a=>decide (a<=h))=false;rw[hF]
      exact⟨_,rfl,xT ha rfl ⟨rfl,_,rfl,iN ⟨_,rfl,_,rfl,xT ha rfl ⟨fi,_,rfl,dg,rfl,_,rfl,cW (cW (skip hn _))⟩⟩⟩⟩
     |some c=>
      rw[hF]at dg;have hn:pL F (.knew qq h)=decide (c<=h):=by
       show(match F qq with|none=>false|some a=>decide (a<=h))=_;rw[hF]
      refine⟨_,rfl,xT ha rfl ⟨rfl,_,rfl,iN ⟨_,rfl,_,rfl,xT ha rfl ⟨fi,_,rfl,dg,rfl,_,rfl,dk ⟨_,rfl,_,rfl,xT ha rfl ⟨fi,_,rfl,dg,_,rfl,xT ha rfl ⟨_,_,rfl,rfl,_,rfl,du (λhc=>apd (hn.trans hc) λ_ _ h=>h) (λhc=>skip (hn.trans (eF0 hc)) _)⟩⟩⟩⟩⟩⟩⟩
  ·rintro σ H11 ⟨e11,ws,rfl,s11,hkp11,wl,wi,sw⟩
   rw[sy9.1,take_length]at sw;have ws60:ws.length<=60:=by omega
   refine⟨_,rfl,_,rfl,xT (s11 _ _ hth9) rfl ⟨_,rfl,xT (s11 _ _ hth9) rfl ⟨_,rfl,mM,λt2 nt2=>?_⟩⟩⟩;have s12:=cH.upd (o:=.tup [.ref s,.ref t,.ref kp]) nt2;have ht2:upd H11 t2 (.tup [.ref s,.ref t,.ref kp]) t2=some (.tup [.ref s,.ref t,.ref kp]):=cD;generalize upd H11 t2 (.tup [.ref s,.ref t,.ref kp])=H12 at s12 ht2;have s912:=s11.trans s12;have tk12:=Tk.of s912;refine⟨nl,t2,s,t,kp,ps,ss,ts,ws,rfl,s912 _ _ hnl9,ht2,s912 _ _ hs9,s912 _ _ ht9,s12 _ _ hkp11,⟨po,lls,λv hv=>(gS9 v hv).mono tk12,by omega,λv hv=>(gT9 v hv).mono tk12,ws60,λv hv=>(gY9 v (wi v hv)).mono tk12⟩,λx2 p2 s2 t2' y2 H13 s13 nx2 bk2=>?_⟩;have s913:=s912.trans s13;have tk13:=Tk.of s913;refine Br bk2 phi lls (by omega) (gs9.mono (cU.mono tk13)) gk (qs9.mono (cY.mono tk13)) qk (sw.mono (Tk.of (s12.trans s13))) ws60 λr2 H14 s14 hr2=>?_;have oe:j4 sg qd (sd.filter (pL F))=j4 sg qd sd:=By (λd hk=>⟨λm=>(mem_filter.mp m).1,λm=>mem_filter.mpr ⟨m,BJ hk⟩⟩) (λd hd=>(gk d hd).2.1) λd hd=>(qk d hd).1.1;cases hr2 with
   |story l2 G hr2 _ _=>exact(xT hr2 rfl ⟨rfl,q _⟩)
   |paper l2 us2 G n m hr2 _ _ fo2 hb2=>
    rw[oe]at fo2;obtain rfl:F=G:=v5 fo fo2;rw[Cq λd hd=>(mem_filter.mp hd).2]at hb2;cases hb2
end
end K25
namespace K25
open PySem L2
theorem len0(us:List Value)(h:us.length=0):us=[]:=eq_nil_of_length_eq_zero h
theorem yq{n:Nat}(us:List Value)(h:us.length=n+1):∃a r,us=a::r/\r.length=n:=by
 cases us with
 |nil=>cases h
 |cons a r=>exact⟨a,r,rfl,Nat.succ.inj h⟩
theorem vJ(us:List Value)(h:us.length=1):∃a,us=[a]:=by
 obtain⟨a,r,rfl,h'⟩:=yq us h;exact⟨a,by rw[len0 r h']⟩
theorem JP(us:List Value)(h:us.length=2):∃a b,us=[a,b]:=by
 obtain⟨a,r,rfl,h'⟩:=yq us h;obtain⟨b,rfl⟩:=vJ r h';exact⟨a,b,rfl⟩
theorem Im(us:List Value)(h:us.length=3):∃a b c,us=[a,b,c]:=by
 obtain⟨a,r,rfl,h'⟩:=yq us h;obtain⟨b,c,rfl⟩:=JP r h';exact⟨a,b,c,rfl⟩
theorem Hn(us:List Value)(h:us.length=4):∃a b c d,us=[a,b,c,d]:=by
 obtain⟨a,r,rfl,h'⟩:=yq us h;obtain⟨b,c,d,rfl⟩:=Im r h';exact⟨a,b,c,d,rfl⟩
theorem EX(us:List Value)(h:us.length=5):∃a b c d e,us=[a,b,c,d,e]:=by
 obtain⟨a,r,rfl,h'⟩:=yq us h;obtain⟨b,c,d,e,rfl⟩:=Hn r h';exact⟨a,b,c,d,e,rfl⟩
theorem MR(us:List Value)(h:us.length=6):∃a b c d e f,us=[a,b,c,d,e,f]:=by
 obtain⟨a,r,rfl,h'⟩:=yq us h;obtain⟨b,c,d,e,f,rfl⟩:=EX r h';exact⟨a,b,c,d,e,f,rfl⟩
theorem FF.d{K:FG0}{h:Heap}{mg:Str->Option Value}{x:Str}{st:Stmt}(F:FF K x st)(X:K.In h)(G:h.Ns mainGlobals mg)(ps:List Str)(hb:∀(kV doc pm:Value)(an:Option Addr)(cdv ct:Value)(us:List Value),us.length=ps.length->bindArgs (fnOf x x (di st) (cP st) (cF st) .none kV doc pm an cdv ct) ⟨us,[]⟩=pure (ps.zip us):=by intro _ _ _ _ _ _ us hl;first| (obtain⟨_,rfl⟩:=vJ us hl;rfl)| (obtain⟨_,_,rfl⟩:=JP us hl;rfl)| (obtain⟨_,_,_,rfl⟩:=Im us hl;rfl)| (obtain⟨_,_,_,_,rfl⟩:=Hn us hl;rfl)| (obtain⟨_,_,_,_,_,rfl⟩:=EX us hl;rfl)):∃f fd,Df K mg x st ps f fd:=by
 obtain⟨a,l,c,k⟩:=F;have F1:=jg (st:=st) l c k;exact⟨_,_,F1,mg_of X G a,F1.binds hb⟩
theorem kP:∀{zs:List Str}{us:List Value},strsOf us=zs.map some->Vals (zs.map V.str) us
 |[],[],_=>.nil
 |[],_::_,h=>by cases h
 |_::_,[],h=>by cases h
 |z::zs,u::us,h=>by
  have h1:oneOf u::strsOf us=some z::zs.map some:=h;injection h1 with e1 e2
  refine .cons ?_ (kP e2);cases u with
  |str x t=>
   cases e1;exact⟨t,rfl⟩
  |_=>cases e1
theorem all_mk {l:PySem.W.OpenLaw}{w:World}{K:FG0}{h:Heap}{mg:Str->Option Value}{fa P0:Addr}(X:K.In h) (G:h.Ns mainGlobals mg) (hfa:mg "law" =some (.ref fa)) (FX:Facts K P0):
  (∃c0,codeHdIn K c0 P0=true)/\K.lookup P0=none/\∃fd:FuncData,(∀(s:Shared) (v:Value),BindsTo s fd ⟨[v],[]⟩ [("_law_script",v)])/\∀base:Heap,K.In base->base.Ns mainGlobals mg->kT mg base->eD l.prog w K mg base kg 10 fa fd ["_law_script"] (wZ K P0):=by
 obtain @⟨kw,C,c0,f67,f68,f69,f70,f71,f72,odw,od67,an67,od68,an68,od69,an69,od70,an70,od71,an71,od72,an72,slw,sl67,sl68,sl69,sl70,sl71,sl72,oc67,kV67,dc67,pm67,cd67,ct67,oc68,kV68,dc68,pm68,cd68,ct68,oc69,kV69,dc69,pm69,cd69,ct69,oc70,kV70,dc70,pm70,cd70,ct70,oc71,kV71,dc71,pm71,cd71,ct71,oc72,kV72,dc72,pm72,cd72,ct72,its,nW,tk1,tk2,tk3,tk4,tk5,aW,lW,vW,h1,h2,h3,h4,h5,h6,h7,h8,h9,h10,h11,h12,h13,h14,h15,h16,h17,h18,h19,h20,h21,h22,h23,h24,h25,h26,h27,h28,h29,h30,h31,h32,h33,h34,h35,h36,h37,h38,h39,h40,h41,h42,h43,h44,h45,h46,h47,h48,h49,h50,h51,h52,h53,h54,h55,h56,h57,h58,h59,h60,h61,h62,h63,h64,h65,h66,aC,pg,hd,po,sa,mk,kc,nP,nS,nT,nY,yst,ycP,yKP,a67,i67,l67,c67,k67,a68,i68,l68,c68,k68,a69,i69,l69,c69,k69,a70,i70,l70,c70,k70,a71,i71,l71,c71,k71,a72,i72,l72,c72,k72,z1,z2,z3,z4,z5,z6,z7,z8,z9,z10,z11,z12,z13,z14,z15,z16,z17,z18,z19,g1,g2,g3,g4,g5⟩:=FX;have vW:=kP (zs:=kept) vW;obtain @⟨f66,oc66,kV66,dc66,pm66,cd66,ct66,od66,an66,sl66,a66,l66,c66,k66⟩:=h66;have e:=hfa.symm.trans (mg_of X G a66);cases e;have hsz:its.size<=sizeLine:=by
  have e:=vW.length;have e2:(kept.map V.str).length=12:=by decide+kernel
  rw[e2,length_toList]at e;have:sizeLine=16777216:=sizeLine_eq;omega
 have T:Txt K mg kw C:=⟨mg_none_of X G z1,mg_none_of X G z2,mg_none_of X G z3,mg_none_of X G z4,mg_none_of X G z5,mg_none_of X G z6,mg_none_of X G z7,mg_none_of X G z8,mg_none_of X G z9,mg_none_of X G z10,mg_none_of X G z11,mg_none_of X G z12,mg_none_of X G z13,mg_none_of X G z14,mg_none_of X G z15,mg_none_of X G z16,mg_none_of X G z17,mg_none_of X G z18,mg_none_of X G z19,mg_of X G aW,⟨_,its,nW,lW,rfl,rfl,hsz,vW⟩,⟨_,mg_of X G g1,⟨_,rfl⟩⟩,⟨_,mg_of X G g2,⟨_,rfl⟩⟩,⟨_,mg_of X G g3,⟨_,rfl⟩⟩,⟨_,mg_of X G g4,⟨_,rfl⟩⟩,⟨_,mg_of X G g5,⟨_,rfl⟩⟩,⟨pg,hd,po,sa⟩,nP,nS,nT,nY⟩;have F66:=jg (st:=oP) l66 c66 k66;have F67:=jg (st:=gT) l67 c67 k67;have F68:=jg (st:=eU) l68 c68 k68;have F69:=jg (st:=fj) l69 c69 k69;have F70:=jg (st:=f7) l70 c70 k70;have F71:=jg (st:=eQ) l71 c71 k71;have F72:=jg (st:=eA) l72 c72 k72;obtain⟨_,_,D_is_whole⟩:=h1.d X G ["thing"];obtain⟨_,_,D_is_hour⟩:=h2.d X G ["thing"];obtain⟨_,_,D_is_name⟩:=h3.d X G ["thing"];obtain⟨_,_,D_is_list_up_to⟩:=h4.d X G ["thing", "most"];obtain⟨_,_,D_is_tuple_of⟩:=h5.d X G ["thing", "length"];obtain⟨_,_,D_is_person⟩:=h6.d X G ["persons", "thing"];obtain⟨_,_,D_are_unlike_persons⟩:=h7.d X G ["persons", "one", "other"];obtain⟨_,_,D_is_tale⟩:=h8.d X G ["thing"];obtain⟨_,_,D_is_sight⟩:=h9.d X G ["persons", "thing"];obtain⟨_,_,D_is_way⟩:=h10.d X G ["thing"];obtain⟨_,_,D_is_talk⟩:=h11.d X G ["persons", "thing"];obtain⟨_,_,D_is_span⟩:=h12.d X G ["begin", "end"];obtain⟨_,_,D_is_short_saying⟩:=h13.d X G ["persons", "kind", "person", "behind"];obtain⟨_,_,D_is_saying⟩:=h14.d X G ["persons", "thing"];obtain⟨_,_,D_are_persons⟩:=h15.d X G ["thing"];obtain⟨_,_,D_are_sights⟩:=h16.d X G ["persons", "thing"];obtain⟨_,_,D_are_talks⟩:=h17.d X G ["persons", "thing"];obtain⟨_,_,D_are_sayings⟩:=h18.d X G ["persons", "thing"];obtain⟨_,_,D_floor_of⟩:=h19.d X G ["book", "person"];obtain⟨_,_,D_floors_of_all⟩:=h20.d X G ["book"];obtain⟨_,_,D_is_above⟩:=h21.d X G ["hour", "floor"];obtain⟨_,_,D_is_silent⟩:=h22.d X G ["sayings", "person", "hour"];obtain⟨_,_,D_is_barred⟩:=h23.d X G ["sayings", "hearer", "teller"];obtain⟨_,_,D_open_sights⟩:=h24.d X G ["book"];obtain⟨_,_,D_open_tellings⟩:=h25.d X G ["book"];obtain⟨_,_,D_open_entries⟩:=h26.d X G ["book"];obtain⟨_,_,D_hour_of⟩:=h27.d X G ["entry"];obtain⟨_,_,D_can_follow⟩:=h28.d X G ["known", "entry"];obtain⟨_,_,D_first_entries⟩:=h29.d X G ["entries"];obtain⟨_,_,D_first_story⟩:=h30.d X G ["entries"];obtain⟨_,_,D_earliest_story⟩:=h31.d X G ["book"];obtain⟨_,_,D_earliest⟩:=h32.d X G ["book"];obtain⟨_,_,D_hours_in⟩:=h33.d X G ["story"];obtain⟨_,_,D_are_rising⟩:=h34.d X G ["names"];obtain⟨_,_,D_is_sight_at⟩:=h35.d X G ["sights", "i", "person", "hour"];obtain⟨_,_,D_hours_of_tellings⟩:=h36.d X G ["book"];obtain⟨_,_,D_is_told_at⟩:=h37.d X G ["talk_hours", "telling", "hour"];obtain⟨_,_,D_fits_knew⟩:=h38.d X G ["hours", "person", "hour"];obtain⟨_,_,D_fits_unheard⟩:=h39.d X G ["hours", "person", "hour"];obtain⟨_,_,D_fits_silent⟩:=h40.d X G ["story", "person", "begin", "end"];obtain⟨_,_,D_fits_barred⟩:=h41.d X G ["story", "person", "other"];obtain⟨_,_,D_fits⟩:=h42.d X G ["story", "saying"];obtain⟨_,_,D_unfitted⟩:=h43.d X G ["book", "story"];obtain⟨_,_,D_settled⟩:=h44.d X G ["book"];obtain⟨_,_,D_is_no_later⟩:=h45.d X G ["hour", "bound"];obtain⟨_,_,D_keeps_sights⟩:=h46.d X G ["book", "hours"];obtain⟨_,_,D_keeps_tellings⟩:=h47.d X G ["book", "hours"];obtain⟨_,_,D_is_paper⟩:=h48.d X G ["book", "some"];obtain⟨_,_,D_l_mix⟩:=h49.d X G ["_law_cell", "_law_k"];obtain⟨_,_,D_l_names⟩:=h50.d X G ["_law_cell", "_law_many"];obtain⟨_,_,D_l_clock⟩:=h51.d X G ["_law_cell"];obtain⟨_,_,D_l_saying⟩:=h52.d X G ["_law_number", "_law_one", "_law_other", "_law_clock_here", "_law_at"];obtain⟨_,_,D_l_spot⟩:=h53.d X G ["_law_number", "_law_k", "_law_many"];obtain⟨_,_,D_l_things⟩:=h54.d X G ["_law_cells", "_law_names_here", "_law_clock_here"];obtain⟨_,_,D_l_free⟩:=h55.d X G ["_law_sayings", "_law_person", "_law_when"];obtain⟨_,_,D_l_tellings⟩:=h56.d X G ["_law_talks"];obtain⟨_,_,D_l_is_open⟩:=h57.d X G ["_law_talks", "_law_sayings", "_law_telling"];obtain⟨_,_,D_l_open⟩:=h58.d X G ["_law_things_here"];obtain⟨_,_,D_l_hours⟩:=h59.d X G ["_law_things_here", "_law_numbers", "_law_tellings_here"];obtain⟨_,_,D_l_knew_so⟩:=h60.d X G ["_law_sayings", "_law_found"];obtain⟨_,_,D_l_drawn⟩:=h61.d X G ["_law_script", "_law_most"];obtain⟨_,_,D_l_book⟩:=h62.d X G ["_law_names_here", "_law_things_here"];obtain⟨_,_,D_l_grown⟩:=h63.d X G ["_law_things_here", "_law_numbers", "_law_tellings_here", "_law_number"];obtain⟨_,_,D_l_stories⟩:=h64.d X G ["_law_script", "_law_things_here"];obtain⟨_,_,D_l_story_well⟩:=h65.d X G ["_law_book_here", "_law_things_here", "_law_story", "_law_first", "_law_broken"];have b_m_init:=F67.binds (ps:=["self", "persons", "sights", "talks", "sayings"]) λ_ _ _ _ _ _ us hl=>by
  obtain⟨_,_,_,_,_,rfl⟩:=EX us hl;rfl
 have F_m_init:=F67;have mk_m_init:Mk K C f67:=⟨mk,a67,i67,kc⟩;have b_m_persons:=F68.binds (ps:=["self"]) λ_ _ _ _ _ _ us hl=>by
  obtain⟨_,rfl⟩:=vJ us hl;rfl
 have F_m_persons:=F68;have me_m_persons:Meth K C "persons" f68:=⟨a68,i68,k68⟩;have b_m_sights:=F69.binds (ps:=["self"]) λ_ _ _ _ _ _ us hl=>by
  obtain⟨_,rfl⟩:=vJ us hl;rfl
 have F_m_sights:=F69;have me_m_sights:Meth K C "sights" f69:=⟨a69,i69,k69⟩;have b_m_talks:=F70.binds (ps:=["self"]) λ_ _ _ _ _ _ us hl=>by
  obtain⟨_,rfl⟩:=vJ us hl;rfl
 have F_m_talks:=F70;have me_m_talks:Meth K C "talks" f70:=⟨a70,i70,k70⟩;have b_m_sayings:=F71.binds (ps:=["self"]) λ_ _ _ _ _ _ us hl=>by
  obtain⟨_,rfl⟩:=vJ us hl;rfl
 have F_m_sayings:=F71;have me_m_sayings:Meth K C "sayings" f71:=⟨a71,i71,k71⟩;have b_m_tellings:=F72.binds (ps:=["self"]) λ_ _ _ _ _ _ us hl=>by
  obtain⟨_,rfl⟩:=vJ us hl;rfl
 have F_m_tellings:=F72;have me_m_tellings:Meth K C "tellings" f72:=⟨a72,i72,k72⟩;have nmB:=mg_of X G aC;obtain @⟨fS,ocS,kVS,dcS,pmS,ctS,odS,anS,slS,aS,lS,cS,kS⟩:=yst;refine⟨⟨c0,ycP⟩,yKP,fnOf "law" "law" (di oP) (cP oP) (cF oP) .none kV66 dc66 pm66 an66 cd66 ct66,λs v=>.of_eq rfl,λbase hM _ hb=>?_⟩;have G1:Gd l.prog w K mg base 2 "is_hour" (lQ K):=⟨_,_,_,Dx D_is_hour.fn D_is_whole T,D_is_hour.nm,D_is_hour.fn.kp,D_is_hour.bi⟩;have G2:Gd l.prog w K mg base 1 "is_name" (oj K):=⟨_,_,_,Cw D_is_name.fn T,D_is_name.nm,D_is_name.fn.kp,D_is_name.bi⟩;have G3:Gd l.prog w K mg base 1 "is_list_up_to" ig:=vb D_is_list_up_to T;have G4:Gd l.prog w K mg base 1 "is_tuple_of" nD:=yA D_is_tuple_of T;have G5:Gd l.prog w K mg base 2 "is_person" gS:=yD D_is_person G2;have G6:Gd l.prog w K mg base 3 "are_unlike_persons" lp:=xZ D_are_unlike_persons G5;have G7:Gd l.prog w K mg base 2 "is_tale" wz:=CT D_is_tale T G2;have G8:Gd l.prog w K mg base 3 "is_sight" rX:=Bq D_is_sight G4 G5 G1 G7;have G9:Gd l.prog w K mg base 1 "is_way" zW:=EY D_is_way T;have G10:Gd l.prog w K mg base 4 "is_talk" vQ:=CS D_is_talk G4 G6 G1 G9;have G11:Gd l.prog w K mg base 3 "is_span" u9:=Dy D_is_span G1;have G12:Gd l.prog w K mg base 4 "is_short_saying" r8:=BS D_is_short_saying G6 G5 G1;have G13:Gd l.prog w K mg base 5 "is_saying" n9:=y6 D_is_saying T G5 G11 G12;have G14:Gd l.prog w K mg base 2 "are_persons" lF:=wt D_are_persons T G3 G2;have G15:Gd l.prog w K mg base 4 "are_sights" (iu d3 24):=pX D_are_sights T G3 G8;have G16:Gd l.prog w K mg base 5 "are_talks" (iu eW 120):=qS D_are_talks T G3 G10;have G17:Gd l.prog w K mg base 6 "are_sayings" (iu fO 60):=nX D_are_sayings T G3 G13;have GB:Kd l.prog w K mg base 7 "Book" C (wc C):=Dh F_m_init mk_m_init b_m_init nmB T G14 G15 G16 G17;have M1:Md l.prog w K mg base 1 C "persons" (c9 C λp _ _ _=>p):=sr F_m_persons me_m_persons b_m_persons T;have M2:Md l.prog w K mg base 1 C "sights" (c9 C λ_ s _ _=>s):=uB F_m_sights me_m_sights b_m_sights T;have M3:Md l.prog w K mg base 1 C "talks" (c9 C λ_ _ t _=>t):=vv F_m_talks me_m_talks b_m_talks T;have M4:Md l.prog w K mg base 1 C "sayings" (c9 C λ_ _ _ y=>y):=rH F_m_sayings me_m_sayings b_m_sayings T;have M5:Md l.prog w K mg base 1 C "tellings" (iJ C):=ud F_m_tellings me_m_tellings b_m_tellings T;have G26:Gd l.prog w K mg base 2 "floor_of" (qM C):=tG D_floor_of T M4;have G27:Gd l.prog w K mg base 3 "floors_of_all" (lh C):=zj D_floors_of_all T M1 G26;have G28:Gd l.prog w K mg base 1 "is_above" nI:=uD D_is_above;have G33:Gd l.prog w K mg base 1 "is_silent" xf:=qJ D_is_silent T;have G34:Gd l.prog w K mg base 1 "is_barred" xn:=qT D_is_barred;have G29:Gd l.prog w K mg base 4 "open_tellings" (nA C):=mC D_open_tellings T M3 M4 M5 G27 G28 G33 G34;have G30:Gd l.prog w K mg base 4 "open_sights" (nJ C):=pJ D_open_sights T M2 G27 G28;have P1:Gd l.prog w K mg base 1 "hour_of" BD:=HF D_hour_of;have P2:Gd l.prog w K mg base 2 "can_follow" Fy:=JN D_can_follow P1;have P3:Gd l.prog w K mg base 4 "first_entries" C6:=JK D_first_entries T P1 P2;have P4:Gd l.prog w K mg base 5 "open_entries" (DH C):=IM D_open_entries T M2 M3 G30 G29;have P5:Gd l.prog w K mg base 5 "first_story" EK:=IG D_first_story T P3;have P6:Gd l.prog w K mg base 6 "earliest_story" (Fs C):=JJ D_earliest_story P4 P5;have P7:Gd l.prog w K mg base 6 "earliest" (xG C):=Fw D_earliest T M1 P4 P3 P1;have P8:Gd l.prog w K mg base 1 "hours_in" DF:=Io D_hours_in;have P9:Gd l.prog w K mg base 1 "fits_knew" EU:=Hx D_fits_knew;have P10:Gd l.prog w K mg base 1 "fits_unheard" Gg:=Jv D_fits_unheard;have P11:Gd l.prog w K mg base 1 "fits_silent" Ft:=HV D_fits_silent T;have P12:Gd l.prog w K mg base 1 "fits_barred" GJ:=JQ D_fits_barred T;have P13:Gd l.prog w K mg base 2 "fits" Gm:=J0 D_fits P8 P9 P10 P11 P12;have P14:Gd l.prog w K mg base 3 "unfitted" (zE C):=Jo D_unfitted T M4 P13;have P15:Gd l.prog w K mg base 7 "settled" (wF C):=FU D_settled P6 P14 P7;have P16:Gd l.prog w K mg base 1 "is_no_later" wX:=tf D_is_no_later;have P17:Gd l.prog w K mg base 5 "keeps_sights" (He C):=m9 D_keeps_sights T M2 G30 P16;have P18:Gd l.prog w K mg base 5 "keeps_tellings" (Gs C):=kN D_keeps_tellings T M3 G29 P16;have P19:Gd l.prog w K mg base 6 "is_paper" (xB C):=tR D_is_paper T M1 P17 P18;have G41:Gd l.prog w K mg base 1 "are_rising" Bx:=Fd D_are_rising T;have G42:Gd l.prog w K mg base 1 "is_sight_at" GK:=HJ D_is_sight_at T;have G43:Gd l.prog w K mg base 1 "is_told_at" Gn:=Hw D_is_told_at;have G44:Gd l.prog w K mg base 2 "hours_of_tellings" (BL C):=Ga D_hours_of_tellings T M3 M5;have G45:Gd l.prog w K mg base 3 "is_story" (Fb C P0):=H0 lS cS kS (mg_of X G aS) ycP hM hb T (CF T G42 G43) G41 M2 G44 P8;have A1:Gd l.prog w K mg base 1 "_law_mix" qf:=Hf D_l_mix;have A2:Gd l.prog w K mg base 1 "_law_names" ph:=yw D_l_names T;have A3:Gd l.prog w K mg base 1 "_law_clock" rQ:=An D_l_clock T;have A4:Gd l.prog w K mg base 1 "_law_saying" vk:=Cr D_l_saying T;have A5:Gd l.prog w K mg base 1 "_law_spot" vh:=DV D_l_spot T;have A6:Gd l.prog w K mg base 2 "_law_things" oJ:=zb D_l_things T A1 A5 A4;have A7:Gd l.prog w K mg base 1 "_law_free" qU:=Cs D_l_free;have A8:Gd l.prog w K mg base 1 "_law_tellings" vK:=Cz D_l_tellings T;have A9:Gd l.prog w K mg base 2 "_law_is_open" pk:=vA D_l_is_open T A7;have A10:Gd l.prog w K mg base 3 "_law_open" nO:=CN D_l_open T A7 A8 A9;have A11:Gd l.prog w K mg base 1 "_law_hours" Aq:=zv D_l_hours T;have A12:Gd l.prog w K mg base 1 "_law_knew_so" oQ:=vX D_l_knew_so;have A13:Gd l.prog w K mg base 4 "_law_drawn" (zC K):=Bb D_l_drawn T A1 A2 A3 A6 A10 A11 A12;have A14:Gd l.prog w K mg base 9 "_law_book" (Bp C):=B9 D_l_book T GB;have A15:Gd l.prog w K mg base 2 "_law_grown" FL:=IA D_l_grown T A1;have A16:Gd l.prog w K mg base 4 "_law_stories" (Ad K):=EO D_l_stories T A1 A10 A15;have A17:Gd l.prog w K mg base 4 "_law_story_well" (Fm C P0):=Ju D_l_story_well G45 P14;exact EV F66 T A13 A14 P7 P15 P19 A16 A17
theorem walk{l:PySem.W.OpenLaw}{q:Program}{loose:List Str}{XP:(Str->Option Value)->Heap->Prop}{YP:World->Heap->Prop}{d:DefRec}{K:Params->FG0}{P0:Addr}(hn:l.most=some 63)(hdf:d.params.defaults=[])
  (hY:∀(w:World)(h:Heap),YP w h->(K w.params).In h/\h.get? P0=some (tabObj #[]))
  (F:∀(w:World)(mg:Str->Option Value)(fa:Addr)(h:Heap),(K w.params).In h->h.Ns mainGlobals mg->mg d.name=some (.ref fa)->
   (∃c0,codeHdIn (K w.params) c0 P0=true)/\(K w.params).lookup P0=none/\∃fd:FuncData,(∀(s:Shared) (u:Value),BindsTo s fd ⟨[u],[]⟩ [("_law_script",u)])/\∀base:Heap,(K w.params).In base->base.Ns mainGlobals mg->kT mg base->eD l.prog w (K w.params) mg base kg 10 fa fd ["_law_script"] (wZ (K w.params) P0)):
  PySem.W.WalkO q loose XP YP l.row.toRowW d [] (λf vs=>PySem.call f vs):=
 L2.A0 (n:=63) (k:=10) (x:= "_law_script") (CX:=λ_=>kg) (sp:=λw=>wZ (K w.params) P0) hn (by decide) hdf ⟨rfl,by decide,by decide⟩ hY F (λ_ _ a ns hl hP hS=>⟨a,ns,rfl,hS,hl,hP,λ_=>rfl⟩) λ_ _ _ _ _ z=>z
end K25
open PySem PySem.W PyProof.Rows
theorem PySem.Challenge.cw_knewby_k25_whole_no_story_is_earlier_holds : PySem.Challenge.rw_knewby_k25_whole_no_story_is_earlier.Holds :=
 K25.closing λhdn hdf hY hT hF=>K25.walk (l:=PySem.Challenge.rw_knewby_k25_whole_no_story_is_earlier) rfl hdf (λw h Y=>⟨hY w h Y,hT w h Y⟩) λw mg fa h KX G hmg=>K25.all_mk KX G (by rw[<-hdn];exact hmg) (hF w mg fa h KX G hmg)
