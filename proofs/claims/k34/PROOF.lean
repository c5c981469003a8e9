import PyProof.Rows.All
import Wide.All
import OpenK.KLine
import OpenK.KWalk
import KE.KNestM
import KE.KDictList
import KE.KDictSum
import KE.KIsAll
import Wide.FinOn
import Lean
import PyProof.EqAt
import PyProof.EqKinds
import PyProof.TupleCall
import PyProof.NeKinds
import PyProof.ListRange
import PyProof.Rows.SortStr
import KE.KRevIter
import KE.KDictOf
import PyProof.AttrMissSeq
import PyProof.Rows.SortRunsK
import PyProof.Rows.SortShellK
import PyProof.Rows.CallKwBuiltin
import PyProof.DictWalks
import KE.KSortedL
import KE.KSortedM
import KE.KSorted
import PySem.Challenge.RW_knewby_k34_whole_stories_between
set_option Elab.async false
set_option linter.all false
set_option maxRecDepth 100000
set_option maxHeartbeats 4000000
open Array (getElem?_toList length_toList toList_append toList_extract toList_push toList_reverse)
open Bool (and_eq_true eq_false_iff false_eq_true not_eq_true')
open List (all_cons all_eq_true all_map any_cons any_eq_false any_eq_true any_map append_assoc append_nil drop_zero eq_nil_of_length_eq_zero filter_append filter_cons filter_map filter_nil find?_cons flatten_append flatten_cons flatten_nil forIn_cons forIn_nil getD_eq_getElem?_getD getElem?_append_left getElem?_append_right getElem?_drop getElem?_eq_getElem getElem?_map getElem?_of_mem getElem?_take_of_lt getElem_mem length_append length_cons length_drop length_filter_le length_map length_range length_reverse length_take length_zip lookup_cons map_append map_congr_left map_cons map_map map_nil mem_append mem_append_left mem_append_right mem_cons mem_cons_of_mem mem_cons_self mem_filter mem_map mem_of_getElem? mem_range mem_reverse mem_singleton mem_singleton_self nil_append nodup_cons nodup_nil not_lt not_mem_nil of_mem_zip range_succ reverse_append reverse_reverse size_toArray take_add_one take_append_drop take_length take_of_length_le take_zero)
open Nat (le_of_eq le_of_lt le_refl le_succ le_trans lt_irrefl lt_min lt_of_lt_of_le lt_succ_of_lt lt_succ_self lt_trans min_self ne_of_gt ne_of_lt sub_self succ_pos zero_add zero_le)
open Option (isSome_iff_exists isSome_map map_eq_some_iff map_some)
open PySem.F (called_set entry_dict_get plainAttrs_list slot_dict_get)
open PySem.Heap (get?_push_ne get?_push_of_some get?_push_size get?_update_ne lt_size size_push size_update)
open PySem.W (callWith_K codeIn emptyDict findIn fnOf handedIn hasDictIn instObj isFn keepIn kia_one kitOne kitx_dict kitx_list lookIn makesIn methodObj mg_none_of mg_of nsIn plainGet plainGet_of plainOver specialIn takerIn)
namespace L2
open PySem PySem.Spec PyProof.Rows
def inClass(s:Stmt)(j:Nat):Stmt:=match s with
 |.ClassDef _ _ _ body _ _ _ _ _ _ _=>body.getD j (.Pass ⟨0,0,0,0⟩)
 |_=>.Pass ⟨0,0,0,0⟩
def dW(s:Stmt):Arguments:=match s with
 |.FunctionDef _ a _ _ _ _ _ _ _ _=>a
 |_=>{ posonlyargs:=[],args:=[],vararg:=none,kwonlyargs:=[],kw_defaults:=[],kwarg:=none,defaults:=[] }
def cU(s:Stmt):List Stmt:=match s with
 |.FunctionDef _ _ b _ _ _ _ _ _ _=>b
 |_=>[]
def cB(s:Stmt):Scope:=match s with
 |.FunctionDef _ _ _ _ _ _ sc _ _ _=>sc
 |_=>{ kind:=.function,names:=[],isGenerator:=false,isCoroutine:=false }
end L2
namespace TR
open PySem PySem.W
def Cf(stp:SharedT→Thread→Option (SharedT×Thread))(ok:Thread→Bool):Nat→SharedT→Thread→Option SharedT
 |0,_,_=>none
 |n+1,s,t=>match through t with
  |true=>some s
  |false=>match ok t with
   |false=>none
   |true=>match stp s t with
    |some (s',t')=>Cf stp ok n s' t'
    |none=>none
theorem vQ{tb:String→Option Builtin}{p:Program}{w:World}{n₀:Nat}{ann:Option Value}:∀{n:Nat}{s s':SharedT}{t:Thread},Cf (stepT (denote tb) p w) (stepOk n₀ ann) n s t=some s'→topRun tb p w n₀ ann n s.abs t=some s'.abs
 |0,_,_,_,h=>by cases h
 |n+1,s,s',t,h=>by
  unfold Cf at h
  unfold topRun
  cases he:through t with
  |true=>rw[he]at h;cases h;rfl
  |false=>
   rw[he]at h
   cases hk:stepOk n₀ ann t with
   |false=>rw[hk]at h;cases h
   |true=>
    rw[hk]at h
    cases hs:stepT (denote tb) p w s t with
    |none=>rw[hs]at h;cases h
    |some r=>
     obtain⟨s₂,t₂⟩:=r
     rw[hs]at h
     rw[stepT_spec hs]
     exact vQ h
def grow:List Obj→BT→Nat→Option BT
 |[],t,_=>some t
 |o::r,t,n=>match ((t.ins n o).get n).isSome with
  |true=>grow r (t.ins n o) (n+1)
  |false=>none
theorem rV{life:Life}:∀{l:List Obj}{t t':BT}{n:Nat},grow l t n=some t'→absHeap t' (n+l.length) life=l.foldl (fun h o=>h.push o) (absHeap t n life)
 |[],_,_,_,h=>by cases h;rfl
 |o::r,t,t',n,h=>by
  unfold grow at h
  cases g:((t.ins n o).get n).isSome with
  |false=>rw[g]at h;cases h
  |true=>
   rw[g]at h
   have ih:=rV (life:=life) h
   rw[absHeap_ins g]at ih
   rw[length_cons,List.foldl_cons,←ih]
   congr 1
   omega
theorem su(life:Life):∀(l m:List Obj),l.foldl (fun(h:Heap) o=>h.push o) ⟨m.toArray,life⟩=⟨(m++l).toArray,life⟩
 |[],m=>by rw[append_nil];rfl
 |o::r,m=>by
  have:(⟨m.toArray,life⟩:Heap).push o=⟨(m++[o]).toArray,life⟩:=by
   show(⟨m.toArray.push o,life⟩:Heap)=_
   rw[List.push_toArray]
  rw[List.foldl_cons,this,su life r,append_assoc]
  rfl
def Je(s:Shared)(t:BT):SharedT:=⟨t,s.heap.objs.size,s.heap.life,s.gens,s.drawn,s.toks,s.os⟩
theorem AD{s:Shared}{t:BT}(h:grow s.heap.objs.toList .nil 0=some t):(Je s t).abs=s:=by
 have:=rV (life:=s.heap.life) h
 rw[zero_add,show absHeap .nil 0 s.heap.life=⟨([]:List Obj).toArray,s.heap.life⟩ from rfl,su,nil_append,length_toList]at this
 obtain⟨⟨objs,life⟩,gens,drawn,toks,os⟩:=s
 show(⟨absHeap t objs.size life,gens,drawn,toks,os⟩:Shared)=_
 rw[this]
def oS{α:Type}(p:Program)(w:World)(N:Nat)(look:Shared→Shared→α):Option α:=(fencedOpening treeTable p w N).bind fun s₀=>(grow s₀.heap.objs.toList .nil 0).bind fun t=>match s₀.heap.isNs mainGlobals && s₀.gens.size == 0 with
 |true=>(Cf (stepT (denote treeTable) p w) (stepOk s₀.heap.objs.size (s₀.heap.nsMap mainGlobals "__annotations__")) N (Je s₀ t) (topStub p)).bind fun s₁=>some (look s₀ s₁.abs)
 |false=>none
theorem pO{α:Type}{p:Program}{w:World}{N:Nat}{look:Shared→Shared→α}{a:α}(h:oS p w N look=some a):∃s₀ s₁,fencedOpening treeTable p w N=some s₀∧(s₀.heap.isNs mainGlobals && s₀.gens.size == 0)=true∧topRun treeTable p w s₀.heap.objs.size (s₀.heap.nsMap mainGlobals "__annotations__") N s₀ (topStub p)=some s₁∧look s₀ s₁=a:=by
 unfold oS at h
 obtain⟨s₀,e0,h⟩:=Option.bind_eq_some_iff.mp h
 obtain⟨t,eg,h⟩:=Option.bind_eq_some_iff.mp h
 refine⟨s₀,?_⟩
 cases c:(s₀.heap.isNs mainGlobals && s₀.gens.size == 0) with
 |false=>rw[c]at h;cases h
 |true=>
  rw[c]at h
  obtain⟨s₁,er,h⟩:=Option.bind_eq_some_iff.mp h
  have r:=vQ er
  rw[AD eg]at r
  exact⟨s₁.abs,e0,rfl,r,Option.some.inj h⟩
theorem FZ{p q:Program}{loose:List Str}{Xt:Shared→Bool}{α:Type}{Yf:Shared→α}{Ya:World→α}{N:Nat}
  (hA:∀w,oS p w N (fun s₀ s₁=>staticsOk (importedModules p.main.body) s₀.heap s₁.heap && namesBound p s₁.heap && gensDone s₁ && laidKept s₀.heap s₁.heap)=some true)
  (hB:∀w,oS p w N (fun _ s₁=>openSeen q loose (importedModules p.main.body) Xt true s₁)=some (openGood q loose))
  (hC:∀w,oS p w N (fun _ s₁=>Yf s₁)=some (Ya w)):LeftO p q loose Xt Yf Ya N:=fun w=>by
 obtain⟨s₀,s₁,e0,c,r,hA⟩:=pO (hA w)
 obtain⟨s₀',s₁',e0',_,r',hB⟩:=pO (hB w)
 rw[e0]at e0'
 cases e0'
 rw[r]at r'
 cases r'
 obtain⟨s₀',s₁',e0',_,r',hC⟩:=pO (hC w)
 rw[e0]at e0'
 cases e0'
 rw[r]at r'
 cases r'
 unfold openEnds
 rw[e0]
 show(topFrom treeTable p w N s₀).map _=_
 unfold topFrom
 rw[c]
 dsimp only
 rw[r]
 simp only[Option.bind_some]
 rw[hA]
 show some (openSeen q loose (importedModules p.main.body) Xt true s₁,Yf s₁)=_
 rw[hB,hC]
end TR
section
namespace K34
open PySem L2
def top(i:Nat):Stmt:=PySem.Challenge.pw_knewby_k34_whole_stories_between.main.body.getD i (.Pass ⟨0,0,0,0⟩)
abbrev jw:Stmt:=top 2
abbrev eS:Stmt:=top 3
abbrev jI:Stmt:=top 4
abbrev iS:Stmt:=top 5
abbrev iO:Stmt:=top 6
abbrev fV:Stmt:=top 7
abbrev eZ:Stmt:=top 8
abbrev jx:Stmt:=top 10
abbrev iB:Stmt:=top 11
abbrev fG:Stmt:=top 12
abbrev gj:Stmt:=top 13
abbrev gv:Stmt:=top 14
abbrev uB:Stmt:=top 15
abbrev ji:Stmt:=top 16
abbrev fA:Stmt:=top 18
abbrev kO:Stmt:=top 19
abbrev gY:Stmt:=top 20
abbrev eX:Stmt:=top 21
abbrev gn:Stmt:=top 22
abbrev eT:Stmt:=top 23
abbrev jA:Stmt:=top 24
abbrev ni:Stmt:=top 30
abbrev gP:Stmt:=top 33
abbrev k9:Stmt:=top 34
abbrev i9:Stmt:=top 35
abbrev eW:Stmt:=top 42
abbrev gq:Stmt:=top 43
abbrev iF:Stmt:=top 44
abbrev dQ:Stmt:=top 45
abbrev lC:Stmt:=top 46
abbrev jq:Stmt:=top 47
abbrev oF:Stmt:=top 48
abbrev kP:Stmt:=top 49
abbrev lu:Stmt:=top 50
abbrev ej:Stmt:=top 51
abbrev iD:Stmt:=top 52
abbrev fZ:Stmt:=top 53
abbrev gX:Stmt:=top 54
abbrev iw:Stmt:=top 55
abbrev f6:Stmt:=top 56
abbrev gK:Stmt:=inClass (top 57) 0
abbrev d7:Stmt:=inClass (top 57) 1
abbrev eJ:Stmt:=inClass (top 57) 2
abbrev fq:Stmt:=inClass (top 57) 3
abbrev d9:Stmt:=inClass (top 57) 4
abbrev Ak:Stmt:=inClass (top 57) 5
abbrev Ay:Stmt:=inClass (top 57) 6
abbrev yd:Stmt:=inClass (top 57) 7
abbrev uY:Stmt:=inClass (top 57) 8
abbrev dX:Stmt:=inClass (top 57) 9
abbrev eU:Stmt:=top 59
abbrev fb:Stmt:=top 60
abbrev n9:Stmt:=top 61
abbrev mV:Stmt:=top 63
abbrev kT:Stmt:=top 64
abbrev k7:Stmt:=top 65
abbrev jj:Stmt:=top 66
abbrev m6:Stmt:=top 67
abbrev ju:Stmt:=top 68
abbrev oj:Stmt:=top 69
abbrev gR:Stmt:=top 70
abbrev iT:Stmt:=top 71
abbrev n8:Stmt:=top 72
abbrev k6:Stmt:=top 73
abbrev iM:Stmt:=top 74
abbrev k5:Stmt:=top 75
abbrev nE:Stmt:=top 76
abbrev m7:Stmt:=top 77
abbrev iI:Stmt:=top 78
abbrev iJ:Stmt:=top 79
abbrev nJ:Stmt:=top 80
def oneOf:Value→Option Str
 |.str x _=>some x
 |_=>none
def strsOf(l:List Value):List (Option Str):=l.map oneOf
def Ea:List (Option Str):=[some "person",some "talk",some "saw",some "knew",some "heard",some "told",some "not",some "nobody",some "never",some "by",some "from",some "to"]
inductive FF(K:PySem.W.Frag)(x:Str)(st:Stmt):Prop
 |mk{f:Addr}{oc kV dc pm cd ct:Value}{od an:Option Addr}{sl:Array (Option Value)}(a:nsIn K mainGlobals x=some (some (.ref f)))(l:K.lookup f=some ⟨oc,od,.func (fnOf x x (dW st) (cU st) (cB st) .none kV dc pm an cd ct),sl⟩)(c:codeIn K cd x=true)(k:keepIn K (.ref f)=true)
inductive Facts(K:PySem.W.Frag):Prop
 |mk{kw C f62 f63 f64 f65 f66 f67:Addr}
  {odw od62 an62 od63 an63 od64 an64 od65 an65 od66 an66 od67 an67:Option Addr}{slw sl62 sl63 sl64 sl65 sl66 sl67:Array (Option Value)}{oc62 kV62 dc62 pm62 cd62 ct62 oc63 kV63 dc63 pm63 cd63 ct63 oc64 kV64 dc64 pm64 cd64 ct64 oc65 kV65 dc65 pm65 cd65 ct65 oc66 kV66 dc66 pm66 cd66 ct66 oc67 kV67 dc67 pm67 cd67 ct67:Value}{its:Array Value}{nW:Nat}{tk1 tk2 tk3 tk4 tk5:Tok}
  (aW:nsIn K mainGlobals "KEPT_WORDS" =some (some (.ref kw))) (lW:K.lookup kw=some ⟨.type "tuple",odw,.seq its nW,slw⟩) (vW:strsOf its.toList=Ea)
 (h1:FF K "is_whole" gP) (h2:FF K "is_hour" k9) (h3:FF K "is_name" i9) (h4:FF K "is_list_up_to" eW) (h5:FF K "is_tuple_of" gq) (h6:FF K "is_person" iF) (h7:FF K "are_unlike_persons" dQ) (h8:FF K "is_tale" lC) (h9:FF K "is_sight" jq) (h10:FF K "is_way" oF) (h11:FF K "is_talk" kP) (h12:FF K "is_span" lu) (h13:FF K "is_short_saying" ej) (h14:FF K "is_saying" iD) (h15:FF K "are_persons" fZ) (h16:FF K "are_sights" gX) (h17:FF K "are_talks" iw) (h18:FF K "are_sayings" f6) (h19:FF K "floor_of" jw) (h20:FF K "floors_of_all" eS) (h21:FF K "is_above" jI) (h22:FF K "is_silent" iS) (h23:FF K "is_barred" iO) (h24:FF K "open_sights" fV) (h25:FF K "open_tellings" eZ) (h26:FF K "open_entries" fA) (h27:FF K "hour_of" kO) (h28:FF K "can_follow" gY) (h29:FF K "first_entries" eX) (h30:FF K "first_story" gn) (h31:FF K "earliest" jA) (h32:FF K "hours_in" jx) (h33:FF K "fits_knew" iB) (h34:FF K "fits_unheard" fG) (h35:FF K "fits_silent" gj) (h36:FF K "fits_barred" gv) (h37:FF K "fits" uB) (h38:FF K "unfitted" ji) (h39:FF K "fitting_story" eT) (h40:FF K "latest" ni) (h41:FF K "is_heard_from" eU) (h42:FF K "story_without" fb) (h43:FF K "needed" n9) (h44:FF K "_law_mix" mV) (h45:FF K "_law_names" kT) (h46:FF K "_law_clock" k7) (h47:FF K "_law_saying" jj) (h48:FF K "_law_spot" m6) (h49:FF K "_law_things" ju) (h50:FF K "_law_free" oj) (h51:FF K "_law_tellings" gR) (h52:FF K "_law_is_open" iT) (h53:FF K "_law_open" n8) (h54:FF K "_law_hours" k6) (h55:FF K "_law_knew_so" iM) (h56:FF K "_law_drawn" k5) (h57:FF K "_law_book" nE) (h58:FF K "_law_some" m7) (h59:FF K "_law_tellers" iI) (h60:FF K "_law_between" iJ) (h61:FF K "law" nJ)
  (aC:nsIn K mainGlobals "Book" =some (some (.ref C))) (pg:plainGet K C Str.empty=true) (hd:hasDictIn K C=true) (po:plainOver K C=true) (sa:findIn K (.ref C) "__setattr__" =some (some (.builtin "object.__setattr__"))) (mk:makesIn K C=true) (kc:keepIn K (.ref C)=true)
  (nP:findIn K (.ref C) "kept_persons" =some none) (nS:findIn K (.ref C) "kept_sights" =some none) (nT:findIn K (.ref C) "kept_talks" =some none) (nY:findIn K (.ref C) "kept_sayings" =some none)
  (a62:findIn K (.ref C) "__init__" =some (some (.ref f62))) (i62:isFn K (.ref f62)=true) (l62:K.lookup f62=some ⟨oc62,od62,.func (fnOf "__init__" "Book.__init__" (dW gK) (cU gK) (cB gK) .none kV62 dc62 pm62 an62 cd62 ct62),sl62⟩) (c62:codeIn K cd62 "Book.__init__" =true) (k62:keepIn K (.ref f62)=true)
  (a63:findIn K (.ref C) "persons" =some (some (.ref f63))) (i63:isFn K (.ref f63)=true) (l63:K.lookup f63=some ⟨oc63,od63,.func (fnOf "persons" "Book.persons" (dW d7) (cU d7) (cB d7) .none kV63 dc63 pm63 an63 cd63 ct63),sl63⟩) (c63:codeIn K cd63 "Book.persons" =true) (k63:keepIn K (.ref f63)=true)
  (a64:findIn K (.ref C) "sights" =some (some (.ref f64))) (i64:isFn K (.ref f64)=true) (l64:K.lookup f64=some ⟨oc64,od64,.func (fnOf "sights" "Book.sights" (dW eJ) (cU eJ) (cB eJ) .none kV64 dc64 pm64 an64 cd64 ct64),sl64⟩) (c64:codeIn K cd64 "Book.sights" =true) (k64:keepIn K (.ref f64)=true)
  (a65:findIn K (.ref C) "talks" =some (some (.ref f65))) (i65:isFn K (.ref f65)=true) (l65:K.lookup f65=some ⟨oc65,od65,.func (fnOf "talks" "Book.talks" (dW fq) (cU fq) (cB fq) .none kV65 dc65 pm65 an65 cd65 ct65),sl65⟩) (c65:codeIn K cd65 "Book.talks" =true) (k65:keepIn K (.ref f65)=true)
  (a66:findIn K (.ref C) "sayings" =some (some (.ref f66))) (i66:isFn K (.ref f66)=true) (l66:K.lookup f66=some ⟨oc66,od66,.func (fnOf "sayings" "Book.sayings" (dW d9) (cU d9) (cB d9) .none kV66 dc66 pm66 an66 cd66 ct66),sl66⟩) (c66:codeIn K cd66 "Book.sayings" =true) (k66:keepIn K (.ref f66)=true)
  (a67:findIn K (.ref C) "tellings" =some (some (.ref f67))) (i67:isFn K (.ref f67)=true) (l67:K.lookup f67=some ⟨oc67,od67,.func (fnOf "tellings" "Book.tellings" (dW dX) (cU dX) (cB dX) .none kV67 dc67 pm67 an67 cd67 ct67),sl67⟩) (c67:codeIn K cd67 "Book.tellings" =true) (k67:keepIn K (.ref f67)=true)
  (z1:nsIn K mainGlobals "isinstance" =some none) (z2:nsIn K mainGlobals "int" =some none) (z3:nsIn K mainGlobals "bool" =some none) (z4:nsIn K mainGlobals "str" =some none) (z5:nsIn K mainGlobals "len" =some none) (z6:nsIn K mainGlobals "all" =some none) (z7:nsIn K mainGlobals "range" =some none) (z8:nsIn K mainGlobals "list" =some none) (z9:nsIn K mainGlobals "tuple" =some none) (z10:nsIn K mainGlobals "set" =some none) (z11:nsIn K mainGlobals "zip" =some none) (z12:nsIn K mainGlobals "enumerate" =some none) (z13:nsIn K mainGlobals "min" =some none) (z14:nsIn K mainGlobals "max" =some none) (z15:nsIn K mainGlobals "any" =some none) (z16:nsIn K mainGlobals "sorted" =some none) (z17:nsIn K mainGlobals "dict" =some none) (z18:nsIn K mainGlobals "sum" =some none) (z19:nsIn K mainGlobals "reversed" =some none)
  (g1:nsIn K mainGlobals "MOST_PERSONS" =some (some (.int 24 tk1))) (g2:nsIn K mainGlobals "MOST_SIGHTS" =some (some (.int 24 tk2))) (g3:nsIn K mainGlobals "MOST_TALKS" =some (some (.int 120 tk3))) (g4:nsIn K mainGlobals "MOST_SAYINGS" =some (some (.int 60 tk4))) (g5:nsIn K mainGlobals "MOST_WORDS" =some (some (.int 6 tk5))):Facts K
open PySem.W in
def vw:Program:=view PySem.Challenge.rw_knewby_k34_whole_stories_between.row.toRowW.prog [0,2,3,4,5,6,7,8,10,11,12,13,14,15,16,18,19,20,21,22,23,24,26,27,28,30,32,33,34,35,37,38,39,40,41,42,43,44,45,46,47,48,49,50,51,52,53,54,55,56,57,59,60,61,63,64,65,66,67,68,69,70,71,72,73,74,75,76,77,78,79,80]
end K34
open PySem PySem.W PyProof.Rows
set_option maxRecDepth 100000 in
theorem K34.uG(w:World):TR.oS (OpenRow.toRowW PySem.Challenge.rw_knewby_k34_whole_stories_between.row).prog w 20000 (fun s₀ s₁=>staticsOk (importedModules (OpenRow.toRowW PySem.Challenge.rw_knewby_k34_whole_stories_between.row).prog.main.body) s₀.heap s₁.heap && namesBound (OpenRow.toRowW PySem.Challenge.rw_knewby_k34_whole_stories_between.row).prog s₁.heap && gensDone s₁ && laidKept s₀.heap s₁.heap)=some true:=by
 delta TR.oS PySem.W.fencedOpening;(try rw[PySem.W.Fast.te10274390034422433532]);(try rw[PySem.W.Fast.te4187177175401517315]);(try rw[PySem.W.Fast.te1435165496053646825]);(try rw[PySem.W.Fast.te14289696077712309145]);(try rw[PySem.W.Fast.te11892475500146522536]);(try rw[PySem.W.Fast.te10156331382660048174]);(try rw[PySem.W.Fast.te6613529449190102663]);(try rw[PySem.W.Fast.te14364793385576792824]);(try rw[PySem.W.Fast.te5923862056798008813]);kernel_rfl
set_option maxRecDepth 100000 in
theorem K34.uw(w:World):TR.oS (OpenRow.toRowW PySem.Challenge.rw_knewby_k34_whole_stories_between.row).prog w 20000 (fun _ s₁=>openSeen K34.vw [] (importedModules (OpenRow.toRowW PySem.Challenge.rw_knewby_k34_whole_stories_between.row).prog.main.body) (fun s=>xlAt K34.vw [] s && recOk (RowW.records (OpenRow.toRowW PySem.Challenge.rw_knewby_k34_whole_stories_between.row)) s) true s₁)=some (openGood K34.vw []):=by
 delta TR.oS PySem.W.fencedOpening;(try rw[PySem.W.Fast.te10274390034422433532]);(try rw[PySem.W.Fast.te4187177175401517315]);(try rw[PySem.W.Fast.te1435165496053646825]);(try rw[PySem.W.Fast.te14289696077712309145]);(try rw[PySem.W.Fast.te11892475500146522536]);(try rw[PySem.W.Fast.te10156331382660048174]);(try rw[PySem.W.Fast.te6613529449190102663]);(try rw[PySem.W.Fast.te14364793385576792824]);(try rw[PySem.W.Fast.te5923862056798008813]);kernel_rfl
local macro_rules
 | `(tactic|o_head $H)=> `(tactic| (
  refine holds_open (N:=20000) (q:=K34.vw) (loose:=[])
   (Xt:=fun s=>xlAt K34.vw [] s && recOk (RowW.records (OpenRow.toRowW PySem.Challenge.rw_knewby_k34_whole_stories_between.row)) s)
   (XP:=XL K34.vw []) (YP:=Hook.says $H) (Ya:=Hook.val $H) (Yf:=Hook.obs $H)
   ?hl (Hook.of $H) (Hook.keeps $H)
   (fun s e=>xl_of s (Bool.and_eq_true_iff.mp e).1) XL.keeps
   (by rfl) (by rfl) (by rfl)
   (fun s e=>recFacts_of (Bool.and_eq_true_iff.mp e).2)
   (by rfl) (by first|assumption|decide+kernel) (by decide+kernel)
   ⟨rfl,rfl,rfl,rfl,rfl,by decide+kernel⟩ ?hw ?hc
  (case hl=>(refine TR.FZ K34.uG K34.uw fun w=>?_;delta TR.oS PySem.W.fencedOpening;(try rw[PySem.W.Fast.te10274390034422433532]);(try rw[PySem.W.Fast.te4187177175401517315]);(try rw[PySem.W.Fast.te1435165496053646825]);(try rw[PySem.W.Fast.te14289696077712309145]);(try rw[PySem.W.Fast.te11892475500146522536]);(try rw[PySem.W.Fast.te10156331382660048174]);(try rw[PySem.W.Fast.te6613529449190102663]);(try rw[PySem.W.Fast.te14364793385576792824]);(try rw[PySem.W.Fast.te5923862056798008813]);kernel_rfl))))
set_option maxRecDepth 100000 in
set_option maxHeartbeats 0 in
theorem K34.closing (HW:∀{q:Program}{loose:List Str}{XP:(Str→Option Value)→Heap→Prop}{YP:World→Heap→Prop}{d:DefRec}{K:Params→PySem.W.Frag},d.name= "law" →d.params.defaults=[]→(∀(w:World) (h:Heap),YP w h→(K w.params).In h)→
  (∀(w:World)(mg:Str→Option Value)(fa:Addr)(h:Heap),(K w.params).In h→h.Ns mainGlobals mg→mg d.name=some (.ref fa)→K34.Facts (K w.params))→PySem.W.WalkO q loose XP YP PySem.Challenge.rw_knewby_k34_whole_stories_between.row.toRowW d [] (fun f vs=>PySem.call f vs)):PySem.Challenge.rw_knewby_k34_whole_stories_between.Holds:=by
 w_on;o_law;k_head;(case hw=>w_witness2)
 k_fill
 refine HW rfl rfl (fun w h Y=>PySem.W.kIn_of Y) ?F
 case F=>
  intro w mg fa h KX G hmg
  refine' K34.Facts.mk ?aW ?lW ?vW ?h1 ?h2 ?h3 ?h4 ?h5 ?h6 ?h7 ?h8 ?h9 ?h10 ?h11 ?h12 ?h13 ?h14 ?h15 ?h16 ?h17 ?h18 ?h19 ?h20 ?h21 ?h22 ?h23 ?h24 ?h25 ?h26 ?h27 ?h28 ?h29 ?h30 ?h31 ?h32 ?h33 ?h34 ?h35 ?h36 ?h37 ?h38 ?h39 ?h40 ?h41 ?h42 ?h43 ?h44 ?h45 ?h46 ?h47 ?h48 ?h49 ?h50 ?h51 ?h52 ?h53 ?h54 ?h55 ?h56 ?h57 ?h58 ?h59 ?h60 ?h61 ?aC ?pg ?hd ?po ?sa ?mk ?kc ?nP ?nS ?nT ?nY ?a62 ?i62 ?l62 ?c62 ?k62 ?a63 ?i63 ?l63 ?c63 ?k63 ?a64 ?i64 ?l64 ?c64 ?k64 ?a65 ?i65 ?l65 ?c65 ?k65 ?a66 ?i66 ?l66 ?c66 ?k66 ?a67 ?i67 ?l67 ?c67 ?k67 ?z1 ?z2 ?z3 ?z4 ?z5 ?z6 ?z7 ?z8 ?z9 ?z10 ?z11 ?z12 ?z13 ?z14 ?z15 ?z16 ?z17 ?z18 ?z19 ?g1 ?g2 ?g3 ?g4 ?g5
  (case aW=>k_is)
  (case lW=>k_is)
  (case aC=>k_is)
  (case pg=>k_is)
  (case hd=>k_is)
  (case po=>k_is)
  (case sa=>k_is)
  (case mk=>k_is)
  (case kc=>k_is)
  (case nP=>k_is)
  (case nS=>k_is)
  (case nT=>k_is)
  (case nY=>k_is)
  (case a62=>k_is)
  (case i62=>k_is)
  (case l62=>k_is)
  (case c62=>k_is)
  (case k62=>k_is)
  (case a63=>k_is)
  (case i63=>k_is)
  (case l63=>k_is)
  (case c63=>k_is)
  (case k63=>k_is)
  (case a64=>k_is)
  (case i64=>k_is)
  (case l64=>k_is)
  (case c64=>k_is)
  (case k64=>k_is)
  (case a65=>k_is)
  (case i65=>k_is)
  (case l65=>k_is)
  (case c65=>k_is)
  (case k65=>k_is)
  (case a66=>k_is)
  (case i66=>k_is)
  (case l66=>k_is)
  (case c66=>k_is)
  (case k66=>k_is)
  (case a67=>k_is)
  (case i67=>k_is)
  (case l67=>k_is)
  (case c67=>k_is)
  (case k67=>k_is)
  (case z1=>k_is)
  (case z2=>k_is)
  (case z3=>k_is)
  (case z4=>k_is)
  (case z5=>k_is)
  (case z6=>k_is)
  (case z7=>k_is)
  (case z8=>k_is)
  (case z9=>k_is)
  (case z10=>k_is)
  (case z11=>k_is)
  (case z12=>k_is)
  (case z13=>k_is)
  (case z14=>k_is)
  (case z15=>k_is)
  (case z16=>k_is)
  (case z17=>k_is)
  (case z18=>k_is)
  (case z19=>k_is)
  (case g1=>k_is)
  (case g2=>k_is)
  (case g3=>k_is)
  (case g4=>k_is)
  (case g5=>k_is)
  (case vW=>rfl)
  all_goals (apply K34.FF.mk<;>k_is)
end
namespace L2
open PySem PySem.Spec PyProof.Rows
abbrev Key:=Sum Int Str
def gx:Key→Value→Bool
 |.inl k,v=>Value.isInt k v
 |.inr x,v=>Value.isStrOf x v
def IE(w:World):Key→Int
 |.inl k=>hashInt k
 |.inr x=>hashStr w x
theorem di:∀{k:Key}{v:Value},gx k v=true→(∃i t,k=Sum.inl i∧v=Value.int i t)∨(∃x t,k=Sum.inr x∧v=Value.str x t)
 |.inl i,v,h=>by
  obtain⟨t,e⟩:=Value.isInt_shape (k:=i) (v:=v) h
  exact .inl ⟨i,t,rfl,e⟩
 |.inr x,v,h=>by
  obtain⟨t,e⟩:=Value.isStrOf_shape (x:=x) (v:=v) h
  exact .inr ⟨x,t,rfl,e⟩
theorem wH(i:Int)(t:Tok):gx (.inl i) (.int i t)=true:=by simp[gx,Value.isInt]
theorem pj(x:Str)(t:Tok):gx (.inr x) (.str x t)=true:=by simp[gx,Value.isStrOf]
theorem Dw(a b:Int):decide ((Sum.inl a:Key)=Sum.inl b)=(a == b):=by
 by_cases e:a=b
 ·subst e;simp
 ·have h:¬(Sum.inl a:Key)=Sum.inl b:=fun q=>e (Sum.inl.inj q)
  rw[decide_eq_false h]
  exact(beq_eq_false_iff_ne.mpr e).symm
theorem Di(a b:Str):decide ((Sum.inr a:Key)=Sum.inr b)=decide (a=b):=by
 by_cases e:a=b
 ·subst e;simp
 ·have h:¬(Sum.inr a:Key)=Sum.inr b:=fun q=>e (Sum.inr.inj q)
  rw[decide_eq_false h,decide_eq_false e]
theorem EI(a:Int)(b:Str):decide ((Sum.inl a:Key)=Sum.inr b)=false:=decide_eq_false (fun q=>nomatch q)
theorem Dd(a:Str)(b:Int):decide ((Sum.inr a:Key)=Sum.inl b)=false:=decide_eq_false (fun q=>nomatch q)
def cG(prog:Program)(w:World):PySem.KeyKind prog w Key where
 is:=gx
 hash:=IE w
 inj:=fun v a b ha hb=>by
  rcases di ha with ⟨i,t,rfl,rfl⟩|⟨x,t,rfl,rfl⟩
  ·rcases di hb with ⟨j,u,rfl,e⟩|⟨y,u,rfl,e⟩
   ·injection e with e1 _;rw[e1]
   ·exact nomatch e
  ·rcases di hb with ⟨j,u,rfl,e⟩|⟨y,u,rfl,e⟩
   ·exact nomatch e
   ·injection e with e1 _;rw[e1]
 byValue:=fun k v h=>by
  rcases di h with ⟨i,t,rfl,rfl⟩|⟨x,t,rfl,rfl⟩<;>rfl
 pyHash:=fun hv h=>by
  rcases di hv with ⟨i,t,rfl,rfl⟩|⟨x,t,rfl,rfl⟩
  ·exact wpAny_pyHash_int h
  ·exact wpAny_pyHash_str h
 eqBool:=fun hu hv h=>by
  rcases di hu with ⟨i,t,rfl,rfl⟩|⟨x,t,rfl,rfl⟩
  ·rcases di hv with ⟨j,u,rfl,rfl⟩|⟨y,u,rfl,rfl⟩
   ·rw[Dw]at h;exact wpAny_eqBool_int h
   ·rw[EI]at h;exact SeqAt.EqAt.int_str i t y u _ _ _ _ h
  ·rcases di hv with ⟨j,u,rfl,rfl⟩|⟨y,u,rfl,rfl⟩
   ·rw[Dd]at h;exact SeqAt.EqAt.str_int x t j u _ _ _ _ h
   ·rw[Di]at h;exact wpAny_eqBool_str h
 «strs» :=fun k x t v h=>by
  rcases di h with ⟨i,u,rfl,e⟩|⟨y,u,rfl,e⟩
  ·exact nomatch e
  ·injection e with e1 _
   subst e1
   cases v<;>rfl
theorem tf(prog:Program)(w:World)(i:Int)(t:Tok):(cG prog w).is (.inl i) (.int i t)=true:=wH i t
theorem qX(prog:Program)(w:World)(x:Str)(t:Tok):(cG prog w).is (.inr x) (.str x t)=true:=pj x t
end L2
namespace L2
open PySem PySem.Spec PyProof.Rows
inductive V where
 |non|bl (b:Bool)|int (i:Int)|str (x:Str)|byt (b:Array UInt8)|flt (b:UInt64)|ref (a:Addr)|ty (n:String)
 deriving DecidableEq
def RelV:V→Value→Prop
 |.non,u=>u=Value.none
 |.bl b,u=>u=Value.bool b
 |.int i,u=>∃t,u=Value.int i t
 |.str x,u=>∃t,u=Value.str x t
 |.byt b,u=>∃t,u=Value.bytes b t
 |.flt b,u=>∃t,u=Value.float b t
 |.ref a,u=>u=Value.ref a
 |.ty n,u=>u=Value.type n
abbrev Vals:List V→List Value→Prop:=Paired RelV
theorem Vals.length{xs:List V}{us:List Value}(r:Vals xs us):xs.length=us.length:=Paired.length r
theorem Vals.get:∀{xs:List V}{us:List Value}{i:Nat}{x:V},Vals xs us→xs[i]? =some x→∃u,us[i]? =some u∧RelV x u
 |_,_,_,_,.nil,e=>by simp at e
 |_,_,0,_,.cons r _,e=>by simp at e;subst e;exact⟨_,rfl,r⟩
 |_,_,i+1,x,.cons _ t,e=>by
  obtain⟨u,h1,h2⟩:=Vals.get (i:=i) (x:=x) t (by simpa using e)
  exact⟨u,by simpa using h1,h2⟩
theorem Vals.append:∀{xs ys:List V}{us ws:List Value},Vals xs us→Vals ys ws→Vals (xs++ys) (us++ws)
 |_,_,_,_,.nil,s=>s
 |_,_,_,_,.cons r t,s=>.cons r (Vals.append t s)
theorem Vals.take:∀{xs:List V}{us:List Value}(n:Nat),Vals xs us→Vals (xs.take n) (us.take n)
 |_,_,0,_=>.nil
 |_,_,_+1,.nil=>.nil
 |_,_,n+1,.cons r t=>.cons r (Vals.take n t)
theorem Vals.drop:∀{xs:List V}{us:List Value}(n:Nat),Vals xs us→Vals (xs.drop n) (us.drop n)
 |_,_,0,r=>r
 |_,_,_+1,.nil=>.nil
 |_,_,n+1,.cons _ t=>Vals.drop n t
def ip:Option V→Option Value→Prop
 |some v,some u=>RelV v u
 |none,none=>True
 |_,_=>False
def KV{κ:Type}:List (κ×V)→List (κ×Value)→Prop:=Paired fun(p:κ×V) (q:κ×Value)=>p.1=q.1∧RelV p.2 q.2
def kV:Key→V
 |.inl i=>.int i
 |.inr x=>.str x
inductive HO where
 |lst (xs:List V)
 |tup (xs:List V)
 |dK (kvs:List (Key×V))|dT (kvs:List (List Key×V))
 |set (S:Int→Bool)(n:Nat)
 |ins (C dx:Addr)(fs:List (Str×V))
 |own (x:Addr)
 |xd (fs:List (Str×V))
 |met (f x:Addr)
 |rng (lo hi:Int)
 |frz (o:Obj)(u:HO)
 |tbl (ps:Array Value)
 |ext (φ:Heap→Prop)
abbrev Hp:=Addr→Option HO
def upd(H:Hp)(a:Addr)(o:HO):Hp:=fun b=>if b=a then some o else H b
theorem cy{H:Hp}{a:Addr}{o:HO}:upd H a o a=some o:=by unfold upd;rw[if_pos rfl]
theorem cC{H:Hp}{a b:Addr}{o:HO}(h:b≠a):upd H a o b=H b:=by unfold upd;rw[if_neg h]
theorem AL{H:Hp}{a:Addr}{o u:HO}:upd (upd H a o) a u=upd H a u:=by
 funext b;unfold upd;split<;>rfl
theorem n5{H:Hp}{a b:Addr}{o u:HO}(h:H a=some o)(h':H b=some u)(d:o≠u):a≠b:=by
 intro e;subst e;rw[h]at h';exact d (Option.some.inj h')
theorem cz{H:Hp}{a b:Addr}{o:HO}(h:H a=some o)(h':H b=none):a≠b:=by
 intro e;subst e;rw[h]at h';cases h'
section
variable (P:Program)(w:World)
def cV(H:Hp)(h:Heap)(a:Addr):HO→Prop
 |.lst xs=>xs.length≤sizeLine∧∃(its:List Value) (n:Nat),Vals xs its∧h.get? a=some { cls:=.type "list",data:=.seq its.toArray n }
 |.tup xs=>xs.length≤sizeLine∧∃its:List Value,Vals xs its∧IsTup h a its.toArray
 |.dK kvs=>kvs.length≤sizeLine∧(a == sysModules)=false∧∃vs,KV kvs vs∧h.DictOf (cG P w) a vs
 |.dT kvs=>kvs.length≤sizeLine∧(a == sysModules)=false∧∃xs:List (List Key×Addr×Value),
   Paired (fun(p:List Key×V) (q:List Key×Addr×Value)=>p.1=q.1∧H q.2.1=some (.tup (p.1.map kV))∧RelV p.2 q.2.2) kvs xs∧
   ∃o es ep,h.get? a=some o∧o.ExactDict∧o.data=.dict es ep∧es.toList=xs.map (entryOfKey (tupleKind (cG P w)))∧(xs.map (·.1)).Nodup
 |.set S n=>h.SetOf (intKind P w) a S n
 |.ins C dx fs=>H dx=some (.own a)∧fs.length≤1000∧dx≠a∧h.get? a=some (instObj C dx)∧
   ∃mA,h.Ns1 dx mA∧(∀f,ip (fs.lookup f) (mA f))∧PySem.Within mA (fs.map (·.1))
 |.own _=>∃o,h.get? a=some o
 |.xd fs=>∃mA,h.Ns1 a mA∧∀f,ip (fs.lookup f) (mA f)
 |.rng lo hi=>∃t u v,h.get? a=some { cls:=.type "range",data:=.fields #[.int lo t,.int hi u,.int 1 v] }
 |.frz o u=>h.get? a=some o∧cV H h a u
 |.tbl ps=>h.get? a=some { cls:=.none,data:=.fields ps }
 |.met f x=>h.get? a=some (methodObj (.ref f) (.ref x))
 |.ext φ=>φ h∧(∃o,h.get? a=some o)∧∀h1 h2:Heap,φ h1→(∀o,h1.get? a=some o→h2.get? a=some o)→φ h2
def gF(H:Hp)(h:Heap):Prop:=∀a o,H a=some o→cV P w H h a o
end
section
variable {P:Program}{w:World}{H H':Hp}{h h':Heap}{a:Addr}{o:HO}
theorem cV.lt(x:cV P w H h a o):a < h.objs.size:=by
 cases o with
 |lst xs=>obtain⟨_,_,_,_,e⟩:=x;exact lt_size e
 |tup xs=>obtain⟨_,_,_,p⟩:=x;exact p.lt
 |dK kvs=>obtain⟨_,_,_,_,o,_,_,e,_⟩:=x;exact lt_size e
 |dT kvs=>obtain⟨_,_,_,_,o,_,_,e,_⟩:=x;exact lt_size e
 |set S n=>obtain⟨o,_,_,_,e,_⟩:=x;exact lt_size e
 |ins C dx fs=>obtain⟨_,_,_,e,_⟩:=x;exact lt_size e
 |own y=>obtain⟨_,e⟩:=x;exact lt_size e
 |xd fs=>obtain⟨_,⟨_,_,_,e,_⟩,_⟩:=x;exact lt_size e
 |rng lo hi=>obtain⟨_,_,_,e⟩:=x;exact lt_size e
 |frz ob u=>obtain⟨e,_⟩:=x;exact lt_size e
 |tbl ps=>exact lt_size (show h.get? a=some _ from x)
 |met f y=>exact lt_size (show h.get? a=some _ from x)
 |ext φ=>obtain⟨_,⟨_,e⟩,_⟩:=x;exact lt_size e
theorem Paired.DX{α β:Type}{F G:α→β→Prop}:∀{l₁:List α}{l₂:List β},Paired F l₁ l₂→(∀a b,F a b→G a b)→Paired G l₁ l₂
 |_,_,.nil,_=>.nil
 |_,_,.cons r t,f=>.cons (f _ _ r) (Paired.DX t f)
theorem cV.eF(x:cV P w H h a o)(k:∀b u,(b=a∨H b=some (.own a))→h.get? b=some u→h'.get? b=some u)
  (ho:∀b,H b=some (.own a)→H' b=some (.own a))(ht:∀b xs,H b=some (.tup xs)→H' b=some (.tup xs)):cV P w H' h' a o:=by
 induction o with
 |lst xs=>obtain⟨z,its,n,r,e⟩:=x;exact⟨z,its,n,r,k _ _ (.inl rfl) e⟩
 |tup xs=>obtain⟨z,its,r,ob,e,c⟩:=x;exact⟨z,its,r,ob,k _ _ (.inl rfl) e,c⟩
 |dK kvs=>obtain⟨z,y,vs,r,ob,es,ep,e,c⟩:=x;exact⟨z,y,vs,r,ob,es,ep,k _ _ (.inl rfl) e,c⟩
 |dT kvs=>
  obtain⟨z,y,xs,r,ob,es,ep,e,c⟩:=x
  exact⟨z,y,xs,Paired.DX r fun p q z=>⟨z.1,ht _ _ z.2.1,z.2.2⟩,ob,es,ep,k _ _ (.inl rfl) e,c⟩
 |set S n=>obtain⟨ob,es,ep,t,e,c⟩:=x;exact⟨ob,es,ep,t,k _ _ (.inl rfl) e,c⟩
 |ins C dx fs=>
  obtain⟨d,z,ne,e,mA,⟨od,es,ep,e2,c⟩,r⟩:=x
  exact⟨ho _ d,z,ne,k _ _ (.inl rfl) e,mA,⟨od,es,ep,k _ _ (.inr d) e2,c⟩,r⟩
 |own y=>obtain⟨ob,e⟩:=x;exact⟨ob,k _ _ (.inl rfl) e⟩
 |xd fs=>obtain⟨mA,⟨od,es,ep,e,c⟩,r⟩:=x;exact⟨mA,⟨od,es,ep,k _ _ (.inl rfl) e,c⟩,r⟩
 |rng lo hi=>obtain⟨t,u,v,e⟩:=x;exact⟨t,u,v,k _ _ (.inl rfl) e⟩
 |frz ob u ih=>obtain⟨e,q⟩:=x;exact⟨k _ _ (.inl rfl) e,ih q⟩
 |tbl ps=>
  have e:h.get? a=some { cls:=.none,data:=.fields ps }:=x
  show h'.get? a=some { cls:=.none,data:=.fields ps }
  exact k a _ (.inl rfl) e
 |met f y=>
  have e:h.get? a=some (methodObj (.ref f) (.ref y)):=x
  show h'.get? a=some (methodObj (.ref f) (.ref y))
  exact k a _ (.inl rfl) e
 |ext φ=>obtain⟨p,⟨o,e⟩,st⟩:=x;exact⟨st _ _ p fun o q=>k _ _ (.inl rfl) q,⟨o,k _ _ (.inl rfl) e⟩,st⟩
theorem gF.lt(x:gF P w H h)(e:H a=some o):a < h.objs.size:=(x a o e).lt
theorem gF.fresh(x:gF P w H h)(e:h.objs.size≤a):H a=none:=by
 cases q:H a with
 |none=>rfl
 |some u=>exact absurd (lt_of_lt_of_le (x.lt q) e) (lt_irrefl _)
theorem gF.kept(x:gF P w H h)(k:∀b u,h.get? b=some u→h'.get? b=some u):gF P w H h':=fun a o e=>
 (x a o e).eF (fun b u _ q=>k b u q) (fun _ q=>q) fun _ _ q=>q
theorem gF.laid(x:gF P w H h)(k:∀b u,h.get? b=some u→h'.get? b=some u)(hp:h.objs.size≤a)(new:cV P w (upd H a o) h' a o):gF P w (upd H a o) h':=fun b u e=>by
 have hn:=x.fresh hp
 by_cases hb:b=a
 ·subst hb;rw[cy]at e;cases e;exact new
 ·rw[cC hb]at e
  exact(x b u e).eF (fun c v _ q=>k c v q) (fun c q=>by rw[cC (cz q hn)];exact q) fun c xs q=>by rw[cC (cz q hn)];exact q
end
def Rd(H:Hp)(a:Addr)(u:HO):Prop:=H a=some u∨∃o,H a=some (.frz o u)
theorem Rd.ok{P:Program}{w:World}{H:Hp}{h:Heap}{a:Addr}{u:HO}(r:Rd H a u)(x:gF P w H h):cV P w H h a u:=by
 rcases r with r|⟨o,r⟩
 ·exact x a u r
 ·obtain⟨_,q⟩:=x a _ r
  exact q
def E2:Option HO→Prop
 |some (.lst _)=>True
 |some (.dK _)=>True
 |some (.dT _)=>True
 |some (.set _ _)=>True
 |some (.ins _ _ _)=>True
 |some (.ext _)=>True
 |_=>False
section
variable {P:Program}{w:World}{H:Hp}{h h':Heap}{x e:Addr}{o':HO}
theorem gF.write(ok:gF P w H h)(mu:E2 (H x))(he:e=x∨H e=some (.own x))(k:∀b u,b≠e→h.get? b=some u→h'.get? b=some u)(heo:∃u,h'.get? e=some u)
  (new:cV P w (upd H x o') h' x o'):gF P w (upd H x o') h':=fun b u q=>by
 have nown:∀c y,H c=some (.own y)→c≠x:=fun c y r z=>by subst z;rw[r]at mu;exact mu
 have ntup:∀c xs,H c=some (.tup xs)→c≠x:=fun c xs r z=>by subst z;rw[r]at mu;exact mu
 by_cases hb:b=x
 ·subst hb;rw[cy]at q;cases q;exact new
 ·rw[cC hb]at q
  by_cases hbe:b=e
  ·have q':H b=some (.own x):=by
    rcases he with z|z
    ·exact absurd (hbe.trans z) hb
    ·rw[hbe];exact z
   rw[q]at q';cases q'
   obtain⟨v,hv⟩:=heo
   exact⟨v,by rw[hbe];exact hv⟩
  ·refine(ok b u q).eF (fun c v hc r=>k c v ?_ r) (fun c r=>by rw[cC (nown c b r)];exact r) fun c xs r=>by rw[cC (ntup c xs r)];exact r
   rcases hc with rfl|hc
   ·exact hbe
   ·rintro rfl
    rcases he with z|z
    ·exact nown c b hc z
    ·rw[hc]at z;cases z;exact hb rfl
end
structure Un(fs ex:List Addr)(H H':Hp)(h h':Heap):Prop where
 keep:∀b o,h.get? b=some o→H b=none→b ∉ fs→b ∉ ex→h'.get? b=some o
 slot:∀b o,h.get? b=some o→H b=none→b∈fs→b ∉ ex→∃sl,h'.get? b=some { o with slots:=sl }
 free:∀b o,h.get? b=some o→H b=none→b ∉ ex→H' b=none
 there:∀b o,h.get? b=some o→b ∉ ex→∃o',h'.get? b=some o'
 tups:∀b xs,H b=some (.tup xs)→H' b=some (.tup xs)
 frzs:∀b o u,H b=some (.frz o u)→H' b=some (.frz o u)
 tbls:∀b ps,H b=some (.tbl ps)→∃more,H' b=some (.tbl (ps++more))
section
variable {fs fs' ex ex':List Addr}{H H1 H2:Hp}{h h1 h2 h':Heap}{a x e:Addr}{o:HO}
theorem Un.any(u:Un fs ex H H1 h h1){b:Addr}{ob:Obj}(q:h.get? b=some ob)(n:H b=none)(hx:b ∉ ex):∃sl,h1.get? b=some { ob with slots:=sl }:=by
 by_cases hb:b∈fs
 ·exact u.slot b ob q n hb hx
 ·exact⟨ob.slots,u.keep b ob q n hb hx⟩
theorem Un.trans(a:Un fs ex H H1 h h1)(b:Un fs ex H1 H2 h1 h2):Un fs ex H H2 h h2 where
 keep:=fun c ob q n hc hx=>b.keep c ob (a.keep c ob q n hc hx) (a.free c ob q n hx) hc hx
 slot:=fun c ob q n hc hx=>by
  obtain⟨sl,e1⟩:=a.slot c ob q n hc hx
  obtain⟨sl',e2⟩:=b.slot c _ e1 (a.free c ob q n hx) hc hx
  exact⟨sl',e2⟩
 free:=fun c ob q n hx=>by
  obtain⟨o',e1⟩:=a.there c ob q hx
  exact b.free c o' e1 (a.free c ob q n hx) hx
 there:=fun c ob q hx=>by
  obtain⟨o',e1⟩:=a.there c ob q hx
  exact b.there c o' e1 hx
 tups:=fun c xs q=>b.tups c xs (a.tups c xs q)
 frzs:=fun c ob xs q=>b.frzs c ob xs (a.frzs c ob xs q)
 tbls:=fun c ps q=>by
  obtain⟨m1,e1⟩:=a.tbls c ps q
  obtain⟨m2,e2⟩:=b.tbls c _ e1
  exact⟨m1++m2,by rw[e2,Array.append_assoc]⟩
theorem Un.kept(k:∀b u,h.get? b=some u→h'.get? b=some u):Un fs ex H H h h':=
 ⟨fun b ob q _ _ _=>k b ob q,fun b ob q _ _ _=>⟨ob.slots,k b ob q⟩,fun _ _ _ n _=>n,fun b ob q _=>⟨ob,k b ob q⟩,fun _ _ q=>q,fun _ _ _ q=>q,fun _ ps q=>⟨#[],by rw[q];simp⟩⟩
theorem Un.refl:Un fs ex H H h h:=Un.kept fun _ _ q=>q
theorem Un.laid(k:∀b u,h.get? b=some u→h'.get? b=some u)(hp:h.objs.size≤a)(hn:H a=none):Un fs ex H (upd H a o) h h' where
 keep:=fun b u q _ _ _=>k b u q
 slot:=fun b u q _ _ _=>⟨u.slots,k b u q⟩
 free:=fun b u q n _=>by rw[cC (ne_of_lt (lt_of_lt_of_le (lt_size q) hp))];exact n
 there:=fun b u q _=>⟨u,k b u q⟩
 tups:=fun b xs q=>by rw[cC (cz q hn)];exact q
 frzs:=fun b u xs q=>by rw[cC (cz q hn)];exact q
 tbls:=fun b ps q=>⟨#[],by rw[cC (cz q hn),q];simp⟩
theorem Un.write(mu:E2 (H x))(he:e=x∨H e=some (.own x))(k:∀b u,b≠e→h.get? b=some u→h'.get? b=some u)(heo:∃u,h'.get? e=some u):Un fs ex H (upd H x o) h h':=by
 have hx:∀b,H b=none→b≠x:=fun b n z=>by subst z;rw[n]at mu;exact mu
 have hb:∀b,H b=none→b≠e:=fun b n z=>by
  subst z
  rcases he with r|r
  ·exact hx b n r
  ·rw[n]at r;cases r
 have hm:∀b u,H b=some u→¬E2 (some u)→b≠x:=fun b u q nm z=>by subst z;rw[q]at mu;exact nm mu
 refine⟨fun b u q n _ _=>k b u (hb b n) q,fun b u q n _ _=>⟨u.slots,k b u (hb b n) q⟩,fun b u q n _=>by rw[cC (hx b n)];exact n,fun b u q _=>?_,
  fun b xs q=>by rw[cC (hm b _ q fun z=>z)];exact q,fun b u xs q=>by rw[cC (hm b _ q fun z=>z)];exact q,fun b ps q=>⟨#[],by rw[cC (hm b _ q fun z=>z),q];simp⟩⟩
 by_cases hbe:b=e
 ·subst hbe;exact heo
 ·exact⟨u,k b u hbe q⟩
end
def Aw(h:Heap)(H:Hp):List Addr:=(List.range h.objs.size).filter fun a=>(H a).isSome
def qK(h:Heap)(H:Hp):Heap:=PySem.W.hideAll h (Aw h H)
theorem xN(h:Heap)(H:Hp):(qK h H).objs.size=h.objs.size:=PySem.W.hideAll_size _ _
theorem yI{h:Heap}{H:Hp}{b:Addr}{o:Obj}(e:h.get? b=some o)(n:H b=none):(qK h H).get? b=some o:=
 PySem.W.hideAll_get _ e fun hm=>by
  have q:(H b).isSome=true:=(mem_filter.mp hm).2
  rw[n]at q;simp at q
theorem Bi{h:Heap}{H:Hp}{b:Addr}{o:Obj}(e:(qK h H).get? b=some o):h.get? b=some o∧H b=none:=by
 have e':h.get? b=some o:=PySem.W.of_hideAll (Aw h H) e
 refine⟨e',?_⟩
 cases q:H b with
 |none=>rfl
 |some x=>
  have hm:b∈Aw h H:=mem_filter.mpr ⟨mem_range.mpr (lt_size e'),by simp[q]⟩
  have z:(qK h H).get? b=none:=PySem.W.hideAll_none (Aw h H) hm
  rw[z]at e;cases e
def BW(g h:Heap)(L:Addr):List (Addr×Obj):=(List.range h.objs.size).filterMap fun a=>if a=L∨(g.get? a).isSome=true then none else(h.get? a).map fun o=>(a,o)
def rest(g h:Heap)(L d:Addr):List (Addr×Obj):=(BW g h L).filter fun p=>decide (p.1≠d)
end L2
namespace L2
open PySem PySem.Spec PyProof.Rows
structure Mod(K:PySem.W.Frag)(mg:Str→Option Value)(base:Heap):Prop where
 kin:K.In base
 glob:base.Ns mainGlobals mg
 blt:∃mb,base.Ns builtinsNs mb∧∀x:Str,x≠ "__name__" →mb x=bootBuiltins x
 nolimit:base.NoLimit
structure Cx where
 prog:Program
 w:World
 K:PySem.W.Frag
 mg:Str→Option Value
 base:Heap
 A:Around
 N:List Str
 s₀:Shared
 H₀:Hp
 env:Env
 outer:List Env
 stack:List Env
 ex:List Addr
 fn:Str→Bool
 calm:Bool
 pn:List (Addr×Obj)
 xe:Value→Shared→Prop
def wR(l:List Env):List Addr:=l.filterMap (·.frame)
abbrev Cx.fs(X:Cx):List Addr:=wR X.outer
def HY(sc:Scope)(x:Str):Prop:=sc.names.lookup x=some .local∨sc.names.lookup x=some .cell∨sc.names.lookup x=some .free
def Loc(sc:Scope)(x:Str):Prop:=sc.names.lookup x=some .local∨sc.names.lookup x=some .cell
def Look(env:Env)(h:Heap)(m:Str→Option Value)(x:Str)(u:Value):Prop:=
 (env.kindOf x=some .local∧m x=some u)∨((env.kindOf x=some .cell∨env.kindOf x=some .free)∧∃c,env.cells.lookup x=some c∧h.IsCell c (some u))
structure Cx.Ok(X:Cx):Prop where
 mod:Mod X.K X.mg X.base
 kind:X.env.scope.kind=.function
 glob:X.env.globals=mainGlobals
 blt:X.env.builtins=builtinsNs
 above:X.s₀.heap.objs.size≤X.env.locals
 inj:∀x y c,X.env.cells.lookup x=some c→X.env.cells.lookup y=some c→x=y
 has:∀x,(X.env.kindOf x=some .cell∨X.env.kindOf x=some .free)→∃c,X.env.cells.lookup x=some c
 cab:∀x c,X.fn x=true→X.env.cells.lookup x=some c→X.s₀.heap.objs.size≤c
 hd:X.calm=true→X.A.handled=none
 frames:X.A.frames=some X.stack
 stk:X.stack=X.outer∨(X.stack=X.env::X.outer∧X.env.frame=some X.env.locals)
 exf:∀b∈X.ex,b≠X.env.locals∧∀x c,X.env.cells.lookup x=some c→c≠b
 bs:∀b o,X.base.get? b=some o→X.s₀.heap.get? b=some o∧X.H₀ b=none
 bsz:X.base.objs.size≤X.s₀.heap.objs.size
 noex:∀b o,X.base.get? b=some o→b ∉ X.ex
 exfs:∀b∈X.ex,b ∉ X.fs
 kG:X.s₀.heap.FunFrames X.base X.outer
 frf:∀b∈X.fs,X.H₀ b=none
structure Inv(X:Cx)(pins:List (Addr×Obj))(σ:List (Option V))(H:Hp)(s:Shared):Prop where
 ok:X.Ok
 os:s.os=X.s₀.os
 bare:AllBare s.gens
 base:Un X.fs X.ex X.H₀ H X.s₀.heap s.heap
 loc:∃m,s.heap.Ns X.env.locals m∧∀(i:Nat) (x:Str) (v:V),X.N[i]? =some x→σ[i]? =some (some v)→HY X.env.scope x→∃u,RelV v u∧Look X.env s.heap m x u
 cell:∀x c,X.env.cells.lookup x=some c→∃v,s.heap.IsCell c v
 free:H X.env.locals=none
 freeC:∀x c,X.env.cells.lookup x=some c→H c=none
 pin:∀p∈X.pn++pins,s.heap.get? p.1=some p.2∧H p.1=none∧p.1≠X.env.locals∧p.1 ∉ X.fs∧∀v,p.2.data≠.cell v
 hok:gF X.prog X.w H s.heap
 len:σ.length=X.N.length
section
variable {X:Cx}{pins:List (Addr×Obj)}{σ:List (Option V)}{H H':Hp}{s:Shared}{h':Heap}
theorem Cx.Ok.HR(ok:X.Ok){b:Addr}{o:Obj}(e:X.base.get? b=some o):b ∉ X.fs:=fun hb=>by
 have:=(ok.kG.mem hb).1
 rw[e]at this;cases this
theorem Inv.bs(I:Inv X pins σ H s):∀b o,X.base.get? b=some o→s.heap.get? b=some o∧H b=none:=fun b o e=>
 ⟨I.base.keep b o (I.ok.bs b o e).1 (I.ok.bs b o e).2 (I.ok.HR e) (I.ok.noex b o e),I.base.free b o (I.ok.bs b o e).1 (I.ok.bs b o e).2 (I.ok.noex b o e)⟩
theorem Inv.bk(I:Inv X pins σ H s):∀b o,X.base.get? b=some o→s.heap.get? b=some o:=fun b o e=>(I.bs b o e).1
theorem Inv.mod(I:Inv X pins σ H s):Mod X.K X.mg X.base:=I.ok.mod
theorem Inv.lV(I:Inv X pins σ H s):X.K.In s.heap:=I.ok.mod.kin.keeps I.bk
theorem Inv.lt(I:Inv X pins σ H s):X.env.locals < s.heap.objs.size:=let ⟨_,hn,_⟩:=I.loc;hn.lt
theorem Inv.sz(I:Inv X pins σ H s):X.s₀.heap.objs.size≤s.heap.objs.size:=le_trans I.ok.above (le_of_lt I.lt)
theorem Inv.IU(I:Inv X pins σ H s){a:Addr}(h:s.heap.objs.size≤a):a ∉ X.fs:=fun hb=>by
 obtain⟨_,o,ho,_⟩:=I.ok.kG.mem hb
 exact absurd (lt_of_lt_of_le (lt_size ho) (le_trans I.sz h)) (lt_irrefl _)
theorem Inv.Ey(I:Inv X pins σ H s):∀x c,X.env.cells.lookup x=some c→c≠X.env.locals:=fun x c e z=>by
 obtain⟨v,o,ho,hd⟩:=I.cell x c e
 obtain⟨m,⟨o',es,ep,ho',hd',_⟩,_⟩:=I.loc
 rw[z,ho']at ho;cases ho;rw[hd']at hd;cases hd
theorem Inv.kG(I:Inv X pins σ H s):s.heap.FunFrames X.base X.outer:=by
 have all:∀(l:List Env),(∀b∈wR l,b∈X.fs)→X.s₀.heap.FunFrames X.base l→s.heap.FunFrames X.base l:=by
  intro l
  induction l with
  |nil=>intro _ _;trivial
  |cons env r ih=>
   intro hs hl
   obtain⟨hk,⟨L,o,hf,hn,ho,hd⟩,hr⟩:=hl
   have hL:L∈X.fs:=hs L (by unfold wR;rw[List.filterMap_cons,hf];exact mem_cons_self)
   obtain⟨sl,e⟩:=I.base.slot L o ho (I.ok.frf L hL) hL fun z=>I.ok.exfs L z hL
   exact⟨hk,⟨L,_,hf,hn,e,hd⟩,ih (fun b hb=>hs b (by unfold wR;rw[List.filterMap_cons,hf];exact mem_cons_of_mem _ hb)) hr⟩
 exact all X.outer (fun _ hb=>hb) I.ok.kG
theorem Inv.stack(I:Inv X pins σ H s):s.heap.FunFrames X.base X.stack:=by
 rcases I.ok.stk with e|⟨e,hf⟩
 ·rw[e];exact I.kG
 ·rw[e]
  obtain⟨m,hn,_⟩:=I.loc
  refine .cons (by rw[I.ok.kind];decide) hf hn ?_ I.kG
  exact Heap.get?_none_of_le (le_trans I.ok.bsz I.ok.above)
theorem Inv.uv(I:Inv X pins σ H s):∀b∈wR X.stack,b∈X.env.locals::X.fs:=fun b hb=>by
 rcases I.ok.stk with e|⟨e,hf⟩
 ·rw[e]at hb;exact mem_cons_of_mem _ hb
 ·rw[e]at hb
  unfold wR at hb
  rw[List.filterMap_cons,hf]at hb
  exact hb
theorem Inv.v3(I:Inv X pins σ H s):∀b∈wR X.stack,H b=none:=fun b hb=>by
 rcases mem_cons.mp (I.uv b hb) with e|hb
 ·rw[e];exact I.free
 ·obtain⟨_,o,ho,_⟩:=I.ok.kG.mem hb
  exact I.base.free b o ho (I.ok.frf b hb) fun z=>I.ok.exfs b z hb
theorem Inv.step{g':Array GenState}{t':Nat}{d':Drawn}{ch:List Addr}(I:Inv X pins σ H s)
  (hch:∀b∈ch,(b∈X.ex∨X.s₀.heap.objs.size≤b)∧b≠X.env.locals∧(∀x c,X.env.cells.lookup x=some c→c≠b)∧∀p∈X.pn++pins,p.1≠b)
  (keep:∀b o,b≠X.env.locals→b ∉ X.fs→b ∉ ch→s.heap.get? b=some o→H b=none→h'.get? b=some o)
  (slot:∀b o,b≠X.env.locals→b∈X.fs→b ∉ ch→s.heap.get? b=some o→H b=none→∃sl,h'.get? b=some { o with slots:=sl })(free:∀b o,b ∉ ch→s.heap.get? b=some o→H b=none→H' b=none)
  (there:∀b o,b ∉ ch→s.heap.get? b=some o→∃o',h'.get? b=some o')
  (tups:∀b xs,H b=some (.tup xs)→H' b=some (.tup xs))(frzs:∀b o u,H b=some (.frz o u)→H' b=some (.frz o u))(tbls:∀b ps,H b=some (.tbl ps)→∃more,H' b=some (.tbl (ps++more)))
  (ns:∀m,s.heap.Ns X.env.locals m→h'.Ns X.env.locals m)(hok:gF X.prog X.w H' h')(hg:AllBare g'):
  Inv X pins σ H' { s with heap:=h',gens:=g',drawn:=d',toks:=t' }:=by
 have neL:∀b o,X.s₀.heap.get? b=some o→b≠X.env.locals:=fun b o e=>ne_of_lt (lt_of_lt_of_le (lt_size e) I.ok.above)
 have neC:∀b o,X.s₀.heap.get? b=some o→b ∉ X.ex→b ∉ ch:=fun b o e hx hb=>by
  rcases (hch b hb).1 with z|z
  ·exact hx z
  ·exact absurd (lt_of_lt_of_le (lt_size e) z) (lt_irrefl _)
 have cellK:∀x c,X.env.cells.lookup x=some c→∀v,s.heap.IsCell c v→h'.IsCell c v:=fun x c e v ⟨o,ho,hd⟩=>by
  have nch:c ∉ ch:=fun z=>(hch c z).2.2.1 x c e rfl
  by_cases hc:c∈X.fs
  ·obtain⟨sl,q⟩:=slot c o (I.Ey x c e) hc nch ho (I.freeC x c e)
   exact⟨_,q,hd⟩
  ·exact⟨o,keep c o (I.Ey x c e) hc nch ho (I.freeC x c e),hd⟩
 refine⟨I.ok,I.os,hg,⟨fun b o e n hb hx=>?_,fun b o e n hb hx=>?_,fun b o e n hx=>?_,fun b o e hx=>?_,fun b xs e=>tups b xs (I.base.tups b xs e),fun b o xs e=>frzs b o xs (I.base.frzs b o xs e),fun b ps e=>?_⟩,?_,fun x c e=>?_,?_,fun x c e=>?_,fun p hp=>?_,hok,I.len⟩
 ·exact keep b o (neL b o e) hb (neC b o e hx) (I.base.keep b o e n hb hx) (I.base.free b o e n hx)
 ·obtain⟨sl,e1⟩:=I.base.slot b o e n hb hx
  obtain⟨sl',e2⟩:=slot b _ (neL b o e) hb (neC b o e hx) e1 (I.base.free b o e n hx)
  exact⟨sl',e2⟩
 ·obtain⟨o',e1⟩:=I.base.there b o e hx
  exact free b o' (neC b o e hx) e1 (I.base.free b o e n hx)
 ·obtain⟨o',e1⟩:=I.base.there b o e hx
  exact there b o' (neC b o e hx) e1
 ·obtain⟨m1,e1⟩:=I.base.tbls b ps e
  obtain⟨m2,e2⟩:=tbls b _ e1
  exact⟨m1++m2,by rw[e2,Array.append_assoc]⟩
 ·obtain⟨m,hn,hl⟩:=I.loc
  refine⟨m,ns m hn,fun i x v e1 e2 e3=>?_⟩
  obtain⟨u,r,l⟩:=hl i x v e1 e2 e3
  refine⟨u,r,?_⟩
  rcases l with l|⟨k,c,e,z⟩
  ·exact .inl l
  ·exact .inr ⟨k,c,e,cellK x c e _ z⟩
 ·obtain⟨v,z⟩:=I.cell x c e
  exact⟨v,cellK x c e v z⟩
 ·obtain⟨m,⟨o,_,_,ho,_⟩,_⟩:=I.loc
  exact free _ o (fun z=>(hch _ z).2.1 rfl) ho I.free
 ·obtain⟨v,o,ho,hd⟩:=I.cell x c e
  exact free c o (fun z=>(hch c z).2.2.1 x c e rfl) ho (I.freeC x c e)
 ·obtain⟨e,n,ne,nf,d⟩:=I.pin p hp
  have nch:p.1 ∉ ch:=fun z=>(hch p.1 z).2.2.2 p hp rfl
  exact⟨keep p.1 p.2 ne nf nch e n,free p.1 p.2 nch e n,ne,nf,d⟩
theorem Inv.un{t':Nat}(I:Inv X pins σ H s)(u:Un X.fs [] H H' s.heap h')(hok:gF X.prog X.w H' h'):Inv X pins σ H' { s with heap:=h',toks:=t' }:=by
 obtain⟨m,⟨o,es,ep,ho,r⟩,_⟩:=id I.loc
 obtain⟨sl,hL⟩:=u.any ho I.free (by simp)
 exact I.step (g':=s.gens) (d':=s.drawn) (ch:=[]) (fun _ z=>nomatch z) (fun b o _ hb _ e n=>u.keep b o e n hb (by simp)) (fun b o _ hb _ e n=>u.slot b o e n hb (by simp)) (fun b o _ e n=>u.free b o e n (by simp)) (fun b o _ e=>u.there b o e (by simp)) u.tups u.frzs u.tbls (fun m' hm=>by
  obtain⟨o',es',ep',ho',r'⟩:=hm
  rw[ho]at ho';cases ho'
  exact⟨_,es',ep',hL,r'⟩) hok I.bare
theorem Inv.call{g':Array GenState}{t':Nat}{d':Drawn}{ch:List Addr}(I:Inv X pins σ H s)(u:Un (wR X.stack) ch H H' s.heap h')(hok:gF X.prog X.w H' h')(hg:AllBare g')
  (hch:∀b∈ch,(b∈X.ex∨X.s₀.heap.objs.size≤b)∧b≠X.env.locals∧(∀x c,X.env.cells.lookup x=some c→c≠b)∧∀p∈X.pn++pins,p.1≠b):
  Inv X pins σ H' { s with heap:=h',gens:=g',drawn:=d',toks:=t' }:=by
 obtain⟨m,⟨o,es,ep,ho,r⟩,_⟩:=id I.loc
 obtain⟨sl,hL⟩:=u.any ho I.free fun z=>(hch _ z).2.1 rfl
 exact I.step (ch:=ch) hch (fun b o hL hb hc e n=>u.keep b o e n (fun z=>(mem_cons.mp (I.uv b z)).elim hL hb) hc) (fun b o _ _ hc e n=>u.any e n hc) (fun b o hc e n=>u.free b o e n hc) (fun b o hc e=>u.there b o e hc) u.tups u.frzs u.tbls (fun m' hm=>by
  obtain⟨o',es',ep',ho',r'⟩:=hm
  rw[ho]at ho';cases ho'
  exact⟨_,es',ep',hL,r'⟩) hok hg
theorem Inv.turned{t':Nat}{it:Addr}(I:Inv X pins σ H s)(k:∀b o,b≠it→s.heap.get? b=some o→h'.get? b=some o)(hn:H it=none)(hL:it≠X.env.locals)
  (h1:it∈X.ex∨X.s₀.heap.objs.size≤it)(h2:∀x c,X.env.cells.lookup x=some c→c≠it)(h3:∀p∈X.pn++pins,p.1≠it):Inv X pins σ H { s with heap:=h',toks:=t' }:=by
 have nit:∀b u,H b=some u→b≠it:=fun b u e z=>by rw[z,hn]at e;cases e
 refine I.step (g':=s.gens) (d':=s.drawn) (ch:=[it]) (fun b hb=>?_) (fun b o _ _ hc e _=>k b o (fun z=>hc (by simp[z])) e) (fun b o _ _ hc e _=>⟨o.slots,k b o (fun z=>hc (by simp[z])) e⟩) (fun _ _ _ _ n=>n)
  (fun b o hc e=>⟨o,k b o (fun z=>hc (by simp[z])) e⟩) (fun _ _ e=>e) (fun _ _ _ e=>e) (fun b ps e=>⟨#[],by rw[e];simp⟩) (fun m hm=>?_) (fun b u e=>?_) I.bare
 ·have e:b=it:=by simpa using hb
  subst e
  exact⟨h1,hL,h2,h3⟩
 ·obtain⟨o,es,ep,ho,r⟩:=hm
  exact⟨o,es,ep,k _ o (Ne.symm hL) ho,r⟩
 ·refine(I.hok b u e).eF (fun c v hc q=>k c v ?_ q) (fun _ q=>q) fun _ _ q=>q
  rcases hc with z|z
  ·rw[z];exact nit b u e
  ·exact nit c _ z
theorem Inv.tok(I:Inv X pins σ H s)(t:Nat):Inv X pins σ H { s with toks:=t }:=I.un (h':=s.heap) (t':=t) Un.refl I.hok
theorem Inv.kept{t':Nat}(I:Inv X pins σ H s)(k:∀b u,s.heap.get? b=some u→h'.get? b=some u):Inv X pins σ H { s with heap:=h',toks:=t' }:=I.un (Un.kept k) (I.hok.kept k)
theorem Inv.laid{a:Addr}{o:HO}{t':Nat}(I:Inv X pins σ H s)(k:∀b u,s.heap.get? b=some u→h'.get? b=some u)(hp:s.heap.objs.size≤a)(new:cV X.prog X.w (upd H a o) h' a o):
  Inv X pins σ (upd H a o) { s with heap:=h',toks:=t' }:=I.un (Un.laid k hp (I.hok.fresh hp)) (I.hok.laid k hp new)
theorem Inv.write{x e:Addr}{o:HO}{t':Nat}(I:Inv X pins σ H s)(mu:E2 (H x))(he:e=x∨H e=some (.own x))(k:∀b u,b≠e→s.heap.get? b=some u→h'.get? b=some u)(heo:∃u,h'.get? e=some u)
  (new:cV X.prog X.w (upd H x o) h' x o):Inv X pins σ (upd H x o) { s with heap:=h',toks:=t' }:=I.un (Un.write mu he k heo) (I.hok.write mu he k heo new)
theorem Inv.wj{pins':List (Addr×Obj)}(I:Inv X pins σ H s)(h:∀p∈pins',s.heap.get? p.1=some p.2∧H p.1=none∧p.1≠X.env.locals∧p.1 ∉ X.fs∧∀v,p.2.data≠.cell v):Inv X pins' σ H s:=
 ⟨I.ok,I.os,I.bare,I.base,I.loc,I.cell,I.free,I.freeC,fun p hp=>(mem_append.mp hp).elim (fun z=>I.pin p (mem_append_left _ z)) (h p),I.hok,I.len⟩
theorem rn{N:List Str}(hN:N.Nodup){i j:Nat}{x:Str}(a:N[i]? =some x)(b:N[j]? =some x):i=j:=by
 obtain⟨h1,e1⟩:=List.getElem?_eq_some_iff.mp a
 obtain⟨h2,e2⟩:=List.getElem?_eq_some_iff.mp b
 exact(List.getElem_inj hN).mp (e1.trans e2.symm)
theorem xv{M:Model}{A:Around}{E:Value→Shared→Prop}{i:Nat}{x:Str}{v:V}{u:Value}{Q:Unit→Shared→Prop}(I:Inv X pins σ H s)(hN:X.N.Nodup)(hi:X.N[i]? =some x)(hx:Loc X.env.scope x)(r:RelV v u)
  (h:∀s',Inv X pins (σ.set i (some v)) H s'→(∃a,Heap.SameBut a s.heap s'.heap∧(a=X.env.locals∨X.env.cells.lookup x=some a))→Q () s')(hf:X.fn x=true∨X.env.scope.names.lookup x=some .local:=by first|exact .inl rfl|exact .inr rfl|assumption):wpAny M A (storeName X.env x u) Q E s:=by
 obtain⟨m,hn,hl⟩:=id I.loc
 have hcls:(X.env.scope.kind == .class || (X.env.scope.kind == .module && X.env.locals != X.env.globals))=false:=by rw[I.ok.kind];rfl
 have hiσ:i < σ.length:=by rw[I.len];exact(List.getElem?_eq_some_iff.mp hi).1
 have Ey:=I.Ey
 have tracked:∀{a:Addr}{h':Heap},(∃o,s.heap.get? a=some o∧H a=none)→Heap.SameBut a s.heap h'→gF X.prog X.w H h':=fun {a h'} ha hs b ob e=>by
  obtain⟨_,_,hfree⟩:=ha
  refine(I.hok b ob e).eF (fun c w' hc q=>(hs.2 c ?_).trans q) (fun _ q=>q) fun _ _ q=>q
  rintro rfl
  rcases hc with rfl|hc
  ·rw[hfree]at e;cases e
  ·rw[hfree]at hc;cases hc
 rcases hx with hk|hk
 ·refine wpAny_storeName_local hk hn (fun h' hn' hs=>?_) hcls
  obtain⟨oL,_,_,hoL,_⟩:=id hn
  refine h _ ⟨I.ok,I.os,I.bare,⟨fun b o e n hb hx=>?_,fun b o e n hb hx=>?_,I.base.free,fun b o e hx=>?_,I.base.tups,I.base.frzs,I.base.tbls⟩,⟨_,hn',fun j y v' e1 e2 e3=>?_⟩,fun y c e=>?_,I.free,I.freeC,fun p hp=>?_,tracked ⟨oL,hoL,I.free⟩ hs,by simpa using I.len⟩ ⟨_,hs,.inl rfl⟩
  ·exact(hs.2 b (ne_of_lt (lt_of_lt_of_le (lt_size e) I.ok.above))).trans (I.base.keep b o e n hb hx)
  ·obtain⟨sl,e1⟩:=I.base.slot b o e n hb hx
   exact⟨sl,(hs.2 b (ne_of_lt (lt_of_lt_of_le (lt_size e) I.ok.above))).trans e1⟩
  ·obtain⟨o',e1⟩:=I.base.there b o e hx
   exact⟨o',(hs.2 b (ne_of_lt (lt_of_lt_of_le (lt_size e) I.ok.above))).trans e1⟩
  ·by_cases hj:j=i
   ·subst hj
    rw[hi]at e1;cases e1
    rw[List.getElem?_set_self hiσ]at e2
    cases e2
    exact⟨u,r,.inl ⟨hk,by simp⟩⟩
   ·rw[List.getElem?_set_ne (Ne.symm hj)]at e2
    obtain⟨u',r',q⟩:=hl j y v' e1 e2 e3
    refine⟨u',r',?_⟩
    rcases q with ⟨k,e⟩|⟨k,c,e,z⟩
    ·refine .inl ⟨k,?_⟩
     have:y≠x:=fun e=>hj (rn hN e1 (e ▸ hi))
     simp[this,e]
    ·exact .inr ⟨k,c,e,z.sameBut hs (Ey y c e)⟩
  ·obtain⟨w',z⟩:=I.cell y c e
   exact⟨w',z.sameBut hs (Ey y c e)⟩
  ·obtain⟨e,n,ne,nf,d⟩:=I.pin p hp
   exact⟨(hs.2 p.1 ne).trans e,n,ne,nf,d⟩
 ·have hfn:X.fn x=true:=by
   rcases hf with z|z
   ·exact z
   ·rw[z]at hk;cases hk
  obtain⟨c,hc⟩:=I.ok.has x (.inl hk)
  obtain⟨w',z⟩:=I.cell x c hc
  refine wpAny_storeName_cell I.ok.kind hk hc z (fun h' hc' hs=>?_)
  obtain⟨oc,hoc,hocd⟩:=id z
  refine h { s with heap:=h' } ⟨I.ok,I.os,I.bare,⟨fun b o e n hb hx=>?_,fun b o e n hb hx=>?_,I.base.free,fun b o e hx=>?_,I.base.tups,I.base.frzs,I.base.tbls⟩,⟨m,hn.sameBut hs (Ne.symm (Ey x c hc)),fun j y v' e1 e2 e3=>?_⟩,fun y c' e=>?_,I.free,I.freeC,fun p hp=>?_,tracked ⟨oc,hoc,I.freeC x c hc⟩ hs,by simpa using I.len⟩ ⟨c,hs,.inr hc⟩
  ·exact(hs.2 b (ne_of_lt (lt_of_lt_of_le (lt_size e) (I.ok.cab x c hfn hc)))).trans (I.base.keep b o e n hb hx)
  ·obtain⟨sl,e1⟩:=I.base.slot b o e n hb hx
   exact⟨sl,(hs.2 b (ne_of_lt (lt_of_lt_of_le (lt_size e) (I.ok.cab x c hfn hc)))).trans e1⟩
  ·obtain⟨o',e1⟩:=I.base.there b o e hx
   exact⟨o',(hs.2 b (ne_of_lt (lt_of_lt_of_le (lt_size e) (I.ok.cab x c hfn hc)))).trans e1⟩
  ·by_cases hj:j=i
   ·subst hj
    rw[hi]at e1;cases e1
    rw[List.getElem?_set_self hiσ]at e2
    cases e2
    exact⟨u,r,.inr ⟨.inl hk,c,hc,hc'⟩⟩
   ·rw[List.getElem?_set_ne (Ne.symm hj)]at e2
    obtain⟨u',r',q⟩:=hl j y v' e1 e2 e3
    refine⟨u',r',?_⟩
    rcases q with q|⟨k,c',e,z'⟩
    ·exact .inl q
    ·refine .inr ⟨k,c',e,z'.sameBut hs ?_⟩
     rintro rfl
     exact hj (rn hN e1 (I.ok.inj _ _ _ e hc ▸ hi))
  ·by_cases hcc:c'=c
   ·subst hcc;exact⟨_,hc'⟩
   ·obtain⟨w2,z2⟩:=I.cell y c' e
    exact⟨w2,z2.sameBut hs hcc⟩
  ·obtain⟨e,n,ne,nf,d⟩:=I.pin p hp
   refine⟨(hs.2 p.1 ?_).trans e,n,ne,nf,d⟩
   intro q
   rw[q,hoc]at e
   have q':oc=p.2:=Option.some.inj e
   exact d w' (by rw[←q'];exact hocd)
theorem se{M:Model}{A:Around}{E:Value→Shared→Prop}{i:Nat}{x:Str}{v:V}{u:Value}{Q:Unit→Shared→Prop}(I:Inv X pins σ H s)(hN:X.N.Nodup)(hi:X.N[i]? =some x)(hx:Loc X.env.scope x)(r:RelV v u)
  (h:∀s',Inv X pins (σ.set i (some v)) H s'→Q () s')(hf:X.fn x=true∨X.env.scope.names.lookup x=some .local:=by first|exact .inl rfl|exact .inr rfl|assumption):wpAny M A (storeName X.env x u) Q E s:=
 xv I hN hi hx r (fun s' I' _=>h s' I') hf
theorem Inv.yj{s':Shared}{ch:List Addr}(I:Inv X pins σ H s)(ho:s'.os=s.os)(u:Un (wR X.stack) ch H H' s.heap s'.heap)(hok:gF X.prog X.w H' s'.heap)(hg:AllBare s'.gens)
  (hch:∀b∈ch,(b∈X.ex∨X.s₀.heap.objs.size≤b)∧b≠X.env.locals∧(∀x c,X.env.cells.lookup x=some c→c≠b)∧∀p∈X.pn++pins,p.1≠b):Inv X pins σ H' s':=by
 obtain⟨h',g',d',t',o'⟩:=s'
 have e:o'=s.os:=ho
 subst e
 exact I.call (g':=g') (t':=t') (d':=d') u hok hg hch
end
abbrev XK:=Value→Option Addr→Hp→Prop
abbrev St:=List (Option V)
abbrev VK:=V→Hp→Prop
abbrev TE:=St→Hp→VK→Prop
abbrev TT:=St→Hp→(Bool→Hp→Prop)→Prop
abbrev TA:=St→Hp→(List V→Hp→Prop)→Prop
structure Ends where
 nx:St→Hp→Prop
 rt:VK
 bk:St→Hp→Prop:=fun _ _=>False
 ct:St→Hp→Prop:=fun _ _=>False
abbrev TS:=Ends→St→Hp→Prop
inductive EP(X:Cx)(pins:List (Addr×Obj))(σ:St)(Q:VK)(u:Value)(s':Shared):Prop
 |mk(v:V)(H':Hp)(I:Inv X pins σ H' s')(r:RelV v u)(q:Q v H')
inductive TP(X:Cx)(pins:List (Addr×Obj))(σ:St)(Q:Bool→Hp→Prop)(b:Bool)(s':Shared):Prop
 |mk(H':Hp)(I:Inv X pins σ H' s')(q:Q b H')
inductive AP(X:Cx)(pins:List (Addr×Obj))(σ:St)(Q:List V→Hp→Prop)(us:List Value)(s':Shared):Prop
 |mk(vs:List V)(H':Hp)(I:Inv X pins σ H' s')(r:Vals vs us)(q:Q vs H')
inductive SN(X:Cx)(pins:List (Addr×Obj))(k:St→Hp→Prop)(s':Shared):Prop
 |mk(σ':St)(H':Hp)(I:Inv X pins σ' H' s')(q:k σ' H')
def SP(X:Cx)(pins:List (Addr×Obj))(D:Ends)(f:Flow)(s':Shared):Prop:=
 match f with
 |.next=>SN X pins D.nx s'
 |.brk=>SN X pins D.bk s'
 |.cont=>SN X pins D.ct s'
 |.ret u=>∃v σ' H',Inv X pins σ' H' s'∧RelV v u∧D.rt v H'
def PE(X:Cx)(e:Expr)(t:TE):Prop:=
 ∀(pins:List (Addr×Obj)) (s:Shared) (σ:St) (H:Hp) (Q:VK),Inv X pins σ H s→t σ H Q→wpAny (model X.prog X.w) X.A (eval e X.env) (EP X pins σ Q) X.xe s
def PT(X:Cx)(e:Expr)(t:TT):Prop:=
 ∀(pins:List (Addr×Obj)) (s:Shared) (σ:St) (H:Hp) (Q:Bool→Hp→Prop),Inv X pins σ H s→t σ H Q→wpAny (model X.prog X.w) X.A (isTrue e X.env (eval e X.env)) (TP X pins σ Q) X.xe s
def PW(X:Cx)(e:Expr)(t:TT):Prop:=
 ∀(whole:Sem Value) (pins:List (Addr×Obj)) (s:Shared) (σ:St) (H:Hp) (Q:Bool→Hp→Prop),Inv X pins σ H s→t σ H Q→wpAny (model X.prog X.w) X.A (isTrue e X.env whole) (TP X pins σ Q) X.xe s
theorem PW.pt{X:Cx}{e:Expr}{t:TT}(h:PW X e t):PT X e t:=h _
def PA(X:Cx)(es:List Expr)(t:TA):Prop:=
 ∀(pos:Pos) (pins:List (Addr×Obj)) (s:Shared) (σ:St) (H:Hp) (Q:List V→Hp→Prop),Inv X pins σ H s→t σ H Q→wpAny (model X.prog X.w) X.A (spliced (backTo pos (starEach es X.env))) (AP X pins σ Q) X.xe s
def PS(X:Cx)(st:Stmt)(t:TS):Prop:=
 ∀(pins:List (Addr×Obj)) (s:Shared) (σ:St) (H:Hp) (D:Ends),Inv X pins σ H s→t D σ H→wpAny (model X.prog X.w) X.A (exec st X.env) (SP X pins D) X.xe s
def tP(X:Cx)(st:List Stmt)(t:TS):Prop:=
 ∀(pins:List (Addr×Obj)) (s:Shared) (σ:St) (H:Hp) (D:Ends),Inv X pins σ H s→t D σ H→wpAny (model X.prog X.w) X.A (execs st X.env) (SP X pins D) X.xe s
theorem cX{α:Type}{t:Sem α}{Q Q':α→Shared→Prop}{M:Model}{A:Around}{E:Value→Shared→Prop}{s:Shared}(h:wpAny M A t Q E s)(hQ:∀a s,Q a s→Q' a s):wpAny M A t Q' E s:=wpAny_mono h hQ fun _ _ x=>x
end L2
namespace L2
open PySem PySem.Spec PyProof.Rows
section
variable {X:Cx}
inductive IJ(i:Nat)(σ:St)(H:Hp)(Q:VK):Prop
 |mk(v:V)(h:σ[i]? =some (some v))(q:Q v H)
def j5(i:Nat):TE:=fun σ H Q=>IJ i σ H Q
inductive E1(x:V)(H:Hp)(Q:Bool→Hp→Prop):Prop
 |mk(c:Bool)(h:x=.bl c)(q:Q c H)
def tC(v:V):TE:=fun _ H Q=>Q v H
theorem kr {i:Nat}{x:Str}{pos:Pos}(hN:X.N[i]? =some x) (hv:HY X.env.scope x) (hd:(x == ("__debug__" :Str))=false:=by decide) (hcd:(x == ("__classdict__" :Str))=false:=by decide):PE X (.Name x pos) (j5 i):=by
 intro pins s σ H Q I h
 obtain⟨v,e,h⟩:=h
 obtain⟨m,hn,hl⟩:=I.loc
 obtain⟨u,r,l⟩:=hl i x v hN e hv
 have fin:EP X pins σ Q u s:=⟨v,H,I,r,h⟩
 rcases l with ⟨hk,hm⟩|⟨hk,c,hc,hcell⟩
 ·exact wpAny_Name (wpAny_loadName_local I.ok.kind hk hn hm fin) hd
 ·rcases hk with hk|hk
  ·exact wpAny_Name (wpAny_loadName_cell I.ok.kind hk hc hcell fin) hd
  ·exact wpAny_Name (wpAny_loadName_free I.ok.kind hk hc hcell fin hcd) hd
theorem lB{i j pos}:PE X (.Constant (.int i) j pos) (tC (.int i)):=fun _ _ _ H _ I h=>wpAny_Constant_int ⟨.int i,H,I.tok _,⟨_,rfl⟩,h⟩
theorem yv{b j pos}:PE X (.Constant (.bool b) j pos) (tC (.bl b)):=fun _ _ _ H _ I h=>Constant_bool ⟨.bl b,H,I,rfl,h⟩
theorem C8{j pos}:PE X (.Constant .none j pos) (tC .non):=fun _ _ _ H _ I h=>Constant_none ⟨.non,H,I,rfl,h⟩
theorem tX{x j pos}:PE X (.Constant (.str x) j pos) (tC (.str x)):=fun _ _ _ H _ I h=>Calls.Constant_str ⟨.str x,H,I.tok _,⟨_,rfl⟩,h⟩
def Gl(X:Cx)(x:Str):Prop:=X.env.kindOf x=some .globalImplicit
theorem ki{E:Value→Shared→Prop}{pins:List (Addr×Obj)}{s:Shared}{σ:St}{H:Hp}{x:Str}{u:Value}{pos:Pos}{Q:Value→Shared→Prop}(I:Inv X pins σ H s)(hg:Gl X x)(hm:X.mg x=some u)(h:Q u s)
  (hd:(x == ("__debug__" :Str))=false:=by decide):wpAny (model X.prog X.w) X.A (eval (.Name x pos) X.env) Q E s:=
 Calls.Name_function_global I.ok.kind hg (Calls.loadGlobal_global (by rw[I.ok.glob];exact I.mod.glob.keeps I.bk) hm h) hd
theorem jG{E:Value→Shared→Prop}{pins:List (Addr×Obj)}{s:Shared}{σ:St}{H:Hp}{x:Str}{u:Value}{pos:Pos}{Q:Value→Shared→Prop}(I:Inv X pins σ H s)(hg:Gl X x)(hm:X.mg x=none)(hv:bootBuiltins x=some u)(h:Q u s)
  (hn:x≠ "__name__" :=by decide) (hd:(x == ("__debug__" :Str))=false:=by decide):wpAny (model X.prog X.w) X.A (eval (.Name x pos) X.env) Q E s:=by
 obtain⟨mb,h1,h2⟩:=I.mod.blt
 exact Calls.Name_function_global I.ok.kind hg (Calls.loadGlobal_builtin (by rw[I.ok.glob];exact I.mod.glob.keeps I.bk) hm (by rw[I.ok.blt];exact h1.keeps I.bk) ((h2 x hn).trans hv) h) hd
theorem mq {x:Str}{v:V}{u:Value}{pos:Pos}(hg:Gl X x) (hm:X.mg x=some u) (r:RelV v u) (hd:(x == ("__debug__" :Str))=false:=by decide):PE X (.Name x pos) (tC v):=
 fun _ _ _ H _ I h=>ki I hg hm ⟨v,H,I,r,h⟩ hd
theorem mF {x:Str}{v:V}{u:Value}{pos:Pos}(hg:Gl X x) (hm:X.mg x=none) (hv:bootBuiltins x=some u) (r:RelV v u) (hn:x≠ "__name__" :=by decide) (hd:(x == ("__debug__" :Str))=false:=by decide):PE X (.Name x pos) (tC v):=
 fun _ _ _ H _ I h=>jG I hg hm hv ⟨v,H,I,r,h⟩ hn hd
def Hj(ta tb:TE)(k:Int→Int→Hp→Prop):St→Hp→Prop:=fun σ H=>ta σ H fun x H1=>tb σ H1 fun y H2=>∃i j,x=.int i∧y=.int j∧k i j H2
def Ks(ta tb:TE):TE:=fun σ H Q=>Hj ta tb (fun i j H2=>Q (.int (i+j)) H2) σ H
def J6(ta tb:TE):TE:=fun σ H Q=>Hj ta tb (fun i j H2=>Q (.int (i - j)) H2) σ H
def KR(ta tb:TE):TE:=fun σ H Q=>Hj ta tb (fun i j H2=>(-(2 ^ 64) < i∧i < 2 ^ 64)∧Q (.int (i * j)) H2) σ H
variable {a b:Expr}{ta tb:TE}{pos:Pos}
def PC(X:Cx)(op:CmpOp)(a b:Expr)(t:TE):Prop:=
 ∀(pins:List (Addr×Obj)) (s:Shared) (σ:St) (H:Hp) (Q:VK),Inv X pins σ H s→t σ H Q→
  wpAny (model X.prog X.w) X.A (eval a X.env) (fun v s₁=>wpAny (model X.prog X.w) X.A (eval b X.env) (fun u s₂=>wpAny (model X.prog X.w) X.A (compareOp op v u) (EP X pins σ Q) X.xe s₂) X.xe s₁) X.xe s
def wt(p:Int→Int→Bool)(ta tb:TE):TE:=fun σ H Q=>Hj ta tb (fun i j H2=>Q (.bl (p i j)) H2) σ H
abbrev K4:TE→TE→TE:=wt fun i j=>decide (i < j)
abbrev KU:TE→TE→TE:=wt fun i j=>decide (i≤j)
abbrev KW:TE→TE→TE:=wt fun i j=>decide (j < i)
abbrev K6:TE→TE→TE:=wt fun i j=>decide (j≤i)
abbrev J9:TE→TE→TE:=wt fun i j=>decide (i=j)
abbrev JP:TE→TE→TE:=wt fun i j=> !decide (i=j)
def Ka(ta:TE):TE:=fun σ H Q=>ta σ H fun x H1=>Q (.bl (decide (x=.non))) H1
def Jz(ta:TE):TE:=fun σ H Q=>ta σ H fun x H1=>Q (.bl (!decide (x=.non))) H1
def tB(t:TE):TT:=fun σ H Q=>t σ H fun x H1=>E1 x H1 Q
theorem zX{op:CmpOp}{t:TE}(h:PC X op a b t)(h1:behindInMarks op b=false:=by first|exact nobehind _ (by decide) (by decide)|rfl):PE X (.Compare a [op] [b] pos) t:=fun pins s σ H Q I hw=>wpAny_Compare1 (h pins s σ H Q I hw) h1
theorem zL{op:CmpOp}{t:TE}(h:PC X op a b t)(h1:behindInMarks op b=false:=by first|exact nobehind _ (by decide) (by decide)|rfl):PT X (.Compare a [op] [b] pos) (tB t):=by
 intro pins s σ H Q I hw
 refine wpAny_isTrue_Compare1 (cX (h pins s σ H _ I hw) fun v s1 h1=>cX h1 fun u s2 h2=>cX h2 fun c s3 hpat=>?_) h1
 obtain⟨x,H1,I1,r1,q1⟩:=hpat
 obtain⟨d,rfl,q⟩:=q1
 cases r1
 exact wpAny_truthy_bool ⟨H1,I1,q⟩
theorem vd{e:Expr}{t:TE}(h:PE X e t)(he:∀whole,isTrue e X.env whole=(do let v ←whole;standAt e.pos;holding [v] (truthy v)):=by intro _;rfl):PT X e (tB t):=by
 intro pins s σ H Q I hw
 refine isTrue_plain (cX (h pins s σ H _ I hw) fun v s1 hpat=>?_) (he _)
 obtain⟨x,H1,I1,r1,q1⟩:=hpat
 obtain⟨d,rfl,q⟩:=q1
 cases r1
 exact wpAny_truthy_bool ⟨H1,I1,q⟩
variable {tA tB':TT}{rest:List Expr}
def Hh(t u:TT):TT:=fun σ H Q=>t σ H fun c H1=>if c=true then u σ H1 Q else Q false H1
def Jw(t u:TT):TT:=fun σ H Q=>t σ H fun c H1=>if c=true then Q true H1 else u σ H1 Q
def Gr(t:TT):TT:=fun σ H Q=>t σ H fun c H1=>Q (!c) H1
theorem Ce(ha:PT X a tA):PW X (.BoolOp .And [a] pos) tA:=by
 intro wh pins s σ H Q I h
 refine isTrue_and (cX (ha pins s σ H Q I h) fun c s1 e=>?_)
 cases c with
 |true=>exact isTrue_and_nil e
 |false=>exact e
theorem y4(ha:PT X a tA):PW X (.BoolOp .Or [a] pos) tA:=by
 intro wh pins s σ H Q I h
 refine isTrue_or (cX (ha pins s σ H Q I h) fun c s1 e=>?_)
 cases c with
 |false=>exact isTrue_or_nil e
 |true=>exact e
theorem ES(ha:PT X a tA)(hb:PW X (.BoolOp .And (b::rest) pos) tB'):PW X (.BoolOp .And (a::b::rest) pos) (Hh tA tB'):=by
 intro wh pins s σ H Q I h
 refine isTrue_and (cX (ha pins s σ H _ I h) fun c s1 ⟨H1,I1,q1⟩=>?_)
 cases c with
 |true=>exact hb wh pins s1 σ H1 Q I1 q1
 |false=>exact⟨H1,I1,q1⟩
theorem CG(ha:PT X a tA)(hb:PW X (.BoolOp .Or (b::rest) pos) tB'):PW X (.BoolOp .Or (a::b::rest) pos) (Jw tA tB'):=by
 intro wh pins s σ H Q I h
 refine isTrue_or (cX (ha pins s σ H _ I h) fun c s1 ⟨H1,I1,q1⟩=>?_)
 cases c with
 |true=>exact⟨H1,I1,q1⟩
 |false=>exact hb wh pins s1 σ H1 Q I1 q1
theorem tL(ha:PT X a tA):PT X (.UnaryOp .Not a pos) (Gr tA):=by
 intro pins s σ H Q I h
 exact isTrue_not (cX (ha pins s σ H (fun c H1=>Q (!c) H1) I h) fun c s1 q=>q.casesOn fun H1 I1 q1=>⟨H1,I1,q1⟩)
def CV(ta tb:TE):TE:=fun σ H Q=>ta σ H fun x H1=>E1 x H1 fun c H2=>if c=true then tb σ H2 Q else Q (.bl false) H2
def BE(ta tb:TE):TE:=fun σ H Q=>ta σ H fun x H1=>E1 x H1 fun c H2=>if c=true then Q (.bl true) H2 else tb σ H2 Q
def CC(ta:TE):TE:=fun σ H Q=>ta σ H fun x H1=>E1 x H1 fun c H2=>Q (.bl (!c)) H2
theorem pV{op}{t:TE}(h:PE X a t):PE X (.BoolOp op [a] pos) t:=fun pins s σ H Q I hw=>BoolOp_one (h pins s σ H Q I hw)
theorem qz(ha:PE X a ta)(hb:PE X (.BoolOp .And (b::rest) pos) tb):PE X (.BoolOp .And (a::b::rest) pos) (CV ta tb):=by
 intro pins s σ H Q I h
 refine BoolOp_and (cX (ha pins s σ H _ I h) fun v s1 hpat=>?_)
 obtain⟨x,H1,I1,r1,q1⟩:=hpat
 obtain⟨c,rfl,q1⟩:=q1
 cases r1
 refine wpAny_truthy_bool ?_
 cases c with
 |true=>exact hb pins s1 σ H1 Q I1 q1
 |false=>exact⟨.bl false,H1,I1,rfl,q1⟩
theorem tq(ha:PE X a ta)(hb:PE X (.BoolOp .Or (b::rest) pos) tb):PE X (.BoolOp .Or (a::b::rest) pos) (BE ta tb):=by
 intro pins s σ H Q I h
 refine BoolOp_or (cX (ha pins s σ H _ I h) fun v s1 hpat=>?_)
 obtain⟨x,H1,I1,r1,q1⟩:=hpat
 obtain⟨c,rfl,q1⟩:=q1
 cases r1
 refine wpAny_truthy_bool ?_
 cases c with
 |false=>exact hb pins s1 σ H1 Q I1 q1
 |true=>exact⟨.bl true,H1,I1,rfl,q1⟩
theorem nV(ha:PE X a ta):PE X (.UnaryOp .Not a pos) (CC ta):=by
 intro pins s σ H Q I h
 refine UnaryOp_ (cX (ha pins s σ H _ I h) fun v s1 hpat=>?_)
 obtain⟨x,H1,I1,r1,q1⟩:=hpat
 obtain⟨c,rfl,q1⟩:=q1
 cases r1
 exact not_of (wpAny_truthy_bool ⟨.bl (!c),H1,I1,rfl,q1⟩)
def Jq(t:TT)(ta tb:TE):TE:=fun σ H Q=>t σ H fun c H1=>if c=true then ta σ H1 Q else tb σ H1 Q
theorem yX{c:Expr}(hc:PT X c tA)(ha:PE X a ta)(hb:PE X b tb):PE X (.IfExp c a b pos) (Jq tA ta tb):=by
 intro pins s σ H Q I h
 refine wpAny_IfExp (cX (hc pins s σ H _ I h) fun d s1 ⟨H1,I1,q1⟩=>?_)
 cases d with
 |true=>exact ha pins s1 σ H1 Q I1 q1
 |false=>exact hb pins s1 σ H1 Q I1 q1
end
end L2
namespace L2
open PySem PySem.Spec PyProof.Rows
def cF(K:PySem.W.Frag)(H:Hp)(a:Addr)(xs:List V):Prop:=
 Rd H a (.lst xs)∨
  ∃(o:Obj) (its:Array Value) (n:Nat),K.lookup a=some o∧o.cls=.type "list" ∧o.dict=none∧o.data=.seq its n∧its.size≤sizeLine∧Vals xs its.toList
def dq(K:PySem.W.Frag)(H:Hp)(a:Addr)(xs:List V):Prop:=
 Rd H a (.tup xs)∨
  ∃(o:Obj) (its:Array Value) (n:Nat),K.lookup a=some o∧o.cls=.type "tuple" ∧o.data=.seq its n∧its.size≤sizeLine∧Vals xs its.toList
def Iq:Value→Option V
 |.none=>some .non
 |.bool b=>some (.bl b)
 |.int i _=>some (.int i)
 |.str x _=>some (.str x)
 |.bytes b _=>some (.byt b)
 |.float b _=>some (.flt b)
 |.ref a=>some (.ref a)
 |.type n=>some (.ty n)
 |_=>none
theorem RelV.abs{x:V}{u:Value}(r:RelV x u):Iq u=some x:=by
 cases x with
 |non=>cases r;rfl
 |bl _=>cases r;rfl
 |int _=>obtain⟨t,rfl⟩:=r;rfl
 |str _=>obtain⟨t,rfl⟩:=r;rfl
 |byt _=>obtain⟨t,rfl⟩:=r;rfl
 |flt _=>obtain⟨t,rfl⟩:=r;rfl
 |ref _=>cases r;rfl
 |ty _=>cases r;rfl
theorem RelV.inj{x y:V}{u:Value}(r:RelV x u)(q:RelV y u):x=y:=Option.some.inj (r.abs.symm.trans q.abs)
theorem Vals.inj:∀{xs ys:List V}{us:List Value},Vals xs us→Vals ys us→xs=ys
 |_,_,_,.nil,.nil=>rfl
 |_,_,_,.cons r t,.cons r' t'=>by rw[r.inj r',Vals.inj t t']
section
variable {X:Cx}{pins:List (Addr×Obj)}{σ:St}{H:Hp}{s:Shared}{a:Addr}{xs ys:List V}
theorem cF.of{K:PySem.W.Frag}(h:H a=some (.lst xs)):cF K H a xs:=.inl (.inl h)
theorem dq.of{K:PySem.W.Frag}(h:H a=some (.tup xs)):dq K H a xs:=.inl (.inl h)
theorem Inv.list(I:Inv X pins σ H s)(h:cF X.K H a xs):∃its:List Value,Vals xs its∧PlainL s.heap a its.toArray∧xs.length≤sizeLine:=by
 rcases h with h|⟨o,its,n,hk,hc,hd,hs,hz,r⟩
 ·obtain⟨z,its,n,r,e⟩:=h.ok I.hok
  exact⟨its,r,⟨_,n,e,rfl,rfl,rfl⟩,z⟩
 ·refine⟨its.toList,r,⟨o,n,I.lV a o hk,hc,hd,by simpa using hs⟩,?_⟩
  have e:=r.length
  simp only[length_toList]at e
  omega
theorem Inv.tuple(I:Inv X pins σ H s)(h:dq X.K H a xs):∃its:List Value,Vals xs its∧IsTup s.heap a its.toArray∧xs.length≤sizeLine:=by
 rcases h with h|⟨o,its,n,hk,hc,hs,hz,r⟩
 ·obtain⟨z,its,r,p⟩:=h.ok I.hok
  exact⟨its,r,p,z⟩
 ·refine⟨its.toList,r,⟨o,I.lV a o hk,hc,n,by simpa using hs⟩,?_⟩
  have e:=r.length
  simp only[length_toList]at e
  omega
theorem Inv.sq(I:Inv X pins σ H s)(h:cF X.K H a xs)(h':cF X.K H a ys):xs=ys:=by
 obtain⟨its,r,⟨o,n,e,_,_,d⟩,_⟩:=I.list h
 obtain⟨its',r',⟨o',n',e',_,_,d'⟩,_⟩:=I.list h'
 rw[e]at e';cases e'
 rw[d]at d'
 injection d' with d1 _
 have:its=its':=by simpa using congrArg Array.toList d1
 subst this
 exact r.inj r'
theorem Inv.xA(I:Inv X pins σ H s)(h:dq X.K H a xs)(h':dq X.K H a ys):xs=ys:=by
 obtain⟨its,r,⟨o,e,_,n,d⟩,_⟩:=I.tuple h
 obtain⟨its',r',⟨o',e',_,n',d'⟩,_⟩:=I.tuple h'
 rw[e]at e';cases e'
 rw[d]at d'
 injection d' with d1 _
 have:its=its':=by simpa using congrArg Array.toList d1
 subst this
 exact r.inj r'
end
abbrev Cx.oK(X:Cx)(E:Value→Shared→Prop):Cx:={ X with xe:=E }
abbrev Cx.F3(X:Cx):Cx:=X.oK fun _ _=>False
theorem Cx.Ok.oK{X:Cx}(ok:X.Ok)(E:Value→Shared→Prop):(X.oK E).Ok:=
 ⟨ok.mod,ok.kind,ok.glob,ok.blt,ok.above,ok.inj,ok.has,ok.cab,ok.hd,ok.frames,ok.stk,ok.exf,ok.bs,ok.bsz,ok.noex,ok.exfs,ok.kG,ok.frf⟩
theorem Cx.Ok.iz{X:Cx}{E:Value→Shared→Prop}(ok:(X.oK E).Ok):X.Ok:=
 ⟨ok.mod,ok.kind,ok.glob,ok.blt,ok.above,ok.inj,ok.has,ok.cab,ok.hd,ok.frames,ok.stk,ok.exf,ok.bs,ok.bsz,ok.noex,ok.exfs,ok.kG,ok.frf⟩
section
variable {X:Cx}{pins:List (Addr×Obj)}{σ:St}{H:Hp}{s:Shared}{E:Value→Shared→Prop}
theorem Inv.oK(I:Inv X pins σ H s)(E:Value→Shared→Prop):Inv (X.oK E) pins σ H s:=⟨I.ok.oK E,I.os,I.bare,I.base,I.loc,I.cell,I.free,I.freeC,I.pin,I.hok,I.len⟩
theorem Inv.iz(I:Inv (X.oK E) pins σ H s):Inv X pins σ H s:=⟨I.ok.iz,I.os,I.bare,I.base,I.loc,I.cell,I.free,I.freeC,I.pin,I.hok,I.len⟩
theorem SP.iz{D:Ends}{f:Flow}{s':Shared}(h:SP (X.oK E) pins D f s'):SP X pins D f s':=by
 cases f with
 |next=>obtain⟨σ',H',I,q⟩:=h;exact⟨σ',H',I.iz,q⟩
 |brk=>obtain⟨σ',H',I,q⟩:=h;exact⟨σ',H',I.iz,q⟩
 |cont=>obtain⟨σ',H',I,q⟩:=h;exact⟨σ',H',I.iz,q⟩
 |ret u=>obtain⟨v,σ',H',I,r,q⟩:=h;exact⟨v,σ',H',I.iz,r,q⟩
theorem tP.F3{st:List Stmt}{t:TS}(h:tP X.F3 st t):tP X st t:=fun pins s σ H D I hw=>
 wpAny_mono (h pins s σ H D (I.oK _) hw) (fun _ _ q=>q.iz) fun _ _ z=>False.elim z
end
section
variable {X:Cx}{st:Stmt}{rest:List Stmt}{t u:TS}{e:Expr}{te:TE}{pos:Pos}
def rG:TS:=fun D σ H=>D.nx σ H
def yc(t u:TS):TS:=fun D σ H=>t { D with nx:=u D } σ H
theorem wk:tP X [] rG:=fun _ _ σ H _ I h=>wpAny_execs_nil ⟨σ,H,I,h⟩
theorem sf(h1:PS X st t)(h2:tP X rest u):tP X (st::rest) (yc t u):=by
 intro pins s σ H D I h
 refine wpAny_execs_cons (cX (h1 pins s σ H { D with nx:=u D } I h) fun f s1 q=>?_)
 cases f with
 |next=>
  obtain⟨σ',H',I',q⟩:=q
  exact h2 pins s1 σ' H' D I' q
 |ret v=>exact q
 |brk=>exact q
 |cont=>exact q
theorem jR(h1:PS X st t):tP X [st] t:=by
 intro pins s σ H D I h
 refine wpAny_execs_cons (cX (h1 pins s σ H D I h) fun f s1 q=>?_)
 cases f with
 |next=>exact wpAny_execs_nil q
 |ret v=>exact q
 |brk=>exact q
 |cont=>exact q
def HE:TS:=fun D σ H=>D.bk σ H
def Jm:TS:=fun D σ H=>D.ct σ H
theorem Inv.quiet{pins:List (Addr×Obj)}{σ:St}{H:Hp}{s:Shared}(I:Inv X pins σ H s):interactive X.env=false:=by simp[interactive,I.ok.kind]
def y6(te:TE):TS:=fun D σ H=>te σ H fun _ H1=>D.nx σ H1
theorem B9(he:PE X e te)(hs:swapsWith e none pos.line X.env=pure false:=by rfl):PS X (.Expr e pos) (y6 te):=by
 intro pins s σ H D I h
 exact wpAny_Expr_any (cX (he pins s σ H _ I h) fun v s1 ⟨x,H1,I1,r1,q1⟩=>⟨σ,H1,I1,q1⟩) I.quiet hs
def Ga(te:TE):TS:=fun D σ H=>te σ H D.rt
theorem nZ(he:PE X e te):PS X (.Return (some e) pos) (Ga te):=by
 intro pins s σ H D I h
 exact wpAny_Return_some (cX (he pins s σ H _ I h) fun v s1 ⟨x,H1,I1,r1,q1⟩=>⟨x,σ,H1,I1,r1,q1⟩)
def JD:TS:=fun D _ H=>D.rt .non H
def yB(c:TT)(t u:TS):TS:=fun D σ H=>c σ H fun b H1=>if b=true then t D σ H1 else u D σ H1
theorem Cr{c:Expr}{a b:List Stmt}{tc:TT}(hc:PT X c tc)(ha:tP X a t)(hb:tP X b u):PS X (.If c a b pos) (yB tc t u):=by
 intro pins s σ H D I h
 refine wpAny_If (cX (hc pins s σ H _ I h) fun d s1 ⟨H1,I1,q1⟩=>?_)
 cases d with
 |true=>exact ha pins s1 σ H1 D I1 q1
 |false=>exact hb pins s1 σ H1 D I1 q1
def zf:TS:=fun _ _ _=>False
theorem xZ{sts:List Stmt}:tP X sts zf:=fun _ _ _ _ _ _ h=>h.elim
end
abbrev TG:=V→St→Hp→(St→Hp→Prop)→Prop
abbrev o8:=List V→St→Hp→(St→Hp→Prop)→Prop
def PG(X:Cx)(target:Expr)(t:TG):Prop:=
 ∀(pins:List (Addr×Obj)) (s:Shared) (σ:St) (H:Hp) (v:V) (u:Value) (Q:St→Hp→Prop),Inv X pins σ H s→RelV v u→t v σ H Q→
  wpAny (model X.prog X.w) X.A (assign target X.env u) (fun _ s'=>∃σ' H',Inv X pins σ' H' s'∧Q σ' H') X.xe s
def FA(X:Cx)(ts:List Expr)(t:o8):Prop:=
 ∀(pins:List (Addr×Obj)) (s:Shared) (σ:St) (H:Hp) (vs:List V) (us:List Value) (Q:St→Hp→Prop),Inv X pins σ H s→Vals vs us→t vs σ H Q→
  wpAny (model X.prog X.w) X.A (assignInOrder ((assignEach ts X.env).map (·.2)) us) (fun _ s'=>∃σ' H',Inv X pins σ' H' s'∧Q σ' H') X.xe s
abbrev EM:=V→V→V→Hp→(Hp→Prop)→Prop
def Kq(X:Cx)(t:EM):Prop:=
 ∀(pins:List (Addr×Obj)) (s:Shared) (σ:St) (H:Hp) (o i v:V) (ov iv u:Value) (Q:Hp→Prop),Inv X pins σ H s→RelV o ov→RelV i iv→RelV v u→t o i v H Q→
  wpAny (model X.prog X.w) X.A (setItem ov iv u) (fun _ s'=>∃H',Inv X pins σ H' s'∧Q H') X.xe s
abbrev Hm:=V→V→Hp→VK→Prop
def KZ(X:Cx)(op:Operator)(t:Hm):Prop:=
 ∀(pins:List (Addr×Obj)) (s:Shared) (σ:St) (H:Hp) (x y:V) (v u:Value) (Q:VK),Inv X pins σ H s→RelV x v→RelV y u→t x y H Q→
  wpAny (model X.prog X.w) X.A (inplaceOp op v u) (EP X pins σ Q) X.xe s
section
variable {X:Cx}{pos:Pos}
def eA(i:Nat):TG:=fun v σ H Q=>Q (σ.set i (some v)) H
theorem mW{i:Nat}{x:Str}(hN:X.N.Nodup)(hi:X.N[i]? =some x)(hx:Loc X.env.scope x)(hf:X.fn x=true∨X.env.scope.names.lookup x=some .local:=by first|exact .inl rfl|exact .inr rfl|assumption):PG X (.Name x pos) (eA i):=by
 intro pins s σ H v u Q I r h
 exact wpAny_assign_Name (se I hN hi hx r (fun s' I'=>⟨_,H,I',h⟩) hf)
def F2:o8:=fun vs σ H Q=>vs=[]∧Q σ H
inductive Ha(t:TG)(u:o8)(vs:List V)(σ:St)(H:Hp)(Q:St→Hp→Prop):Prop
 |mk(v:V)(r:List V)(e:vs=v::r)(q:t v σ H fun σ' H'=>u r σ' H' Q)
def Cw(t:TG)(u:o8):o8:=fun vs σ H Q=>Ha t u vs σ H Q
theorem AE:FA X [] F2:=by
 intro pins s σ H vs us Q I r h
 obtain⟨e,h⟩:=h
 subst e
 cases r
 exact assignInOrder_nil ⟨σ,H,I,h⟩
theorem y9{e:Expr}{es:List Expr}{t:TG}{u:o8}(h1:PG X e t)(h2:FA X es u)
  (hs:(assignEach (e::es) X.env).map (·.2)=assign e X.env::(assignEach es X.env).map (·.2):=by rfl):FA X (e::es) (Cw t u):=by
 intro pins s σ H vs us Q I r h
 obtain⟨v,vr,e1,h⟩:=h
 subst e1
 cases r with
 |cons r rr=>
  rw[hs]
  refine assignInOrder_cons (cX (h1 pins s σ H _ _ _ I r h) fun _ s1 hpat=>?_)
  obtain⟨σ1,H1,I1,q1⟩:=hpat
  exact h2 pins s1 σ1 H1 _ _ Q I1 rr q1
inductive HV(K:PySem.W.Frag)(n:Nat)(t:o8)(v:V)(σ:St)(H:Hp)(Q:St→Hp→Prop):Prop
 |mk(a:Addr)(xs:List V)(hv:v=.ref a)(s:dq K H a xs)(e:xs.length=n)(q:t xs σ H Q)
def Ep(K:PySem.W.Frag)(n:Nat)(t:o8):TG:=fun v σ H Q=>HV K n t v σ H Q
theorem Aq{es:List Expr}{k:Nat}{t:o8}{n:Nat}(hc:X.calm=true)(h:FA X es t)
  (hn:(assignEach es X.env).length=n:=by rfl)(hst:(assignEach es X.env).findIdx? (·.1)=none:=by rfl):PG X (.Tuple es k pos) (Ep X.K n t):=by
 intro pins s σ H v u Q I r hw
 obtain⟨a,xs,e1,hq,hl,hw⟩:=hw
 subst e1
 cases r
 obtain⟨its,rv,ht,hz⟩:=I.tuple hq
 refine assign_Tuple_tuple (I.ok.hd hc) ht (by simp[hn,←hl,rv.length]) hst fun h' hx=>?_
 have I1:Inv X pins σ H { s with heap:=h' }:=I.kept (t':=s.toks) fun b o e=>hx b o (ne_of_lt (lt_size e)) e
 exact h pins _ σ H xs _ Q I1 (by simpa using rv) hw
def KC(to ti:TE)(t:EM):TG:=fun v σ H Q=>to σ H fun o H1=>ti σ H1 fun i H2=>t o i v H2 fun H3=>Q σ H3
def sI(te:TE)(g:TG):TS:=fun D σ H=>te σ H fun x H1=>g x σ H1 D.nx
theorem DM{tg e:Expr}{te:TE}{g:TG}(he:PE X e te)(hg:PG X tg g)(hs:swapsWithSole [tg] e pos.line X.env=pure false:=by rfl)(hw:swappedStores [tg] e X.env=pure none:=by rfl)
  (h1:(assignEach [tg] X.env).map (·.2)=[assign tg X.env]:=by rfl):PS X (.Assign [tg] e pos) (sI te g):=by
 intro pins s σ H D I h
 refine wpAny_Assign_stores (cX (he pins s σ H _ I h) fun v s1 hpat=>?_) hs hw
 obtain⟨x,H1,I1,r1,q1⟩:=hpat
 rw[h1]
 exact cX (hg pins s1 σ H1 x v _ I1 r1 q1) fun _ s2 ⟨a,b,c,d⟩=>⟨a,b,c,d⟩
theorem Eb{i:Nat}{x:Str}{e:Expr}{te:TE}{pos':Pos}(hN:X.N.Nodup)(hi:X.N[i]? =some x)(hx:Loc X.env.scope x)(he:PE X e te)(hs:swapsWith e (some (.Name x pos')) pos.line X.env=pure false:=by rfl)(hf:X.fn x=true∨X.env.scope.names.lookup x=some .local:=by first|exact .inl rfl|exact .inr rfl|assumption):
  PS X (.Assign [.Name x pos'] e pos) (sI te (eA i)):=by
 intro pins s σ H D I h
 refine wpAny_Assign_Name (cX (he pins s σ H _ I h) fun v s1 hpat=>?_) hs
 obtain⟨y,H1,I1,r1,q1⟩:=hpat
 exact se I1 hN hi hx r1 (fun s2 I2=>⟨_,H1,I2,q1⟩) hf
def J4(i j:Nat)(ta:TA):TS:=fun D σ H=>ta σ H fun vs H1=>∃v w,vs=[v,w]∧D.nx ((σ.set i (some v)).set j (some w)) H1
def KL(i:Nat)(te:TE)(ti:Hm):TS:=fun D σ H=>∃x,σ[i]? =some (some x)∧te σ H fun y H1=>ti x y H1 fun z H2=>D.nx (σ.set i (some z)) H2
def IZ(to ti te:TE)(tget:V→V→Hp→VK→Prop)(tip:Hm)(tset:EM):TS:=fun D σ H=>to σ H fun o H1=>ti σ H1 fun i H2=>tget o i H2 fun x H3=>te σ H3 fun y H4=>tip x y H4 fun z H5=>tset o i z H5 fun H6=>D.nx σ H6
def KI(X:Cx)(t:V→V→Hp→VK→Prop):Prop:=
 ∀(pins:List (Addr×Obj)) (s:Shared) (σ:St) (H:Hp) (o i:V) (ov iv:Value) (Q:VK),Inv X pins σ H s→RelV o ov→RelV i iv→t o i H Q→
  wpAny (model X.prog X.w) X.A (getItem ov iv) (EP X pins σ Q) X.xe s
def KY(f:Int→Int→Int):Hm:=fun x y H Q=>∃i j,x=.int i∧y=.int j∧Q (.int (f i j)) H
end
section
variable {X:Cx}{pos:Pos}
def As(c:TT)(tb:TS):TS:=fun D σ H=>∃W:Nat→St→Hp→Prop,(∃m,W m σ H)∧∀m σ H,W m σ H→
 c σ H fun b H1=>if b=true then ∃N:St→Hp→Prop,(∀σ' H',N σ' H'→∃m',m' < m∧W m' σ' H')∧tb { D with nx:=N,ct:=N,bk:=D.nx } σ H1 else D.nx σ H1
theorem yV{c:Expr}{body:List Stmt}{tc:TT}{tb:TS}(hp:PassesOwn (model X.prog X.w) X.A X.env X.xe)(hc:PT X c tc)(hb:tP X body tb):PS X (.While c body [] pos) (As tc tb):=by
 intro pins s σ H D I h
 obtain⟨W,⟨m0,w0⟩,turn⟩:=h
 refine wpAny_While (codeAny_whileLoop (fun n s'=>∃σ' H',Inv X pins σ' H' s'∧W n σ' H') ?_ m0 ⟨σ,H,I,w0⟩)
 rintro n s1 ⟨σ1,H1,I1,w1⟩
 refine wpAny_passesOwn hp (cX (hc pins s1 σ1 H1 _ I1 (turn n σ1 H1 w1)) fun b s2 ⟨H2,I2,q2⟩=>?_)
 cases b with
 |true=>
  obtain⟨N,hN,q2⟩:=q2
  rw[if_pos rfl]
  refine wpAny_passesOwn hp (cX (hb pins s2 σ1 H2 _ I2 q2) fun f s3 q3=>?_)
  cases f with
  |next=>
   obtain⟨σ3,H3,I3,n3⟩:=q3
   obtain⟨m',hm,w3⟩:=hN σ3 H3 n3
   exact⟨m',hm,σ3,H3,I3,w3⟩
  |cont=>
   obtain⟨σ3,H3,I3,n3⟩:=q3
   obtain⟨m',hm,w3⟩:=hN σ3 H3 n3
   exact⟨m',hm,σ3,H3,I3,w3⟩
  |brk=>exact q3
  |ret v=>exact q3
 |false=>
  rw[if_neg Bool.false_ne_true]
  exact wpAny_execs_nil ⟨σ1,H2,I2,q2⟩
end
structure It where
 go:Nat→Hp→Prop
 yld:Nat→Hp→V→Hp→Prop
 stop:Nat→Hp→Prop
def l8(X:Cx)(pins:List (Addr×Obj))(H:Hp)(b:Addr):Prop:=
 H b=none∧b≠X.env.locals∧b ∉ X.fs∧(b∈X.ex∨X.s₀.heap.objs.size≤b)∧(∀x c,X.env.cells.lookup x=some c→c≠b)∧∀p∈X.pn++pins,p.1≠b
theorem Inv.vi{X:Cx}{pins:List (Addr×Obj)}{σ:St}{H H':Hp}{s:Shared}{b:Addr}(I:Inv X pins σ H s)(hb:s.heap.objs.size≤b)(hn:H' b=none):l8 X pins H' b:=by
 refine⟨hn,ne_of_gt (lt_of_lt_of_le I.lt hb),I.IU hb,.inr (le_trans I.sz hb),fun x c e z=>?_,fun p hp z=>?_⟩
 ·obtain⟨v,q⟩:=I.cell x c e
  exact absurd (lt_of_lt_of_le q.lt (by rw[z];exact hb)) (lt_irrefl _)
 ·exact absurd (lt_of_lt_of_le (lt_size (I.pin p hp).1) (by rw[z];exact hb)) (lt_irrefl _)
structure Turn(P:Program)(w:World)(K:PySem.W.Frag)(tg:Expr)(J:It)(fp:List Addr)(it:Addr)(tn:Nat→Heap→Prop):Prop where
 mem:it∈fp
 obj:∀i h,tn i h→∀b∈fp,∃o,h.get? b=some o∧∀v,o.data≠.cell v
 keep:∀i h h',tn i h→(∀b∈fp,∀o,h.get? b=some o→h'.get? b=some o)→tn i h'
 item:∀(X:Cx),X.prog=P→X.w=w→X.K=K→X.calm=true→∀(i:Nat) (pins:List (Addr×Obj)) (s:Shared) (σ:St) (H:Hp) (E:Value→Shared→Prop),Inv X pins σ H s→(∀b∈fp,l8 X pins H b)→tn i s.heap→J.go i H→
  wpAny (model P w) X.A (pyNext (.ref it)) (fun r s1=>∃u,r=some u∧
   wpAny (model P w) X.A (letOwnedTupleGo tg (.ref it) u) (fun _ s2=>∃x H',Inv X pins σ H' s2∧RelV x u∧J.yld i H x H'∧tn (i+1) s2.heap∧∀b∈fp,H' b=none) E s1) E s
 done:∀(X:Cx),X.prog=P→X.w=w→X.K=K→X.calm=true→∀(i:Nat) (pins:List (Addr×Obj)) (s:Shared) (σ:St) (H:Hp) (E:Value→Shared→Prop),Inv X pins σ H s→(∀b∈fp,l8 X pins H b)→tn i s.heap→J.stop i H→
  wpAny (model P w) X.A (pyNext (.ref it)) (fun r s1=>r=none∧Inv X pins σ H s1) E s
 self:∀(A:Around) (i:Nat) (s:Shared) (Q:Value→Shared→Prop) (E:Value→Shared→Prop),tn i s.heap→Q (.ref it) s→wpAny (model P w) A (pyIter (.ref it)) Q E s
abbrev TI:=St→Hp→(It→Hp→Prop)→Prop
def Hq(X:Cx)(pins:List (Addr×Obj))(σ:St)(tg:Expr)(R:It→Hp→Prop)(itv:Value)(s2:Shared):Prop:=
 ∃(it:Addr) (fp:List Addr) (tn:Nat→Heap→Prop) (J:It) (H':Hp),itv=.ref it∧Inv X pins σ H' s2∧Turn X.prog X.w X.K tg J fp it tn∧tn 0 s2.heap∧(∀b∈fp,l8 X pins H' b)∧R J H'
def PI(X:Cx)(tg iter:Expr)(wi:TI):Prop:=
 ∀(pins:List (Addr×Obj)) (s:Shared) (σ:St) (H:Hp) (R:It→Hp→Prop),Inv X pins σ H s→wi σ H R→
  wpAny (model X.prog X.w) X.A (eval iter X.env) (fun v s1=>wpAny (model X.prog X.w) X.A (pyIter v) (Hq X pins σ tg R) X.xe s1) X.xe s
theorem rb{M:Model}{A:Around}{E:Value→Shared→Prop}{s:Shared}{tg:Expr}{it:Addr}{u:Value}{o:Obj}{n:String}{vs:Array Value}{Q:Unit→Shared→Prop}(ho:s.heap.get? it=some o)(hc:o.cls=.type n)(hd:o.data=.fields vs)
  (hn:["enumerate", "zip", "dict_itemiterator", "dict_reverseitemiterator", "odict_iterator", "itertools.zip_longest", "itertools.pairwise"].contains n=false) (hQ:Q () s):wpAny M A (letOwnedTupleGo tg (.ref it) u) Q E s:=by
 unfold letOwnedTupleGo
 cases tg<;>first
  |exact wpAny_pure hQ
  | (cases u<;>first
    |exact wpAny_pure hQ
    | (refine wpAny_bind (wpAny_load ho ?_)
       rw[hc,hd]
       show wpAny M A (if(["enumerate", "zip", "dict_itemiterator", "dict_reverseitemiterator", "odict_iterator", "itertools.zip_longest", "itertools.pairwise"].contains n && vs[0]? == some (rawInt _))=true then _ else _) Q E s
       rw[if_neg (by intro h;rw[hn,Bool.false_and]at h;cases h)]
       exact wpAny_pure hQ))
def Ax(K:PySem.W.Frag)(a:Addr):It:=
 ⟨fun i H=>∃xs x,cF K H a xs∧xs[i]? =some x,fun i H x H'=>H'=H∧∀xs,cF K H a xs→xs[i]? =some x,fun i H=>∃xs,cF K H a xs∧xs.length≤i⟩
def HL(K:PySem.W.Frag)(a:Addr):It:=
 ⟨fun i H=>∃xs x,dq K H a xs∧xs[i]? =some x,fun i H x H'=>H'=H∧∀xs,dq K H a xs→xs[i]? =some x,fun i H=>∃xs,dq K H a xs∧xs.length≤i⟩
def Bh(lo:Int)(n:Nat):It:=⟨fun i _=>i < n,fun i H x H'=>H'=H∧x=.int (lo+i),fun i _=>n≤i⟩
theorem xH{P:Program}{w:World}{K:PySem.W.Frag}{tg:Expr}(a it:Addr):Turn P w K tg (Ax K a) [it] it (fun i h=>h.IsListIter it a i) where
 mem:=by simp
 obj:=fun i h st b hb=>by
  have e:b=it:=by simpa using hb
  subst e
  obtain⟨o,e,c,d⟩:=st
  exact⟨o,e,fun v z=>by rw[d]at z;cases z⟩
 keep:=fun i h h' st k=>st.at fun o e=>k it (by simp) o e
 item:=by
  intro X hP hw hK hc i pins s σ H E I hf st hg
  subst hP hw hK
  obtain⟨xs,x,hq,hx⟩:=hg
  obtain⟨its,rv,p,hz⟩:=I.list hq
  obtain⟨u,hu,ru⟩:=rv.get hx
  obtain⟨f0,f1,f2,f3,f4,f5⟩:=hf it (by simp)
  refine wpAny_pyNext_list_item st p.isList (x:=u) (by simpa using hu) fun h' st' sb=>?_
  have I1:Inv X pins σ H { s with heap:=h' }:=I.turned (t':=s.toks) (fun b o hb e=>(sb.2 b hb).trans e) f0 f1 f3 f4 f5
  obtain⟨o,e,c,d⟩:=id st'
  exact⟨u,rfl,rb (s:={ s with heap:=h' }) e c d (by decide) ⟨x,H,I1,ru,⟨rfl,fun ys hy=>by rw[I.sq hy hq];exact hx⟩,st',fun b hb=>(hf b hb).1⟩⟩
 done:=by
  intro X hP hw hK hc i pins s σ H E I hf st hg
  subst hP hw hK
  obtain⟨xs,hq,hx⟩:=hg
  obtain⟨its,rv,p,hz⟩:=I.list hq
  obtain⟨f0,f1,f2,f3,f4,f5⟩:=hf it (by simp)
  have hl:=rv.length
  exact wpAny_pyNext_list_end (I.ok.hd hc) st p.isList (by simp;omega) fun h' eb=>⟨rfl,I.turned (t':=s.toks) (fun b o hb e=>eb b o hb e) f0 f1 f3 f4 f5⟩
 self:=fun _ _ _ _ _ st h=>wpAny_pyIter_listiter st h
theorem t7{P:Program}{w:World}{K:PySem.W.Frag}{tg:Expr}(a it:Addr):Turn P w K tg (HL K a) [it] it (fun i h=>h.IsTupleIter it a i) where
 mem:=by simp
 obj:=fun i h st b hb=>by
  have e:b=it:=by simpa using hb
  subst e
  obtain⟨o,e,c,d⟩:=st
  exact⟨o,e,fun v z=>by rw[d]at z;cases z⟩
 keep:=fun i h h' st k=>st.at fun o e=>k it (by simp) o e
 item:=by
  intro X hP hw hK hc i pins s σ H E I hf st hg
  subst hP hw hK
  obtain⟨xs,x,hq,hx⟩:=hg
  obtain⟨its,rv,p,hz⟩:=I.tuple hq
  obtain⟨u,hu,ru⟩:=rv.get hx
  obtain⟨f0,f1,f2,f3,f4,f5⟩:=hf it (by simp)
  refine wpAny_pyNext_tuple_item st (show s.heap.IsTuple a its.toArray from p) (x:=u) (by simpa using hu) fun h' st' sb=>?_
  have I1:Inv X pins σ H { s with heap:=h' }:=I.turned (t':=s.toks) (fun b o hb e=>(sb.2 b hb).trans e) f0 f1 f3 f4 f5
  obtain⟨o,e,c,d⟩:=id st'
  exact⟨u,rfl,rb (s:={ s with heap:=h' }) e c d (by decide) ⟨x,H,I1,ru,⟨rfl,fun ys hy=>by rw[I.xA hy hq];exact hx⟩,st',fun b hb=>(hf b hb).1⟩⟩
 done:=by
  intro X hP hw hK hc i pins s σ H E I hf st hg
  subst hP hw hK
  obtain⟨xs,hq,hx⟩:=hg
  obtain⟨its,rv,p,hz⟩:=I.tuple hq
  obtain⟨f0,f1,f2,f3,f4,f5⟩:=hf it (by simp)
  have hl:=rv.length
  exact wpAny_pyNext_tuple_end (I.ok.hd hc) st (show s.heap.IsTuple a its.toArray from p) (by simp;omega) fun h' eb=>⟨rfl,I.turned (t':=s.toks) (fun b o hb e=>eb b o hb e) f0 f1 f3 f4 f5⟩
 self:=fun _ _ _ _ _ st h=>wpAny_pyIter_tupleiter st h
theorem tN{P:Program}{w:World}{K:PySem.W.Frag}{tg:Expr}(it:Addr)(lo:Int)(n:Nat):Turn P w K tg (Bh lo n) [it] it (fun i h=>IsRangeIter h it (lo+(i:Nat) * 1) ((n:Int) - (i:Nat)) 1) where
 mem:=by simp
 obj:=fun i h st b hb=>by
  have e:b=it:=by simpa using hb
  subst e
  exact⟨_,st,fun v z=>by
   have z':Data.fields _=Data.cell v:=z
   cases z'⟩
 keep:=fun i h h' st k=>k it (by simp) _ st
 item:=by
  intro X hP hw hK hc i pins s σ H E I hf st hg
  subst hP hw hK
  obtain⟨f0,f1,f2,f3,f4,f5⟩:=hf it (by simp)
  have W:=Walks.range (prog:=X.prog) (w:=X.w) (I.ok.hd hc) it lo 1 n
  refine W.item i s _ _ hg st fun v h' tk hv st' kk=>?_
  obtain⟨t,rfl⟩:=hv
  have I1:Inv X pins σ H { s with heap:=h',toks:=tk }:=I.turned (fun b o hb e=>kk b o (by simpa using hb) e) f0 f1 f3 f4 f5
  refine⟨_,rfl,rb (s:={ s with heap:=h',toks:=tk }) (n:= "range_iterator") st' rfl rfl (by decide) ⟨.int (lo+i),H,I1,⟨t,?_⟩,⟨rfl,rfl⟩,st',fun b hb=>(hf b hb).1⟩⟩
  rw[Int.mul_one]
 done:=by
  intro X hP hw hK hc i pins s σ H E I hf st hg
  subst hP hw hK
  obtain⟨f0,f1,f2,f3,f4,f5⟩:=hf it (by simp)
  exact wpAny_pyNext_range_end (I.ok.hd hc) st (by have:n≤i:=hg;omega) fun h' eb=>⟨rfl,I.turned (t':=s.toks) (fun b o hb e=>eb b o hb e) f0 f1 f3 f4 f5⟩
 self:=fun _ _ _ _ _ st h=>wpAny_pyIter_rangeiter st h
end L2
namespace L2
open PySem PySem.Spec PyProof.Rows
section
variable {X:Cx}{tg:Expr}
inductive EJ(K:PySem.W.Frag)(x:V)(H:Hp)(R:It→Hp→Prop):Prop
 |mk(a:Addr)(e:x=.ref a)(s:∃xs,cF K H a xs)(q:R (Ax K a) H)
def CU(K:PySem.W.Frag)(tl:TE):TI:=fun σ H R=>tl σ H fun x H1=>EJ K x H1 R
def GU(K:PySem.W.Frag)(tl:TE):TI:=fun σ H R=>tl σ H fun x H1=>∃a,x=.ref a∧(∃xs,dq K H1 a xs)∧R (HL K a) H1
theorem B3{l:Expr}{tl:TE}(hl:PE X l tl):PI X tg l (CU X.K tl):=by
 intro pins s σ H R I h
 refine cX (hl pins s σ H _ I h) fun v s1 hpat=>?_
 obtain⟨x,H1,I1,r1,q1⟩:=hpat
 obtain⟨a,e,⟨xs,hq⟩,q⟩:=q1
 subst e
 cases r1
 obtain⟨its,rv,p,hz⟩:=I1.list hq
 refine wpAny_pyIter_list p.isList ?_
 refine⟨s1.heap.objs.size,[s1.heap.objs.size],_,_,H1,rfl,I1.kept (t':=s1.toks) fun b o e=>get?_push_of_some _ e,xH a _,⟨_,get?_push_size _ rfl,rfl,rfl⟩,fun b hb=>?_,q⟩
 have e:b=s1.heap.objs.size:=by simpa using hb
 subst e
 exact I1.vi (le_refl _) (I1.hok.fresh (le_refl _))
theorem t6{l:Expr}{tl:TE}(hl:PE X l tl):PI X tg l (GU X.K tl):=by
 intro pins s σ H R I h
 refine cX (hl pins s σ H _ I h) fun v s1 hpat=>?_
 obtain⟨x,H1,I1,r1,q1⟩:=hpat
 obtain⟨a,e,⟨xs,hq⟩,q⟩:=q1
 subst e
 cases r1
 obtain⟨its,rv,p,hz⟩:=I1.tuple hq
 refine wpAny_pyIter_tuple (show s1.heap.IsTuple a its.toArray from p) ?_
 refine⟨s1.heap.objs.size,[s1.heap.objs.size],_,_,H1,rfl,I1.kept (t':=s1.toks) fun b o e=>get?_push_of_some _ e,t7 a _,⟨_,get?_push_size _ rfl,rfl,rfl⟩,fun b hb=>?_,q⟩
 have e:b=s1.heap.objs.size:=by simpa using hb
 subst e
 exact I1.vi (le_refl _) (I1.hok.fresh (le_refl _))
theorem zx{pins:List (Addr×Obj)}{σ:St}{H:Hp}{s:Shared}{R:It→Hp→Prop}{E:Value→Shared→Prop}{lo hi:Int}{t u v:Tok}{tk:Nat}(I:Inv X pins σ H s)(h1: -(2 ^ 62)≤lo)(h2:lo < 2 ^ 62)(h3: -(2 ^ 62)≤hi)(h4:hi < 2 ^ 62)
  (q:R (Bh lo (hi - lo).toNat) H):wpAny (model X.prog X.w) X.A (pyIter (.ref s.heap.objs.size)) (Hq X pins σ tg R) E { s with heap:=s.heap.push { cls:=.type "range",data:=.fields #[.int lo t,.int hi u,.int 1 v] },toks:=tk }:=by
 refine wpAny_pyIter_range (IsRange.new ..) (small_one h1 h2 h3 h4) ?_
 have I1:Inv X pins σ H { s with heap:=s.heap.push { cls:=.type "range",data:=.fields #[.int lo t,.int hi u,.int 1 v] },toks:=tk }:=I.kept fun b o e=>get?_push_of_some _ e
 refine⟨(s.heap.push { cls:=.type "range",data:=.fields #[.int lo t,.int hi u,.int 1 v] }).objs.size,[(s.heap.push { cls:=.type "range",data:=.fields #[.int lo t,.int hi u,.int 1 v] }).objs.size],_,_,H,rfl,
  I1.kept (t':=tk) fun b o e=>get?_push_of_some _ e,tN _ lo (hi - lo).toNat,?_,fun b hb=>?_,q⟩
 ·have e1:lo+((0:Nat):Int) * 1=lo:=by simp
  have e2:(((hi - lo).toNat:Nat):Int) - ((0:Nat):Int)=Builtin.Range.rangeSize lo hi 1:=by rw[rangeSize_one];split<;>omega
  show IsRangeIter _ _ (lo+((0:Nat):Int) * 1) ((((hi - lo).toNat:Nat):Int) - ((0:Nat):Int)) 1
  rw[e1,e2]
  exact get?_push_size _ rfl
 ·have e:b=(s.heap.push { cls:=.type "range",data:=.fields #[.int lo t,.int hi u,.int 1 v] }).objs.size:=by simpa using hb
  subst e
  exact I1.vi (le_refl _) (I1.hok.fresh (le_refl _))
def C2(ta:TA):TI:=fun σ H R=>ta σ H fun vs H1=>∃j:Int,vs=[.int j]∧ -(2 ^ 62)≤j∧j < 2 ^ 62∧R (Bh 0 j.toNat) H1
def I0(ta:TA):TI:=fun σ H R=>ta σ H fun vs H1=>∃i j:Int,vs=[.int i,.int j]∧(-(2 ^ 62)≤i∧i < 2 ^ 62∧ -(2 ^ 62)≤j∧j < 2 ^ 62)∧R (Bh i (j - i).toNat) H1
theorem x9 {a:Expr}{ta:TA}{p pos:Pos}(hg:Gl X "range") (hm:X.mg "range" =none) (ha:PA X [a] ta) (hs:starEach [a] X.env=[(false,eval a X.env)]:=by rfl):PI X tg (.Call (.Name "range" p) [a] [] pos) (C2 ta):=by
 intro pins s σ H R I h
 refine Call_ (jG I hg hm boot_range (PyProof.Rows.callWith_type1 (cX (ha pos pins s σ H _ I h) fun us s1 hpat=>?_) hs rfl))
 obtain⟨vs,H1,I1,r1,q1⟩:=hpat
 obtain⟨j,e,q1,q2,q⟩:=q1
 subst e
 cases r1 with
 |cons r rr=>
  cases rr
  obtain⟨t,rfl⟩:=r
  exact call_range_1 (zx I1 (by omega) (by omega) q1 q2 (by simpa using q))
def GN(wi:TI)(g:TG)(tb:TS):TS:=fun D σ H=>wi σ H fun J H1=>∃W:Nat→Nat→St→Hp→Prop,(∃m,W 0 m σ H1)∧∀i m σ H,W i m σ H→
 (J.stop i H∧D.nx σ H)∨(J.go i H∧∃N:St→Hp→Prop,(∀σ' H',N σ' H'→∃m',m' < m∧W (i+1) m' σ' H')∧∀x H',J.yld i H x H'→g x σ H' fun σ2 H2=>tb { D with nx:=N,ct:=N,bk:=D.nx } σ2 H2)
def qv(fp:List Addr)(h:Heap):List (Addr×Obj):=fp.filterMap fun b=>(h.get? b).map fun o=>(b,o)
theorem d5{fp:List Addr}{h:Heap}{b:Addr}{o:Obj}(hb:b∈fp)(e:h.get? b=some o):(b,o)∈qv fp h:=List.mem_filterMap.mpr ⟨b,hb,by rw[e];rfl⟩
theorem wA{fp:List Addr}{h:Heap}{p:Addr×Obj}(hp:p∈qv fp h):p.1∈fp∧h.get? p.1=some p.2:=by
 obtain⟨b,hb,e⟩:=List.mem_filterMap.mp hp
 cases q:h.get? b with
 |none=>rw[q]at e;cases e
 |some o=>
  rw[q]at e
  have e':(b,o)=p:=Option.some.inj e
  subst e'
  exact⟨hb,q⟩
theorem Inv.pinned{pins:List (Addr×Obj)}{σ:St}{H:Hp}{s:Shared}{fp:List Addr}(I:Inv X pins σ H s)(hf:∀b∈fp,l8 X pins H b)(ho:∀b∈fp,∃o,s.heap.get? b=some o∧∀v,o.data≠.cell v):Inv X (pins++qv fp s.heap) σ H s:=
 I.wj fun p hp=>(mem_append.mp hp).elim (fun z=>I.pin p (mem_append_right _ z)) fun z=>by
  obtain⟨hb,e⟩:=wA z
  obtain⟨f0,f1,f2,_⟩:=hf p.1 hb
  obtain⟨o,e',d⟩:=ho p.1 hb
  rw[e]at e';cases e'
  exact⟨e,f0,f1,f2,d⟩
theorem Inv.gH{pins pl:List (Addr×Obj)}{σ:St}{H:Hp}{s:Shared}(I:Inv X (pins++pl) σ H s):Inv X pins σ H s:=I.wj fun p hp=>I.pin p (mem_append_right _ (mem_append_left _ hp))
theorem DJ{iter:Expr}{body:List Stmt}{wi:TI}{g:TG}{tb:TS}{pos:Pos}(hp:PassesOwn (model X.prog X.w) X.A X.env X.xe)(hc:X.calm=true)(hi:PI X tg iter wi)(hg:PG X tg g)(hb:tP X body tb)
  (hs:∀x,foldedSetIterable iter X.env x=pure x:=by intro _;rfl):PS X (.For tg iter body [] pos) (GN wi g tb):=by
 intro pins s σ H D I h
 refine wpAny_For (cX (hi pins s σ H _ I h) fun v s1 h1=>cX h1 fun itv s2 h2=>?_) hs
 obtain⟨it,fp,tn,J,H2,e,I2,T,st2,f2,W,⟨m0,w0⟩,turn⟩:=h2
 subst e
 have stat:∀{H':Hp},(∀b∈fp,H' b=none)→∀b∈fp,l8 X pins H' b:=fun hn b hb=>⟨hn b hb,(f2 b hb).2⟩
 refine codeAny_forLoop_any (fun n s'=>∃i σ' H',Inv X pins σ' H' s'∧tn i s'.heap∧(∀b∈fp,H' b=none)∧W i n σ' H') ?_ m0 ⟨0,σ,H2,I2,st2,fun b hb=>(f2 b hb).1,w0⟩
 rintro n s3 ⟨i,σ3,H3,I3,st3,fr3,w3⟩
 rcases turn i n σ3 H3 w3 with ⟨stop,qn⟩|⟨go,N,hN,step⟩
 ·refine wpAny_passesOwn hp (cX (T.done X rfl rfl rfl hc i pins s3 σ3 H3 X.xe I3 (stat fr3) st3 stop) fun r s4 ⟨hr,I4⟩=>?_)
  subst hr
  exact wpAny_execs_nil ⟨σ3,H3,I4,qn⟩
 ·refine wpAny_passesOwn hp (cX (T.item X rfl rfl rfl hc i pins s3 σ3 H3 X.xe I3 (stat fr3) st3 go) fun r s4 ⟨u,hr,h4⟩=>?_)
  subst hr
  refine wpAny_passesOwn hp (cX h4 fun _ s5 hpat=>?_)
  obtain⟨x,H5,I5,r5,y5,st5,fr5⟩:=hpat
  have I5':=I5.pinned (stat fr5) (T.obj _ _ st5)
  refine wpAny_passesOwn hp (cX (hg _ s5 σ3 H5 x u _ I5' r5 (step x H5 y5)) fun _ s6 hpat=>?_)
  obtain⟨σ6,H6,I6,q6⟩:=hpat
  refine wpAny_passesOwn hp (cX (hb _ s6 σ6 H6 _ I6 q6) fun f s7 q7=>?_)
  have again:∀{σ7:St}{H7:Hp},Inv X (pins++qv fp s5.heap) σ7 H7 s7→N σ7 H7→∃m,m < n∧∃i σ' H',Inv X pins σ' H' s7∧tn i s7.heap∧(∀b∈fp,H' b=none)∧W i m σ' H':=fun {σ7 H7} I7 n7=>by
   obtain⟨m',hm,w7⟩:=hN σ7 H7 n7
   refine⟨m',hm,i+1,σ7,H7,I7.gH,T.keep _ _ _ st5 fun b hb o e=>(I7.pin (b,o) (mem_append_right _ (mem_append_right _ (d5 hb e)))).1,fun b hb=>?_,w7⟩
   obtain⟨o,e,d⟩:=T.obj _ _ st5 b hb
   exact(I7.pin (b,o) (mem_append_right _ (mem_append_right _ (d5 hb e)))).2.1
  cases f with
  |next=>obtain⟨σ7,H7,I7,n7⟩:=q7;exact again I7 n7
  |cont=>obtain⟨σ7,H7,I7,n7⟩:=q7;exact again I7 n7
  |brk=>obtain⟨σ7,H7,I7,q7⟩:=q7;exact⟨σ7,H7,I7.gH,q7⟩
  |ret v=>obtain⟨x7,σ7,H7,I7,r7,q7⟩:=q7;exact⟨x7,σ7,H7,I7.gH,r7,q7⟩
end
theorem dk{K:PySem.W.Frag}{a:Addr}{xs:List V}{g:TG}{tb:TS}{D:Ends}{σ:St}{H:Hp}(Pv:Nat→St→Hp→Prop)(h0:Pv 0 σ H)(hl:∀i σ H,i≤xs.length→Pv i σ H→cF K H a xs)
  (hs:∀i x σ H,xs[i]? =some x→Pv i σ H→g x σ H fun σ2 H2=>tb { D with nx:=Pv (i+1),ct:=Pv (i+1),bk:=D.nx } σ2 H2)(hd:∀σ H,Pv xs.length σ H→D.nx σ H):
  ∃W:Nat→Nat→St→Hp→Prop,(∃m,W 0 m σ H)∧∀i m σ H,W i m σ H→
   ((Ax K a).stop i H∧D.nx σ H)∨((Ax K a).go i H∧∃N:St→Hp→Prop,(∀σ' H',N σ' H'→∃m',m' < m∧W (i+1) m' σ' H')∧∀x H',(Ax K a).yld i H x H'→g x σ H' fun σ2 H2=>tb { D with nx:=N,ct:=N,bk:=D.nx } σ2 H2):=by
 refine⟨fun i m σ H=>m=xs.length - i∧i≤xs.length∧Pv i σ H,⟨xs.length,by simp,zero_le _,h0⟩,?_⟩
 rintro i m σ H ⟨rfl,hi,p⟩
 have q:=hl i σ H hi p
 by_cases hlt:i < xs.length
 ·refine .inr ⟨⟨xs,xs[i],q,by simp[hlt]⟩,Pv (i+1),fun σ' H' p'=>⟨xs.length - (i+1),by omega,rfl,hlt,p'⟩,fun x H' y=>?_⟩
  obtain⟨e,y⟩:=y
  subst e
  exact hs i x σ _ (y xs q) p
 ·have e:i=xs.length:=by omega
  subst e
  exact .inl ⟨⟨xs,q,le_refl _⟩,hd σ H p⟩
theorem gG{lo:Int}{n:Nat}{g:TG}{tb:TS}{D:Ends}{σ:St}{H:Hp}(Pv:Nat→St→Hp→Prop)(h0:Pv 0 σ H)
  (hs:∀i σ H,i < n→Pv i σ H→g (.int (lo+i)) σ H fun σ2 H2=>tb { D with nx:=Pv (i+1),ct:=Pv (i+1),bk:=D.nx } σ2 H2)(hd:∀σ H,Pv n σ H→D.nx σ H):
  ∃W:Nat→Nat→St→Hp→Prop,(∃m,W 0 m σ H)∧∀i m σ H,W i m σ H→
   ((Bh lo n).stop i H∧D.nx σ H)∨((Bh lo n).go i H∧∃N:St→Hp→Prop,(∀σ' H',N σ' H'→∃m',m' < m∧W (i+1) m' σ' H')∧∀x H',(Bh lo n).yld i H x H'→g x σ H' fun σ2 H2=>tb { D with nx:=N,ct:=N,bk:=D.nx } σ2 H2):=by
 refine⟨fun i m σ H=>m=n - i∧i≤n∧Pv i σ H,⟨n,by simp,zero_le _,h0⟩,?_⟩
 rintro i m σ H ⟨rfl,hi,p⟩
 by_cases hlt:i < n
 ·refine .inr ⟨hlt,Pv (i+1),fun σ' H' p'=>⟨n - (i+1),by omega,rfl,hlt,p'⟩,fun x H' y=>?_⟩
  obtain⟨e,y⟩:=y
  subst e y
  exact hs i σ _ hlt p
 ·have e:i=n:=by omega
  subst e
  exact .inl ⟨le_refl _,hd σ H p⟩
end L2
namespace L2
open PySem PySem.Spec PyProof.Rows
abbrev R2:=V→V→Hp→VK→Prop
def iq(X:Cx)(f:Value→Value→Sem Value)(r:R2):Prop:=
 ∀(pins:List (Addr×Obj)) (s:Shared) (σ:St) (H:Hp) (x y:V) (v u:Value) (Q:VK),Inv X pins σ H s→RelV x v→RelV y u→r x y H Q→
  wpAny (model X.prog X.w) X.A (f v u) (EP X pins σ Q) X.xe s
def Hu(X:Cx)(f:Value→Sem Value)(r:V→Hp→VK→Prop):Prop:=
 ∀(pins:List (Addr×Obj)) (s:Shared) (σ:St) (H:Hp) (x:V) (v:Value) (Q:VK),Inv X pins σ H s→RelV x v→r x H Q→
  wpAny (model X.prog X.w) X.A (f v) (EP X pins σ Q) X.xe s
def ef(X:Cx)(f:Value)(r:List V→Hp→VK→Prop):Prop:=
 ∀(pins:List (Addr×Obj)) (s:Shared) (σ:St) (H:Hp) (xs:List V) (us:List Value) (Q:VK),Inv X pins σ H s→Vals xs us→r xs H Q→
  wpAny (model X.prog X.w) X.A (call f us) (EP X pins σ Q) X.xe s
def Kz(X:Cx)(r:V→Hp→(Bool→Hp→Prop)→Prop):Prop:=
 ∀(pins:List (Addr×Obj)) (s:Shared) (σ:St) (H:Hp) (x:V) (v:Value) (Q:Bool→Hp→Prop),Inv X pins σ H s→RelV x v→r x H Q→
  wpAny (model X.prog X.w) X.A (truthy v) (TP X pins σ Q) X.xe s
def CO(r:R2)(ta tb:TE):TE:=fun σ H Q=>ta σ H fun x H1=>tb σ H1 fun y H2=>r x y H2 Q
def Jl(r:V→Hp→VK→Prop)(ta:TE):TE:=fun σ H Q=>ta σ H fun x H1=>r x H1 Q
inductive Ig(C:Int→Int→Prop)(g:Int→Int→V)(x y:V)(H:Hp)(Q:VK):Prop
 |mk(i j:Int)(hx:x=.int i)(hy:y=.int j)(c:C i j)(q:Q (g i j) H)
inductive F9(g:Int→Int→V)(x y:V)(H:Hp)(Q:VK):Prop
 |mk(i j:Int)(hx:x=.int i)(hy:y=.int j)(q:Q (g i j) H)
def rI(C:Int→Int→Prop)(g:Int→Int→V):R2:=fun x y H Q=>Ig C g x y H Q
def yf(g:Int→Int→V):R2:=fun x y H Q=>F9 g x y H Q
def rU(g:Int→V):V→Hp→VK→Prop:=fun x H Q=>∃i,x=.int i∧Q (g i) H
section
variable {X:Cx}{a b c:Expr}{ta tb tc:TE}{pos:Pos}
theorem D5(ha:PE X a ta)(hb:PE X b tb){pins:List (Addr×Obj)}{s:Shared}{σ:St}{H:Hp}{R:V→V→Hp→Prop}(I:Inv X pins σ H s)
  (h:ta σ H fun x H1=>tb σ H1 fun y H2=>R x y H2){Q:Value→Shared→Prop}{f:Value→Value→Sem Value}
  (hf:∀v u s2 x y H2,Inv X pins σ H2 s2→RelV x v→RelV y u→R x y H2→wpAny (model X.prog X.w) X.A (f v u) Q X.xe s2):
  wpAny (model X.prog X.w) X.A (eval a X.env) (fun v s₁=>wpAny (model X.prog X.w) X.A (eval b X.env) (fun u s₂=>wpAny (model X.prog X.w) X.A (f v u) Q X.xe s₂) X.xe s₁) X.xe s:=by
 refine cX (ha pins s σ H _ I h) fun v s1 hpat=>?_
 obtain⟨x,H1,I1,r1,q1⟩:=hpat
 refine cX (hb pins s1 σ H1 _ I1 q1) fun u s2 hpat=>?_
 obtain⟨y,H2,I2,r2,q2⟩:=hpat
 exact hf v u s2 x y H2 I2 r1 r2 q2
theorem CS{op:Operator}{r:R2}(ho:iq X (binaryOp op) r)(ha:PE X a ta)(hb:PE X b tb):PE X (.BinOp a op b pos) (CO r ta tb):=by
 intro pins s σ H Q I h
 exact wpAny_BinOp (D5 ha hb I h fun v u s2 x y H2 I2 rx ry q=>ho pins s2 σ H2 x y v u Q I2 rx ry q)
theorem yT{op:UnaryOp}{r:V→Hp→VK→Prop}(ho:Hu X (unaryOp op) r)(ha:PE X a ta):PE X (.UnaryOp op a pos) (Jl r ta):=by
 intro pins s σ H Q I h
 exact UnaryOp_ (cX (ha pins s σ H _ I h) fun v s1 ⟨x,H1,I1,r1,q1⟩=>ho pins s1 σ H1 x v Q I1 r1 q1)
theorem Hr{f:Value→Value→Sem Value}{C:Int→Int→Prop}{g:Int→Int→Int}
  (rule:∀(i j:Int)(t u:Tok)(s:Shared)(Q:Value→Shared→Prop)(E:Value→Shared→Prop),C i j→Q (.int (g i j) s.toks) { s with toks:=s.toks+1 }→wpAny (model X.prog X.w) X.A (f (.int i t) (.int j u)) Q E s):
  iq X f (rI C fun i j=>.int (g i j)):=by
 intro pins s σ H x y v u Q I rx ry h
 obtain⟨i,j,rfl,rfl,hc,q⟩:=h
 obtain⟨t,rfl⟩:=rx
 obtain⟨t',rfl⟩:=ry
 exact rule i j t t' s _ _ hc ⟨.int (g i j),H,I.tok _,⟨_,rfl⟩,q⟩
theorem E9{f:Value→Value→Sem Value}{g:Int→Int→Int}
  (rule:∀(i j:Int)(t u:Tok)(s:Shared)(Q:Value→Shared→Prop)(E:Value→Shared→Prop),Q (.int (g i j) s.toks) { s with toks:=s.toks+1 }→wpAny (model X.prog X.w) X.A (f (.int i t) (.int j u)) Q E s):
  iq X f (yf fun i j=>.int (g i j)):=by
 intro pins s σ H x y v u Q I rx ry h
 obtain⟨i,j,rfl,rfl,q⟩:=h
 obtain⟨t,rfl⟩:=rx
 obtain⟨t',rfl⟩:=ry
 exact rule i j t t' s _ _ ⟨.int (g i j),H,I.tok _,⟨_,rfl⟩,q⟩
theorem D6{f:Value→Value→Sem Value}{g:Int→Int→Bool}
  (rule:∀(i j:Int)(t u:Tok)(s:Shared)(Q:Value→Shared→Prop)(E:Value→Shared→Prop),Q (.bool (g i j)) s→wpAny (model X.prog X.w) X.A (f (.int i t) (.int j u)) Q E s):
  iq X f (yf fun i j=>.bl (g i j)):=by
 intro pins s σ H x y v u Q I rx ry h
 obtain⟨i,j,rfl,rfl,q⟩:=h
 obtain⟨t,rfl⟩:=rx
 obtain⟨t',rfl⟩:=ry
 exact rule i j t t' s _ _ ⟨.bl (g i j),H,I,rfl,q⟩
def Gx(i j:Int):Prop:=0 < j∧j < 1073741824
def JK(i j:Int):Prop:=j≠0∧j.natAbs < 1073741824
def FD(i j:Int):Prop:=0≤j∧j≤1000000∧i.natAbs < 2 ^ 64
def BK(i j:Int):Prop:=(-(2 ^ 64) < i∧i < 2 ^ 64)∨(-(2 ^ 64) < j∧j < 2 ^ 64)
theorem BK.ok{i j:Int}(h:BK i j):IntMulOk i j:=by
 rcases h with ⟨h1,h2⟩|⟨h1,h2⟩
 ·exact .of_left (intBits_le_64 h1 h2)
 ·exact .of_right (intBits_le_64 h1 h2)
theorem Dj:iq X (binaryOp .Add) (yf fun i j=>.int (i+j)):=E9 fun _ _ _ _ _ _ _ q=>add_int q
theorem nR:iq X (binaryOp .Sub) (yf fun i j=>.int (i - j)):=E9 fun _ _ _ _ _ _ _ q=>sub_int q
theorem Dl:iq X (binaryOp .Mult) (rI BK fun i j=>.int (i * j)):=Hr fun _ _ _ _ _ _ _ hc q=>mul_int q hc.ok
theorem A0:iq X (binaryOp .FloorDiv) (rI Gx fun i j=>.int (i / j)):=Hr fun i j _ _ _ _ _ hc q=>by
 have h1:(0:Int) < j:=hc.1
 have h2:j < 1073741824:=hc.2
 exact floordiv_int (by omega) (by rw[Int.fdiv_eq_ediv_of_nonneg i (by omega)];exact q) (.inl (PyProof.noPylong_small (by omega)))
theorem Du:iq X (binaryOp .Mod) (rI (fun _ j=>0 < j) fun i j=>.int (i % j)):=Hr fun i j _ _ _ _ _ hc q=>by
 have h1:(0:Int) < j:=hc
 exact mod_int' (by omega) (by rw[Int.fmod_eq_emod_of_nonneg i (by omega)];exact q)
theorem k8:iq X (binaryOp .Pow) (rI FD fun i j=>.int (i ^ j.toNat)):=Hr fun _ _ _ _ _ _ _ hc q=>pow_int_small hc.1 hc.2.1 hc.2.2 q
theorem JN{f:Value→Sem Value}{g:Int→Int}
  (rule:∀(i:Int)(t:Tok)(s:Shared)(Q:Value→Shared→Prop)(E:Value→Shared→Prop),Q (.int (g i) s.toks) { s with toks:=s.toks+1 }→wpAny (model X.prog X.w) X.A (f (.int i t)) Q E s):
  Hu X f (rU fun i=>.int (g i)):=by
 intro pins s σ H x v Q I rx h
 obtain⟨i,rfl,q⟩:=h
 obtain⟨t,rfl⟩:=rx
 exact rule i t s _ _ ⟨.int (g i),H,I.tok _,⟨_,rfl⟩,q⟩
theorem uI:Hu X (unaryOp .USub) (rU fun i=>.int (-i)):=JN fun _ _ _ _ _ q=>neg_int q
end
def DI:V→V→Bool
 |.non,.non=>true|.non,.int _=>true|.int _,.non=>true|.non,.bl _=>true|.bl _,.non=>true|.non,.str _=>true|.str _,.non=>true
 |.int _,.int _=>true|.bl _,.bl _=>true|.str _,.str _=>true|.byt _,.byt _=>true
 |.int _,.str _=>true|.str _,.int _=>true|.bl _,.str _=>true|.str _,.bl _=>true
 |_,_=>false
def Jv:R2:=fun x y H Q=>DI x y=true∧Q (.bl (decide (x=y))) H
def Jf:R2:=fun x y H Q=>DI x y=true∧Q (.bl (!decide (x=y))) H
theorem vk{i j:Int}:decide (V.int i=V.int j)=(i == j):=by
 rw[Bool.eq_iff_iff]
 simp
theorem Ao{i j:Bool}:decide (V.bl i=V.bl j)=(i == j):=by
 rw[Bool.eq_iff_iff]
 simp
theorem vP{i j:Str}:decide (V.str i=V.str j)=(i == j):=by
 rw[Bool.eq_iff_iff]
 simp
theorem v7{i j:Array UInt8}:decide (V.byt i=V.byt j)=(i.toList == j.toList):=by
 rw[Bool.eq_iff_iff]
 cases i
 cases j
 simp
section
variable {X:Cx}{a b c:Expr}{ta tb tc:TE}{pos:Pos}
theorem cM{pins:List (Addr×Obj)}{σ:St}{H:Hp}{s:Shared}{Q:VK}{k k':Bool}(I:Inv X pins σ H s)(q:Q (.bl k) H)(e:k=k'):EP X pins σ Q (.bool k') s:=by
 subst e
 exact⟨.bl k,H,I,rfl,q⟩
theorem F7:iq X (compareOp .Eq) Jv:=by
 intro pins s σ H x y v u Q I rx ry h
 obtain⟨hs,q⟩:=h
 cases x with
 |non=>
  cases rx
  cases y with
  |non=>cases ry;exact PySem.EqNone.eq_none_none (cM I q (by simp))
  |bl j=>cases ry;exact PySem.EqNone.eq_none_bool (cM I q (by simp))
  |int j=>obtain⟨t',rfl⟩:=ry;exact PySem.EqNone.eq_none_int (cM I q (by simp))
  |str j=>obtain⟨t',rfl⟩:=ry;exact PySem.EqNone.eq_none_str (cM I q (by simp))
  |_=>exact absurd (show false=true from hs) Bool.false_ne_true
 |bl i=>
  cases rx
  cases y with
  |non=>cases ry;exact PySem.EqNone.eq_bool_none (cM I q (by simp))
  |bl j=>cases ry;exact eq_bool (cM I q Ao)
  |str j=>obtain⟨t',rfl⟩:=ry;exact PySem.EqMixed.eq_bool_str (cM I q (by simp))
  |_=>exact absurd (show false=true from hs) Bool.false_ne_true
 |int i=>
  obtain⟨t,rfl⟩:=rx
  cases y with
  |non=>cases ry;exact PySem.EqNone.eq_int_none (cM I q (by simp))
  |int j=>obtain⟨t',rfl⟩:=ry;exact eq_int (cM I q vk)
  |str j=>obtain⟨t',rfl⟩:=ry;exact PySem.EqMixed.eq_int_str (cM I q (by simp))
  |_=>exact absurd (show false=true from hs) Bool.false_ne_true
 |str i=>
  obtain⟨t,rfl⟩:=rx
  cases y with
  |non=>cases ry;exact PySem.EqNone.eq_str_none (cM I q (by simp))
  |bl j=>cases ry;exact PySem.EqMixed.eq_str_bool (cM I q (by simp))
  |int j=>obtain⟨t',rfl⟩:=ry;exact PySem.EqMixed.eq_str_int (cM I q (by simp))
  |str j=>obtain⟨t',rfl⟩:=ry;exact eq_str (cM I q vP)
  |_=>exact absurd (show false=true from hs) Bool.false_ne_true
 |byt i=>
  obtain⟨t,rfl⟩:=rx
  cases y with
  |byt j=>obtain⟨t',rfl⟩:=ry;exact PySem.W.eq_bytes (cM I q v7)
  |_=>exact absurd (show false=true from hs) Bool.false_ne_true
 |_=>cases y<;>exact absurd (show false=true from hs) Bool.false_ne_true
theorem FI:iq X (compareOp .NotEq) Jf:=by
 intro pins s σ H x y v u Q I rx ry h
 obtain⟨hs,q⟩:=h
 cases x with
 |non=>
  cases rx
  cases y with
  |non=>cases ry;exact PySem.EqNone.ne_none_none (cM I q (by simp))
  |bl j=>cases ry;exact PySem.EqNone.ne_none_bool (cM I q (by simp))
  |int j=>obtain⟨t',rfl⟩:=ry;exact PySem.EqNone.ne_none_int (cM I q (by simp))
  |str j=>obtain⟨t',rfl⟩:=ry;exact PySem.EqNone.ne_none_str (cM I q (by simp))
  |_=>exact absurd (show false=true from hs) Bool.false_ne_true
 |bl i=>
  cases rx
  cases y with
  |non=>cases ry;exact PySem.EqNone.ne_bool_none (cM I q (by simp))
  |bl j=>cases ry;exact ne_bool (cM I q (congrArg not Ao))
  |str j=>obtain⟨t',rfl⟩:=ry;exact PySem.EqMixed.ne_bool_str (cM I q (by simp))
  |_=>exact absurd (show false=true from hs) Bool.false_ne_true
 |int i=>
  obtain⟨t,rfl⟩:=rx
  cases y with
  |non=>cases ry;exact PySem.EqNone.ne_int_none (cM I q (by simp))
  |int j=>obtain⟨t',rfl⟩:=ry;exact ne_int (cM I q (congrArg not vk))
  |str j=>obtain⟨t',rfl⟩:=ry;exact PySem.EqMixed.ne_int_str (cM I q (by simp))
  |_=>exact absurd (show false=true from hs) Bool.false_ne_true
 |str i=>
  obtain⟨t,rfl⟩:=rx
  cases y with
  |non=>cases ry;exact PySem.EqNone.ne_str_none (cM I q (by simp))
  |bl j=>cases ry;exact PySem.EqMixed.ne_str_bool (cM I q (by simp))
  |int j=>obtain⟨t',rfl⟩:=ry;exact PySem.EqMixed.ne_str_int (cM I q (by simp))
  |str j=>obtain⟨t',rfl⟩:=ry;exact ne_str (cM I q (congrArg not vP))
  |_=>exact absurd (show false=true from hs) Bool.false_ne_true
 |byt i=>
  obtain⟨t,rfl⟩:=rx
  cases y with
  |byt j=>obtain⟨t',rfl⟩:=ry;exact PySem.W.ne_bytes (cM I q (congrArg not v7))
  |_=>exact absurd (show false=true from hs) Bool.false_ne_true
 |_=>cases y<;>exact absurd (show false=true from hs) Bool.false_ne_true
theorem Fi:iq X (compareOp .Lt) (yf fun i j=>.bl (decide (i < j))):=D6 fun _ _ _ _ _ _ _ q=>lt_int q
theorem rP:iq X (compareOp .LtE) (yf fun i j=>.bl (decide (i≤j))):=D6 fun _ _ _ _ _ _ _ q=>le_int q
theorem He:iq X (compareOp .Gt) (yf fun i j=>.bl (decide (j < i))):=D6 fun _ _ _ _ _ _ _ q=>gt_int q
theorem DV:iq X (compareOp .Is) (fun x y H Q=>y=.non∧Q (.bl (decide (x=.non))) H):=by
 intro pins s σ H x y v u Q I rx ry h
 obtain⟨rfl,q⟩:=h
 cases ry
 refine is_none_gen (cM I q ?_)
 cases x<;>first
  | (cases rx;rfl)
  | (obtain⟨t,rfl⟩:=rx;rfl)
theorem AI:iq X (compareOp .IsNot) (fun x y H Q=>y=.non∧Q (.bl (!decide (x=.non))) H):=by
 intro pins s σ H x y v u Q I rx ry h
 obtain⟨rfl,q⟩:=h
 cases ry
 refine isnot_none_gen (cM I q ?_)
 cases x<;>first
  | (cases rx;rfl)
  | (obtain⟨t,rfl⟩:=rx;rfl)
def isObj:HO→Bool
 |.lst _=>true
 |.ins _ _ _=>true
 |_=>false
theorem cE(b:Expr){op:CmpOp}(h:op≠.In:=by decide)(h2:op≠.NotIn:=by decide):behindInMarks op b=false:=by
 have e1:(op == CmpOp.In)=false:=by cases op<;>first|rfl|exact absurd rfl h
 have e2:(op == CmpOp.NotIn)=false:=by cases op<;>first|rfl|exact absurd rfl h2
 cases b<;>simp[behindInMarks,e1,e2]
theorem vx{op:CmpOp}{r:R2}(ho:iq X (compareOp op) r)(ha:PE X a ta)(hb:PE X b tb)(hm:behindInMarks op b=false):PE X (.Compare a [op] [b] pos) (CO r ta tb):=by
 intro pins s σ H Q I h
 exact wpAny_Compare1 (D5 ha hb I h fun v u s2 x y H2 I2 rx ry q=>ho pins s2 σ H2 x y v u Q I2 rx ry q) hm
def vF(t:TE):TT:=fun σ H Q=>t σ H fun x H'=>E1 x H' Q
theorem B0{op:CmpOp}{r:R2}(ho:iq X (compareOp op) r)(ha:PE X a ta)(hb:PE X b tb)(hm:behindInMarks op b=false):PT X (.Compare a [op] [b] pos) (vF (CO r ta tb)):=by
 intro pins s σ H Q I h
 refine wpAny_isTrue_Compare1 (cX (ha pins s σ H _ I h) fun v s1 ⟨x,H1,I1,r1,q1⟩=>cX (hb pins s1 σ H1 _ I1 q1) fun u s2 ⟨y,H2,I2,r2,q2⟩=>
  cX (ho pins s2 σ H2 x y v u _ I2 r1 r2 q2) fun c s3 ⟨z,H3,I3,r3,k,e,q3⟩=>?_) hm
 subst e
 cases r3
 exact wpAny_truthy_bool ⟨H3,I3,q3⟩
def qr(r r':R2)(ta tb tc:TE):TE:=fun σ H Q=>ta σ H fun x H1=>tb σ H1 fun y H2=>r x y H2 fun z H3=>∃k,z=.bl k∧
 (if k=true then tc σ H3 fun w' H4=>r' y w' H4 Q else Q (.bl false) H3)
theorem gI{op op':CmpOp}{r r':R2}(ho:iq X (compareOp op) r)(ho':iq X (compareOp op') r')(ha:PE X a ta)(hb:PE X b tb)(hc:PE X c tc)
  (hm:lastMarks [op,op'] [b,c]=false:=by with_unfolding_all rfl):PE X (.Compare a [op,op'] [b,c] pos) (qr r r' ta tb tc):=by
 intro pins s σ H Q I h
 refine Compare_chain (cX (ha pins s σ H _ I h) fun v s1 ⟨x,H1,I1,r1,q1⟩=>chain_link (cX (hb pins s1 σ H1 _ I1 q1) fun u s2 ⟨y,H2,I2,r2,q2⟩=>
  cX (ho pins s2 σ H2 x y v u _ I2 r1 r2 q2) fun d s3 ⟨z,H3,I3,r3,k,e,q3⟩=>?_)) hm
 subst e
 cases r3
 refine wpAny_truthy_bool ?_
 cases k with
 |false=>exact ite_ff ⟨.bl false,H3,I3,rfl,q3⟩
 |true=>exact ite_tt (chain_last (cX (hc pins s3 σ H3 _ I3 q3) fun w' s4 ⟨z',H4,I4,r4,q4⟩=>ho' pins s4 σ H4 y z' u w' Q I4 r2 r4 q4))
theorem jK{op op':CmpOp}{r r':R2}(ho:iq X (compareOp op) r)(ho':iq X (compareOp op') r')(ha:PE X a ta)(hb:PE X b tb)(hc:PE X c tc)
  (hm:lastMarks [op,op'] [b,c]=false:=by with_unfolding_all rfl):PT X (.Compare a [op,op'] [b,c] pos) (vF (qr r r' ta tb tc)):=by
 intro pins s σ H Q I h
 refine isTrue_chain (cX (ha pins s σ H _ I h) fun v s1 ⟨x,H1,I1,r1,q1⟩=>test_link (cX (hb pins s1 σ H1 _ I1 q1) fun u s2 ⟨y,H2,I2,r2,q2⟩=>
  cX (ho pins s2 σ H2 x y v u _ I2 r1 r2 q2) fun d s3 ⟨z,H3,I3,r3,k,e,q3⟩=>?_)) hm
 subst e
 cases r3
 refine wpAny_truthy_bool ?_
 cases k with
 |false=>
  obtain⟨k',e',q'⟩:=q3
  cases e'
  exact ite_ff ⟨H3,I3,q'⟩
 |true=>
  refine ite_tt (test_last (cX (hc pins s3 σ H3 _ I3 q3) fun w' s4 ⟨z',H4,I4,r4,q4⟩=>cX (ho' pins s4 σ H4 y z' u w' _ I4 r2 r4 q4) fun d' s5 hpat=>?_))
  obtain⟨z2,H5,I5,r5,k2,e2,q5⟩:=hpat
  subst e2
  cases r5
  exact wpAny_truthy_bool ⟨H5,I5,q5⟩
def Km(K:PySem.W.Frag)(x:V)(H:Hp)(k:Bool):Prop:=
 match x with
 |.non=>k=false
 |.bl b=>k=b
 |.int i=>k=(i != 0)
 |.str y=>y.length≤sizeLine∧k=((y.length:Int) != 0)
 |.byt y=>y.size≤sizeLine∧k=((y.size:Int) != 0)
 |.ref p=>(∃xs,cF K H p xs∧k= !xs.isEmpty)∨(∃xs,dq K H p xs∧k= !xs.isEmpty)∨∃kvs,H p=some (.dK kvs)∧k= !kvs.isEmpty
 |_=>False
theorem ng:(sizeLine:Nat) < 2 ^ 63:=by rw[sizeLine_eq];decide
theorem gZ:iq X (binaryOp .Add) (fun x y H Q=>∃i j,x=.str i∧y=.str j∧i.length+j.length≤sizeLine∧Q (.str (i++j)) H):=by
 intro pins s σ H x y v u Q I rx ry h
 obtain⟨i,j,rfl,rfl,hz,q⟩:=h
 obtain⟨t,rfl⟩:=rx
 obtain⟨t',rfl⟩:=ry
 exact add_str (fun t' tk=>⟨.str (i++j),H,I.tok _,⟨_,rfl⟩,q⟩) hz
def E3(b:Expr):Prop:=∀o i,subscripted b false o i=operate [o,i] (getItem o i)
theorem vals1{x:V}{us:List Value}(r:Vals [x] us):∃u,us=[u]∧RelV x u:=by
 cases r with
 |cons r1 r2=>cases r2;exact⟨_,rfl,r1⟩
theorem vals2{x y:V}{us:List Value}(r:Vals [x,y] us):∃u w',us=[u,w']∧RelV x u∧RelV y w':=by
 cases r with
 |cons r1 r2=>
  cases r2 with
  |cons r3 r4=>cases r4;exact⟨_,_,rfl,r1,r3⟩
theorem gE(hc:X.calm=true):ef X (.builtin "max") (fun xs H Q=>∃i j,xs=[.int i,.int j]∧Q (.int (if j > i then j else i)) H):=by
 intro pins s σ H xs us Q I r h
 obtain⟨i,j,rfl,q⟩:=h
 obtain⟨u,w',rfl,⟨t,rfl⟩,⟨t',rfl⟩⟩:=vals2 r
 refine max_two_ints (I.ok.hd hc) fun h' tk k=>⟨_,H,I.kept k,?_,q⟩
 by_cases hj:j > i
 ·rw[if_pos hj,if_pos hj];exact⟨_,rfl⟩
 ·rw[if_neg hj,if_neg hj];exact⟨_,rfl⟩
theorem fu(hc:X.calm=true):ef X (.builtin "min") (fun xs H Q=>∃i j,xs=[.int i,.int j]∧Q (.int (if j < i then j else i)) H):=by
 intro pins s σ H xs us Q I r h
 obtain⟨i,j,rfl,q⟩:=h
 obtain⟨u,w',rfl,⟨t,rfl⟩,⟨t',rfl⟩⟩:=vals2 r
 refine min_two_ints (I.ok.hd hc) fun h' tk k=>⟨_,H,I.kept k,?_,q⟩
 by_cases hj:j < i
 ·rw[if_pos hj,if_pos hj];exact⟨_,rfl⟩
 ·rw[if_neg hj,if_neg hj];exact⟨_,rfl⟩
theorem i8:ef X (.type "int") (fun xs H Q=>(∃i,xs=[.int i]∧Q (.int i) H)∨∃k,xs=[.bl k]∧Q (.int (if k then 1 else 0)) H):=by
 intro pins s σ H xs us Q I r h
 rcases h with ⟨i,rfl,q⟩|⟨k,rfl,q⟩
 ·obtain⟨u,rfl,t,rfl⟩:=vals1 r
  exact call_int_int ⟨.int i,H,I,⟨_,rfl⟩,q⟩
 ·obtain⟨u,rfl,r1⟩:=vals1 r
  cases r1
  exact call_int_bool ⟨.int (if k then 1 else 0),H,I.tok _,⟨_,rfl⟩,q⟩
def Kw(K:PySem.W.Frag)(x:V)(H:Hp)(n:Nat):Prop:=
 match x with
 |.str y=>y.length≤sizeLine∧n=y.length
 |.byt y=>y.size≤sizeLine∧n=y.size
 |.ref p=>(∃xs,cF K H p xs∧n=xs.length)∨∃xs,dq K H p xs∧n=xs.length
 |_=>False
end
end L2
namespace L2
open PySem PySem.Spec PyProof.Rows
structure uC(h:Heap)(x dx C:Addr)(mA:Str→Option Value):Prop where
 obj:h.get? x=some (instObj C dx)
 ns:h.Ns1 dx mA
 ne:dx≠x
theorem wU{h:Heap}{dx:Addr}{mA:Str→Option Value}(n:h.Ns1 dx mA):∃od,h.get? dx=some od∧∀name,lookIn name od=some (mA name):=by
 obtain⟨o,es,ep,ho,hd,hk,_,hm⟩:=n
 refine⟨o,ho,fun name=>?_⟩
 have e:=hm name
 unfold nsFind findBy at e
 rw[←Array.find?_toList]at e
 unfold lookIn
 rw[hd]
 dsimp only
 split
 ·rename_i y q
  rw[q]at e
  exact congrArg some e
 ·rename_i q
  rw[q]at e
  have a:es.toList.any (·.refKey)=false:=by
   rw[any_eq_false]
   intro y hy
   obtain⟨z,t,hkey⟩:=hk y (Array.mem_toList_iff.mp hy)
   simp[DictEntry.refKey,hkey]
  have a':¬es.toList.any (·.refKey)=true:=by rw[a];exact Bool.false_ne_true
  rw[if_neg a']
  exact congrArg some e
theorem uC.look{h:Heap}{x dx C:Addr}{mA:Str→Option Value}(I:uC h x dx C mA):∃od,PySem.W.InstAt h x (instObj C dx) C (some od)∧∀name,lookIn name od=some (mA name):=
 let ⟨od,ho,hl⟩:=wU I.ns
 ⟨od,⟨I.obj,rfl,rfl,ho⟩,hl⟩
section
variable {prog:Program}{w:World}{A:Around}{E:Value→Shared→Prop}{s:Shared}{K:PySem.W.Frag}{x dx C f:Addr}{mA:Str→Option Value}{name:Str}{v:Value}
theorem get_map{expr:Bool}{Q:Value→Shared→Prop}(X:K.In s.heap)(I:uC s.heap x dx C mA)(hg:plainGet K C name=true)(hh:hasDictIn K C=true)
  (ha:findIn K (.ref C) name=some none)(hv:mA name=some v)(hv':handedIn v=true)(h:Q v { s with toks:=s.toks+1 }):
  wpAny (model prog w) A (getAttr (.ref x) name expr) Q E s:=by
 obtain⟨od,J,hl⟩:=I.look
 exact PySem.W.get_value X J (plainGet_of hg).1 (PySem.W.findObj_own hh ha rfl (by rw[hl,hv])) hv' h
theorem zz{pl:Sem Bool}{Q:Value×List Value→Shared→Prop}(X:K.In s.heap)(I:uC s.heap x dx C mA)(hg:plainGet K C name=true)
  (hf:findIn K (.ref C) name=some (some (.ref f)))(ht:isFn K (.ref f)=true)(hv:mA name=none)(h:Q (.ref f,[.ref x]) s):
  wpAny (model prog w) A (getMethod (.ref x) name pl) Q E s:=by
 obtain⟨od,J,hl⟩:=I.look
 exact PySem.W.method_fn X J (plainGet_of hg).1 (plainGet_of hg).2 hf (beq_iff_eq.mp ht) (by show(lookIn name od).map (·.isSome)=some false;rw[hl,hv];rfl) h
theorem Bq{ns:List Str}{Q:Unit→Shared→Prop}(X:K.In s.heap)(I:uC s.heap x dx C mA)
  (hs:findIn K (.ref C) "__setattr__" =some (some (.builtin "object.__setattr__"))) (hp:plainOver K C=true) (ht:takerIn K C name=some none) (hh:hasDictIn K C=true)
  (hw:PySem.Within mA ns)(hsz:ns.length≤sizeLine)
  (h:∀h',uC h' x dx C (fun y=>if y=name then some v else mA y)→Heap.SameBut dx s.heap h'→Q () { s with heap:=h',toks:=s.toks+2 }):
  wpAny (model prog w) A (setAttr (.ref x) name v) Q E s:=by
 obtain⟨od,J,hl⟩:=I.look
 refine PySem.W.set_plain X J hs (PySem.W.osa_open (s:={ s with toks:=s.toks+1 }) (r:=none) X J hp ht fun b=>?_)
 obtain⟨cd,hc,hd'⟩:=PySem.W.any_some hh
 have hx:s.heap.get? x=some ⟨.ref C,some dx,.plain,#[]⟩:=I.obj
 refine wpAny_bind (wpAny_pure (wpAny_bind (wpAny_bind (wpAny_loadPart hx (wpAny_bind (PySem.W.Looks.here (s:={ s with toks:=s.toks+1 }) (PySem.W.looks_clsIn X hc) ?_))))))
 rw[hd']
 refine wpAny_pure (a:=some dx) (wpAny_bind (wpAny_pure (wpAny_bind ?_)))
 refine wpAny_nsSet1 (s:={ s with toks:=s.toks+1 }) I.ns fun h' hn2 hs2=>?_
 obtain⟨oD,esD,epD,hoD,hdD,hcD⟩:=hn2.count (PySem.Within.cons name v hw)
 refine wpAny_bind (wpAny_lookBehind hoD (by rw[hdD];exact pastItsLine_dict (le_trans hcD (by rw[length_cons];omega))) ?_)
 exact wpAny_pure (h _ ⟨(hs2.2 _ (Ne.symm I.ne)).trans I.obj,hn2,I.ne⟩ hs2)
theorem zA{R:Result→Shared→Prop}{vs:List Value}{kw:List (Str×Value)}(X:K.In s.heap)(hm:makesIn K C=true)
  (hi:findIn K (.ref C) "__init__" =some (some (.ref f))) (hf:PySem.W.typeIn K (.ref f)=some (.type "function"))
  (h:codeAny (model prog w) (A.under (.builtin "type.__call__" ⟨.ref C::vs,kw⟩)) (.call (.ref f) ⟨.ref (s.heap.objs.size+1)::vs,kw⟩) (PySem.W.InitBack (s.heap.objs.size+1) R)
   { s with heap:=(s.heap.push emptyDict).push (instObj C s.heap.objs.size) }):
  codeAny (model prog w) A (.call (.ref C) ⟨vs,kw⟩) R s:=by
 obtain⟨hh,g,d,t,os⟩:=s
 exact PySem.W.make_core (PySem.W.makes_of X hm) (PySem.W.looks_findIn X hi) (fun self=>PySem.W.bind_fn X self hf) (.inl rfl) h
end
def eY(f:Str)(v:V):List (Str×V)→List (Str×V)
 |[]=>[(f,v)]
 | (g,x)::r=>if g=f then(g,v)::r else(g,x)::eY f v r
theorem cJ(f g:Str)(v:V):∀fs:List (Str×V),(eY f v fs).lookup g=if g=f then some v else fs.lookup g
 |[]=>by
  show List.lookup g [(f,v)]=_
  by_cases h:g=f
  ·have hb:(g == f)=true:=beq_iff_eq.mpr h
   simp only[List.lookup,hb,if_pos h]
  ·have hb:(g == f)=false:=beq_eq_false_iff_ne.mpr h
   simp only[List.lookup,hb,if_neg h]
 | (k,x)::r=>by
  have ih:=cJ f g v r
  rw[show eY f v ((k,x)::r)=(if k=f then(k,v)::r else(k,x)::eY f v r) from rfl]
  by_cases hk:k=f
  ·rw[if_pos hk]
   by_cases h:g=k
   ·have hb:(g == k)=true:=beq_iff_eq.mpr h
    simp only[List.lookup,hb,if_pos (h.trans hk)]
   ·have hb:(g == k)=false:=beq_eq_false_iff_ne.mpr h
    simp only[List.lookup,hb,if_neg (fun e:g=f=>h (e.trans hk.symm))]
  ·rw[if_neg hk]
   by_cases h:g=k
   ·have hb:(g == k)=true:=beq_iff_eq.mpr h
    simp only[List.lookup,hb,if_neg (fun e:g=f=>hk (h.symm.trans e))]
   ·have hb:(g == k)=false:=beq_eq_false_iff_ne.mpr h
    simp only[List.lookup,hb]
    exact ih
theorem kA(f:Str)(v:V):∀fs:List (Str×V),f∈(eY f v fs).map (·.1)∧∀g,g∈fs.map (·.1)→g∈(eY f v fs).map (·.1)
 |[]=>⟨by simp[eY],fun g h=>by simp at h⟩
 | (k,x)::r=>by
  obtain⟨i1,i2⟩:=kA f v r
  rw[show eY f v ((k,x)::r)=(if k=f then(k,v)::r else(k,x)::eY f v r) from rfl]
  by_cases hk:k=f
  ·rw[if_pos hk]
   subst hk
   exact⟨by simp,fun g h=>by simpa using h⟩
  ·rw[if_neg hk]
   refine⟨?_,fun g h=>?_⟩
   ·rw[map_cons]
    exact mem_cons_of_mem _ i1
   ·rw[map_cons]at h ⊢
    rcases mem_cons.mp h with e|e
    ·exact mem_cons.mpr (.inl e)
    ·exact mem_cons_of_mem _ (i2 g e)
theorem lR(f:Str)(v:V):∀fs:List (Str×V),(eY f v fs).length≤fs.length+1
 |[]=>by simp[eY]
 | (k,x)::r=>by
  have ih:=lR f v r
  rw[show eY f v ((k,x)::r)=(if k=f then(k,v)::r else(k,x)::eY f v r) from rfl]
  by_cases hk:k=f
  ·rw[if_pos hk,length_cons,length_cons];omega
  ·rw[if_neg hk,length_cons,length_cons];omega
theorem ip.some_of{v:V}{o:Option Value}(r:ip (some v) o):∃u,o=some u∧RelV v u:=by
 cases o with
 |none=>exact(show False from r).elim
 |some u=>exact⟨u,rfl,r⟩
theorem ip.none_of{o:Option Value}(r:ip none o):o=none:=by
 cases o with
 |none=>rfl
 |some u=>exact(show False from r).elim
theorem xw{v:V}{u:Value}(r:RelV v u):handedIn u=true:=by
 cases v with
 |non=>cases (show u=Value.none from r);rfl
 |bl b=>cases (show u=Value.bool b from r);rfl
 |int i=>obtain⟨t,e⟩:=(show ∃t,u=Value.int i t from r);cases e;rfl
 |str x=>obtain⟨t,e⟩:=(show ∃t,u=Value.str x t from r);cases e;rfl
 |byt b=>obtain⟨t,e⟩:=(show ∃t,u=Value.bytes b t from r);cases e;rfl
 |flt b=>obtain⟨t,e⟩:=(show ∃t,u=Value.float b t from r);cases e;rfl
 |ref a=>cases (show u=Value.ref a from r);rfl
 |ty n=>cases (show u=Value.type n from r);rfl
section
variable {P:Program}{w:World}{H H':Hp}{h h':Heap}{a C dx:Addr}{fs fs':List (Str×V)}
theorem mh(hok:gF P w H h)(e:H a=some (.ins C dx fs)):∃mA,uC h a dx C mA∧(∀f,ip (fs.lookup f) (mA f))∧PySem.Within mA (fs.map (·.1))∧fs.length≤1000∧H dx=some (.own a):=by
 obtain⟨d,z,ne,ob,mA,n,r,q⟩:=(show cV P w H h a (.ins C dx fs) from hok a _ e)
 exact⟨mA,⟨ob,n,ne⟩,r,q,z,d⟩
end
structure tI(K:PySem.W.Frag)(C:Addr):Prop where
 pg:plainGet K C Str.empty=true
 hd:hasDictIn K C=true
 po:plainOver K C=true
 sa:findIn K (.ref C) "__setattr__" =some (some (.builtin "object.__setattr__"))
theorem tI.get{K:PySem.W.Frag}{C:Addr}(c:tI K C)(f:Str):plainGet K C f=true:=c.pg
def fE(K:PySem.W.Frag)(C:Addr)(f:Str):Prop:=findIn K (.ref C) f=some none
theorem fE.FV{K:PySem.W.Frag}{C:Addr}{f:Str}(n:fE K C f):takerIn K C f=some none:=by
 unfold takerIn
 rw[show findIn K (.ref C) f=some none from n]
 rfl
structure J5(K:PySem.W.Frag)(C:Addr)(f:Str)(v:V)(u:Value):Prop where
 at_:findIn K (.ref C) f=some (some u)
 rel:RelV v u
 get:specialIn K u "__get__" =some none
 cp:PySem.W.copiedNames.contains f=false
structure Meth(K:PySem.W.Frag)(C:Addr)(m:Str)(f:Addr):Prop where
 at_:findIn K (.ref C) m=some (some (.ref f))
 fn:isFn K (.ref f)=true
 kp:keepIn K (.ref f)=true
section
variable {X:Cx}{pins:List (Addr×Obj)}{σ:St}{H:Hp}{s:Shared}{a C dx:Addr}{fs:List (Str×V)}{f:Str}{v:V}{A:Around}{E:Value→Shared→Prop}
theorem u3{b:Bool}{Q:Value→Shared→Prop}(I:Inv X pins σ H s)(e:H a=some (.ins C dx fs))(c:tI X.K C)(n:fE X.K C f)(l:fs.lookup f=some v)
  (h:∀u s',Inv X pins σ H s'→RelV v u→Q u s'):wpAny (model X.prog X.w) A (getAttr (.ref a) f b) Q E s:=by
 obtain⟨mA,O,r,_,_,_⟩:=mh I.hok e
 obtain⟨u,hu,ru⟩:=ip.some_of (v:=v) (o:=mA f) (by rw[←l];exact r f)
 exact get_map I.lV O (c.get f) c.hd n hu (xw ru) (h u _ (I.tok _) ru)
theorem uh{m:Str}{g:Addr}{pl:Sem Bool}{Q:Value×List Value→Shared→Prop}(I:Inv X pins σ H s)(e:H a=some (.ins C dx fs))(c:tI X.K C)(k:Meth X.K C m g)(l:fs.lookup m=none)
  (h:Q (.ref g,[.ref a]) s):wpAny (model X.prog X.w) A (getMethod (.ref a) m pl) Q E s:=by
 obtain⟨mA,O,r,_,_,_⟩:=mh I.hok e
 have hn:mA m=none:=ip.none_of (by rw[←l];exact r m)
 exact zz I.lV O (c.get m) k.at_ k.fn hn h
theorem uF{y:V}{u:Value}{Q:Unit→Shared→Prop}(I:Inv X pins σ H s)(e:H a=some (.ins C dx fs))(c:tI X.K C)(n:fE X.K C f)(hl:fs.length < 1000)(ry:RelV y u)
  (h:∀s',Inv X pins σ (upd H a (.ins C dx (eY f y fs))) s'→Q () s'):wpAny (model X.prog X.w) A (setAttr (.ref a) f u) Q E s:=by
 obtain⟨mA,O,r,wi,_,ho⟩:=mh I.hok e
 have hz:(fs.map (·.1)).length≤sizeLine:=by rw[length_map,sizeLine_eq];omega
 refine Bq I.lV O c.sa c.po n.FV c.hd wi hz fun h' O' sb=>h _ ?_
 have hd:∃o,h'.get? dx=some o:=let ⟨o,_,_,e',_⟩:=O'.ns;⟨o,e'⟩
 refine I.write (x:=a) (e:=dx) (by rw[e];exact True.intro) (.inr ho) (fun b q hb z=>(sb.2 b hb).trans z) hd ?_
 refine⟨by rw[cC O.ne];exact ho,?_,O.ne,O'.obj,_,O'.ns,fun g=>?_,fun g hg=>?_⟩
 ·have:=lR f y fs;omega
 ·show ip ((eY f y fs).lookup g) (if g=f then some u else mA g)
  rw[cJ]
  by_cases q:g=f
  ·rw[if_pos q,if_pos q];exact ry
  ·rw[if_neg q,if_neg q];exact r g
 ·by_cases q:g=f
  ·rw[q];exact(kA f y fs).1
  ·refine(kA f y fs).2 g (wi g fun z=>hg ?_)
   show(if g=f then some u else mA g)=none
   rw[if_neg q];exact z
theorem Inv.made(I:Inv X pins σ H s):Inv X pins σ (upd (upd H s.heap.objs.size (.own (s.heap.objs.size+1))) (s.heap.objs.size+1) (.ins C s.heap.objs.size []))
  { s with heap:=(s.heap.push emptyDict).push (instObj C s.heap.objs.size) }:=by
 have e1:(s.heap.push emptyDict).get? s.heap.objs.size=some emptyDict:=get?_push_size s.heap rfl
 have e2:((s.heap.push emptyDict).push (instObj C s.heap.objs.size)).get? (s.heap.objs.size+1)=some (instObj C s.heap.objs.size):=by
  have:=get?_push_size (s.heap.push emptyDict) (o:=instObj C s.heap.objs.size) rfl
  rwa [size_push]at this
 have e3:(s.heap.push emptyDict).Ns s.heap.objs.size (fun _=>none):=⟨emptyDict,#[],_,e1,rfl,(fun e he=>absurd he (by simp)),fun _=>rfl⟩
 have I1:=I.laid (a:=s.heap.objs.size) (o:=.own (s.heap.objs.size+1)) (h':=s.heap.push emptyDict) (t':=s.toks) (fun b u q=>get?_push_of_some _ q) (le_refl _) ⟨_,e1⟩
 refine I1.laid (a:=s.heap.objs.size+1) (o:=.ins C s.heap.objs.size []) (t':=s.toks) (fun b u q=>get?_push_of_some _ q) (le_of_eq (size_push _ _)) ?_
 have ne:s.heap.objs.size≠s.heap.objs.size+1:=ne_of_lt (lt_succ_self _)
 refine⟨by rw[cC ne,cy],zero_le _,ne,e2,fun _=>none,(Heap.Ns1.of_empty e3).at fun o q=>get?_push_of_some _ q,fun _=>True.intro,fun y hy=>absurd rfl hy⟩
theorem BJ{prog:Program}{w:World}{env:Env}{e:Expr}{f:Str}{pos:Pos}{s:Shared}{Q:Value→Shared→Prop}(hb:attributeBase e f env (eval e env)=eval e env)
  (h:wpAny (model prog w) A (eval e env) (fun o s₁=>wpAny (model prog w) A (getAttr o f true) Q E s₁) E s):wpAny (model prog w) A (eval (.Attribute e f pos) env) Q E s:=
 Attribute_any_ h (by rw[arm_eval_Attribute,hb])
end
inductive IL(K:PySem.W.Frag)(f:Str)(x:V)(H:Hp)(Q:VK):Prop
 |mk(a C dx:Addr)(fs:List (Str×V))(v:V)(hx:x=.ref a)(h:H a=some (.ins C dx fs))(c:tI K C)(n:fE K C f)(l:fs.lookup f=some v)(q:Q v H)
def GQ(K:PySem.W.Frag)(ta:TE)(f:Str):TE:=fun σ H Q=>ta σ H fun x H1=>IL K f x H1 Q
def Kh(K:PySem.W.Frag)(ta:TE)(f:Str):TE:=fun σ H Q=>ta σ H fun x H1=>∃a C dx fs v u,x=.ref a∧H1 a=some (.ins C dx fs)∧tI K C∧J5 K C f v u∧fs.lookup f=none∧Q v H1
def FC(K:PySem.W.Frag)(ta tv:TE)(f:Str):TS:=fun D σ H=>tv σ H fun y H1=>ta σ H1 fun x H2=>∃a C dx fs,x=.ref a∧H2 a=some (.ins C dx fs)∧tI K C∧fE K C f∧fs.length < 1000∧
 D.nx σ (upd H2 a (.ins C dx (eY f y fs)))
def J0(X:Cx)(op:Operator)(rd:V→V→Hp→VK→Prop):Prop:=
 ∀(pins:List (Addr×Obj)) (s:Shared) (σ:St) (H:Hp) (x y:V) (u v:Value) (Q:VK),Inv X pins σ H s→RelV x u→RelV y v→rd x y H Q→wpAny (model X.prog X.w) X.A (inplaceOp op u v) (EP X pins σ Q) X.xe s
def HC(K:PySem.W.Frag)(ta tv:TE)(rd:V→V→Hp→VK→Prop)(f:Str):TS:=fun D σ H=>ta σ H fun x H1=>∃a C dx fs v,x=.ref a∧H1 a=some (.ins C dx fs)∧tI K C∧fE K C f∧fs.lookup f=some v∧
 tv σ H1 fun y H2=>rd v y H2 fun z H3=>∃dx' fs',H3 a=some (.ins C dx' fs')∧fs'.length < 1000∧D.nx σ (upd H3 a (.ins C dx' (eY f z fs')))
section
variable {X:Cx}{o e value:Expr}{f:Str}{pos pos' tpos:Pos}{ta tv:TE}
theorem DT(he:PE X e ta)(hb:attributeBase e f X.env (eval e X.env)=eval e X.env):PE X (.Attribute e f pos) (GQ X.K ta f):=by
 intro pins s σ H Q I h
 refine BJ hb (cX (he pins s σ H _ I h) fun u s1 hpat=>?_)
 obtain⟨x,H1,I1,rx,a,C,dx,fs,v,ex,ea,c,n,l,q⟩:=hpat
 subst ex
 obtain rfl:u=Value.ref a:=rx
 exact u3 I1 ea c n l fun u' s2 I2 ru=>⟨v,H1,I2,ru,q⟩
theorem kQ(ha:PE X o ta)(hv:PE X value tv)(hs:swapsWith value (some (.Attribute o f pos')) pos.line X.env=pure false):PS X (.Assign [.Attribute o f pos'] value pos) (FC X.K ta tv f):=by
 intro pins s σ H D I h
 refine plainObj_wpAny_Assign_Attribute (cX (hv pins s σ H _ I h) fun u s1 ⟨y,H1,I1,ry,q⟩=>cX (ha pins s1 σ H1 _ I1 q) fun ov s2 hpat=>?_) hs
 obtain⟨x,H2,I2,rx,a,C,dx,fs,ex,ea,c,n,l,q2⟩:=hpat
 subst ex
 obtain rfl:ov=Value.ref a:=rx
 exact uF I2 ea c n l ry fun s3 I3=>⟨σ,_,I3,q2⟩
def J8:V→V→Hp→VK→Prop:=fun x y H Q=>∃i j,x=.int i∧y=.int j∧Q (.int (i+j)) H
def Kl:V→V→Hp→VK→Prop:=fun x y H Q=>∃i j,x=.int i∧y=.int j∧Q (.int (i - j)) H
end
section
variable {X:Cx}{pins:List (Addr×Obj)}{σ:St}{H:Hp}{s:Shared}{A:Around}{E:Value→Shared→Prop}{Q:Value→Shared→Prop}{c:Value}{b:Bool}
inductive fO(K:PySem.W.Frag)(H:Hp):V→Value→Prop where
 |non:fO K H .non (.type "NoneType")
 |bl (x:Bool):fO K H (.bl x) (.type "bool")
 |int (i:Int):fO K H (.int i) (.type "int")
 |str (x:Str):fO K H (.str x) (.type "str")
 |flt (x:UInt64):fO K H (.flt x) (.type "float")
 |lst {a:Addr}{xs:List V}(e:H a=some (.lst xs)):fO K H (.ref a) (.type "list")
 |frz {a:Addr}{o:Obj}{xs:List V}(e:H a=some (.frz o (.lst xs))):fO K H (.ref a) (.type "list")
 |tup {a:Addr}{xs:List V}(e:H a=some (.tup xs)):fO K H (.ref a) (.type "tuple")
 |dK {a:Addr}{kvs:List (Key×V)}(e:H a=some (.dK kvs)):fO K H (.ref a) (.type "dict")
 |dT {a:Addr}{kvs:List (List Key×V)}(e:H a=some (.dT kvs)):fO K H (.ref a) (.type "dict")
 |ins {a C dx:Addr}{fs:List (Str×V)}(e:H a=some (.ins C dx fs)) (cl:tI K C) (ha:findIn K (.ref C) "__class__" =some (some (.builtin "object.__class__")))
   (hn:specialIn K (.builtin "object.__class__") "__get__" =some (some (.builtin "getset_descriptor.__get__"))) (htk:PySem.W.takesIn K (.builtin "object.__class__")=some true)
   (hm:PySem.W.mroIn K C (.type "object")=some true):fO K H (.ref a) (.ref C)
theorem wD{x:V}{u t:Value}(I:Inv X pins σ H s)(rx:RelV x u)(ty:fO X.K H x t)(e:kitOne X.K t c=some b)(h:∀tk,Q (.bool b) { s with toks:=tk }):
  wpAny (model X.prog X.w) A (call (.builtin "isinstance") [u,c]) Q E s:=by
 cases ty with
 |non=>cases (show u=Value.none from rx);exact kia_one PySem.W.kitx_none I.lV True.intro e (fun z=>nomatch z) h
 |bl y=>cases (show u=Value.bool y from rx);exact kia_one PySem.W.kitx_bool I.lV True.intro e (fun z=>nomatch z) h
 |int i=>obtain⟨t,q⟩:=(show ∃t,u=Value.int i t from rx);cases q;exact kia_one PySem.W.kitx_int I.lV True.intro e (fun z=>nomatch z) h
 |str y=>obtain⟨t,q⟩:=(show ∃t,u=Value.str y t from rx);cases q;exact kia_one PySem.W.kitx_str I.lV True.intro e (fun z=>nomatch z) h
 |flt y=>obtain⟨t,q⟩:=(show ∃t,u=Value.float y t from rx);cases q;exact kia_one PySem.W.kitx_float I.lV True.intro e (fun z=>nomatch z) h
 | @lst a xs ea=>
  cases (show u=Value.ref a from rx)
  obtain⟨_,_,n,_,h1⟩:=(show cV X.prog X.w H s.heap a (.lst xs) from I.hok a _ ea)
  exact kia_one kitx_list I.lV ⟨_,h1,rfl⟩ e (fun z=>nomatch z) h
 | @frz a ob xs ea=>
  cases (show u=Value.ref a from rx)
  obtain⟨_,_,_,n,_,h1⟩:=(show cV X.prog X.w H s.heap a (.frz ob (.lst xs)) from I.hok a _ ea)
  exact kia_one kitx_list I.lV ⟨_,h1,rfl⟩ e (fun z=>nomatch z) h
 | @tup a xs ea=>
  cases (show u=Value.ref a from rx)
  obtain⟨_,_,_,p⟩:=(show cV X.prog X.w H s.heap a (.tup xs) from I.hok a _ ea)
  obtain⟨o,h1,h2,_⟩:=p
  exact kia_one PySem.W.kitx_tuple I.lV ⟨o,h1,h2⟩ e (fun z=>nomatch z) h
 | @dK a kvs ea=>
  cases (show u=Value.ref a from rx)
  obtain⟨_,_,vs,_,p⟩:=(show cV X.prog X.w H s.heap a (.dK kvs) from I.hok a _ ea)
  obtain⟨o,es,ep,h1,h2,_⟩:=p
  exact kia_one kitx_dict I.lV ⟨o,h1,h2.1⟩ e (fun z=>nomatch z) h
 | @dT a kvs ea=>
  cases (show u=Value.ref a from rx)
  obtain⟨_,_,xs,_,o,es,ep,h1,h2,_⟩:=(show cV X.prog X.w H s.heap a (.dT kvs) from I.hok a _ ea)
  exact kia_one kitx_dict I.lV ⟨o,h1,h2.1⟩ e (fun z=>nomatch z) h
 | @ins a C dx fs ea cl ha hn htk hm=>
  cases (show u=Value.ref a from rx)
  obtain⟨mA,O,_⟩:=mh I.hok ea
  obtain⟨od,J,_⟩:=O.look
  exact kia_one (PySem.W.kitx_own (cl.get _) cl.hd ha hn htk hm) I.lV J e (fun z=>nomatch z) h
end
end L2
namespace L2
open PySem PySem.Spec PyProof.Rows
structure dD(k:Nat)(A:Around):Prop where
 hd:A.handled=none
 dp:A.depth+3 * k+5 < recursionLimit
 un:A.units+16 * k+200 < cLine
theorem dD.mono{j k:Nat}{A:Around}(r:dD k A)(h:j≤k):dD j A:=⟨r.hd,by have:=r.dp;omega,by have:=r.un;omega⟩
theorem dD.deeper{k:Nat}{A:Around}(r:dD (k+1) A)(env:Env):dD k (A.deeper env):=
 ⟨r.hd,by have:=r.dp;show A.depth+1+3 * k+5 < _;omega,by have:=r.un;show A.units+3+16 * k+200 < _;omega⟩
theorem dD.in1{k:Nat}{A:Around}(r:dD (k+1) A):dD k A.in1:=
 ⟨r.hd,by have:=r.dp;show A.depth+3 * k+5 < _;omega,by have:=r.un;show A.units+1+16 * k+200 < _;omega⟩
theorem uN{A:Around}{C:Addr}{us:List Value}{kw:List (Str×Value)}:(A.under (.builtin "type.__call__" ⟨.ref C::us,kw⟩)).depth=A.depth+1:=by
 first|rfl|simp[Around.under,Code.weight,Code.isCreation,Code.isGuard,Code.isCaller,Code.frames,Code.isFrame,guardIds]
theorem uW{A:Around}{C:Addr}{us:List Value}{kw:List (Str×Value)}:(A.under (.builtin "type.__call__" ⟨.ref C::us,kw⟩)).units=A.units+1:=by
 first|rfl|simp[Around.under,Code.cUnits,Code.frames,Code.isFrame]
theorem dD.make{k:Nat}{A:Around}(r:dD (k+1) A)(C:Addr)(us:List Value)(kw:List (Str×Value)):dD k (A.under (.builtin "type.__call__" ⟨.ref C::us,kw⟩)):=
 ⟨r.hd,by have:=r.dp;rw[uN];omega,by have:=r.un;rw[uW];omega⟩
theorem dD.depth{k:Nat}{A:Around}(r:dD k A):A.depth < recursionLimit:=by have:=r.dp;omega
theorem dD.units{k:Nat}{A:Around}(r:dD k A):A.units+64 < cLine:=by have:=r.un;omega
def nj:TA:=fun _ H Q=>Q [] H
def dG(ta:TE)(tr:TA):TA:=fun σ H Q=>ta σ H fun x H1=>tr σ H1 fun xs H2=>Q (x::xs) H2
section
variable {X:Cx}{e:Expr}{es:List Expr}{te:TE}{t:TA}{pos:Pos}
theorem jk:PA X [] nj:=fun _ _ _ _ H Q I h=>Calls.spliced_nil ⟨[],H,I,.nil,h⟩
theorem eP(ha:PE X e te)(hr:PA X es t)(hs:starEach (e::es) X.env=(false,eval e X.env)::starEach es X.env:=by rfl):PA X (e::es) (dG te t):=by
 intro pos pins s σ H Q I h
 rw[hs]
 show wpAny _ _ (spliced ((false,eval e X.env)::backTo pos (starEach es X.env))) _ _ s
 refine Calls.spliced_cons (cX (ha pins s σ H _ I h) fun u s1 hpat=>?_)
 obtain⟨x,H1,I1,r1,q1⟩:=hpat
 exact cX (hr pos pins s1 σ H1 _ I1 q1) fun us s2 ⟨xs,H2,I2,r2,q2⟩=>⟨x::xs,H2,I2,.cons r1 r2,q2⟩
def Gq(t:TA):TE:=fun σ H Q=>t σ H fun xs H1=>xs.length≤sizeLine∧∀p,H1 p=none→Q (.ref p) (upd H1 p (.tup xs))
def FO(t:TA):TE:=fun σ H Q=>t σ H fun xs H1=>xs.length≤sizeLine∧∀p,H1 p=none→Q (.ref p) (upd H1 p (.lst xs))
theorem Ei{x1}(h:PA X es t):PE X (.Tuple es x1 pos) (Gq t):=by
 intro pins s σ H Q I hq
 refine wpAny_Tuple_spliced (cX (h pos pins s σ H _ I hq) fun us s1 ⟨xs,H1,I1,r,z,q⟩=>⟨by rw[←r.length];exact z,?_⟩)
 have hf:H1 s1.heap.objs.size=none:=I1.hok.fresh (le_refl _)
 refine⟨.ref s1.heap.objs.size,upd H1 s1.heap.objs.size (.tup xs),I1.laid (t':=s1.toks) (fun b u e=>get?_push_of_some _ e) (le_refl _) ?_,rfl,q _ hf⟩
 exact⟨z,us,r,⟨_,get?_push_size _ rfl,rfl,_,rfl⟩⟩
theorem DP(h:PA X es t):PE X (.List es pos) (FO t):=by
 intro pins s σ H Q I hq
 refine wpAny_List_spliced (cX (h pos pins s σ H _ I hq) fun us s1 ⟨xs,H1,I1,r,z,q⟩=>⟨by rw[←r.length];exact z,?_⟩)
 have hf:H1 s1.heap.objs.size=none:=I1.hok.fresh (le_refl _)
 refine⟨.ref s1.heap.objs.size,upd H1 s1.heap.objs.size (.lst xs),I1.laid (t':=s1.toks) (fun b u e=>get?_push_of_some _ e) (le_refl _) ?_,rfl,q _ hf⟩
 exact⟨z,us,0,r,get?_push_size _ rfl⟩
end
abbrev Sp:=List V→Hp→VK→XK→Prop
abbrev yH:=List Env→Hp→Shared→XK→Value→Shared→Prop
structure oW(P:Program)(w:World)(K:PySem.W.Frag)(mg:Str→Option Value)(base:Heap)(A:Around)(outer:List Env)(s:Shared)(H:Hp):Prop where
 frames:A.frames=some outer
 mod:Mod K mg base
 bs:∀b o,base.get? b=some o→s.heap.get? b=some o∧H b=none
 bsz:base.objs.size≤s.heap.objs.size
 kG:s.heap.FunFrames base outer
 frf:∀b∈wR outer,H b=none
 hok:gF P w H s.heap
 bare:AllBare s.gens
def CE(outer:List Env)(P:Program)(w:World)(H:Hp)(s:Shared)(Q:VK)(u:Value)(s':Shared):Prop:=
 ∃v H',s'.os=s.os∧AllBare s'.gens∧Un (wR outer) [] H H' s.heap s'.heap∧gF P w H' s'.heap∧RelV v u∧Q v H'
def CR(CX:yH)(outer:List Env)(P:Program)(w:World)(H:Hp)(s:Shared)(Q:VK)(E:XK)(r:Result)(s':Shared):Prop:=
 match r with
 |.ok (.ret u)=>CE outer P w H s Q u s'
 |.ok _=>False
 |.error e=>CX outer H s E e s'
structure eD(P:Program)(w:World)(K:PySem.W.Frag)(mg:Str→Option Value)(base:Heap)(CX:yH)(k:Nat)(f:Addr)(fd:FuncData)(ps:List Str)(sp:Sp):Prop where
 len:∀vs H Q E,sp vs H Q E→vs.length=ps.length
 run:∀(A:Around) (outer:List Env) (s:Shared) (H:Hp) (args:Args) (us:List Value) (vs:List V) (Q:VK) (E:XK),dD k A→oW P w K mg base A outer s H→BindsTo s fd args (ps.zip us)→Vals vs us→sp vs H Q E→
  codeAny (model P w) A (.call (.ref f) args) (CR CX outer P w H s Q E) s
theorem oW.make{P:Program}{w:World}{K:PySem.W.Frag}{mg:Str→Option Value}{base:Heap}{A:Around}{outer:List Env}{s:Shared}{H:Hp}(e:oW P w K mg base A outer s H)(C:Addr)(us:List Value)(kw:List (Str×Value)):
  oW P w K mg base (A.under (.builtin "type.__call__" ⟨.ref C::us,kw⟩)) outer s H:=⟨by first|exact e.frames| (simpa [Around.under,Code.envs,Code.isFrame,pushEnvs] using e.frames),e.mod,e.bs,e.bsz,e.kG,e.frf,e.hok,e.bare⟩
theorem oW.in1{P:Program}{w:World}{K:PySem.W.Frag}{mg:Str→Option Value}{base:Heap}{A:Around}{outer:List Env}{s:Shared}{H:Hp}(e:oW P w K mg base A outer s H):
  oW P w K mg base A.in1 outer s H:=⟨e.frames,e.mod,e.bs,e.bsz,e.kG,e.frf,e.hok,e.bare⟩
section
variable {X:Cx}{pins:List (Addr×Obj)}{σ:St}{H:Hp}{s s':Shared}
theorem Inv.En(I:Inv X pins σ H s):oW X.prog X.w X.K X.mg X.base X.A X.stack s H:=
 ⟨I.ok.frames,I.ok.mod,I.bs,le_trans I.ok.bsz I.sz,I.stack,I.v3,I.hok,I.bare⟩
theorem Inv.after{Q:VK}{u:Value}(I:Inv X pins σ H s)(h:CE X.stack X.prog X.w H s Q u s'):EP X pins σ Q u s':=by
 obtain⟨v,H',os,bare,un,hok,r,q⟩:=h
 obtain⟨hh,g,d,t,os'⟩:=s'
 obtain rfl:os'=s.os:=os
 exact⟨v,H',I.call (h':=hh) (g':=g) (d':=d) (t':=t) (ch:=[]) un hok bare (fun b z=>absurd z (by simp)),r,q⟩
end
def rF(sp:Sp)(dvs:List V)(E:XK)(t:TA):TE:=fun σ H Q=>t σ H fun vs H1=>sp (vs++dvs) H1 Q E
inductive MethP(C:Addr)(m:Str)(x:V)(H:Hp)(G:Prop):Prop
 |mk(a dx:Addr)(fs:List (Str×V))(hx:x=.ref a)(h:H a=some (.ins C dx fs))(l:fs.lookup m=none)(q:G)
def CL(C:Addr)(m:Str)(sp:Sp)(dvs:List V)(E:XK)(ta:TE)(t:TA):TE:=fun σ H Q=>ta σ H fun x H1=>MethP C m x H1 (t σ H1 fun vs H2=>sp (x::(vs++dvs)) H2 Q E)
def C1(C:Addr)(sp:Sp)(dvs:List V)(E:XK)(t:TA):TE:=fun σ H Q=>t σ H fun vs H1=>∀x dx,H1 x=none→H1 dx=none→dx≠x→
 sp (.ref x::(vs++dvs)) (upd (upd H1 dx (.own x)) x (.ins C dx [])) (fun v H2=>v=.non∧Q (.ref x) H2) E
def Binds(K:PySem.W.Frag)(fd:FuncData)(ps:List Str)(ds:List Value):Prop:=
 ∀(s:Shared) (us:List Value),K.In s.heap→(us++ds).length=ps.length→BindsTo s fd ⟨us,[]⟩ (ps.zip (us++ds))
theorem Binds.all{K:PySem.W.Frag}{fd:FuncData}{ps:List Str}(h:∀us:List Value,us.length=ps.length→bindArgs fd ⟨us,[]⟩=pure (ps.zip us)):Binds K fd ps []:=fun s us _ hl=>by
 rw[append_nil]at hl ⊢
 exact .of_eq (h us hl)
def Passes(CX:yH)(X:Cx)(E:XK):Prop:=∀(pins:List (Addr×Obj)) (σ:St) (H:Hp) (s:Shared) (e:Value) (s':Shared),Inv X pins σ H s→CX X.stack H s E e s'→X.xe e s'
section
variable {X:Cx}{CX:yH}{k:Nat}{f C:Addr}{fd:FuncData}{ps:List Str}{sp:Sp}{dvs:List V}{ds:List Value}{E:XK}{x m:Str}{p pos apos:Pos}{e o:Expr}{es:List Expr}{ta:TE}{t:TA}
theorem Ad{pins:List (Addr×Obj)}{σ:St}{H:Hp}{s:Shared}{Q:VK}{us:List Value}{vs:List V}(F:eD X.prog X.w X.K X.mg X.base CX k f fd ps sp)(hr:dD k X.A)(hb:Binds X.K fd ps ds)(hd:Vals dvs ds)(hx:Passes CX X E)
  (I:Inv X pins σ H s)(r:Vals vs us)(h:sp (vs++dvs) H Q E):wpAny (model X.prog X.w) X.A (call (.ref f) us) (EP X pins σ Q) X.xe s:=by
 have r2:Vals (vs++dvs) (us++ds):=r.append hd
 have hl:(us++ds).length=ps.length:=by rw[←r2.length];exact F.len _ _ _ _ h
 refine wpAny_call (codeAny_mono (F.run X.A X.stack s H ⟨us,[]⟩ (us++ds) (vs++dvs) Q E hr I.En (hb s us I.lV hl) r2 h) fun r s' hq=>?_)
 cases r with
 |error e=>exact hx pins σ H s e s' I hq
 |ok fl=>
  cases fl with
  |ret u=>exact I.after hq
  |next=>exact False.elim hq
  |brk=>exact False.elim hq
  |cont=>exact False.elim hq
theorem vz(F:eD X.prog X.w X.K X.mg X.base CX k f fd ps sp)(hr:dD k X.A)(hg:Gl X x)(hm:X.mg x=some (.ref f))(hk:keepIn X.K (.ref f)=true)(hb:Binds X.K fd ps ds)(hd:Vals dvs ds)(hx:Passes CX X E)
  (ha:PA X (e::es) t) (hdb:(x == ("__debug__" :Str))=false:=by decide) (he:starEach (e::es) X.env=(false,eval e X.env)::starEach es X.env:=by rfl) (hpl:(backTo pos (starEach es X.env)).any (·.1)=false:=by rfl):
  PE X (.Call (.Name x p) (e::es) [] pos) (rF sp dvs E t):=by
 intro pins s σ H Q I h
 refine wpAny_Call_Name_kw (ki I hg hm ?_ hdb)
 refine callWith_K (h₀:=X.base) I.ok.mod.kin hk (cX (ha pos pins s σ H _ I h) fun us s1 ⟨vs,H1,I1,r,q⟩=>⟨I1.lV,?_⟩) he hpl
 exact Ad F hr hb hd hx I1 r q
theorem zc{pl:Sem Bool}(he:PE X o ta)(c:tI X.K C)(hm:Meth X.K C m f)(F:eD X.prog X.w X.K X.mg X.base CX k f fd ps sp)(hr:dD k X.A)(hb:Binds X.K fd ps ds)(hd:Vals dvs ds)(hx:Passes CX X E)
  (ht:eval (.Call (.Attribute o m apos) [] [] pos) X.env=(do
   let ov ←eval o X.env
   standAt apos.atName
   let (f,first) ←holding [ov] (getMethod ov m pl)
   callWith pos f first (backTo pos (starEach [] X.env)) (backToKw pos (keywordEach [] X.env))):=by rfl):
  PE X (.Call (.Attribute o m apos) [] [] pos) (CL C m sp dvs E ta nj):=by
 intro pins s σ H Q I h
 refine PySem.W.methodCall_KW (pl:=pl) (cX (he pins s σ H _ I h) fun u s1 hpat=>?_) ht
 obtain⟨x,H1,I1,rx,a,dx,fs,ex,ea,l,q⟩:=hpat
 subst ex
 obtain rfl:u=Value.ref a:=rx
 refine uh I1 ea c hm l ?_
 exact PySem.W.callWith_K0 (first:=[.ref a]) I1.lV hm.kp (Ad (us:=[.ref a]) (vs:=[.ref a]) F hr hb hd hx I1 (.cons rfl .nil) q)
structure Mk(K:PySem.W.Frag)(C f:Addr):Prop where
 makes:makesIn K C=true
 init:findIn K (.ref C) "__init__" =some (some (.ref f))
 fn:isFn K (.ref f)=true
 kp:keepIn K (.ref C)=true
theorem Am{pins:List (Addr×Obj)}{σ:St}{H:Hp}{s:Shared}{Q:VK}{us:List Value}{vs:List V}(M:Mk X.K C f)(F:eD X.prog X.w X.K X.mg X.base CX k f fd ps sp)(hr:dD (k+1) X.A)(hb:Binds X.K fd ps ds)(hd:Vals dvs ds)
  (hx:Passes CX X E)(I:Inv X pins σ H s)(r:Vals vs us)
  (h:∀x dx,H x=none→H dx=none→dx≠x→sp (.ref x::(vs++dvs)) (upd (upd H dx (.own x)) x (.ins C dx [])) (fun v H2=>v=.non∧Q (.ref x) H2) E):
  wpAny (model X.prog X.w) X.A (call (.ref C) us) (EP X pins σ Q) X.xe s:=by
 have hq:=h (s.heap.objs.size+1) s.heap.objs.size (I.hok.fresh (le_succ _)) (I.hok.fresh (le_refl _)) (ne_of_lt (lt_succ_self _))
 have I2:=Inv.made (C:=C) I
 have r2:Vals (V.ref (s.heap.objs.size+1)::(vs++dvs)) (Value.ref (s.heap.objs.size+1)::(us++ds)):=.cons rfl (r.append hd)
 have hl:(Value.ref (s.heap.objs.size+1)::us++ds).length=ps.length:=by
  have e:=r2.length
  rw[F.len _ _ _ _ hq]at e
  exact e.symm
 refine wpAny_call (zA (f:=f) I.lV M.makes M.init (beq_iff_eq.mp M.fn) (codeAny_mono (F.run _ X.stack _ _ ⟨Value.ref (s.heap.objs.size+1)::us,[]⟩ (Value.ref (s.heap.objs.size+1)::(us++ds)) _ _ E (hr.make C us [])
  (I2.En.make C us []) (hb _ (Value.ref (s.heap.objs.size+1)::us) I2.lV hl) r2 hq) fun r s' hq'=>?_))
 cases r with
 |error e=>exact hx pins σ _ _ e s' I2 hq'
 |ok fl=>
  cases fl with
  |ret u=>
   obtain⟨v,H',I3,rv,ev,q3⟩:=I2.after hq'
   subst ev
   exact⟨rv,⟨V.ref (s.heap.objs.size+1),H',I3,rfl,q3⟩⟩
  |next=>exact False.elim hq'
  |brk=>exact False.elim hq'
  |cont=>exact False.elim hq'
theorem Bu(M:Mk X.K C f)(F:eD X.prog X.w X.K X.mg X.base CX k f fd ps sp)(hr:dD (k+1) X.A)(hg:Gl X x)(hm:X.mg x=some (.ref C))(hb:Binds X.K fd ps ds)(hd:Vals dvs ds)(hx:Passes CX X E)
  (ha:PA X (e::es) t) (hdb:(x == ("__debug__" :Str))=false:=by decide) (he:starEach (e::es) X.env=(false,eval e X.env)::starEach es X.env:=by rfl) (hpl:(backTo pos (starEach es X.env)).any (·.1)=false:=by rfl):
  PE X (.Call (.Name x p) (e::es) [] pos) (C1 C sp dvs E t):=by
 intro pins s σ H Q I h
 refine wpAny_Call_Name_kw (ki I hg hm ?_ hdb)
 refine callWith_K (h₀:=X.base) I.ok.mod.kin M.kp (cX (ha pos pins s σ H _ I h) fun us s1 ⟨vs,H1,I1,r,q⟩=>⟨I1.lV,?_⟩) he hpl
 exact Am M F hr hb hd hx I1 r q
end
def PK(X:Cx)(kws:List Keyword)(t:TA):Prop:=
 ∀(pos:Pos) (pins:List (Addr×Obj)) (s:Shared) (σ:St) (H:Hp) (Q:List V→Hp→Prop),Inv X pins σ H s→t σ H Q→wpAny (model X.prog X.w) X.A (evalAll ((backToKw pos (keywordEach kws X.env)).map (·.2))) (AP X pins σ Q) X.xe s
section
variable {X:Cx}{CX:yH}{k:Nat}{f C:Addr}{fd:FuncData}{ps ks:List Str}{sp:Sp}{E:XK}{x m:Str}{p pos apos kpos:Pos}{e o:Expr}{es:List Expr}{kws:List Keyword}{te ta:TE}{t tk:TA}{nm:Option Str}
structure Ii(K:PySem.W.Frag)(fd:FuncData)(ps ks:List Str)(g:List Value→List Value→List Value)(gV:List V→List V→List V):Prop where
 to:∀(s:Shared) (us ws:List Value),K.In s.heap→(g us ws).length=ps.length→BindsTo s fd ⟨us,ks.zip ws⟩ (ps.zip (g us ws))
 rel:∀{vs:List V}{us:List Value}{zs:List V}{ws:List Value},Vals vs us→Vals zs ws→Vals (gV vs zs) (g us ws)
def H0(sp:Sp)(gV:List V→List V→List V)(E:XK)(t tk:TA):TE:=fun σ H Q=>t σ H fun vs H1=>tk σ H1 fun zs H2=>sp (gV vs zs) H2 Q E
variable {g:List Value→List Value→List Value}{gV:List V→List V→List V}
end
structure cD(N P:List Str)(sc:Scope):Prop where
 kind:sc.kind=.function:=by rfl
 co:sc.isCoroutine=false:=by rfl
 gen:sc.isGenerator=false:=by rfl
 nd:N.Nodup:=by decide+kernel
 pre:N.take P.length=P:=by rfl
 par:∀x∈P,sc.names.lookup x=some .local∨sc.names.lookup x=some .cell:=by decide+kernel
 nofree:∀y∈sc.names,y.2≠.free:=by decide+kernel
theorem pD{kindOf:Str→Option NameKind}{x:Str}:∀{binds:List (Str×Value)}{m:Str→Option Value},(∀v,(x,v) ∉ binds)→bindL kindOf binds m x=m x
 |[],_,_=>rfl
 | (n,v)::r,m,h=>by
  unfold bindL
  rw[pD fun w hw=>h w (mem_cons_of_mem _ hw)]
  split
  ·have:x≠n:=by rintro rfl;exact h v mem_cons_self
   simp[this]
  ·rfl
theorem pF{kindOf:Str→Option NameKind}{x:Str}:∀{binds:List (Str×Value)}{m:Str→Option Value},(∀v,(x,v) ∉ binds)→bindC kindOf binds m x=m x
 |[],_,_=>rfl
 | (n,v)::r,m,h=>by
  unfold bindC
  rw[pF fun w hw=>h w (mem_cons_of_mem _ hw)]
  split
  ·rfl
  ·have:x≠n:=by rintro rfl;exact h v mem_cons_self
   simp[this]
theorem o6{kindOf:Str→Option NameKind}{x:Str}{v:Value}:∀{P:List Str}{vs:List Value}{i:Nat}{m:Str→Option Value},P.Nodup→P[i]? =some x→vs[i]? =some v→kindOf x=some .local→
  bindL kindOf (P.zip vs) m x=some v
 |[],_,_,_,_,h,_,_=>by simp at h
 |_::_,[],_,_,_,_,h,_=>by simp at h
 |p::P,w::vs,0,m,nd,h1,h2,hk=>by
  simp at h1 h2;subst h1;subst h2
  show bindL kindOf ((p,w)::P.zip vs) m p=_
  unfold bindL
  rw[pD fun v hv=>(nodup_cons.mp nd).1 (of_mem_zip hv).1,if_pos hk]
  simp
 |p::P,w::vs,i+1,m,nd,h1,h2,hk=>by
  show bindL kindOf ((p,w)::P.zip vs) m x=_
  unfold bindL
  exact o6 (i:=i) (nodup_cons.mp nd).2 (by simpa using h1) (by simpa using h2) hk
theorem o5{kindOf:Str→Option NameKind}{x:Str}{v:Value}:∀{P:List Str}{vs:List Value}{i:Nat}{m:Str→Option Value},P.Nodup→P[i]? =some x→vs[i]? =some v→kindOf x≠some .local→
  bindC kindOf (P.zip vs) m x=some v
 |[],_,_,_,_,h,_,_=>by simp at h
 |_::_,[],_,_,_,_,h,_=>by simp at h
 |p::P,w::vs,0,m,nd,h1,h2,hk=>by
  simp at h1 h2;subst h1;subst h2
  show bindC kindOf ((p,w)::P.zip vs) m p=_
  unfold bindC
  rw[pF fun v hv=>(nodup_cons.mp nd).1 (of_mem_zip hv).1,if_neg hk]
  simp
 |p::P,w::vs,i+1,m,nd,h1,h2,hk=>by
  show bindC kindOf ((p,w)::P.zip vs) m x=_
  unfold bindC
  exact o5 (i:=i) (nodup_cons.mp nd).2 (by simpa using h1) (by simpa using h2) hk
def start(N:List Str)(vs:List V):St:=vs.map some++List.replicate (N.length - vs.length) none
def uV(CX:yH)(P:Program)(w:World)(K:PySem.W.Frag)(mg:Str→Option Value)(base:Heap)(N:List Str)(qual:Str)(scope:Scope)(f:Addr)(cd:Value)(A:Around)(outer:List Env)(s:Shared)(H:Hp)(E:XK):Cx where
 prog:=P
 w:=w
 K:=K
 mg:=mg
 base:=base
 A:=A.deeper (envOfC qual scope s.heap.objs.size f cd)
 N:=N
 s₀:=s
 H₀:=H
 env:=envOfC qual scope s.heap.objs.size f cd
 outer:=outer
 stack:=envOfC qual scope s.heap.objs.size f cd::outer
 ex:=[]
 calm:=true
 fn:=fun _=>true
 pn:=[]
 xe:=fun e s'=>wpAny (model P w) (A.deeper (envOfC qual scope s.heap.objs.size f cd)) (leaving (envOfC qual scope s.heap.objs.size f cd) e) (fun _ s''=>CX outer H s E e s'') (fun e' s''=>CX outer H s E e' s'') s'
theorem sZ{sc:Scope}{n:Nat}{x:Str}(h:sc.names.lookup x=some .cell):∃c,(cellsFrom n sc.names []).lookup x=some c:=by
 have q:=PySem.W.cellsFrom_some sc.names n [] (.inl h)
 exact isSome_iff_exists.mp q
theorem xJ{CX:yH}{P:Program}{w:World}{K:PySem.W.Frag}{mg:Str→Option Value}{base:Heap}{N ps:List Str}{qual:Str}{scope:Scope}{f:Addr}{cd:Value}{A:Around}{outer:List Env}{s s1:Shared}{H:Hp}{E:XK}{us:List Value}{vs:List V}
  (S:cD N ps scope)(hd:A.handled=none)(e0:oW P w K mg base A outer s H)(hl:vs.length=ps.length)(r:Vals vs us)
  (x:InCallC s s.heap.objs.size (bindL (envOfC qual scope s.heap.objs.size f cd).kindOf (ps.zip us) fun _=>none) (cellsFrom (s.heap.objs.size+1) scope.names []) (bindC (envOfC qual scope s.heap.objs.size f cd).kindOf (ps.zip us) fun _=>none) s1):
  Inv (uV CX P w K mg base N qual scope f cd A outer s H E) [] (start N vs) H s1:=by
 have hpl:ps.length≤N.length:=by have:=congrArg List.length S.pre;rw[length_take]at this;omega
 obtain⟨h1,tk,rfl,hk⟩:=x.done
 have noA:∀b:Addr,b ∉ (uV CX P w K mg base N qual scope f cd A outer s H E).ex:=fun b z=>absurd (show b∈([]:List Addr) from z) (by simp)
 refine⟨⟨e0.mod,S.kind,rfl,rfl,le_refl _,fun y z c h1 h2=>?_,fun y hy=>?_,fun y c _ h=>?_,fun _=>hd,Around.frames_deeper e0.frames,.inr ⟨rfl,rfl⟩,fun b z=>absurd z (noA b),e0.bs,e0.bsz,fun b _ _=>noA b,fun b z=>absurd z (noA b),e0.kG,e0.frf⟩,
  rfl,e0.bare,Un.kept hk,⟨_,x.toInCall.ns,fun i y v h1 h2 h3=>?_⟩,fun y c h=>⟨_,x.cell y c h⟩,e0.hok.fresh (le_refl _),fun y c h=>?_,fun p hp=>absurd (show p∈([]:List (Addr×Obj)) from hp) (by simp),e0.hok.kept hk,?_⟩
 ·exact name_of_addr x.apart (PySem.mem_of_lookup h1) (PySem.mem_of_lookup h2)
 ·have hy:scope.names.lookup y=some .cell∨scope.names.lookup y=some .free:=hy
  rcases hy with hy|hy
  ·exact sZ hy
  ·exact absurd rfl (S.nofree _ (PySem.mem_of_lookup hy))
 ·exact le_of_lt (x.above y c (PySem.mem_of_lookup h))
 ·have hi:i < vs.length:=by
   unfold start at h2
   by_cases hi:i < vs.length
   ·exact hi
   ·rw[getElem?_append_right (by simpa using hi)]at h2
    rw[List.getElem?_replicate]at h2
    split at h2<;>cases h2
  have ha:vs[i]? =some v:=by
   unfold start at h2
   rw[getElem?_append_left (by simpa using hi),getElem?_map]at h2
   cases e:vs[i]? with
   |none=>rw[e]at h2;cases h2
   |some a=>rw[e]at h2;cases h2;rfl
  obtain⟨u,hu,rv⟩:=r.get ha
  have hp:ps[i]? =some y:=by
   rw[←S.pre,getElem?_take_of_lt (by omega)];exact h1
  have ndP:ps.Nodup:=by rw[←S.pre];exact S.nd.sublist (List.take_sublist _ _)
  refine⟨u,rv,?_⟩
  rcases S.par y (mem_of_getElem? hp) with k|k
  ·exact .inl ⟨k,o6 ndP hp hu k⟩
  ·obtain⟨c,e⟩:=sZ (n:=s.heap.objs.size+1) k
   refine .inr ⟨.inl k,c,e,?_⟩
   have q:=x.cell y c e
   rw[o5 ndP hp hu (by show scope.names.lookup y≠_;rw[k];decide)]at q
   exact q
 ·exact e0.hok.fresh (le_of_lt (x.above y c (PySem.mem_of_lookup h)))
 ·unfold start
  show _=N.length
  rw[length_append,length_map,List.length_replicate]
  omega
theorem Gy{CX:yH}{P:Program}{w:World}{K:PySem.W.Frag}{mg:Str→Option Value}{base:Heap}{k:Nat}{f:Addr}{name qual:Str}{params:Arguments}{body:List Stmt}{scope:Scope}{dV kV doc pm cdv ct oc:Value}{an od:Option Addr}
  {osl:Array (Option Value)}{N ps:List Str}{sp:Sp}(lk:K.lookup f=some ⟨oc,od,.func (fnOf name qual params body scope dV kV doc pm an cdv ct),osl⟩) (hcd:codeIn K cdv qual=true) (S:cD N ps scope)
  (len:∀vs H Q E,sp vs H Q E→vs.length=ps.length)
  (hbody:∀(A:Around) (outer:List Env) (s:Shared) (H:Hp) (vs:List V) (Q:VK) (E:XK),dD k (A.deeper (envOfC qual scope s.heap.objs.size f cdv))→sp vs H Q E→
   ∃t,tP (uV CX P w K mg base N qual scope f cdv A outer s H E) body t∧t { nx:=fun _ H'=>Q .non H',rt:=Q } (start N vs) H):
  eD P w K mg base CX (k+1) f (fnOf name qual params body scope dV kV doc pm an cdv ct) ps sp:=by
 refine⟨len,fun A outer s H args us vs Q E hr e0 hb r hsp=>?_⟩
 have hl:=len _ _ _ _ hsp
 have KX:K.In s.heap:=e0.mod.kin.keeps fun b o e=>(e0.bs b o e).1
 have lim:s.heap.NoLimit:=e0.mod.nolimit.keeps fun b o e=>(e0.bs b o e).1
 have hkind:∀y∈ps.zip us,scope.names.lookup y.1=some .local∨(scope.names.lookup y.1=some .cell∧((cellsFrom (s.heap.objs.size+1) scope.names []).lookup y.1).isSome=true):=fun⟨n,v⟩ hy=>by
  rcases S.par n (of_mem_zip hy).1 with q|q
  ·exact .inl q
  ·exact .inr ⟨q,PySem.W.cellsFrom_some _ _ _ (.inl q)⟩
 refine codeAny_call_function hr.depth (KX _ _ lk) rfl S.co S.gen rfl (PySem.W.codeRec_of KX hcd) (hb _ _ _ _ ?_)
 refine wpAny_newFunctionEnv_cells S.kind hkind fun env he s1 x=>?_
 subst he
 refine⟨lim.keeps x.toInCall.keep,codeAny_func ?_⟩
 obtain⟨t,ht,hq⟩:=hbody A outer s H vs Q E (hr.deeper _) hsp
 have I:Inv (uV CX P w K mg base N qual scope f cdv A outer s H E) [] (start N vs) H s1:=xJ S hr.hd e0 hl r x
 refine wpAny_mono (ht [] s1 (start N vs) H _ I hq) (fun fl s' hs=>?_) fun e s' hs=>hs
 have fin:∀{σ':St}{H':Hp}{v:V}{u:Value},Inv (uV CX P w K mg base N qual scope f cdv A outer s H E) [] σ' H' s'→RelV v u→Q v H'→CE outer P w H s Q u s':=
  fun {σ' H' v u} J rv q=>⟨v,H',J.os,J.bare,J.base,J.hok,rv,q⟩
 cases fl with
 |ret u=>
  obtain⟨v,σ',H',J,rv,q⟩:=hs
  exact fin J rv q
 |next=>
  obtain⟨σ',H',J,q⟩:=hs
  exact fin (v:=V.non) (u:=Value.none) J rfl q
 |brk=>
  obtain⟨_,_,_,q⟩:=hs
  exact False.elim q
 |cont=>
  obtain⟨_,_,_,q⟩:=hs
  exact False.elim q
end L2
namespace L2
open PySem PySem.Spec PyProof.Rows
section
variable {X:Cx}{x:Str}{p pos:Pos}{e:Expr}{es:List Expr}{t:TA}{id T:String}{r:List V→Hp→VK→Prop}
def EX(r:List V→Hp→VK→Prop)(t:TA):TE:=fun σ H Q=>t σ H fun vs H1=>r vs H1 Q
theorem gz (hc:ef X (.builtin id) r) (hg:Gl X x) (hm:X.mg x=none) (hv:bootBuiltins x=some (.builtin id)) (ha:PA X (e::es) t) (hn:x≠ "__name__" :=by decide) (hdb:(x == ("__debug__" :Str))=false:=by decide)
  (he:starEach (e::es) X.env=(false,eval e X.env)::starEach es X.env:=by rfl)(hpl:(backTo pos (starEach es X.env)).any (·.1)=false:=by rfl):PE X (.Call (.Name x p) (e::es) [] pos) (EX r t):=by
 intro pins s σ H Q I h
 refine wpAny_Call_Name_kw (jG I hg hm hv ?_ hn hdb)
 exact PyProof.Rows.callWith_builtin1 (cX (ha pos pins s σ H _ I h) fun us s1 ⟨vs,H1,I1,r1,q1⟩=>hc pins s1 σ H1 vs us Q I1 r1 q1) he hpl
theorem xr (hc:ef X (.type T) r) (hg:Gl X x) (hm:X.mg x=none) (hv:bootBuiltins x=some (.type T)) (ha:PA X (e::es) t) (hn:x≠ "__name__" :=by decide) (hdb:(x == ("__debug__" :Str))=false:=by decide)
  (he:starEach (e::es) X.env=(false,eval e X.env)::starEach es X.env:=by rfl)(hpl:(backTo pos (starEach es X.env)).any (·.1)=false:=by rfl):PE X (.Call (.Name x p) (e::es) [] pos) (EX r t):=by
 intro pins s σ H Q I h
 refine wpAny_Call_Name_kw (jG I hg hm hv ?_ hn hdb)
 exact PyProof.Rows.callWith_type1 (cX (ha pos pins s σ H _ I h) fun us s1 ⟨vs,H1,I1,r1,q1⟩=>hc pins s1 σ H1 vs us Q I1 r1 q1) he hpl
end
end L2
namespace HT
open PySem PyProof.Rows
def lexLt:List Int→List Int→Bool
 |[],[]=>false
 |[],_::_=>true
 |_::_,[]=>false
 |x::xs,y::ys=>if x=y then lexLt xs ys else decide (x < y)
section
open PySem.SeqAt
open PySem.AutoSeq1 (wpAny_loadPart')
open PySem.MeetsSeq PySem.MeetsSeq2 PySem.MeetsSeq3
end
section
variable {prog:Program}{w:World}{A:Around}{E:Value→Shared→Prop}{s:Shared}
def mB(n d:Nat):Option Int→Nat
 |none=>d
 |some v=>if v < 0 then(v+(n:Int)).toNat else min v.toNat n
theorem zQ(n d:Nat):mB n d none=d:=rfl
theorem Bo(a b:Nat):((min a b:Nat):Int)=min (a:Int) (b:Int):=by omega
end
end HT
namespace L2
open PySem PySem.Spec PyProof.Rows
abbrev TO:=St→Hp→(Option Int→Hp→Prop)→Prop
def PO(X:Cx)(e:Option Expr)(t:TO):Prop:=
 ∀(pins:List (Addr×Obj)) (s:Shared) (σ:St) (H:Hp) (Q:Option Int→Hp→Prop),Inv X pins σ H s→t σ H Q→
  wpAny (model X.prog X.w) X.A (evalPart e X.env) (fun u s'=>∃o H',Inv X pins σ H' s'∧IsPart u o∧Q o H') X.xe s
def vA:TO:=fun _ H Q=>Q none H
inductive Io(x:V)(H:Hp)(Q:Option Int→Hp→Prop):Prop
 |mk(i:Int)(h:x=.int i)(q:Q (some i) H)
def CB(t:TE):TO:=fun σ H Q=>t σ H fun x H1=>Io x H1 Q
theorem intsAre_of{ns:List Int}:∀{us:List Value},Vals (ns.map V.int) us→IntsAre us ns:=by
 induction ns with
 |nil=>intro us r;rw[map_nil]at r;cases r;exact .nil
 |cons n ns ih=>
  intro us r
  rw[map_cons]at r
  cases r with
  |cons r1 r2=>
   obtain⟨t,e⟩:=r1
   subst e
   exact .cons n t (ih r2)
section
variable {X:Cx}{e:Expr}{te:TE}{lo hi:Option Expr}{tl th:TO}{pos p2:Pos}
theorem iY:PO X none vA:=by
 intro pins s σ H Q I h
 rw[evalPart_none]
 exact wpAny_pure ⟨none,H,I,.none,h⟩
theorem iZ(h:PE X e te):PO X (some e) (CB te):=by
 intro pins s σ H Q I hw
 rw[evalPart_some]
 refine cX (h pins s σ H _ I hw) fun u s1 hpat=>?_
 obtain⟨x,H1,I1,r1,q1⟩:=hpat
 obtain⟨i,rfl,q⟩:=q1
 obtain⟨t,rfl⟩:=r1
 exact⟨some i,H1,I1,.int i t,q⟩
def HU(X:Cx)(r:V→Option Int→Option Int→Hp→VK→Prop):Prop:=
 ∀(pins:List (Addr×Obj)) (s:Shared) (σ:St) (H:Hp) (x:V) (v vl vu:Value) (lo hi:Option Int) (sl:Addr) (Q:VK),Inv X pins σ H s→RelV x v→s.heap.IsSliceOf sl vl vu .none→IsPart vl lo→IsPart vu hi→r x lo hi H Q→
  ∃T id,typeLookup (.type T) "__getitem__" =pure (some (.builtin id))∧s.TypeIs v T∧wpAny (model X.prog X.w) X.A (getItem v (.ref sl)) (EP X pins σ Q) X.xe s
def Jk(r:V→Option Int→Option Int→Hp→VK→Prop)(te:TE)(tl th:TO):TE:=fun σ H Q=>te σ H fun x H1=>tl σ H1 fun l H2=>th σ H2 fun u H3=>r x l u H3 Q
theorem gD{r:V→Option Int→Option Int→Hp→VK→Prop}(hr:HU X r)(he:PE X e te)(hl:PO X lo tl)(hu:PO X hi th):PE X (.Subscript e (.Slice lo hi none p2) pos) (Jk r te tl th):=by
 intro pins s σ H Q I h
 refine Subscript_ (cX (he pins s σ H _ I h) fun v s1 hpat=>?_)
 obtain⟨x,H1,I1,r1,q1⟩:=hpat
 refine wpAny_Slice (cX (hl pins s1 σ H1 _ I1 q1) fun vl s2 ⟨l,H2,I2,pl,q2⟩=>cX (hu pins s2 σ H2 _ I2 q2) fun vu s3 hpat=>?_)
 obtain⟨u,H3,I3,pu,q3⟩:=hpat
 rw[evalPart_none]
 refine wpAny_pure ?_
 have I4:Inv X pins σ H3 { s3 with heap:=s3.heap.push { cls:=.type "slice",data:=.fields #[vl,vu,.none] } }:=I3.kept (t':=s3.toks) fun b ob q=>get?_push_of_some _ q
 obtain⟨T,id,hT,ht,hg⟩:=hr pins { s3 with heap:=s3.heap.push { cls:=.type "slice",data:=.fields #[vl,vu,.none] } } σ H3 x v vl vu l u s3.heap.objs.size Q I4 r1 (Heap.IsSliceOf.new ..) pl pu q3
 show wpAny (model X.prog X.w) X.A (subscriptTail e (.Slice lo hi none p2) v (.ref s3.heap.objs.size)) (EP X pins σ Q) X.xe { s3 with heap:=s3.heap.push { cls:=.type "slice",data:=.fields #[vl,vu,.none] } }
 exact tail_any (ops:=[.ref s3.heap.objs.size,v]) ht hT hg (by with_unfolding_all rfl)
def fN(xs:List V)(lo hi:Option Int):List V:=(xs.drop (HT.mB xs.length 0 lo)).take (HT.mB xs.length xs.length hi - HT.mB xs.length 0 lo)
theorem lM(xs:List V)(lo hi:Option Int):(fN xs lo hi).length≤xs.length:=by
 unfold fN
 rw[length_take,length_drop]
 exact le_trans (Nat.min_le_right _ _) (Nat.sub_le _ _)
def Kj(K:PySem.W.Frag):V→Option Int→Option Int→Hp→VK→Prop:=fun x lo hi H Q=>∃a xs,x=.ref a∧dq K H a xs∧
 ¬(HT.mB xs.length 0 lo=0∧HT.mB xs.length xs.length hi=xs.length)∧∀p,H p=none→Q (.ref p) (upd H p (.tup (fN xs lo hi)))
def KN(K:PySem.W.Frag):R2:=fun x y H Q=>∃a b ns ms,x=.ref a∧y=.ref b∧dq K H a (ns.map V.int)∧dq K H b (ms.map V.int)∧Q (.bl (HT.lexLt ns ms)) H
def Js(K:PySem.W.Frag):R2:=fun x y H Q=>∃a b xs ys,x=.ref a∧y=.ref b∧dq K H a xs∧dq K H b ys∧xs≠[]∧xs.length+ys.length≤sizeLine∧
 (ys=[]→Q (.ref a) H)∧(ys≠[]→∀p,H p=none→Q (.ref p) (upd H p (.tup (xs++ys))))
end
end L2
namespace L2
open PySem PySem.Spec PyProof.Rows
def Ee(n:Nat)(i:Int):Option Nat:=if 0≤i then(if i < n then some i.toNat else none) else if -(n:Int)≤i then some (i+n).toNat else none
def oH{α:Type}(xs:List α)(i:Int):Option α:=(Ee xs.length i).bind fun j=>xs[j]?
theorem BU{n:Nat}{i:Int}{j:Nat}(h:Ee n i=some j):seqIndex? i n=some j∧j < n∧ -(n:Int)≤i∧i < n:=by
 unfold Ee at h
 by_cases h0:0≤i
 ·rw[if_pos h0]at h
  by_cases h1:i < n
  ·rw[if_pos h1]at h
   have e:i.toNat=j:=Option.some.inj h
   exact⟨by rw[seqIndex_of h0 h1,e],by omega,by omega,h1⟩
  ·rw[if_neg h1]at h;cases h
 ·rw[if_neg h0]at h
  by_cases h1: -(n:Int)≤i
  ·rw[if_pos h1]at h
   have e:(i+n).toNat=j:=Option.some.inj h
   exact⟨by rw[seqIndex_neg (by omega) h1,e],by omega,h1,by omega⟩
  ·rw[if_neg h1]at h;cases h
theorem qh{α:Type}{xs:List α}{i:Int}{v:α}(h:oH xs i=some v):∃j,seqIndex? i xs.length=some j∧xs[j]? =some v∧j < xs.length∧ -(xs.length:Int)≤i∧i < xs.length:=by
 unfold oH at h
 cases e:Ee xs.length i with
 |none=>rw[e]at h;cases h
 |some j=>
  rw[e]at h
  obtain⟨h1,h2,h3,h4⟩:=BU e
  exact⟨j,h1,h,h2,h3,h4⟩
theorem cQ{α:Type}{xs:List α}{j:Nat}{v:α}(h:xs[j]? =some v):oH xs (j:Int)=some v:=by
 have hj:j < xs.length:=(List.getElem?_eq_some_iff.mp h).1
 have e:Ee xs.length (j:Int)=some j:=by
  unfold Ee
  rw[if_pos (by omega),if_pos (by omega)];simp
 unfold oH;rw[e];exact h
def dU(b:Expr):Prop:=∀o i,subscripted b false o i=operate [o,i] (getItem o i)
def Fv(X:Cx)(r:R2):Prop:=
 ∀(value slice:Expr) (pins:List (Addr×Obj)) (s:Shared) (σ:St) (H:Hp) (x y:V) (v u:Value) (Q:VK),Inv X pins σ H s→RelV x v→RelV y u→r x y H Q→
  subscripted slice false v u=operate [v,u] (getItem v u)→wpAny (model X.prog X.w) X.A (subscriptTail value slice v u) (EP X pins σ Q) X.xe s
def Hv(X:Cx)(id:String)(r:V→List V→Hp→VK→Prop):Prop:=
 ∀(pins:List (Addr×Obj)) (s:Shared) (σ:St) (H:Hp) (x:V) (xs:List V) (v:Value) (us:List Value) (Q:VK),Inv X pins σ H s→RelV x v→Vals xs us→r x xs H Q→
  wpAny (model X.prog X.w) X.A (call (.builtin id) (v::us)) (EP X pins σ Q) X.xe s
section
variable {X:Cx}{a b:Expr}{ta tb:TE}{pos:Pos}
theorem Gu{r:R2}(hr:Fv X r)(ha:PE X a ta)(hb:PE X b tb)(hs:dU b):PE X (.Subscript a b pos) (CO r ta tb):=by
 intro pins s σ H Q I h
 exact Subscript_ (D5 ha hb I h fun v u s2 x y H2 I2 rx ry q=>hr a b pins s2 σ H2 x y v u Q I2 rx ry q (hs _ _))
inductive Hz(S:Addr→List V→Prop)(x y:V)(H:Hp)(Q:VK):Prop
 |mk(p:Addr)(xs:List V)(i:Int)(v:V)(hx:x=.ref p)(hy:y=.int i)(s:S p xs)(e:oH xs i=some v)(q:Q v H)
inductive IF(x y:V)(H:Hp)(Q:VK):Prop
 |mk(z:Str)(i:Int)(c:Nat)(hx:x=.str z)(hy:y=.int i)(s:z.length≤sizeLine)(e:oH z.cps.toList i=some c)(q:Q (.str ⟨#[c]⟩) H)
theorem xT{K:PySem.W.Frag}{H:Hp}{p:Addr}{xs:List V}{i:Int}{v:V}{Q:VK}(h:H p=some (.tup xs))(e:oH xs i=some v)(q:Q v H):Hz (dq K H) (.ref p) (.int i) H Q:=⟨p,xs,i,v,rfl,rfl,dq.of h,e,q⟩
theorem xL{K:PySem.W.Frag}{H:Hp}{p:Addr}{xs:List V}{i:Int}{v:V}{Q:VK}(h:H p=some (.lst xs))(e:oH xs i=some v)(q:Q v H):Hz (cF K H) (.ref p) (.int i) H Q:=⟨p,xs,i,v,rfl,rfl,cF.of h,e,q⟩
def BI(K:PySem.W.Frag):R2:=fun x y H Q=>Hz (cF K H) x y H Q
def Bl(K:PySem.W.Frag):R2:=fun x y H Q=>Hz (dq K H) x y H Q
def Em:R2:=fun x y H Q=>IF x y H Q
theorem wg:Fv X (BI X.K):=by
 intro value slice pins s σ H x y v u Q I rx ry h hs
 obtain⟨p,xs,i,z,rfl,rfl,hq,he,q⟩:=h
 cases rx
 obtain⟨t,rfl⟩:=ry
 obtain⟨its,r,pl,hz⟩:=I.list hq
 obtain⟨j,h1,h2,h3,h4,h5⟩:=qh he
 obtain⟨w,ew,rw'⟩:=r.get h2
 have hl:=r.length
 have hn:=ng
 have fin:EP X pins σ Q w s:=⟨z,H,I,rw',q⟩
 by_cases h0:0≤i
 ·have hj:i.toNat=j:=by
   rw[seqIndex_of h0 h5]at h1
   exact Option.some.inj h1
  exact item_listR pl.isList h0 (by omega) (by rw[hj];simpa using ew) fin hs
 ·have hj:(i+(its.toArray.size:Int)).toNat=j:=by
   rw[seqIndex_neg (by omega) h4]at h1
   rw[size_toArray,←hl]
   exact Option.some.inj h1
  exact subscriptTail_builtinR (x:=w) pl.isList.typeIs slot_list_getitem.lookup
   (wpAny_getItem_list_neg (Q:=fun r s'=>r=w∧EP X pins σ Q r s') pl.isList (by omega) (by rw[size_toArray]<;>omega) (by omega) (by rw[hj];simpa using ew) ⟨rfl,fin⟩) hs
theorem yU:Fv X (Bl X.K):=by
 intro value slice pins s σ H x y v u Q I rx ry h hs
 obtain⟨p,xs,i,z,rfl,rfl,hq,he,q⟩:=h
 cases rx
 obtain⟨t,rfl⟩:=ry
 obtain⟨its,r,pl,hz⟩:=I.tuple hq
 obtain⟨j,h1,h2,h3,h4,h5⟩:=qh he
 obtain⟨w,ew,rw'⟩:=r.get h2
 have hl:=r.length
 have hn:=ng
 have fin:EP X pins σ Q w s:=⟨z,H,I,rw',q⟩
 exact subscriptTail_builtinR (x:=w) pl.typeIs slot_tuple_getitem.lookup
  (getItem_tuple (j:=j) (Q:=fun r s'=>r=w∧EP X pins σ Q r s') pl (by omega) (by omega) (by rw[size_toArray,←hl];exact h1) (by simpa using ew) ⟨rfl,fin⟩) hs
theorem u9:Fv X Em:=by
 intro value slice pins s σ H x y v u Q I rx ry h hs
 obtain⟨z,i,c,rfl,rfl,hz,he,q⟩:=h
 obtain⟨t,rfl⟩:=rx
 obtain⟨t',rfl⟩:=ry
 obtain⟨j,h1,h2,h3,h4,h5⟩:=qh he
 have hl:z.cps.toList.length=z.length:=by simp[Str.length]
 rw[hl]at h1 h4 h5
 have hn:=ng
 exact tail_any (typeIs_str s z t) slot_str_getitem.lookup (getItem_str (c:=c) (by
  have e1:decide (i < -(2 ^ 63:Int))=false:=decide_eq_false (by omega)
  have e2:decide (i ≥ 2 ^ 63)=false:=decide_eq_false (by omega)
  rw[e1,e2,Bool.or_false]) (by rw[h1];simpa using h2) ⟨.str ⟨#[c]⟩,H,I.tok _,⟨_,rfl⟩,q⟩) hs
def K3(K:PySem.W.Frag):R2:=fun x y H Q=>BI K x y H Q∨Bl K x y H Q∨Em x y H Q
inductive C7(o i v:V)(H:Hp)(Q:Hp→Prop):Prop
 |mk(p:Addr)(xs:List V)(k:Int)(j:Nat)(ho:o=.ref p)(hi:i=.int k)(s:H p=some (.lst xs))(e:Ee xs.length k=some j)(q:Q (upd H p (.lst (xs.set j v))))
def JH:V→V→V→Hp→(Hp→Prop)→Prop:=fun o i v H Q=>C7 o i v H Q
theorem Cy(v:Int)(n d:Nat):max 0 (min (if v < 0 then v+(n:Int) else v) (n:Int))=((HT.mB n d (some v):Nat):Int):=by
 show _=(((if v < 0 then(v+(n:Int)).toNat else min v.toNat n):Nat):Int)
 by_cases hv:v < 0
 ·rw[if_pos hv,if_pos hv,Int.toNat_eq_max,Int.max_comm,Int.min_eq_left (by omega)]
 ·rw[if_neg hv,if_neg hv,HT.Bo,Int.toNat_of_nonneg (Int.not_lt.mp hv)]
  exact Int.max_eq_right (Int.le_min.mpr ⟨Int.not_lt.mp hv,Int.natCast_nonneg n⟩)
theorem pX(lo hi:Option Int)(n:Nat):(sliceBounds lo hi none n).1=((HT.mB n 0 lo:Nat):Int)∧(sliceBounds lo hi none n).2.1=((HT.mB n n hi:Nat):Int)∧(sliceBounds lo hi none n).2.2=1:=by
 refine⟨?_,?_,rfl⟩
 ·cases lo with
  |none=>simp[sliceBounds,HT.mB]
  |some i=>
   simp only[sliceBounds,Option.getD_none,show(1:Int) > 0 by decide,if_true]
   exact Cy i n 0
 ·cases hi with
  |none=>simp[sliceBounds,HT.mB]
  |some i=>
   simp only[sliceBounds,Option.getD_none,show(1:Int) > 0 by decide,if_true]
   exact Cy i n n
theorem oP(its:List Value)(lo hi:Option Int):slicePick its.toArray lo hi none=((its.drop (HT.mB its.length 0 lo)).take (HT.mB its.length its.length hi - HT.mB its.length 0 lo)).toArray:=by
 obtain⟨h1,h2,h3⟩:=pX lo hi its.toArray.size
 unfold slicePick
 rw[h1,h2,h3]
 simp only[sliceRange_one,pick_run,size_toArray]<;>rfl
inductive KD(K:PySem.W.Frag)(x:V)(lo hi:Option Int)(H:Hp)(Q:VK):Prop
 |mk(a:Addr)(xs:List V)(hx:x=.ref a)(s:cF K H a xs)(q:∀p,H p=none→Q (.ref p) (upd H p (.lst (fN xs lo hi))))
def Gm(K:PySem.W.Frag):V→Option Int→Option Int→Hp→VK→Prop:=fun x lo hi H Q=>KD K x lo hi H Q
theorem i7:HU X (Gm X.K):=by
 intro pins s σ H x v vl vu lo hi sl Q I rx hs pl pu h
 obtain⟨a,xs,rfl,hx,q⟩:=h
 cases rx
 obtain⟨its,r,ht,hz⟩:=I.list hx
 have hlen:=r.length
 refine⟨"list",_,slot_list_getitem.lookup,ht.isList.typeIs,?_⟩
 refine wpAny_getItem_list_slice ht.isList hs pl pu .none (by simp) ?_ (by rw[size_toArray]<;>omega)
 rw[oP,←hlen]
 refine⟨.ref s.heap.objs.size,_,I.laid (t':=s.toks) (o:=.lst (fN xs lo hi)) (fun b ob q=>get?_push_of_some _ q) (le_refl _) ?_,rfl,q _ (I.hok.fresh (le_refl _))⟩
 exact⟨le_trans (lM xs lo hi) hz,_,0,(r.drop (HT.mB xs.length 0 lo)).take (HT.mB xs.length xs.length hi - HT.mB xs.length 0 lo),get?_push_size _ rfl⟩
def dj:V→Bool
 |.non=>true
 |.bl _=>true
 |.int _=>true
 |.str _=>true
 |_=>false
def qV:V→V→Bool
 |.non,.non=>true
 |.bl a,.bl b=>a == b
 |.bl a,.int b=>(if a then 1 else 0) == b
 |.int a,.bl b=>a == (if b then 1 else 0)
 |.int a,.int b=>a == b
 |.str a,.str b=>a == b
 |_,_=>false
theorem pR{A:Around}{s:Shared}{y x:V}{u v:Value}(ry:RelV y u)(rx:RelV x v)(fy:dj y=true)(fx:dj x=true):SeqAt.EqAt A s u v (qV y x):=by
 cases y with
 |non=>
  cases ry
  cases x with
  |non=>cases rx;exact SeqAt.EqAt.same _
  |bl b=>cases rx;exact SeqAt.EqAt.none_bool b
  |int b=>obtain⟨t,rfl⟩:=rx;exact SeqAt.EqAt.none_int b t
  |str b=>obtain⟨t,rfl⟩:=rx;exact SeqAt.EqAt.none_str b t
  |_=>exact absurd (show false=true from fx) Bool.false_ne_true
 |bl a=>
  cases ry
  cases x with
  |non=>cases rx;exact SeqAt.EqAt.bool_none a
  |bl b=>cases rx;exact SeqAt.EqAt.bool_bool a b
  |int b=>obtain⟨t,rfl⟩:=rx;exact SeqAt.EqAt.bool_int a b t
  |str b=>obtain⟨t,rfl⟩:=rx;exact SeqAt.EqAt.bool_str a b t
  |_=>exact absurd (show false=true from fx) Bool.false_ne_true
 |int a=>
  obtain⟨t',rfl⟩:=ry
  cases x with
  |non=>cases rx;exact SeqAt.EqAt.int_none a t'
  |bl b=>cases rx;exact SeqAt.EqAt.int_bool a t' b
  |int b=>obtain⟨t,rfl⟩:=rx;exact SeqAt.EqAt.int_int a t' b t
  |str b=>obtain⟨t,rfl⟩:=rx;exact SeqAt.EqAt.int_str a t' b t
  |_=>exact absurd (show false=true from fx) Bool.false_ne_true
 |str a=>
  obtain⟨t',rfl⟩:=ry
  cases x with
  |non=>cases rx;exact SeqAt.EqAt.str_none a t'
  |bl b=>cases rx;exact SeqAt.EqAt.str_bool a t' b
  |int b=>obtain⟨t,rfl⟩:=rx;exact SeqAt.EqAt.str_int a t' b t
  |str b=>obtain⟨t,rfl⟩:=rx;exact SeqAt.EqAt.str_str a t' b t
  |_=>exact absurd (show false=true from fx) Bool.false_ne_true
 |_=>exact absurd (show false=true from fy) Bool.false_ne_true
def tY(x:V)(u:Value):Bool:=match u with
 |.none=>qV .non x
 |.bool b=>qV (.bl b) x
 |.int i _=>qV (.int i) x
 |.str z _=>qV (.str z) x
 |_=>false
theorem zY{x y:V}{u:Value}(r:RelV y u)(f:dj y=true):tY x u=qV y x:=by
 cases y with
 |non=>cases r;rfl
 |bl b=>cases r;rfl
 |int i=>obtain⟨t,rfl⟩:=r;rfl
 |str z=>obtain⟨t,rfl⟩:=r;rfl
 |_=>exact absurd (show false=true from f) Bool.false_ne_true
theorem jJ{x:V}:∀{xs:List V}{us:List Value},Vals xs us→xs.all dj=true→us.any (tY x)=xs.any fun y=>qV y x
 |_,_,.nil,_=>rfl
 |y::xs,u::us,.cons r t,f=>by
  rw[all_cons,and_eq_true]at f
  rw[any_cons,any_cons,zY r f.1,jJ t f.2]
theorem iC{A:Around}{s:Shared}{x:V}{v:Value}(rx:RelV x v)(fx:dj x=true):∀{xs:List V}{us:List Value},Vals xs us→xs.all dj=true→∀u∈us,SeqAt.EqAt A s u v (tY x u)
 |_,_,.nil,_=>fun u hu=>by cases hu
 |y::xs,u::us,.cons r t,f=>fun u' hu=>by
  rw[all_cons,and_eq_true]at f
  rcases mem_cons.mp hu with rfl|hu
  ·rw[zY r f.1];exact pR r rx f.1 fx
  ·exact iC rx fx t f.2 u' hu
def ye(x:V)(xs:List V):Bool:=xs.any fun y=>qV y x
inductive Ki(K:PySem.W.Frag)(neg:Bool)(x y:V)(H:Hp)(Q:VK):Prop
 |mk(p:Addr)(xs:List V)(hy:y=.ref p)(s:cF K H p xs∨dq K H p xs)(f:dj x=true)(fs:xs.all dj=true)(q:Q (.bl (if neg then !ye x xs else ye x xs)) H)
def Hs(K:PySem.W.Frag)(neg:Bool):R2:=fun x y H Q=>Ki K neg x y H Q
theorem iV:iq X (compareOp .In) (Hs X.K false):=by
 intro pins s σ H x y v u Q I rx ry h
 obtain⟨p,xs,rfl,hq,fx,fs,q⟩:=h
 cases ry
 rcases hq with hq|hq
 ·obtain⟨its,r,pl,hz⟩:=I.list hq
  refine SeqAt.in_listAt (tY x) pl.isList (fun w hw=>iC rx fx r fs w (by simpa using hw)) ⟨.bl _,H,I,rfl,?_⟩
  rw[show its.toArray.any (tY x)=its.any (tY x) by simp,jJ r fs]
  exact q
 ·obtain⟨its,r,pl,hz⟩:=I.tuple hq
  refine SeqAt.in_tupleAt (tY x) pl (fun w hw=>iC rx fx r fs w (by simpa using hw)) ⟨.bl _,H,I,rfl,?_⟩
  rw[show its.toArray.any (tY x)=its.any (tY x) by simp,jJ r fs]
  exact q
theorem kq:iq X (compareOp .NotIn) (Hs X.K true):=by
 intro pins s σ H x y v u Q I rx ry h
 obtain⟨p,xs,rfl,hq,fx,fs,q⟩:=h
 cases ry
 rcases hq with hq|hq
 ·obtain⟨its,r,pl,hz⟩:=I.list hq
  refine SeqAt.notIn_listAt (tY x) pl.isList (fun w hw=>iC rx fx r fs w (by simpa using hw)) ⟨.bl _,H,I,rfl,?_⟩
  rw[show its.toArray.any (tY x)=its.any (tY x) by simp,jJ r fs]
  exact q
 ·obtain⟨its,r,pl,hz⟩:=I.tuple hq
  refine SeqAt.notIn_tupleAt (tY x) pl (fun w hw=>iC rx fx r fs w (by simpa using hw)) ⟨.bl _,H,I,rfl,?_⟩
  rw[show its.toArray.any (tY x)=its.any (tY x) by simp,jJ r fs]
  exact q
inductive F4(K:PySem.W.Frag)(xs:List V)(H:Hp)(Q:VK):Prop
 |mk(p:Addr)(ys:List V)(e:xs=[.ref p])(s:cF K H p ys∨dq K H p ys)(q:Q (.int ys.length) H)
theorem qj:ef X (.builtin "len") (fun xs H Q=>L2.F4 X.K xs H Q):=by
 intro pins s σ H xs us Q I r h
 obtain⟨p,ys,rfl,hq,q⟩:=h
 obtain⟨u,rfl,rx⟩:=vals1 r
 cases rx
 have hn:=ng
 rcases hq with hq|hq
 ·obtain⟨its,r',pl,hz⟩:=I.list hq
  have hlen:=r'.length
  exact Calls.call_len_list pl.isList (by simp only[size_toArray]<;>omega) ⟨.int ys.length,H,I.tok _,⟨s.toks+1,by rw[size_toArray,hlen]⟩,q⟩
 ·obtain⟨its,r',pl,hz⟩:=I.tuple hq
  have hlen:=r'.length
  exact len_tuple pl (by simp only[size_toArray]<;>omega) ⟨.int ys.length,H,I.tok _,⟨s.toks+1,by rw[size_toArray,hlen]⟩,q⟩
theorem pU:ef X (.builtin "len") (fun xs H Q=>∃z,xs=[.str z]∧z.length≤sizeLine∧Q (.int z.length) H):=by
 intro pins s σ H xs us Q I r h
 obtain⟨z,rfl,hz,q⟩:=h
 obtain⟨u,rfl,t,rfl⟩:=vals1 r
 have hn:=ng
 exact len_str (by omega) ⟨.int z.length,H,I.tok _,⟨_,rfl⟩,q⟩
theorem qx:ef X (.type "list") (fun xs H Q=>∃p ys,xs=[.ref p]∧(cF X.K H p ys∨dq X.K H p ys)∧∀l,H l=none→Q (.ref l) (upd H l (.lst ys))):=by
 intro pins s σ H xs us Q I r h
 obtain⟨p,ys,rfl,hq,q⟩:=h
 obtain⟨u,rfl,rx⟩:=vals1 r
 cases rx
 have fin:∀(its:List Value),Vals ys its→ys.length≤sizeLine→∀(h':Heap) (c':Nat),(∀b o',s.heap.get? b=some o'→h'.get? b=some o')→
   h'.get? s.heap.objs.size=some { cls:=.type "list",dict:=none,data:=.seq its.toArray c',slots:= #[] }→EP X pins σ Q (.ref s.heap.objs.size) { s with heap:=h' }:=fun its r' hz h' c' kp e=>
  ⟨.ref s.heap.objs.size,_,I.laid (t':=s.toks) kp (le_refl _) (show cV X.prog X.w _ h' _ (.lst ys) from ⟨hz,its,c',r',e⟩),rfl,q _ (I.hok.fresh (le_refl _))⟩
 rcases hq with hq|hq
 ·obtain⟨its,r',pl,hz⟩:=I.list hq
  have hlen:=r'.length
  obtain⟨o,ho,hc,n,hd⟩:=pl.isList
  exact call_list_seq p (.inl rfl) ho hc hd (fun h' c' kp e=>fin its r' hz h' c' kp e) (by simp only[size_toArray]<;>omega)
 ·obtain⟨its,r',pl,hz⟩:=I.tuple hq
  have hlen:=r'.length
  obtain⟨o,ho,hc,n,hd⟩:=pl
  exact call_list_seq p (.inr rfl) ho hc hd (fun h' c' kp e=>fin its r' hz h' c' kp e) (by simp only[size_toArray]<;>omega)
def HX(K:PySem.W.Frag)(T:String)(x:V)(H:Hp):Prop:=match x with
 |.str _=>T= "str"
 |.int _=>T= "int"
 |.ref p=>(T= "list" ∧∃xs,cF K H p xs)∨(T= "tuple" ∧∃o,K.lookup p=some o∧o.cls=.type "tuple" ∧o.dict=none)∨
   (T= "dict" ∧((∃kvs,H p=some (.dK kvs))∨∃kvs,H p=some (.dT kvs)))∨(T= "set" ∧∃S n,H p=some (.set S n))
 |_=>False
theorem yY{pins:List (Addr×Obj)}{σ:St}{H:Hp}{s:Shared}{T:String}{x:V}{v:Value}(I:Inv X pins σ H s)(r:RelV x v)(ty:HX X.K T x H):
  s.TypeIs v T∧∀a,v=.ref a→∃ob,s.heap.get? a=some ob∧ob.dict=none:=by
 cases x with
 |str z=>
  obtain⟨t,rfl⟩:=r
  cases (show T= "str" from ty)
  exact⟨typeIs_str s z t,fun _ e=>nomatch e⟩
 |int i=>
  obtain⟨t,rfl⟩:=r
  cases (show T= "int" from ty)
  exact⟨typeIs_int s i t,fun _ e=>nomatch e⟩
 |ref p=>
  cases r
  rcases ty with ⟨rfl,xs,hq⟩|⟨rfl,o,hk,hc,hd⟩|⟨rfl,hk⟩|⟨rfl,S,n,hk⟩
  ·obtain⟨its,_,pl,_⟩:=I.list hq
   refine⟨pl.isList.typeIs,fun a e=>?_⟩
   cases e
   obtain⟨o,n,e,c,hd,_⟩:=pl
   exact⟨o,e,hd⟩
  ·refine⟨⟨o,I.lV p o hk,hc⟩,fun a e=>?_⟩
   cases e
   exact⟨o,I.lV _ o hk,hd⟩
  ·have z:∃o,s.heap.get? p=some o∧o.ExactDict:=by
    rcases hk with ⟨kvs,hk⟩|⟨kvs,hk⟩
    ·obtain⟨_,_,_,_,o,_,_,e,ex,_⟩:=I.hok p _ hk
     exact⟨o,e,ex⟩
    ·obtain⟨_,_,_,_,o,_,_,e,ex,_⟩:=I.hok p _ hk
     exact⟨o,e,ex⟩
   obtain⟨o,e,ex⟩:=z
   refine⟨⟨o,e,ex.1⟩,fun a e2=>?_⟩
   cases e2
   exact⟨o,e,ex.2.1⟩
  ·obtain⟨o,_,_,_,e,ex,_⟩:=I.hok p _ hk
   refine⟨⟨o,e,ex.1⟩,fun a e2=>?_⟩
   cases e2
   exact⟨o,e,ex.2.1⟩
 |_=>exact False.elim ty
def Fl(K:PySem.W.Frag)(T:String)(r:V→List V→Hp→VK→Prop)(to:TE):TE:=fun σ H Q=>to σ H fun x H1=>HX K T x H1∧r x [] H1 Q
def Jr(K:PySem.W.Frag)(T:String)(r:V→List V→Hp→VK→Prop)(to:TE)(t:TA):TE:=fun σ H Q=>to σ H fun x H1=>HX K T x H1∧t σ H1 fun xs H2=>r x xs H2 Q
variable {o e:Expr}{es:List Expr}{to:TE}{t:TA}{name:Str}{apos cpos:Pos}{T id:String}{r:V→List V→Hp→VK→Prop}
theorem Er (pa:PlainAttrs T) (slot:Slot T name id) (hty:typeOf (.builtin id)=pure (.type "method_descriptor")) (hm:Hv X id r) (ho:PE X o to)
  (hbase:attributeBase o name X.env (eval o X.env)=eval o X.env:=by rfl)(hline:(apos.endLine == cpos.line)=true:=by rfl):PE X (.Call (.Attribute o name apos) [] [] cpos) (Fl X.K T r to):=by
 intro pins s σ H Q I h
 refine wpAny_Call_method0_late hbase hline (cX (ho pins s σ H _ I h) fun v s1 hpat=>?_)
 obtain⟨x,H1,I1,r1,ty,q1⟩:=hpat
 obtain⟨h1,h2⟩:=yY I1 r1 ty
 exact⟨T,id,pa,slot,hty,h1,h2,Calls.callWith_builtin rfl (PySem.evalArgs_none (hm pins s1 σ H1 x [] v [] Q I1 r1 .nil q1))⟩
theorem FK (pa:PlainAttrs T) (slot:Slot T name id) (hty:typeOf (.builtin id)=pure (.type "method_descriptor")) (hm:Hv X id r) (ho:PE X o to) (ha:PA X (e::es) t)
  (hbase:attributeBase o name X.env (eval o X.env)=eval o X.env:=by rfl)
  (hfew:((backTo cpos (starEach (e::es) X.env)).all (fun x=> !x.1) && (backToKw cpos (keywordEach [] X.env)).all (fun x=>x.1.isSome)
   && decide ((e::es).length+([]:List Keyword).length+(if([]:List Keyword).isEmpty then 0 else 1) < 30))=true:=by rfl)
  (hline:(apos.endLine == cpos.line)=true:=by rfl) (hs:starEach (e::es) X.env=(false,eval e X.env)::starEach es X.env:=by rfl) (hplain:(backTo cpos (starEach es X.env)).any (·.1)=false:=by rfl):
  PE X (.Call (.Attribute o name apos) (e::es) [] cpos) (Jr X.K T r to t):=by
 intro pins s σ H Q I h
 refine wpAny_Call_method_late hbase hfew hline rfl (cX (ho pins s σ H _ I h) fun v s1 hpat=>?_)
 obtain⟨x,H1,I1,r1,ty,q1⟩:=hpat
 obtain⟨h1,h2⟩:=yY I1 r1 ty
 refine⟨T,id,pa,slot,hty,h1,h2,?_⟩
 have hA:=ha cpos pins s1 σ H1 _ I1 q1
 rw[hs]at hA ⊢
 refine Calls.callWith_builtin (by show(false || (backTo cpos (starEach es X.env)).any (·.1))=false;rw[hplain]<;>rfl) (Calls.evalArgs_plain ?_)
 exact cX hA fun us s2 ⟨vs,H2,I2,r2,q2⟩=>hm pins s2 σ H2 x vs v us Q I2 r1 r2 q2
end
end L2
namespace L2
open PySem PySem.Spec PyProof.Rows
def Ja(X:Cx)(id:String)(r:V→List V→Hp→VK→Prop):Prop:=
 ∀(pins:List (Addr×Obj)) (s:Shared) (σ:St) (H:Hp) (x:V) (xs:List V) (v:Value) (us:List Value) (Q:VK),Inv X pins σ H s→RelV x v→Vals xs us→r x xs H Q→
  wpAny (model X.prog X.w) X.A (call (.builtin id) (v::us)) (EP X pins σ Q) X.xe s
theorem Vals.one:∀{x:V}{us:List Value},Vals [x] us→∃u,us=[u]∧RelV x u
 |_,_,.cons r .nil=>⟨_,rfl,r⟩
theorem Vals.zero:∀{us:List Value},Vals [] us→us=[]
 |_,.nil=>rfl
theorem Vals.reverse{xs:List V}{us:List Value}(h:Vals xs us):Vals xs.reverse us.reverse:=by
 induction h with
 |nil=>exact .nil
 |cons r t ih=>rw[List.reverse_cons,List.reverse_cons];exact Vals.append ih (.cons r .nil)
section
variable {X:Cx}{pins:List (Addr×Obj)}{σ:St}{H:Hp}{s:Shared}{l b:Addr}{xs ys zs:List V}
theorem Inv.GV{its its':List Value}{n:Nat}{f:Array Value→Array Value}{t':Nat}(I:Inv X pins σ H s)(hH:H l=some (.lst xs))
  (e:s.heap.get? l=some { cls:=.type "list",data:=.seq its.toArray n }) (hf:f its.toArray=its'.toArray) (hv:Vals ys its') (hz:ys.length≤sizeLine):
  Inv X pins σ (upd H l (.lst ys)) { s with heap:=s.heap.update l (Obj.mapSeq f),toks:=t' }:=by
 have q:=PySem.IsL.update e f
 rw[hf]at q
 refine I.write (x:=l) (e:=l) (by rw[hH];exact trivial) (.inl rfl) (fun b' u hb hu=>(Heap.get?_update_other s.heap (Obj.mapSeq f) (Ne.symm hb)).trans hu) ⟨_,q⟩ ?_
 exact⟨hz,its',_,hv,q⟩
theorem Inv.Ia{its:List Value}{t':Nat}(I:Inv X pins σ H s)(hv:Vals ys its)(hz:ys.length≤sizeLine):
  Inv X pins σ (upd H s.heap.objs.size (.lst ys)) { s with heap:=s.heap.push { cls:=.type "list",data:=.seq its.toArray },toks:=t' }:=
 I.laid (fun _ _ q=>get?_push_of_some _ q) (le_refl _) ⟨hz,its,0,hv,get?_push_size _ rfl⟩
theorem Inv.fresh(I:Inv X pins σ H s):H s.heap.objs.size=none:=I.hok.fresh (le_refl _)
theorem Inv.GP(I:Inv X pins σ H s)(hH:H l=some (.lst xs)):xs.length≤sizeLine∧∃(its:List Value) (n:Nat),Vals xs its∧xs.length=its.length∧s.heap.get? l=some { cls:=.type "list",data:=.seq its.toArray n }:=by
 obtain⟨z,its,n,r,e⟩:=I.hok l _ hH
 exact⟨z,its,n,r,r.length,e⟩
end
section
variable {X:Cx}
inductive II(x:V)(vs:List V)(H:Hp)(Q:VK):Prop
 |mk(l:Addr)(xs:List V)(y:V)(hx:x=.ref l)(hv:vs=[y])(s:H l=some (.lst xs))(b:xs.length < sizeLine)(q:Q .non (upd H l (.lst (xs++[y]))))
def vB:V→List V→Hp→VK→Prop:=fun x vs H Q=>II x vs H Q
theorem o4:Ja X "list.append" vB:=by
 intro pins s σ H x vs v us Q I rx rv h
 obtain⟨l,xs,y,rfl,rfl,hH,hz,q⟩:=h
 cases rx
 obtain⟨u,rfl,ru⟩:=rv.one
 obtain⟨z,its,n,r,hl,e⟩:=I.GP hH
 refine call_meets F.slot_list_append ⟨_,e,rfl⟩ F.entry_list_append (F.args_list_append_2 _ _) (PySem.list_append l its.toArray n u (by rw[size_toArray];omega)) ⟨e,?_⟩
 refine⟨.non,_,I.GV (its':=its++[u]) hH e (by simp) (r.append (.cons ru .nil)) ?_,rfl,q⟩
 rw[length_append,List.length_singleton]
 omega
def Hk:V→List V→Hp→VK→Prop:=fun x vs H Q=>∃l b xs zs,x=.ref l∧vs=[.ref b]∧H l=some (.lst xs)∧H b=some (.lst zs)∧xs.length+zs.length≤sizeLine∧Q .non (upd H l (.lst (xs++zs)))
def Ko:V→List V→Hp→VK→Prop:=fun x vs H Q=>∃l xs y,x=.ref l∧vs=[]∧H l=some (.lst xs)∧xs[xs.length - 1]? =some y∧Q y (upd H l (.lst xs.dropLast))
def IG:V→List V→Hp→VK→Prop:=fun x vs H Q=>∃l xs i k y,x=.ref l∧vs=[.int i]∧H l=some (.lst xs)∧ -(2 ^ 63)≤i∧i < 2 ^ 63∧seqIndex? i xs.length=some k∧xs[k]? =some y∧Q y (upd H l (.lst (xs.eraseIdx k)))
def rT:V→List V→Hp→VK→Prop:=fun x vs H Q=>∃l xs,x=.ref l∧vs=[]∧H l=some (.lst xs)∧Q .non (upd H l (.lst xs.reverse))
theorem jr:Ja X "list.reverse" rT:=by
 intro pins s σ H x vs v us Q I rx rv h
 obtain⟨l,xs,rfl,rfl,hH,q⟩:=h
 cases rx
 have hus:=rv.zero
 subst hus
 obtain⟨z,its,n,r,hl,e⟩:=I.GP hH
 refine call_meets F.slot_list_reverse ⟨_,e,rfl⟩ F.entry_list_reverse (F.args_list_reverse_1 _) (AutoSeq1.list_reverse_list_0 l its.toArray n (by rw[size_toArray];omega)) ⟨e,?_⟩
 refine⟨.non,_,I.GV (its':=its.reverse) hH e (by simp) r.reverse ?_,rfl,q⟩
 rw[length_reverse]
 omega
def IC:V→List V→Hp→VK→Prop:=fun x vs H Q=>∃l xs,x=.ref l∧vs=[]∧H l=some (.lst xs)∧Q .non (upd H l (.lst []))
def JV:R2:=fun x y H Q=>∃l b xs zs,x=.ref l∧y=.ref b∧H l=some (.lst xs)∧H b=some (.lst zs)∧xs.length+zs.length≤sizeLine∧∀p,H p=none→Q (.ref p) (upd H p (.lst (xs++zs)))
def Kt:R2:=fun x y H Q=>∃l k xs,x=.ref l∧y=.int k∧H l=some (.lst xs)∧ -(2 ^ 63)≤k∧k < 2 ^ 63∧xs.length * k.toNat≤sizeLine∧
 ∀p,H p=none→Q (.ref p) (upd H p (.lst (List.replicate k.toNat xs).flatten))
end
section
variable {prog:Program}{w:World}{A:Around}{E:Value→Shared→Prop}{s:Shared}
set_option maxRecDepth 100000 in
end
section
variable {X:Cx}
end
end L2
namespace Att
open PySem PySem.W PySem.Calls PyProof.Rows
theorem lZ{P:Params}{h:Heap}:∀(ns:List Int) (vs:List Value),WellAll P h vs (ns.map WData.int)→IntsAre vs ns:=by
 intro ns
 induction ns with
 |nil=>
  intro vs w
  rw[map_nil]at w
  cases w
  exact .nil
 |cons n ns ih=>
  intro vs w
  rw[map_cons]at w
  cases w with
  |cons a b=>
   cases a
   exact .cons _ _ (ih _ b)
theorem xF{l:OpenLaw}{n:Nat}(hn:l.most=some n){P:Params}{h:Heap}{args:List WData}{vals:List Value}
  (hpre:l.row.toRowW.claim.pre args=true)(hwl:WellAll P h vals args):
  ∃a vs ns,vals=[Value.ref a]∧args=[WData.list (ns.map WData.int)]∧h.get? a=some { cls:=.type "list",data:=.seq vs.toArray }∧IntsAre vs ns∧ns.length≤n:=by
 have hsh:WShape.hasAll [] args [.list .int]=true:=(pre_splitW hpre).1
 have hc:l.pre.holds [] { args:=args }=true:=(pre_splitW hpre).2
 obtain⟨d,r,rfl,h1,h2⟩:=hasAllW_cons hsh
 obtain rfl:=hasAllW_nil h2
 obtain⟨xs,rfl,h3⟩:=hasW_list h1
 obtain⟨ns,rfl⟩:=items_int h3
 have hlen:ns.length≤n:=by
  unfold OpenLaw.pre at hc
  have h4:(WTm.not (.lt (.lit (.int (n:Int))) (.len (.arg 0)))).holds [] { args:=[.list (ns.map .int)] }=true:=by
   have h4:=(holds_andW hc).1
   rw[hn]at h4
   exact h4
  have h5:=condW_of h4 (w_not (w_lt w_lit (w_len_list (w_arg rfl))))
  rw[length_map]at h5
  refine Nat.le_of_not_lt fun q=>?_
  have q':(n:Int) < ((ns.length:Nat):Int):=by omega
  first
   | (rw[decide_eq_true q']at h5;exact absurd h5 (by decide))
   | (simp at h5;omega)
 cases hwl with
 |cons w1 w2=>
  cases w2
  cases w1 with
  |list ho hall=>exact⟨_,_,ns,rfl,rfl,ho,lZ ns _ hall,hlen⟩
theorem xo(l:OpenLaw)(args:List WData):l.row.toRowW.claim.post args (.bool true) args=true:=
 postW_of (r:=l.row.toRowW) (X:=(true == true))
  (show WShape.has [] (.bool true) .bool=true by first|rfl|decide|simp[WShape.has,WShape.arms,WShape.armsAll])
  (show(WTm.eq .res (.lit (.bool true))).value [] { args:=args,res:=some (.bool true),after:=args }=some (.bool (true == true)) from w_eq_bool (w_res rfl) w_lit) rfl
theorem sV{l:OpenLaw}{n:Nat}{q:Program}{loose:List Str}{XP:(Str→Option Value)→Heap→Prop}{YP:World→Heap→Prop}{d:DefRec}
  (hn:l.most=some n)(hdf:d.params.defaults=[])
  (call:∀(w:World)(s₀ s₁:Shared)(mg mb:Str→Option Value)(fa:Addr)(o:Obj)(pm cd doc:Value)(a:Addr)(vs:List Value)(ns:List Int),
   Ground q loose [] XP w s₀ mg mb s₁.heap→YP w s₁.heap→
   s₁.heap.get? fa=some o→o.data=.func (docDef d.name d.params d.body d.scope pm cd doc)→s₁.heap.CodeRec cd d.name→mg d.name=some (.ref fa)→
   s₁.heap.get? a=some { cls:=.type "list",data:=.seq vs.toArray }→IntsAre vs ns→ns.length≤n→s₁.gens= #[]→
   codeAny (model l.prog w) callerA (.call (.ref fa) ⟨[.ref a],[]⟩) (fun r s'=>r=.ok (.ret (.bool true))∧OldK s₁.heap s'.heap∧s'.os=s₁.os∧AllBare s'.gens) s₁):
  WalkO q loose XP YP l.row.toRowW d [] (fun f vs=>PySem.call f vs):=by
 intro w s₀ s₁ mg mb G Y fa o pm cd doc dV kV ho hd hcd hD hmg hg args vals as hpre hlay hrd hwl hlo
 obtain rfl:dV=.none:=Dflts.none hD hdf
 obtain rfl:kV=.none:=Dflts.noKw hD
 obtain⟨a,vs,ns,rfl,rfl,hobj,hints,hlen⟩:=xF hn hpre hwl
 refine enter_call (codeAny_mono (call w s₀ s₁ mg mb fa o pm cd doc a vs ns G Y ho (fd_plain hd) hcd hmg hobj hints hlen hg) fun r s' hq=>?_)
 obtain⟨rfl,h2,h3,h4⟩:=hq
 exact⟨.inl ⟨.bool true,.bool true,[],rfl,fun _=>rfl,.bool true,xo l _,fun _=>⟨List.Pairwise.nil,fun _ hm=>(nomatch hm)⟩⟩,h2,h3,h4⟩
section
variable {prog:Program}{w:World}{A:Around}{E:Value→Shared→Prop}{s:Shared}{K:Frag}
def HD(h:Heap):Heap:={ h with objs:= #[] }
def ledger(h:Heap)(L d:Addr):List (Addr×Obj):=(List.range h.objs.size).filterMap fun a=>if a=L∨a=d then none else(h.get? a).map fun o=>(a,o)
end
end Att
namespace L2
open PySem PySem.Spec PyProof.Rows
theorem pG:∀{vs:List Value}{ns:List Int},IntsAre vs ns→Vals (ns.map V.int) vs
 |_,_,.nil=>.nil
 |_,_,.cons n t h=>.cons ⟨t,rfl⟩ (pG h)
def D4(H:Hp):Prop:=∀b,H b=none∨∃o xs,H b=some (.frz o (.lst xs))
theorem zG{P:Program}{w:World}{K:PySem.W.Frag}{mg mb:Str→Option Value}{CX:yH}{k:Nat}{fa a:Addr}{fd:FuncData}{x:Str}{sp:Sp}{s₁:Shared}{vs:List Value}{ns:List Int}
  (KX:K.In s₁.heap) (hns:s₁.heap.Ns mainGlobals mg) (hb:s₁.heap.Ns builtinsNs mb) (hbb:∀x:Str,x≠ "__name__" →mb x=bootBuiltins x) (hlim:s₁.heap.NoLimit) (hg:s₁.gens= #[])
  (ha:s₁.heap.get? a=some { cls:=.type "list",data:=.seq vs.toArray }) (hi:IntsAre vs ns) (hl:ns.length≤sizeLine) (hr:dD k callerA)
  (F:∀base:Heap,K.In base→base.Ns mainGlobals mg→eD P w K mg base CX k fa fd [x] sp)(hbind:∀(s:Shared)(u:Value),BindsTo s fd ⟨[u],[]⟩ [(x,u)])
  (hsp:∀H:Hp,D4 H→cF K H a (ns.map V.int)→sp [.ref a] H (fun v _=>v=.bl true) fun _ _ _=>False)
  (hCX:∀H e s',CX [] H s₁ (fun _ _ _=>False) e s'→False):
  codeAny (model P w) callerA (.call (.ref fa) ⟨[.ref a],[]⟩) (fun r s'=>r=.ok (.ret (.bool true))∧OldK s₁.heap s'.heap∧s'.os=s₁.os∧AllBare s'.gens) s₁:=by
 have rv:=pG hi
 have lenV:=hi.length
 have core:∀H:Hp,D4 H→cF K H a (ns.map V.int)→gF P w H s₁.heap→(∀b,H b≠none→b=a)→(H a≠none→K.lookup a=none)→
   codeAny (model P w) callerA (.call (.ref fa) ⟨[.ref a],[]⟩) (fun r s'=>r=.ok (.ret (.bool true))∧OldK s₁.heap s'.heap∧s'.os=s₁.os∧AllBare s'.gens) s₁:=by
  intro H hO hS hok hA hK
  have base_of:∀{b:Addr}{o:Obj},s₁.heap.get? b=some o→H b=none→(qK s₁.heap H).get? b=some o:=fun e n=>yI e n
  have noA:∀{b:Addr}{o:Obj}{es:Array DictEntry}{ep:Nat},s₁.heap.get? b=some o→o.data=.dict es ep→H b=none:=fun {b o es ep} e d=>by
   cases q:H b with
   |none=>rfl
   |some u=>
    have e':b=a:=hA b (by rw[q];simp)
    subst e'
    rw[ha]at e;cases e
    have d':Data.seq vs.toArray _=Data.dict es ep:=d
    cases d'
  have nsK:∀{b:Addr}{m:Str→Option Value},s₁.heap.Ns b m→(qK s₁.heap H).Ns b m:=fun {b m} ⟨o,es,ep,e,d,r⟩=>⟨o,es,ep,base_of e (noA e d),d,r⟩
  have hKb:K.In (qK s₁.heap H):=fun b o e=>base_of (KX b o e) (by
   cases q:H b with
   |none=>rfl
   |some u=>
    have e':b=a:=hA b (by rw[q];simp)
    subst e'
    rw[hK (by rw[q];simp)]at e;cases e)
  have hM:Mod K mg (qK s₁.heap H):=⟨hKb,nsK hns,⟨mb,nsK hb,hbb⟩,let ⟨mc,h1,h2⟩:=hlim;⟨mc,nsK h1,h2⟩⟩
  have e0:oW P w K mg (qK s₁.heap H) callerA [] s₁ H:=⟨rfl,hM,fun b o e=>Bi e,le_of_eq (xN _ _),trivial,fun b hb=>absurd (show b∈([]:List Addr) from hb) (by simp),hok,.of_eq hg⟩
  refine codeAny_mono ((F _ hKb (nsK hns)).run callerA [] s₁ H ⟨[.ref a],[]⟩ [.ref a] [.ref a] _ _ hr e0 (hbind s₁ (.ref a)) (.cons rfl .nil) (hsp H hO hS)) fun r s' h=>?_
  cases r with
  |error e=>exact(hCX H e s' h).elim
  |ok fl=>
   cases fl with
   |next=>exact False.elim h
   |brk=>exact False.elim h
   |cont=>exact False.elim h
   |ret u=>
    obtain⟨v,H',os,bare,un,hok',r',q⟩:=h
    have q':v=.bl true:=q
    subst q'
    obtain rfl:u=Value.bool true:=r'
    refine⟨rfl,OldK.of_keep fun b o e=>?_,os,bare⟩
    cases q:H b with
    |none=>exact un.keep b o e q (by intro z;exact absurd (show b∈([]:List Addr) from z) (by simp)) (by simp)
    |some u=>
     rcases hO b with z|⟨ob,xs,z⟩
     ·rw[q]at z;cases z
     ·have z2:=un.frzs b ob _ z
      obtain⟨e1,_⟩:=hok b _ z
      obtain⟨e2,_⟩:=hok' b _ z2
      rw[e]at e1;cases e1
      exact e2
 cases hk:K.lookup a with
 |some o=>
  have e:=KX a o hk
  rw[ha]at e
  cases e
  refine core (fun _=>none) (fun _=>.inl rfl) (.inr ⟨_,vs.toArray,_,hk,rfl,rfl,rfl,by rw[size_toArray,lenV];exact hl,by simpa using rv⟩) (fun b u z=>by have z':(none:Option HO)=some u:=z;cases z') (fun b z=>absurd rfl z) fun z=>absurd rfl z
 |none=>
  refine core (fun b=>if b=a then some (.frz { cls:=.type "list",data:=.seq vs.toArray } (.lst (ns.map V.int))) else none) (fun b=>?_) (.inl (.inr ⟨{ cls:=.type "list",data:=.seq vs.toArray },if_pos rfl⟩)) (fun b u z=>?_) (fun b z=>?_) fun _=>hk
  ·by_cases hb:b=a
   ·exact .inr ⟨_,_,if_pos hb⟩
   ·exact .inl (if_neg hb)
  ·by_cases hb:b=a
   ·have z':=(if_pos hb).symm.trans z
    cases z'
    subst hb
    exact⟨ha,by rw[length_map];exact hl,vs,_,rv,ha⟩
   ·have z':=(if_neg hb).symm.trans z
    cases z'
  ·by_cases hb:b=a
   ·exact hb
   ·exact absurd (if_neg hb) z
end L2
namespace L2
open PySem PySem.Spec PyProof.Rows
abbrev K0{K:PySem.W.Frag}{h:Heap}(_:K.In h):PySem.W.Frag:=K
theorem Az{l:PySem.W.OpenLaw}{n k:Nat}{q:Program}{loose:List Str}{XP:(Str→Option Value)→Heap→Prop}{YP:World→Heap→Prop}{d:DefRec}{K:Params→PySem.W.Frag}{CX:World→yH}{sp:World→Sp}{x:Str}
  (hn:l.most=some n)(hn2:n≤sizeLine)(hdf:d.params.defaults=[])(hr:dD k callerA)
  (hY:∀(w:World)(h:Heap),YP w h→(K w.params).In h)
  (F:∀(w:World)(mg:Str→Option Value)(fa:Addr)(h:Heap),(K w.params).In h→h.Ns mainGlobals mg→mg d.name=some (.ref fa)→
   ∃fd:FuncData,(∀(s:Shared) (u:Value),BindsTo s fd ⟨[u],[]⟩ [(x,u)])∧
    ∀base:Heap,(K w.params).In base→base.Ns mainGlobals mg→eD l.prog w (K w.params) mg base (CX w) k fa fd [x] (sp w))
  (hsp:∀(w:World) (H:Hp) (a:Addr) (ns:List Int),ns.length≤n→D4 H→cF (K w.params) H a (ns.map V.int)→sp w [.ref a] H (fun v _=>v=.bl true) fun _ _ _=>False)
  (hCX:∀(w:World) (H:Hp) (s:Shared) (e:Value) (s':Shared),CX w [] H s (fun _ _ _=>False) e s'→False):
  PySem.W.WalkO q loose XP YP l.row.toRowW d [] (fun f vs=>PySem.call f vs):=by
 refine Att.sV hn hdf fun w s₀ s₁ mg mb fa o pm cd doc a vs ns G Y ho hd hcd hmg hobj hints hlen hg=>?_
 have KX:=hY w _ Y
 obtain⟨fd,hb,hF⟩:=F w mg fa _ KX G.T.g hmg
 exact zG KX G.T.g G.T.b G.T.builtins G.T.nolimit hg hobj hints (le_trans hlen hn2) hr hF hb (fun H hO hS=>hsp w H a ns hlen hO hS) fun H e s'=>hCX w H s₁ e s'
end L2
namespace L2
open PySem PySem.Spec PyProof.Rows
abbrev l9:yH:=fun _ _ _ _ _ _=>False
abbrev E0:XK:=fun _ _ _=>False
theorem v8{X:Cx}:Passes l9 X E0:=fun _ _ _ _ _ _ _ h=>h.elim
structure oY(K:PySem.W.Frag)(x qual:Str)(st:Stmt)(f:Addr)(fd:FuncData):Prop where
 ex:∃(oc:Value) (od:Option Addr) (kV doc pm:Value) (an:Option Addr) (cdv ct:Value) (osl:Array (Option Value)),
  fd=fnOf x qual (dW st) (cU st) (cB st) .none kV doc pm an cdv ct∧K.lookup f=some ⟨oc,od,.func fd,osl⟩∧codeIn K cdv qual=true
 kp:keepIn K (.ref f)=true
section
variable {P:Program}{w:World}{K:PySem.W.Frag}{mg:Str→Option Value}{base:Heap}
theorem oY.ok{x qual:Str}{st:Stmt}{f:Addr}{fd:FuncData}{N ps:List Str}{k:Nat}{sp:Sp}(F:oY K x qual st f fd)(S:cD N ps (cB st))(len:∀vs H Q E,sp vs H Q E→vs.length=ps.length)
  (hbody:∀(cdv:Value)(A:Around)(outer:List Env)(s:Shared)(H:Hp)(vs:List V)(Q:VK)(E:XK),dD k (A.deeper (envOfC qual (cB st) s.heap.objs.size f cdv))→sp vs H Q E→
   ∃t,tP (uV l9 P w K mg base N qual (cB st) f cdv A outer s H E).F3 (cU st) t∧t { nx:=fun _ H'=>Q .non H',rt:=Q } (start N vs) H):eD P w K mg base l9 (k+1) f fd ps sp:=by
 obtain⟨oc,od,kV,doc,pm,an,cdv,ct,osl,rfl,lk,hcd⟩:=F.ex
 refine Gy lk hcd S len fun A outer s H vs Q E hr hsp=>?_
 obtain⟨t,h,q⟩:=hbody cdv A outer s H vs Q E hr hsp
 exact⟨t,h.F3,q⟩
theorem oY.binds{x qual:Str}{st:Stmt}{f:Addr}{fd:FuncData}{ps:List Str}(F:oY K x qual st f fd)
  (h:∀(kV doc pm:Value)(an:Option Addr)(cdv ct:Value)(us:List Value),us.length=ps.length→bindArgs (fnOf x qual (dW st) (cU st) (cB st) .none kV doc pm an cdv ct) ⟨us,[]⟩=pure (ps.zip us)):Binds K fd ps []:=by
 obtain⟨oc,od,kV,doc,pm,an,cdv,ct,osl,rfl,lk,hcd⟩:=F.ex
 exact .all (h kV doc pm an cdv ct)
theorem iU{x qual:Str}{st:Stmt}{f:Addr}{oc:Value}{od an:Option Addr}{osl:Array (Option Value)}{kV doc pm cdv ct:Value}(l:K.lookup f=some ⟨oc,od,.func (fnOf x qual (dW st) (cU st) (cB st) .none kV doc pm an cdv ct),osl⟩)
  (c:codeIn K cdv qual=true)(k:keepIn K (.ref f)=true):oY K x qual st f (fnOf x qual (dW st) (cU st) (cB st) .none kV doc pm an cdv ct):=⟨⟨oc,od,kV,doc,pm,an,cdv,ct,osl,rfl,l,c⟩,k⟩
end
theorem eG{A:Around}{k:Nat}(hr:dD k A):A.units+1 < cLine:=Nat.lt_of_le_of_lt (Nat.add_le_add_left (by decide:1≤64) _) hr.units
section
variable {X:Cx}
theorem pv (i:Nat){x:Str}{pos:Pos}(hN:X.N[i]? =some x:=by rfl) (hv:HY X.env.scope x:=by first|exact Or.inl rfl|exact Or.inr (Or.inl rfl)|exact Or.inr (Or.inr rfl)) (hd:(x == ("__debug__" :Str))=false:=by decide)
  (hcd:(x == ("__classdict__" :Str))=false:=by decide):PE X (.Name x pos) (j5 i):=kr hN hv hd hcd
end
theorem cN{A B:Prop}(h:B):if false=true then A else B:=by
 rw[if_neg Bool.false_ne_true]
 exact h
theorem c9{A B:Prop}(h:A):if true=true then A else B:=by
 rw[if_pos rfl]
 exact h
theorem cW{c A B:Prop} [Decidable c] (h1:c→A)(h2:¬c→B):if c then A else B:=by
 by_cases h:c
 ·rw[if_pos h]
  exact h1 h
 ·rw[if_neg h]
  exact h2 h
def cA(H H':Hp):Prop:=∀b o,H b=some o→H' b=some o
theorem cA.refl(H:Hp):cA H H:=fun _ _ h=>h
theorem cA.trans{H H1 H2:Hp}(a:cA H H1)(b:cA H1 H2):cA H H2:=fun c o h=>b c o (a c o h)
theorem cA.free{H H':Hp}(e:cA H H'){l:Addr}(h:H' l=Option.none):H l=Option.none:=by
 cases q:H l with
 |none=>rfl
 |some o=>
  rw[e l o q]at h
  cases h
theorem cA.seq{K:PySem.W.Frag}{H H':Hp}{a:Addr}{xs:List V}(e:cA H H')(h:cF K H a xs):cF K H' a xs:=by
 rcases h with (h|⟨o,h⟩)|h
 ·exact .inl (.inl (e _ _ h))
 ·exact .inl (.inr ⟨o,e _ _ h⟩)
 ·exact .inr h
end L2
namespace L2
open PySem PySem.Builtin.Str
end L2
namespace L2
open PySem PySem.Spec PyProof.Rows
theorem tT{env:Env}{scope:Scope}(h:∀y∈scope.names,y.2=.free→∃c,env.cells.lookup y.1=some c):
  ∃cl,closureFor scope env=pure cl∧(∀y c,cl.lookup y=some c→env.cells.lookup y=some c)∧(∀y∈scope.names,y.2=.free→cl.lookup y.1=env.cells.lookup y.1):=by
 have gen:∀(names:List (Str×NameKind)) (acc:List (Str×Addr)),(∀y∈names,y.2=.free→∃c,env.cells.lookup y.1=some c)→(∀y c,acc.lookup y=some c→env.cells.lookup y=some c)→
   ∃cl,(forIn (m:=Sem) names acc fun x r=>match x with
    | (name,kind)=>if(kind == NameKind.free)=true then do
      let a ←cellOf env name
      pure (ForInStep.yield ((name,a)::r))
     else pure (ForInStep.yield r))=pure cl∧(∀y c,cl.lookup y=some c→env.cells.lookup y=some c)∧(∀y c,acc.lookup y=some c→cl.lookup y=some c)∧(∀y∈names,y.2=.free→cl.lookup y.1=env.cells.lookup y.1):=by
  intro names
  induction names with
  |nil=>intro acc _ ha;exact⟨acc,rfl,ha,fun _ _ e=>e,fun y hy=>nomatch hy⟩
  |cons x r ih=>
   intro acc hn ha
   obtain⟨n,k⟩:=x
   by_cases hk:k=.free
   ·subst hk
    obtain⟨c,hc⟩:=hn (n,.free) mem_cons_self rfl
    have hc':cellOf env n=pure c:=by
     unfold cellOf
     rw[show env.cells.lookup n=some c from hc]
    have ha':∀y d,((n,c)::acc).lookup y=some d→env.cells.lookup y=some d:=fun y d e=>by
     rw[lookup_cons]at e
     cases q:y == n with
     |true=>rw[q]at e;cases e;rw[eq_of_beq q];exact hc
     |false=>rw[q]at e;exact ha y d e
    obtain⟨cl,e,h1,h2,h3⟩:=ih ((n,c)::acc) (fun y hy=>hn y (mem_cons_of_mem _ hy)) ha'
    refine⟨cl,?_,h1,fun y d q=>?_,fun y hy hf=>?_⟩
    ·rw[forIn_cons]
     simp only[beq_self_eq_true,if_true,hc']
     exact e
    ·cases z:y == n with
     |true=>
      have:y=n:=eq_of_beq z
      subst this
      have q1:=ha y d q
      rw[hc]at q1;cases q1
      exact h2 y c (by rw[lookup_cons,z])
     |false=>exact h2 y d (by rw[lookup_cons,z];exact q)
    ·rcases mem_cons.mp hy with rfl|hy
     ·have:=h2 n c (by rw[lookup_cons,beq_self_eq_true])
      rw[this,hc]
     ·exact h3 y hy hf
   ·have hb:(k == NameKind.free)=false:=by simpa using hk
    obtain⟨cl,e,h1,h2,h3⟩:=ih acc (fun y hy=>hn y (mem_cons_of_mem _ hy)) ha
    refine⟨cl,?_,h1,h2,fun y hy hf=>?_⟩
    ·rw[forIn_cons]
     simp only[hb,false_eq_true,if_false]
     exact e
    ·rcases mem_cons.mp hy with rfl|hy
     ·exact absurd hf hk
     ·exact h3 y hy hf
 obtain⟨cl,e,h1,_,h3⟩:=gen scope.names [] h (fun y c e=>by cases e)
 refine⟨cl,?_,h1,h3⟩
 simp only[closureFor]
 rw[show(forIn scope.names ([]:List (Str×Addr)) _:Sem _)=pure cl from e]
 rfl
theorem j8{env:Env}(hk:env.scope.kind=.function):∀{names:List (Str×NameKind)}{x:Str},names.lookup x=some .free→env.kindOf x=some .cell→
  (names.map fun(n,k)=>if(k == NameKind.free && env.scope.kind == .function && env.kindOf n == some .cell) then(n,NameKind.cell) else(n,k)).lookup x=some .cell
 |[],_,h,_=>by simp at h
 | (n,k)::r,x,h,hc=>by
  have ih:=@j8 env hk r x
  show List.lookup x ((if(k == NameKind.free && env.scope.kind == .function && env.kindOf n == some .cell)=true then(n,NameKind.cell) else(n,k))::_)=_
  cases hx:x == n with
  |true=>
   simp only[lookup_cons,hx]at h
   cases h
   have e:x=n:=eq_of_beq hx
   subst e
   rw[if_pos (by simp[hk,hc])]
   simp[lookup_cons]
  |false=>
   simp only[lookup_cons,hx]at h
   by_cases hc':(k == NameKind.free && env.scope.kind == .function && env.kindOf n == some .cell)=true
   ·rw[if_pos hc'];simp only[lookup_cons,hx];exact ih h hc
   ·rw[if_neg hc'];simp only[lookup_cons,hx];exact ih h hc
theorem jZ{env:Env}{scope:Scope}{y:Str}{k':NameKind}(h:(relabel scope env).names.lookup y=some k')(hk':k'=.cell∨k'=.free)(nocell:∀z∈scope.names,z.2≠.cell):(y,NameKind.free)∈scope.names:=by
 have hm:=PySem.mem_of_lookup h
 obtain⟨⟨n,k⟩,hm',e⟩:=mem_map.mp hm
 dsimp only at e
 split at e
 ·rename_i c
  cases e
  rw[and_eq_true,and_eq_true]at c
  have e2:k=.free:=by simpa using c.1.1
  subst e2
  exact hm'
 ·cases e
  rcases hk' with rfl|rfl
  ·exact absurd rfl (nocell _ hm')
  ·exact hm'
def dA(X:Cx)(N':List Str)(scope:Scope)(cl:List (Str×Addr))(fp:List Addr)(s3:Shared)(H3:Hp)(C:Addr):Cx:=
 { X with N:=N',s₀:=s3,H₀:=H3,env:=compEnvC scope cl C X.env,outer:=X.stack,ex:=fp,fn:=fun _=>false,pn:=[],xe:=fun _ _=>False }
def d3(is:List Nat)(σ:St):St:=is.map fun i=>(σ[i]?).join
def hU(J:It)(is:List Nat)(te:TE)(σ:St)(H1:Hp)(Q:VK):Prop:=∀D,H1 D=none→∃W:Nat→Nat→List V→Hp→Prop,(∃m,W 0 m [] (upd H1 D (.lst [])))∧
 ∀i m ys H2,W i m ys H2→H2 D=some (.lst ys)∧((J.stop i H2∧Q (.ref D) H2)∨(J.go i H2∧∀v H3,J.yld i H2 v H3→te (some v::d3 is σ) H3 fun y H4=>
  H4 D=some (.lst ys)∧ys.length < sizeLine∧∃m',m' < m∧W (i+1) m' (ys++[y]) (upd H4 D (.lst (ys++[y])))))
def Jb(wi:TI)(is:List Nat)(te:TE):TE:=fun σ H Q=>wi σ H fun J H1=>hU J is te σ H1 Q
structure Fm(sc:Scope)(N:List Str)(x:Str)(scope:Scope)(is:List Nat)(ns:List Str):Prop where
 kind:scope.kind=.function:=by rfl
 nocell:∀y∈scope.names,y.2≠.cell:=by decide+kernel
 names:∀y∈scope.names,y.2=.local→scope.names.lookup y.1=some .local:=by decide+kernel
 free:∀y∈scope.names,y.2=.free→sc.names.lookup y.1=some .cell:=by decide+kernel
 hx:scope.names.lookup x=some .local:=by rfl
 cap:ns.map some=is.map fun i=>N[i]? :=by rfl
 nd:(x::ns).Nodup:=by decide+kernel
 capf:∀y∈ns,scope.names.lookup y=some .free∧sc.names.lookup y=some .cell:=by decide+kernel
section
variable {X:Cx}{x:Str}{px pos:Pos}{elt iter:Expr}{scope:Scope}{wi:TI}{te:TE}{is:List Nat}{ns:List Str}
end
end L2
namespace L2
open PySem PySem.Spec PyProof.Rows
section
variable {K:PySem.W.Frag}{is:List Nat}{te:TE}{σ:St}{H:Hp}{Q:VK}
theorem cA.upd{H:Hp}{D:Addr}{o:HO}(h:H D=none):cA H (upd H D o):=fun b u e=>by
 rw[cC (cz e h)]
 exact e
theorem zg{J:It}{xs:List V}(f:V→V)(hz:xs.length≤sizeLine)(hgo:∀i H2,cA H H2→i < xs.length→J.go i H2)(hstop:∀H2,cA H H2→J.stop xs.length H2)
  (hy:∀i H2 v H3,cA H H2→i < xs.length→J.yld i H2 v H3→H3=H2∧xs[i]? =some v)
  (he:∀v H2 Q',v∈xs→cA H H2→Q' (f v) H2→te (some v::d3 is σ) H2 Q')(q:∀D,H D=none→Q (.ref D) (upd H D (.lst (xs.map f)))):hU J is te σ H Q:=by
 intro D hD
 refine⟨fun i m ys H2=>m=xs.length - i∧i≤xs.length∧ys=(xs.take i).map f∧H2=upd H D (.lst ys),⟨_,rfl,zero_le _,by simp,rfl⟩,?_⟩
 rintro i m ys H2 ⟨rfl,hi,hys,rfl⟩
 have sm:cA H (upd H D (.lst ys)):=cA.upd hD
 refine⟨cy,?_⟩
 by_cases hlt:i < xs.length
 ·refine .inr ⟨hgo i _ sm hlt,fun v H3 y=>?_⟩
  obtain⟨rfl,hv⟩:=hy i _ v H3 sm hlt y
  refine he v _ _ (mem_of_getElem? hv) sm ⟨cy,?_,xs.length - (i+1),by omega,rfl,hlt,?_,AL⟩
  ·rw[hys,length_map,length_take]
   omega
  ·rw[hys,take_add_one,hv,map_append]
   rfl
 ·have e:i=xs.length:=by omega
  subst e
  refine .inl ⟨hstop _ sm,?_⟩
  rw[hys,take_length]
  exact q D hD
theorem cA.Dr{K:PySem.W.Frag}{H H':Hp}{a:Addr}{xs:List V}(e:cA H H')(h:dq K H a xs):dq K H' a xs:=by
 rcases h with (h|⟨o,h⟩)|h
 ·exact .inl (.inl (e _ _ h))
 ·exact .inl (.inr ⟨o,e _ _ h⟩)
 ·exact .inr h
theorem yN{lo:Int}{n:Nat}(f:V→V)(hz:n≤sizeLine)(he:∀(i:Nat) H2 Q',i < n→cA H H2→Q' (f (.int (lo+i))) H2→te (some (.int (lo+i))::d3 is σ) H2 Q')
  (q:∀D,H D=none→Q (.ref D) (upd H D (.lst ((List.range n).map fun(i:Nat)=>f (.int (lo+i)))))):hU (Bh lo n) is te σ H Q:=by
 refine zg (xs:=(List.range n).map fun(i:Nat)=>V.int (lo+i)) f (by simpa using hz) (fun i H2 _ hi=>?_) (fun H2 _=>?_) (fun i H2 v H3 _ hi y=>?_) (fun v H2 Q' hv sm q'=>?_) (fun D hD=>?_)
 ·show i < n
  simpa using hi
 ·show n≤_
  simp
 ·obtain⟨rfl,rfl⟩:=y
  have hi':i < n:=by simpa using hi
  exact⟨rfl,by simp[hi']⟩
 ·obtain⟨i,hi,rfl⟩:=mem_map.mp hv
  exact he i H2 Q' (mem_range.mp hi) sm q'
 ·rw[map_map]
  exact q D hD
end
def signs(z:Str):List V:=z.cps.toList.map fun c=>V.str ⟨#[c]⟩
theorem signs_length(z:Str):(signs z).length=z.cps.size:=by simp[signs]
def HZ(z:Str):It:=⟨fun i _=>i < z.cps.size,fun i H x H'=>H'=H∧(signs z)[i]? =some x,fun i _=>i=z.cps.size⟩
theorem Ai{P:Program}{w:World}{K:PySem.W.Frag}{tg:Expr}{ty:String}{z:Str}{t:Tok}(it:Addr)(hW:∀A:Around,A.handled=none→Walks P w A it [it] [it] z.cps.size (SignAt z) (fun i h=>h.IsStrIter it ty z t i))
  (hS:∀(A:Around)(i:Nat)(s:Shared)(Q:Value→Shared→Prop)(E:Value→Shared→Prop),s.heap.IsStrIter it ty z t i→Q (.ref it) s→wpAny (model P w) A (pyIter (.ref it)) Q E s)
  (hn:["enumerate", "zip", "dict_itemiterator", "dict_reverseitemiterator", "odict_iterator", "itertools.zip_longest", "itertools.pairwise"].contains ty=false):Turn P w K tg (HZ z) [it] it (fun i h=>h.IsStrIter it ty z t i) where
 mem:=by simp
 obj:=fun i h st b hb=>by
  have e:b=it:=by simpa using hb
  subst e
  obtain⟨o,e,c,d⟩:=st
  exact⟨o,e,fun v z=>by rw[d]at z;cases z⟩
 keep:=fun i h h' st k=>by
  obtain⟨o,e,r⟩:=st
  exact⟨o,k it (by simp) o e,r⟩
 item:=by
  intro X hP hw hK hc i pins s σ H E I hf st hg
  subst hP hw hK
  obtain⟨f0,f1,f2,f3,f4,f5⟩:=hf it (by simp)
  refine(hW X.A (I.ok.hd hc)).item i s _ _ hg st fun v h' tk hv st' kk=>?_
  obtain⟨c,u,hcp,rfl⟩:=hv
  have I1:Inv X pins σ H { s with heap:=h',toks:=tk }:=I.turned (fun b o hb e=>kk b o (by simpa using hb) e) f0 f1 f3 f4 f5
  obtain⟨o,e,cc,d⟩:=id st'
  refine⟨_,rfl,rb (s:={ s with heap:=h',toks:=tk }) e cc d hn ⟨.str ⟨#[c]⟩,H,I1,⟨u,rfl⟩,⟨rfl,?_⟩,st',fun b hb=>(hf b hb).1⟩⟩
  unfold signs
  rw[getElem?_map,getElem?_toList,hcp]
  rfl
 done:=by
  intro X hP hw hK hc i pins s σ H E I hf st hg
  subst hP hw hK
  obtain⟨f0,f1,f2,f3,f4,f5⟩:=hf it (by simp)
  have hg':i=z.cps.size:=hg
  subst hg'
  exact(hW X.A (I.ok.hd hc)).done s _ _ st fun h' tk kk=>⟨rfl,I.turned (fun b o hb e=>kk b o (by simpa using hb) e) f0 f1 f3 f4 f5⟩
 self:=hS
section
variable {X:Cx}{tg:Expr}
def Iw(tl:TE):TI:=fun σ H R=>tl σ H fun x H1=>∃z,x=.str z∧R (HZ z) H1
theorem Dq{l:Expr}{tl:TE}(hl:PE X l tl):PI X tg l (Iw tl):=by
 intro pins s σ H R I h
 refine cX (hl pins s σ H _ I h) fun v s1 hpat=>?_
 obtain⟨x,H1,I1,r1,q1⟩:=hpat
 obtain⟨z,e,q⟩:=q1
 subst e
 obtain⟨t,rfl⟩:=r1
 have fin:∀(ty:String) (hW:∀A:Around,A.handled=none→Walks X.prog X.w A s1.heap.objs.size [s1.heap.objs.size] [s1.heap.objs.size] z.cps.size (SignAt z) (fun i h=>h.IsStrIter s1.heap.objs.size ty z t i))
   (hS:∀(A:Around) (i:Nat) (s:Shared) (Q:Value→Shared→Prop) (E:Value→Shared→Prop),s.heap.IsStrIter s1.heap.objs.size ty z t i→Q (.ref s1.heap.objs.size) s→wpAny (model X.prog X.w) A (pyIter (.ref s1.heap.objs.size)) Q E s)
   (hn:["enumerate", "zip", "dict_itemiterator", "dict_reverseitemiterator", "odict_iterator", "itertools.zip_longest", "itertools.pairwise"].contains ty=false),
   Hq X pins σ tg R (.ref s1.heap.objs.size) { s1 with heap:=s1.heap.push { cls:=.type ty,data:=.fields #[.str z t,.int 0 0] } }:=fun ty hW hS hn=>by
  refine⟨s1.heap.objs.size,[s1.heap.objs.size],_,_,H1,rfl,I1.kept (t':=s1.toks) fun b o e=>get?_push_of_some _ e,Ai _ hW hS hn,⟨_,get?_push_size _ rfl,rfl,rfl⟩,fun b hb=>?_,q⟩
  have e:b=s1.heap.objs.size:=by simpa using hb
  subst e
  exact I1.vi (le_refl _) (I1.hok.fresh (le_refl _))
 cases ha:z.cps.all (· < 128)
 ·exact wpAny_pyIter_wide ha (fin "str_iterator" (fun A hA=>Walks.strWide hA _ z t) (fun A i s Q E st h=>wpAny_pyIter_striter_wide st h) (by decide))
 ·exact wpAny_pyIter_ascii ha (fin "str_ascii_iterator" (fun A hA=>Walks.strAscii hA _ z t) (fun A i s Q E st h=>wpAny_pyIter_striter_ascii st h) (by decide))
theorem Ez{z:Str}{is:List Nat}{te:TE}{σ:St}{H:Hp}{Q:VK}(f:V→V)(hz:z.length≤sizeLine)(he:∀v H2 Q',v∈signs z→cA H H2→Q' (f v) H2→te (some v::d3 is σ) H2 Q')
  (q:∀D,H D=none→Q (.ref D) (upd H D (.lst ((signs z).map f)))):hU (HZ z) is te σ H Q:=
 zg f (by rw[signs_length];exact hz) (fun i H2 _ hi=>by rw[signs_length]at hi;exact hi) (fun H2 _=>signs_length z) (fun i H2 v H3 _ hi y=>y) he q
theorem rq:∀bs:List Bool,((List.range bs.length).all fun i=>bs.getD i false)=bs.all id
 |[]=>rfl
 |b::r=>by
  rw[length_cons,List.range_succ_eq_map,all_cons,all_map,all_cons,←rq r]
  rfl
theorem pq(hc:X.calm=true):ef X (.builtin "all") (fun xs H Q=>∃(p:Addr) (bs:List Bool),xs=[.ref p]∧cF X.K H p (bs.map V.bl)∧Q (.bl (bs.all id)) H):=by
 intro pins s σ H xs us Q I r h
 obtain⟨p,bs,rfl,hq,q⟩:=h
 obtain⟨u,rfl,rx⟩:=vals1 r
 cases rx
 obtain⟨its,rv,pl,hz⟩:=I.list hq
 have hl:=rv.length
 rw[length_map]at hl
 have hlt:p < s.heap.objs.size:=by obtain⟨o,n,e,_⟩:=pl;exact lt_size e
 refine call_all_walk (wpAny_pyIter_list pl.isList ?_)
 refine⟨s.heap.objs.size,[s.heap.objs.size,p],[s.heap.objs.size],its.toArray.size,_,_,fun i=>bs.getD i false,rfl,Walks.list (show X.A.in1.handled=none from I.ok.hd hc) s.heap.objs.size p (ne_of_lt hlt) its.toArray,
  ⟨⟨_,get?_push_size _ rfl,rfl,rfl⟩,?_⟩,fun i v s' Q' E' hv hQ=>?_,fun h' tk kk=>?_⟩
 ·obtain⟨o,e,r⟩:=pl.isList
  exact⟨o,get?_push_of_some _ e,r⟩
 ·have hi:i < bs.length:=by
   have:i < its.length:=by
    have:=(Array.getElem?_eq_some_iff.mp hv).1
    simpa using this
   omega
  have hb:(bs.map V.bl)[i]? =some (V.bl bs[i]):=by simp[hi]
  obtain⟨u,hu,ru⟩:=rv.get hb
  have hv':its[i]? =some v:=by simpa using hv
  rw[hu]at hv'
  cases hv'
  obtain rfl:v=Value.bool bs[i]:=ru
  refine wpAny_truthy_bool ?_
  have e:bs.getD i false=bs[i]:=by simp[List.getD,hi]
  rw[←e]
  exact hQ
 ·refine⟨.bl (bs.all id),H,?_,?_,q⟩
  ·have I1:Inv X pins σ H { s with heap:=s.heap.push { cls:=.type "list_iterator",data:=.fields #[.ref p,.int 0 0] } }:=I.kept (t':=s.toks) fun b o e=>get?_push_of_some _ e
   have I2:Inv X pins σ H { s with heap:=h',toks:=tk }:=I.kept (t':=tk) fun b o e=>kk b o (by
    intro z
    have z':b=s.heap.objs.size:=by simpa using z
    exact absurd (lt_size e) (by rw[z'];exact lt_irrefl _)) (get?_push_of_some _ e)
   exact I2
  ·show Value.bool _=Value.bool _
   congr 1
   rw[size_toArray,←hl]
   exact rq bs
inductive Gi(K:PySem.W.Frag)(xs:List V)(H:Hp)(Q:VK):Prop
 |mk(x:V)(t:Value)(n:String)(b:Bool)(e:xs=[x,.ty n])(ty:fO K H x t)(k:kitOne K t (.type n)=some b)(q:Q (.bl b) H)
theorem kg:ef X (.builtin "isinstance") (fun xs H Q=>L2.Gi X.K xs H Q):=by
 intro pins s σ H xs us Q I r h
 obtain⟨x,t,n,b,rfl,ty,e,q⟩:=h
 obtain⟨u,c,rfl,rx,rc⟩:=vals2 r
 obtain rfl:c=Value.type n:=rc
 exact wD I rx ty e fun tk=>⟨.bl b,H,I.tok _,rfl,q⟩
theorem pA:iq X (compareOp .LtE) (fun x y H Q=>∃i j,x=.str i∧y=.str j∧Q (.bl (!decide (j.cps.toList < i.cps.toList))) H):=by
 intro pins s σ H x y v u Q I rx ry h
 obtain⟨i,j,rfl,rfl,q⟩:=h
 obtain⟨t,rfl⟩:=rx
 obtain⟨t',rfl⟩:=ry
 exact PySem.P.le_str ⟨.bl _,H,I,rfl,q⟩
def C4(z:Str)(lo hi:Option Int):Str:=⟨((z.cps.toList.drop (HT.mB z.length 0 lo)).take (HT.mB z.length z.length hi - HT.mB z.length 0 lo)).toArray⟩
inductive IW(x:V)(lo hi:Option Int)(H:Hp)(Q:VK):Prop
 |mk(z:Str)(hx:x=.str z)(b:z.length≤sizeLine)(q:Q (.str (C4 z lo hi)) H)
def KQ:V→Option Int→Option Int→Hp→VK→Prop:=fun x lo hi H Q=>IW x lo hi H Q
end
end L2
namespace L2
open PySem PySem.Spec PyProof.Rows
theorem Inv.Iy{X:Cx}{pins:List (Addr×Obj)}{σ:St}{H:Hp}{s:Shared}(I:Inv X pins σ H s):sysModules < s.heap.objs.size:=by
 have h:mainGlobals < s.heap.objs.size:=(I.mod.glob.keeps I.bk).lt
 exact lt_trans (by decide) h
theorem B4{P:Program}{w:World}{H:Hp}(h:Heap)(hb:sysModules < h.objs.size):cV P w H (h.push { cls:=.type "dict",data:=.dict #[] }) h.objs.size (.dK []):=
 ⟨zero_le _,beq_eq_false_iff_ne.mpr (Ne.symm (ne_of_lt hb)),[],.nil,Heap.DictOf.new h⟩
def CA:TE:=fun _ H Q=>∀p,H p=none→Q (.ref p) (upd H p (.dK []))
theorem Bj{X:Cx}{pos:Pos}:PE X (.Dict [] [] pos) CA:=fun pins s σ H Q I h=>
 wpAny_Dict_empty ⟨.ref s.heap.objs.size,_,I.laid (a:=s.heap.objs.size) (o:=.dK []) (t':=s.toks) (fun _ _ q=>get?_push_of_some _ q) (le_refl _) (B4 s.heap I.Iy),rfl,h _ (I.hok.fresh (le_refl _))⟩
structure Df(K:PySem.W.Frag)(mg:Str→Option Value)(x:Str)(st:Stmt)(ps:List Str)(f:Addr)(fd:FuncData):Prop where
 fn:oY K x x st f fd
 nm:mg x=some (.ref f)
 bi:Binds K fd ps []
def tys:List String:=["NoneType", "bool", "int", "str", "list", "tuple", "dict"]
def wM(T n:String):Bool:=T == n || (T == "bool" && n == "int")
theorem dv {K:PySem.W.Frag}{T n:String}(hT:T∈tys) (hn:n∈["int", "bool", "str", "list", "tuple"]):kitOne K (.type T) (.type n)=some (wM T n):=by
 simp only[tys,mem_cons,not_mem_nil,or_false]at hT hn
 rcases hT with rfl|rfl|rfl|rfl|rfl|rfl|rfl<;>rcases hn with rfl|rfl|rfl|rfl|rfl<;>rfl
section
variable {K:PySem.W.Frag}{H:Hp}{x:V}{T:String}
theorem ty_int (ty:fO K H x (.type "int")):∃i,x=.int i:=by
 generalize h:Value.type "int" =t at ty
 cases ty<;>first|exact⟨_,rfl⟩| (injection h with h';exact absurd h' (by decide))|cases h
theorem ty_str (ty:fO K H x (.type "str")):∃z,x=.str z:=by
 generalize h:Value.type "str" =t at ty
 cases ty<;>first|exact⟨_,rfl⟩| (injection h with h';exact absurd h' (by decide))|cases h
theorem wI{i:Int}(ty:fO K H (.int i) (.type T)):T= "int" :=by
 generalize h:Value.type T=t at ty
 cases ty
 injection h
theorem wW{z:Str}(ty:fO K H (.str z) (.type T)):T= "str" :=by
 generalize h:Value.type T=t at ty
 cases ty
 injection h
end
theorem cR:bootBuiltins "isinstance" =some (.builtin "isinstance"):=by decide+kernel
theorem uL:bootBuiltins "int" =some (.type "int"):=by decide+kernel
theorem AG:bootBuiltins "bool" =some (.type "bool"):=by decide+kernel
theorem tW:bootBuiltins "str" =some (.type "str"):=by decide+kernel
theorem lK:bootBuiltins "all" =some (.builtin "all"):=by decide+kernel
theorem dO:bootBuiltins "len" =some (.builtin "len"):=by decide+kernel
theorem dR:bootBuiltins "list" =some (.type "list"):=by decide+kernel
theorem nQ:bootBuiltins "tuple" =some (.type "tuple"):=by decide+kernel
end L2
namespace L2
open PySem PySem.Spec PyProof.Rows
def notStar(e:Expr):Bool:=match e with
 |.Starred _ _=>false
 |_=>true
theorem cL{e:Expr}{rest:List Expr}{env:Env}(h:notStar e=true):starEach (e::rest) env=(false,eval e env)::starEach rest env:=by
 cases e<;>first|rfl|cases h
theorem fw{env:Env}{pos:Pos}:∀{es:List Expr},es.all notStar=true→(backTo pos (starEach es env)).any (·.1)=false
 |[],_=>rfl
 |e::es,h=>by
  rw[all_cons,and_eq_true]at h
  rw[cL h.1]
  exact fw h.2
theorem ua{X:Cx}{e:Expr}{es:List Expr}{te:TE}{t:TA}(ha:PE X e te)(hr:PA X es t)(h:notStar e=true:=by rfl):PA X (e::es) (dG te t):=eP ha hr (cL h)
def jD(e:Expr):Bool:=match e with
 |.ListComp .. =>true
 |.SetComp .. =>true
 |.DictComp .. =>true
 |_=>false
theorem jN{e:Expr}{tg:Option Expr}{n:Nat}{env:Env}(h:jD e=false):swapsWith e tg n env=pure false:=by
 cases e<;>first|rfl|cases h
theorem BL{X:Cx}{f:Expr}{as:List Expr}{kw:List Keyword}{p:Pos}{t:TE}(h:PE X (.Call f as kw p) t):PT X (.Call f as kw p) (tB t):=vd h (fun _=>rfl)
theorem GS{l r:Expr}{op:Operator}{p:Pos}:dU (.BinOp l op r p):=fun _ _=>rfl
theorem Bb{x:Str}{p:Pos}:dU (.Name x p):=fun _ _=>rfl
theorem DA{c:Const}{k:Nat}{p:Pos}:dU (.Constant c k p):=fun _ _=>rfl
theorem jB{op op':CmpOp}{b c:Expr}(h:op'≠.In:=by decide)(h2:op'≠.NotIn:=by decide):lastMarks [op,op'] [b,c]=false:=by
 have e:lastMarks [op,op'] [b,c]=behindInMarks op' c:=by rfl
 rw[e]
 exact cE c h h2
theorem Fs{X:Cx}{e:Expr}{te:TE}{p:Pos}(he:PE X e te)(h:jD e=false:=by rfl):PS X (.Expr e p) (y6 te):=B9 he (jN h)
structure Slot(X:Cx)(i:Nat)(x:Str):Prop where
 hN:X.N[i]? =some x
 lc:Loc X.env.scope x
 fn:X.fn x=true∨X.env.scope.names.lookup x=some .local
 db:(x == ("__debug__" :Str))=false
 cd:(x == ("__classdict__" :Str))=false
structure Bt(X:Cx)(x:Str):Prop where
 gl:Gl X x
 nm:X.mg x=none
 hn:x≠ "__name__"
 db:(x == ("__debug__" :Str))=false
structure C5(X:Cx)(x:Str)(sp:Sp):Prop where
 ex:∃(k:Nat) (f:Addr) (fd:FuncData) (ps:List Str),eD X.prog X.w X.K X.mg X.base l9 k f fd ps sp∧dD k X.A∧X.mg x=some (.ref f)∧keepIn X.K (.ref f)=true∧Binds X.K fd ps []
 gl:Gl X x
 db:(x == ("__debug__" :Str))=false
section
variable {X:Cx}{i:Nat}{x:Str}{sp:Sp}{p pos pos':Pos}{e:Expr}{es:List Expr}{te:TE}{t:TA}
theorem Slot.rd(S:Slot X i x):PE X (.Name x p) (j5 i):=kr S.hN (S.lc.elim .inl fun h=>.inr (.inl h)) S.db S.cd
theorem Slot.set(S:Slot X i x)(nd:X.N.Nodup)(he:PE X e te)(h:jD e=false:=by rfl):PS X (.Assign [.Name x pos'] e pos) (sI te (eA i)):=Eb nd S.hN S.lc he (jN h) S.fn
theorem Slot.tg(S:Slot X i x)(nd:X.N.Nodup):PG X (.Name x p) (eA i):=mW nd S.hN S.lc S.fn
theorem Bt.call{id:String}{r:List V→Hp→VK→Prop}(B:Bt X x)(hc:ef X (.builtin id) r)(hv:bootBuiltins x=some (.builtin id))(ha:PA X (e::es) t)(h1:notStar e=true:=by rfl)
  (h2:es.all notStar=true:=by rfl):PE X (.Call (.Name x p) (e::es) [] pos) (EX r t):=gz hc B.gl B.nm hv ha B.hn B.db (cL h1) (fw h2)
theorem Bt.GF{T:String}{r:List V→Hp→VK→Prop}(B:Bt X x)(hc:ef X (.type T) r)(hv:bootBuiltins x=some (.type T))(ha:PA X (e::es) t)(h1:notStar e=true:=by rfl)
  (h2:es.all notStar=true:=by rfl):PE X (.Call (.Name x p) (e::es) [] pos) (EX r t):=xr hc B.gl B.nm hv ha B.hn B.db (cL h1) (fw h2)
theorem Bt.ty{n:String}(B:Bt X x)(hv:bootBuiltins x=some (.type n)):PE X (.Name x p) (tC (.ty n)):=mF (v:=.ty n) B.gl B.nm hv rfl B.hn B.db
theorem C5.call(C:C5 X x sp)(ha:PA X (e::es) t)(h1:notStar e=true:=by rfl)
  (h2:es.all notStar=true:=by rfl):PE X (.Call (.Name x p) (e::es) [] pos) (rF sp [] E0 t):=by
 obtain⟨k,f,fd,ps,G,hr,nm,kp,bi⟩:=C.ex
 exact vz G hr C.gl nm kp bi .nil v8 ha C.db (cL h1) (fw h2)
end
end L2
namespace J
open PySem PySem.Spec PyProof.Rows
open L2 (Cx V Hp St VK TE TT TA TS TG o8 TI TO R2 Sp XK E0 l9 eD dD Gl Binds RelV Vals cF dq fO)
structure JE(X:Cx)(e:Expr)(t:TE):Prop where
 out:L2.PE X e t
structure JT(X:Cx)(e:Expr)(t:TT):Prop where
 out:L2.PT X e t
structure JW(X:Cx)(e:Expr)(t:TT):Prop where
 out:L2.PW X e t
structure JA(X:Cx)(es:List Expr)(t:TA):Prop where
 out:L2.PA X es t
structure JS(X:Cx)(st:Stmt)(t:TS):Prop where
 out:L2.PS X st t
structure uo(X:Cx)(st:List Stmt)(t:TS):Prop where
 out:L2.tP X st t
structure JG(X:Cx)(tg:Expr)(g:TG):Prop where
 out:L2.PG X tg g
structure Gp(X:Cx)(ts:List Expr)(g:o8):Prop where
 out:L2.FA X ts g
structure JI(X:Cx)(tg it:Expr)(wi:TI):Prop where
 out:L2.PI X tg it wi
structure JO(X:Cx)(e:Option Expr)(t:TO):Prop where
 out:L2.PO X e t
structure JB(X:Cx)(op:Operator)(r:R2):Prop where
 out:L2.iq X (binaryOp op) r
structure JC(X:Cx)(op:CmpOp)(r:R2):Prop where
 out:L2.iq X (compareOp op) r
structure JU(X:Cx)(op:UnaryOp)(r:V→Hp→VK→Prop):Prop where
 out:L2.Hu X (unaryOp op) r
structure JF(X:Cx)(f:Value)(r:List V→Hp→VK→Prop):Prop where
 out:L2.ef X f r
structure JX(X:Cx)(r:R2):Prop where
 out:L2.Fv X r
structure JM(X:Cx)(id:String)(r:V→List V→Hp→VK→Prop):Prop where
 out:L2.Hv X id r
structure JL(X:Cx)(r:V→Option Int→Option Int→Hp→VK→Prop):Prop where
 out:L2.HU X r
structure dU(b:Expr):Prop where
 out:L2.dU b
section
variable {X:Cx}{a b c e:Expr}{es:List Expr}{ta tb tc te:TE}{t:TA}{tA tB':TT}{pos p2:Pos}{r r':R2}{u v:TS}{st:Stmt}{sts:List Stmt}{tg:Expr}
theorem _root_.bg:JB X .Add (L2.yf fun i j=>.int (i+j)):=⟨L2.Dj⟩
theorem nR:JB X .Sub (L2.yf fun i j=>.int (i - j)):=⟨L2.nR⟩
theorem _root_.bD:JB X .Mult (L2.rI L2.BK fun i j=>.int (i * j)):=⟨L2.Dl⟩
theorem _root_.ba:JB X .FloorDiv (L2.rI L2.Gx fun i j=>.int (i / j)):=⟨L2.A0⟩
theorem _root_.aR:JB X .Mod (L2.rI (fun _ j=>0 < j) fun i j=>.int (i % j)):=⟨L2.Du⟩
theorem k8:JB X .Pow (L2.rI L2.FD fun i j=>.int (i ^ j.toNat)):=⟨L2.k8⟩
theorem gZ:JB X .Add (fun x y H Q=>∃i j,x=.str i∧y=.str j∧i.length+j.length≤sizeLine∧Q (.str (i++j)) H):=⟨L2.gZ⟩
theorem uI:JU X .USub (L2.rU fun i=>.int (-i)):=⟨L2.uI⟩
theorem _root_.aK:JC X .Eq L2.Jv:=⟨L2.F7⟩
theorem _root_.cj:JC X .NotEq L2.Jf:=⟨L2.FI⟩
theorem _root_.bS:JC X .Lt (L2.yf fun i j=>.bl (decide (i < j))):=⟨L2.Fi⟩
theorem _root_.bH:JC X .LtE (L2.yf fun i j=>.bl (decide (i≤j))):=⟨L2.rP⟩
theorem _root_.bP:JC X .Gt (L2.yf fun i j=>.bl (decide (j < i))):=⟨L2.He⟩
theorem _root_.b5:JC X .Is (fun x y H Q=>y=.non∧Q (.bl (decide (x=.non))) H):=⟨L2.DV⟩
theorem _root_.cq:JC X .IsNot (fun x y H Q=>y=.non∧Q (.bl (!decide (x=.non))) H):=⟨L2.AI⟩
theorem iV:JC X .In (L2.Hs X.K false):=⟨L2.iV⟩
theorem _root_.bB:JF X (.builtin "len") (fun xs H Q=>L2.F4 X.K xs H Q):=⟨L2.qj⟩
theorem _root_.bI:JF X (.type "list") (fun xs H Q=>∃p ys,xs=[.ref p]∧(cF X.K H p ys∨dq X.K H p ys)∧∀l,H l=none→Q (.ref l) (L2.upd H l (.lst ys))):=⟨L2.qx⟩
theorem _root_.bZ:JF X (.builtin "isinstance") (fun xs H Q=>L2.Gi X.K xs H Q):=⟨L2.kg⟩
theorem _root_.b6(hc:X.calm=true):JF X (.builtin "all") (fun xs H Q=>∃(p:Addr) (bs:List Bool),xs=[.ref p]∧cF X.K H p (bs.map V.bl)∧Q (.bl (bs.all id)) H):=⟨L2.pq hc⟩
theorem i8:JF X (.type "int") (fun xs H Q=>(∃i,xs=[.int i]∧Q (.int i) H)∨∃k,xs=[.bl k]∧Q (.int (if k then 1 else 0)) H):=⟨L2.i8⟩
theorem gE(hc:X.calm=true):JF X (.builtin "max") (fun xs H Q=>∃i j,xs=[.int i,.int j]∧Q (.int (if j > i then j else i)) H):=⟨L2.gE hc⟩
theorem fu(hc:X.calm=true):JF X (.builtin "min") (fun xs H Q=>∃i j,xs=[.int i,.int j]∧Q (.int (if j < i then j else i)) H):=⟨L2.fu hc⟩
theorem _root_.aV:JX X (L2.BI X.K):=⟨L2.wg⟩
theorem _root_.az:JX X (L2.Bl X.K):=⟨L2.yU⟩
theorem u9:JX X L2.Em:=⟨L2.u9⟩
theorem _root_.cu{l r:Expr}{op:Operator}{p:Pos}:dU (.BinOp l op r p):=⟨L2.GS⟩
theorem _root_.aO{x:Str}{p:Pos}:dU (.Name x p):=⟨L2.Bb⟩
theorem _root_.ak{c:Const}{k:Nat}{p:Pos}:dU (.Constant c k p):=⟨L2.DA⟩
theorem qy{f:Expr}{as:List Expr}{kw:List Keyword}{p:Pos}:dU (.Call f as kw p):=⟨fun _ _=>rfl⟩
theorem i7:JL X (L2.Gm X.K):=⟨L2.i7⟩
theorem iY:JO X none L2.vA:=⟨L2.iY⟩
theorem iZ(h:JE X e te):JO X (some e) (L2.CB te):=⟨L2.iZ h.out⟩
theorem _root_.ae{i j pos}:JE X (.Constant (.int i) j pos) (L2.tC (.int i)):=⟨L2.lB⟩
theorem _root_.a5{b j pos}:JE X (.Constant (.bool b) j pos) (L2.tC (.bl b)):=⟨L2.yv⟩
theorem _root_.bA{j pos}:JE X (.Constant .none j pos) (L2.tC .non):=⟨L2.C8⟩
theorem _root_.aP{x j pos}:JE X (.Constant (.str x) j pos) (L2.tC (.str x)):=⟨L2.tX⟩
theorem _root_.au{op:Operator}(ho:JB X op r)(ha:JE X a ta)(hb:JE X b tb):JE X (.BinOp a op b pos) (L2.CO r ta tb):=⟨L2.CS ho.out ha.out hb.out⟩
theorem yT{op:UnaryOp}{r:V→Hp→VK→Prop}(ho:JU X op r)(ha:JE X a ta):JE X (.UnaryOp op a pos) (L2.Jl r ta):=⟨L2.yT ho.out ha.out⟩
theorem _root_.af(hr:JX X r)(ha:JE X a ta)(hb:JE X b tb)(hs:dU b):JE X (.Subscript a b pos) (L2.CO r ta tb):=⟨L2.Gu hr.out ha.out hb.out hs.out⟩
theorem gD{r:V→Option Int→Option Int→Hp→VK→Prop}{lo hi:Option Expr}{tl th:TO}(hr:JL X r)(he:JE X e te)(hl:JO X lo tl)(hu:JO X hi th):JE X (.Subscript e (.Slice lo hi none p2) pos) (L2.Jk r te tl th):=⟨L2.gD hr.out he.out hl.out hu.out⟩
theorem _root_.aZ{op:CmpOp}(ho:JC X op r)(ha:JE X a ta)(hb:JE X b tb)(hm:behindInMarks op b=false):JE X (.Compare a [op] [b] pos) (L2.CO r ta tb):=⟨L2.vx ho.out ha.out hb.out hm⟩
theorem _root_.aB{op:CmpOp}(ho:JC X op r)(ha:JE X a ta)(hb:JE X b tb)(hm:behindInMarks op b=false):JT X (.Compare a [op] [b] pos) (L2.vF (L2.CO r ta tb)):=⟨L2.B0 ho.out ha.out hb.out hm⟩
theorem gI{op op':CmpOp}(ho:JC X op r)(ho':JC X op' r')(ha:JE X a ta)(hb:JE X b tb)(hc:JE X c tc)(hm:lastMarks [op,op'] [b,c]=false):JE X (.Compare a [op,op'] [b,c] pos) (L2.qr r r' ta tb tc):=⟨L2.gI ho.out ho'.out ha.out hb.out hc.out hm⟩
theorem jK{op op':CmpOp}(ho:JC X op r)(ho':JC X op' r')(ha:JE X a ta)(hb:JE X b tb)(hc:JE X c tc)(hm:lastMarks [op,op'] [b,c]=false):JT X (.Compare a [op,op'] [b,c] pos) (L2.vF (L2.qr r r' ta tb tc)):=⟨L2.jK ho.out ho'.out ha.out hb.out hc.out hm⟩
theorem iA{op:CmpOp}{x:Str}{p:Pos}:behindInMarks op (.Name x p)=false:=rfl
theorem y8{op:CmpOp}{es:List Expr}{k:Nat}{p:Pos}:behindInMarks op (.Tuple es k p)=false:=rfl
theorem _root_.a7{op}(h:JE X a te):JE X (.BoolOp op [a] pos) te:=⟨L2.pV h.out⟩
theorem _root_.aX(ha:JE X a ta)(hb:JE X (.BoolOp .And (b::es) pos) tb):JE X (.BoolOp .And (a::b::es) pos) (L2.CV ta tb):=⟨L2.qz ha.out hb.out⟩
theorem tq(ha:JE X a ta)(hb:JE X (.BoolOp .Or (b::es) pos) tb):JE X (.BoolOp .Or (a::b::es) pos) (L2.BE ta tb):=⟨L2.tq ha.out hb.out⟩
theorem nV(ha:JE X a ta):JE X (.UnaryOp .Not a pos) (L2.CC ta):=⟨L2.nV ha.out⟩
theorem _root_.bC(ha:JT X a tA):JW X (.BoolOp .And [a] pos) tA:=⟨L2.Ce ha.out⟩
theorem _root_.bO(ha:JT X a tA):JW X (.BoolOp .Or [a] pos) tA:=⟨L2.y4 ha.out⟩
theorem _root_.bf(ha:JT X a tA)(hb:JW X (.BoolOp .And (b::es) pos) tB'):JW X (.BoolOp .And (a::b::es) pos) (L2.Hh tA tB'):=⟨L2.ES ha.out hb.out⟩
theorem _root_.bN(ha:JT X a tA)(hb:JW X (.BoolOp .Or (b::es) pos) tB'):JW X (.BoolOp .Or (a::b::es) pos) (L2.Jw tA tB'):=⟨L2.CG ha.out hb.out⟩
theorem _root_.aY(h:JW X e tA):JT X e tA:=⟨h.out.pt⟩
theorem _root_.bu(ha:JT X a tA):JT X (.UnaryOp .Not a pos) (L2.Gr tA):=⟨L2.tL ha.out⟩
theorem _root_.a9{f:Expr}{as:List Expr}{kw:List Keyword}{p:Pos}(h:JE X (.Call f as kw p) te):JT X (.Call f as kw p) (L2.tB te):=⟨L2.BL h.out⟩
theorem _root_.bJ:JA X [] L2.nj:=⟨L2.jk⟩
theorem ua(ha:JE X e te)(hr:JA X es t)(h:L2.notStar e=true:=by rfl):JA X (e::es) (L2.dG te t):=⟨L2.ua ha.out hr.out h⟩
theorem _root_.aj(a:JE X e te)(i:L2.notStar e=true:=by rfl):JA X [e] (L2.dG te L2.nj):=ua a bJ i
theorem _root_.aD{e₁:Expr}{t₁:TE}(a0:JE X e te)(a1:JE X e₁ t₁)(i0:L2.notStar e=true:=by rfl)(i1:L2.notStar e₁=true:=by rfl):JA X [e,e₁] (L2.dG te (L2.dG t₁ L2.nj)):=ua a0 (aj a1 i1) i0
theorem _root_.aM{e₁ e₂:Expr}{t₁ t₂:TE}(a0:JE X e te)(a1:JE X e₁ t₁)(a2:JE X e₂ t₂)(i0:L2.notStar e=true:=by rfl)(i1:L2.notStar e₁=true:=by rfl)(i2:L2.notStar e₂=true:=by rfl):JA X [e,e₁,e₂] (L2.dG te (L2.dG t₁ (L2.dG t₂ L2.nj))):=ua a0 (aD a1 a2 i1 i2) i0
theorem _root_.bX{e₁ e₂ e₃:Expr}{t₁ t₂ t₃:TE}(a0:JE X e te)(a1:JE X e₁ t₁)(a2:JE X e₂ t₂)(a3:JE X e₃ t₃)(i0:L2.notStar e=true:=by rfl)(i1:L2.notStar e₁=true:=by rfl)(i2:L2.notStar e₂=true:=by rfl)(i3:L2.notStar e₃=true:=by rfl):JA X [e,e₁,e₂,e₃] (L2.dG te (L2.dG t₁ (L2.dG t₂ (L2.dG t₃ L2.nj)))):=ua a0 (aM a1 a2 a3 i1 i2 i3) i0
theorem Kr{e₁ e₂ e₃ e₄:Expr}{t₁ t₂ t₃ t₄:TE}(a0:JE X e te)(a1:JE X e₁ t₁)(a2:JE X e₂ t₂)(a3:JE X e₃ t₃)(a4:JE X e₄ t₄)(i0:L2.notStar e=true:=by rfl)(i1:L2.notStar e₁=true:=by rfl)(i2:L2.notStar e₂=true:=by rfl)(i3:L2.notStar e₃=true:=by rfl)(i4:L2.notStar e₄=true:=by rfl):JA X [e,e₁,e₂,e₃,e₄] (L2.dG te (L2.dG t₁ (L2.dG t₂ (L2.dG t₃ (L2.dG t₄ L2.nj))))):=ua a0 (bX a1 a2 a3 a4 i1 i2 i3 i4) i0
theorem _root_.bj(h:JA X es t):JE X (.List es pos) (L2.FO t):=⟨L2.DP h.out⟩
theorem _root_.aS{k}(h:JA X es t):JE X (.Tuple es k pos) (L2.Gq t):=⟨L2.Ei h.out⟩
theorem _root_.cv:JE X (.Dict [] [] pos) L2.CA:=⟨L2.Bj⟩
theorem mq {x:Str}{v:V}{u:Value}(hg:Gl X x) (hm:X.mg x=some u) (r:RelV v u) (hd:(x == ("__debug__" :Str))=false):JE X (.Name x pos) (L2.tC v):=⟨L2.mq hg hm r hd⟩
theorem _root_.aQ(h:JE X e te):JI X tg e (L2.CU X.K te):=⟨L2.B3 h.out⟩
theorem t6(h:JE X e te):JI X tg e (L2.GU X.K te):=⟨L2.t6 h.out⟩
theorem _root_.aJ:uo X [] L2.rG:=⟨L2.wk⟩
theorem _root_.ag(h1:JS X st u)(h2:uo X sts v):uo X (st::sts) (L2.yc u v):=⟨L2.sf h1.out h2.out⟩
theorem _root_.ah(h1:JS X st u):uo X [st] u:=⟨L2.jR h1.out⟩
theorem _root_.bY:uo X sts L2.zf:=⟨L2.xZ⟩
theorem _root_.aw(h:JE X e te):JS X (.Return (some e) pos) (L2.Ga te):=⟨L2.nZ h.out⟩
theorem _root_.bG(h:JE X e te)(hc:L2.jD e=false:=by rfl):JS X (.Expr e pos) (L2.y6 te):=⟨L2.Fs h.out hc⟩
theorem _root_.aH{c:Expr}{x y:List Stmt}{tc:TT}(hc:JT X c tc)(ha:uo X x u)(hb:uo X y v):JS X (.If c x y pos) (L2.yB tc u v):=⟨L2.Cr hc.out ha.out hb.out⟩
theorem _root_.a8{it:Expr}{body:List Stmt}{wi:TI}{g:TG}{tb:TS}(hp:PassesOwn (model X.prog X.w) X.A X.env X.xe)(hc:X.calm=true)(hi:JI X tg it wi)(hg:JG X tg g)(hb:uo X body tb)
  (hs:∀x,foldedSetIterable it X.env x=pure x:=by intro _;rfl):JS X (.For tg it body [] pos) (L2.GN wi g tb):=⟨L2.DJ hp hc hi.out hg.out hb.out hs⟩
end
section
variable {X:Cx}{i:Nat}{x:Str}{sp:Sp}{p pos pos':Pos}{e:Expr}{es:List Expr}{te:TE}{t:TA}{tg:Expr}
theorem _root_.aa(S:L2.Slot X i x):JE X (.Name x p) (L2.j5 i):=⟨S.rd⟩
theorem _root_.aA(S:L2.Slot X i x)(nd:X.N.Nodup)(he:JE X e te)(h:L2.jD e=false:=by rfl):JS X (.Assign [.Name x pos'] e pos) (L2.sI te (L2.eA i)):=⟨S.set nd he.out h⟩
theorem _root_.aF(S:L2.Slot X i x)(nd:X.N.Nodup):JG X (.Name x p) (L2.eA i):=⟨S.tg nd⟩
theorem _root_.aL{id:String}{r:List V→Hp→VK→Prop}(B:L2.Bt X x)(hc:JF X (.builtin id) r)(hv:bootBuiltins x=some (.builtin id))(ha:JA X (e::es) t)(h1:L2.notStar e=true:=by rfl)(h2:es.all L2.notStar=true:=by rfl):
  JE X (.Call (.Name x p) (e::es) [] pos) (L2.EX r t):=⟨B.call hc.out hv ha.out h1 h2⟩
theorem _root_.bw{T:String}{r:List V→Hp→VK→Prop}(B:L2.Bt X x)(hc:JF X (.type T) r)(hv:bootBuiltins x=some (.type T))(ha:JA X (e::es) t)(h1:L2.notStar e=true:=by rfl)(h2:es.all L2.notStar=true:=by rfl):
  JE X (.Call (.Name x p) (e::es) [] pos) (L2.EX r t):=⟨B.GF hc.out hv ha.out h1 h2⟩
theorem ty{n:String}(B:L2.Bt X x)(hv:bootBuiltins x=some (.type n)):JE X (.Name x p) (L2.tC (.ty n)):=⟨B.ty hv⟩
theorem _root_.ao(C:L2.C5 X x sp)(ha:JA X (e::es) t)(h1:L2.notStar e=true:=by rfl)(h2:es.all L2.notStar=true:=by rfl):JE X (.Call (.Name x p) (e::es) [] pos) (L2.rF sp [] E0 t):=⟨C.call ha.out h1 h2⟩
theorem _root_.bR (B:L2.Bt X "range") (ha:JA X [e] t) (h:L2.notStar e=true:=by rfl):JI X tg (.Call (.Name "range" p) [e] [] pos) (L2.C2 t):=⟨L2.x9 B.gl B.nm ha.out (L2.cL h)⟩
end
theorem FW{P:Program}{w:World}{K:PySem.W.Frag}{mg:Str→Option Value}{base:Heap}{x qual:Str}{st:Stmt}{f:Addr}{fd:FuncData}{N ps:List Str}{k:Nat}{sp:Sp}(F:L2.oY K x qual st f fd)(S:L2.cD N ps (L2.cB st))(len:∀vs H Q E,sp vs H Q E→vs.length=ps.length)
  (hbody:∀(X:Cx)(cdv:Value)(A:Around)(outer:List Env)(s:Shared)(H:Hp)(vs:List V)(Q:VK)(E:XK),X=(L2.uV l9 P w K mg base N qual (L2.cB st) f cdv A outer s H E).F3→dD k X.A→sp vs H Q E→
   ∃t,uo X (L2.cU st) t∧t { nx:=fun _ H'=>Q .non H',rt:=Q } (L2.start N vs) H):eD P w K mg base l9 (k+1) f fd ps sp:=by
 refine F.ok S len (fun cdv A outer s H vs Q E hr h=>?_)
 obtain⟨t,h1,h2⟩:=hbody _ cdv A outer s H vs Q E rfl hr h
 exact⟨t,h1.out,h2⟩
end J
namespace Z
open PySem PySem.Spec PyProof.Rows
section
variable {prog:Program}{w:World}{A:Around}{E:Value→Shared→Prop}{s:Shared}
end
structure Ap(z TI TO i1 i2:Addr)(fp1 fp2:List Addr):Prop where
 TIz:TI≠z
 TOz:TO≠z
 TITO:TI≠TO
 TI1:TI≠i1
 TI2:TI≠i2
 z1:z ∉ fp1
 z2:z ∉ fp2
 o1:TO ∉ fp1
 o2:TO ∉ fp2
 m1:i1∈fp1
 m2:i2∈fp2
 x12:i1 ∉ fp2
 x21:i2 ∉ fp1
section
variable {prog:Program}{w:World}{A:Around}{E:Value→Shared→Prop}{s:Shared}{z TI TO i1 i2:Addr}{fp1 fp2:List Addr}{n1 n2:Nat}{P1 P2:Nat→Value→Prop}{S1 S2:Nat→Heap→Prop}
end
end Z
namespace L2
open PySem PySem.Spec PyProof.Rows
theorem Inv.wB{X:Cx}{pins:List (Addr×Obj)}{σ:St}{H:Hp}{s:Shared}{g:Heap}{t':Nat}{fp:List Addr}{T:Addr}{o:HO}(I:Inv X pins σ H s)(hf:∀b∈fp,l8 X pins H b)
  (k:∀b u,b ∉ fp→s.heap.get? b=some u→g.get? b=some u)(hT:s.heap.objs.size≤T)(nf:∀b∈fp,∃u,s.heap.get? b=some u)(new:cV X.prog X.w (upd H T o) g T o):Inv X pins σ (upd H T o) { s with heap:=g,toks:=t' }:=by
 have hn:H T=none:=I.hok.fresh hT
 have Aw:∀b u,H b=some u→b ∉ fp:=fun b u e z=>by rw[(hf b z).1]at e;cases e
 refine I.step (g':=s.gens) (d':=s.drawn) (ch:=fp) (fun b hb=>⟨(hf b hb).2.2.2.1,(hf b hb).2.1,(hf b hb).2.2.2.2.1,(hf b hb).2.2.2.2.2⟩) (fun b u _ _ hc e _=>k b u hc e) (fun b u _ _ hc e _=>⟨u.slots,k b u hc e⟩) (fun b u _ e n=>?_)
  (fun b u hc e=>⟨u,k b u hc e⟩) (fun b xs e=>?_) (fun b u xs e=>?_) (fun b ps e=>⟨#[],?_⟩) (fun m hm=>?_) (fun b u e=>?_) I.bare
 ·rw[cC (ne_of_lt (lt_of_lt_of_le (lt_size e) hT))]
  exact n
 ·rw[cC (cz e hn)]
  exact e
 ·rw[cC (cz e hn)]
  exact e
 ·rw[cC (cz e hn),e]
  simp
 ·obtain⟨ob,es,ep,ho,r⟩:=hm
  exact⟨ob,es,ep,k _ ob (fun z=>(hf _ z).2.1 rfl) ho,r⟩
 ·by_cases hb:b=T
  ·subst hb
   rw[cy]at e
   cases e
   exact new
  ·rw[cC hb]at e
   refine(I.hok b u e).eF (fun c v hc q=>k c v ?_ q) (fun c q=>by rw[cC (cz q hn)];exact q) fun c xs q=>by rw[cC (cz q hn)];exact q
   rcases hc with rfl|hc
   ·exact Aw c u e
   ·exact Aw c _ hc
theorem Inv.lH{X:Cx}{pins:List (Addr×Obj)}{σ:St}{H:Hp}{s:Shared}{g:Heap}{t':Nat}{fp:List Addr}(I:Inv X pins σ H s)(hf:∀b∈fp,l8 X pins H b)
  (k:∀b u,b ∉ fp→s.heap.get? b=some u→g.get? b=some u):Inv X pins σ H { s with heap:=g,toks:=t' }:=by
 have Aw:∀b u,H b=some u→b ∉ fp:=fun b u e z=>by rw[(hf b z).1]at e;cases e
 refine I.step (g':=s.gens) (d':=s.drawn) (ch:=fp) (fun b hb=>⟨(hf b hb).2.2.2.1,(hf b hb).2.1,(hf b hb).2.2.2.2.1,(hf b hb).2.2.2.2.2⟩) (fun b u _ _ hc e _=>k b u hc e) (fun b u _ _ hc e _=>⟨u.slots,k b u hc e⟩) (fun _ _ _ _ n=>n)
  (fun b u hc e=>⟨u,k b u hc e⟩) (fun _ _ e=>e) (fun _ _ _ e=>e) (fun b ps e=>⟨#[],by rw[e];simp⟩) (fun m hm=>?_) (fun b u e=>?_) I.bare
 ·obtain⟨ob,es,ep,ho,r⟩:=hm
  exact⟨ob,es,ep,k _ ob (fun z=>(hf _ z).2.1 rfl) ho,r⟩
 ·refine(I.hok b u e).eF (fun c v hc q=>k c v ?_ q) (fun _ q=>q) fun _ _ q=>q
  rcases hc with rfl|hc
  ·exact Aw c u e
  ·exact Aw c _ hc
def sH(q:Bool)(K:PySem.W.Frag)(H:Hp)(a:Addr)(xs:List V):Prop:=match q with
 |true=>cF K H a xs
 |false=>dq K H a xs
def DZ(q:Bool)(h:Heap)(it a:Addr)(i:Nat):Prop:=match q with
 |true=>h.IsListIter it a i
 |false=>h.IsTupleIter it a i
def isAt(q:Bool)(h:Heap)(a:Addr)(its:Array Value):Prop:=match q with
 |true=>h.IsList a its
 |false=>h.IsTuple a its
def DH(q:Bool):String:=match q with
 |true=> "list_iterator"
 |false=> "tuple_iterator"
theorem rD{q:Bool}{h:Heap}{it a:Addr}{i:Nat}(p:DZ q h it a i):∃o,h.get? it=some o∧∀v,o.data≠.cell v:=by
 cases q with
 |true=>obtain⟨o,e,c,d⟩:=p;exact⟨o,e,fun v z=>by rw[d]at z;cases z⟩
 |false=>obtain⟨o,e,c,d⟩:=p;exact⟨o,e,fun v z=>by rw[d]at z;cases z⟩
theorem xC{q:Bool}{h g:Heap}{it a:Addr}{i:Nat}(p:DZ q h it a i)(k:∀o,h.get? it=some o→g.get? it=some o):DZ q g it a i:=by
 cases q with
 |true=>obtain⟨o,e,r⟩:=p;exact⟨o,k o e,r⟩
 |false=>obtain⟨o,e,r⟩:=p;exact⟨o,k o e,r⟩
def KG(K:PySem.W.Frag)(q1 q2:Bool)(a1 a2:Addr):It:=
 ⟨fun i H=>∃xs ys x y,sH q1 K H a1 xs∧sH q2 K H a2 ys∧xs[i]? =some x∧ys[i]? =some y,
  fun i H v H'=>∃p x y,H p=none∧v=.ref p∧H'=upd H p (.tup [x,y])∧(∀xs,sH q1 K H a1 xs→xs[i]? =some x)∧(∀ys,sH q2 K H a2 ys→ys[i]? =some y),
  fun i H=>∃xs,sH q1 K H a1 xs∧xs.length=i⟩
end L2
namespace L2
open PySem PySem.Spec PyProof.Rows
abbrev GC(q:Bool)(h:Heap)(a:Addr):Heap:=h.push { cls:=.type (DH q),data:=.fields #[.ref a,.int 0 0] }
abbrev Jy(q1 q2:Bool)(h:Heap)(a b:Addr):Heap:=(GC q2 (GC q1 h a) b).push { cls:=.type "tuple",data:=.seq #[.ref h.objs.size,.ref (GC q1 h a).objs.size] }
abbrev JQ(q1 q2:Bool)(h:Heap)(a b:Addr):Heap:=(Jy q1 q2 h a b).push { cls:=.type "tuple",data:=.seq #[.none,.none] }
abbrev K5(q1 q2:Bool)(h:Heap)(a b:Addr):Heap:=(JQ q1 q2 h a b).push { cls:=.type "zip",data:=.fields #[.none,.bool false,.bool false,.ref (GC q2 (GC q1 h a) b).objs.size,.ref (Jy q1 q2 h a b).objs.size] }
theorem Im(n b:Nat)(h:b∈[n+1,n]):n≤b:=by
 simp only[mem_cons,not_mem_nil,or_false]at h
 omega
theorem qB:bootBuiltins "enumerate" =some (.type "enumerate"):=by decide+kernel
def Kf(K:PySem.W.Frag)(ta:TA):TI:=fun σ H R=>ta σ H fun vs H1=>∃q a1 a2,vs=[.ref a1,.ref a2]∧(∃xs,sH q K H1 a1 xs)∧(∃ys,sH q K H1 a2 ys)∧R (KG K q q a1 a2) H1
theorem Bd{X:Cx}{pins:List (Addr×Obj)}{σ:St}{H:Hp}{s:Shared}{q:Bool}{a:Addr}{xs:List V}(I:Inv X pins σ H s)(h:sH q X.K H a xs):a < s.heap.objs.size:=by
 cases q with
 |true=>obtain⟨its,r,⟨o,n,e,_⟩,z⟩:=I.list h;exact lt_size e
 |false=>obtain⟨its,r,⟨o,e,_⟩,z⟩:=I.tuple h;exact lt_size e
section
variable {X:Cx}
end
def ET(K:PySem.W.Frag)(a:Addr):It:=
 ⟨fun i H=>∃xs x,cF K H a xs∧xs[i]? =some x,fun i H v H'=>∃p x,H p=none∧v=.ref p∧H'=upd H p (.tup [.int i,x])∧∀xs,cF K H a xs→xs[i]? =some x,fun i H=>∃xs,cF K H a xs∧xs.length=i⟩
theorem xW{P:Program}{w:World}{K:PySem.W.Frag}{es:List Expr}{kk:Nat}{tp:Pos}{a:Addr}(e it:Addr)(ne:e≠it)(n1:a≠e)(n2:a≠it):
  Turn P w K (.Tuple es kk tp) (ET K a) [e,it] e (fun i h=>(∃old,IsEnum h e it i old)∧h.IsListIter it a i):=by
 refine⟨by simp,fun i h st b hb=>?_,fun i h g st k=>?_,?_,?_,fun A i s Q E st h=>?_⟩
 ·obtain⟨⟨old,ce⟩,c1⟩:=st
  simp only[mem_cons,not_mem_nil,or_false]at hb
  rcases hb with rfl|rfl
  ·exact⟨_,ce,fun v e=>by cases e⟩
  ·exact rD (q:=true) c1
 ·obtain⟨⟨old,ce⟩,c1⟩:=st
  exact⟨⟨old,k _ (by simp) _ ce⟩,xC (q:=true) c1 fun o e=>k _ (by simp) o e⟩
 ·intro X hP hw hK hc i pins s σ H E I hf st hg
  subst hP hw hK
  obtain⟨⟨old,ce⟩,c1⟩:=st
  obtain⟨xs,x,hx,ex⟩:=hg
  obtain⟨its,r,p,l⟩:=I.list hx
  obtain⟨u,eu,ru⟩:=r.get ex
  have W:=WalksT.enumerate (prog:=X.prog) (w:=X.w) (A:=X.A) (I.ok.hd hc) e it a ne n1 n2 its.toArray
  have hi:i < its.toArray.size:=by
   have:=(List.getElem?_eq_some_iff.mp eu).1
   simpa using this
  refine W.item i s _ _ hi ⟨⟨old,ce⟩,c1,p.isList⟩ fun T vals g tk hP hT hTup hM kp=>?_
  obtain⟨t,v,hv,rfl⟩:=hP
  have hvu:v=u:=by
   have:its[i]? =some v:=by simpa using hv
   rw[eu]at this
   exact(Option.some.inj this).symm
  subst hvu
  have hTw:T ∉ [e,it]:=W.apart i T g hM
  refine⟨_,rfl,W.go es kk tp i T { s with heap:=g,toks:=tk } _ _ hM fun g2 st2 kp2=>?_⟩
  have hn:H T=none:=I.hok.fresh hT
  have kk2:∀b u,b ∉ [e,it]→s.heap.get? b=some u→g2.get? b=some u:=fun b u hb q=>kp2 b u hb (kp b u hb q)
  have I2:Inv X pins σ (upd H T (.tup [.int i,x])) { s with heap:=g2,toks:=tk }:=by
   refine I.wB hf kk2 hT (fun b hb=>?_) ⟨by show 2≤sizeLine;decide,[.int i t,v],.cons ⟨t,rfl⟩ (.cons ru .nil),?_⟩
   ·simp only[mem_cons,not_mem_nil,or_false]at hb
    rcases hb with rfl|rfl
    ·exact⟨_,ce⟩
    ·obtain⟨o,q,_⟩:=rD (q:=true) c1;exact⟨o,q⟩
   ·obtain⟨o,q,rest⟩:=hTup
    exact⟨o,kp2 T o hTw q,rest⟩
  refine⟨.ref T,_,I2,rfl,⟨T,x,hn,rfl,rfl,fun zs hz=>by rw[I.sq hz hx];exact ex⟩,⟨by simpa using st2.1,st2.2.1⟩,fun b hb=>?_⟩
  have hbT:b≠T:=by
   rintro rfl
   exact hTw hb
  rw[cC hbT]
  exact(hf b hb).1
 ·intro X hP hw hK hc i pins s σ H E I hf st hg
  subst hP hw hK
  obtain⟨⟨old,ce⟩,c1⟩:=st
  obtain⟨xs,hx,rfl⟩:=hg
  obtain⟨its,r,p,l⟩:=I.list hx
  have W:=WalksT.enumerate (prog:=X.prog) (w:=X.w) (A:=X.A) (I.ok.hd hc) e it a ne n1 n2 its.toArray
  have e1:xs.length=its.toArray.size:=by rw[size_toArray];exact r.length
  rw[e1]at ce c1
  exact W.done s _ _ ⟨⟨old,ce⟩,c1,p.isList⟩ fun g tk kp=>⟨rfl,I.lH hf kp⟩
 ·obtain⟨⟨old,ce⟩,c1⟩:=st
  exact wpAny_pyIter_enum ce h
def Cq(K:PySem.W.Frag)(ta:TA):TI:=fun σ H R=>ta σ H fun vs H1=>∃a,vs=[.ref a]∧(∃xs,cF K H1 a xs)∧R (ET K a) H1
section
variable {X:Cx}
theorem jW {e1:Expr}{es:List Expr}{kk:Nat}{tp p pos:Pos}{ta:TA}(B:Bt X "enumerate") (ha:PA X [e1] ta) (h1:notStar e1=true:=by rfl):PI X (.Tuple es kk tp) (.Call (.Name "enumerate" p) [e1] [] pos) (Cq X.K ta):=by
 intro pins s σ H R I h
 refine wpAny_Call_Name_kw (jG I B.gl B.nm qB ?_ B.hn B.db)
 refine PyProof.Rows.callWith_type1 (cX (ha pos pins s σ H _ I h) fun us s1 hpat=>?_) (cL h1) (fw rfl)
 obtain⟨vs,H1,I1,r1,a,e,⟨xs,m1⟩,q⟩:=hpat
 subst e
 obtain⟨u1,rfl,rx⟩:=vals1 r1
 cases rx
 obtain⟨its,v1,p1,l1⟩:=I1.list m1
 have b1:a < s1.heap.objs.size:=Bd (q:=true) I1 m1
 refine call_enumerate_list p1.isList fun g ge gi _ kp=>?_
 refine wpAny_pyIter_enum ge ?_
 refine⟨_,_,_,_,H1,rfl,I1.kept (t':=s1.toks) kp,xW (a:=a) (s1.heap.objs.size+1) s1.heap.objs.size (ne_of_gt (lt_succ_self _)) (ne_of_lt (lt_succ_of_lt b1)) (ne_of_lt b1),⟨⟨_,ge⟩,gi⟩,fun b hb=>?_,q⟩
 have hle:s1.heap.objs.size≤b:=Im _ _ hb
 exact I1.vi hle (I1.hok.fresh hle)
end
theorem zP{K:PySem.W.Frag}{a:Addr}{xs:List V}{g:TG}{tb:TS}{D:Ends}{σ:St}{H:Hp}(Pv:Nat→St→Hp→Prop)(h0:Pv 0 σ H)(hq:∀i σ H,Pv i σ H→cF K H a xs)
  (hs:∀(i:Nat) x p σ H,xs[i]? =some x→H p=none→Pv i σ H→g (.ref p) σ (upd H p (.tup [.int i,x])) fun σ2 H2=>tb { D with nx:=Pv (i+1),ct:=Pv (i+1),bk:=D.nx } σ2 H2)(hd:∀σ H,Pv xs.length σ H→D.nx σ H):
  ∃W:Nat→Nat→St→Hp→Prop,(∃m,W 0 m σ H)∧∀i m σ H,W i m σ H→
   ((ET K a).stop i H∧D.nx σ H)∨((ET K a).go i H∧∃N:St→Hp→Prop,(∀σ' H',N σ' H'→∃m',m' < m∧W (i+1) m' σ' H')∧∀x H',(ET K a).yld i H x H'→g x σ H' fun σ2 H2=>tb { D with nx:=N,ct:=N,bk:=D.nx } σ2 H2):=by
 refine⟨fun i m σ H=>m=xs.length - i∧i≤xs.length∧Pv i σ H,⟨xs.length,by simp,zero_le _,h0⟩,?_⟩
 rintro i m σ H ⟨rfl,hi,p⟩
 have m1:=hq i σ H p
 by_cases hlt:i < xs.length
 ·refine .inr ⟨⟨xs,xs[i],m1,by simp[hlt]⟩,Pv (i+1),fun σ' H' p'=>⟨xs.length - (i+1),by omega,rfl,hlt,p'⟩,fun v H' y=>?_⟩
  obtain⟨pp,x,hn,rfl,rfl,e1⟩:=y
  exact hs i x pp σ H (e1 xs m1) hn p
 ·have e:i=xs.length:=by omega
  subst e
  exact .inl ⟨⟨xs,m1,rfl⟩,hd σ H p⟩
theorem oy:∀{zs:List Str}{us:List Value},Vals (zs.map V.str) us→StrsAre us zs
 |[],_,r=>by cases r;exact .nil
 |z::zs,_,r=>by
  cases r with
  |cons r1 r2=>
   obtain⟨t,rfl⟩:=r1
   exact .cons z t (oy r2)
end L2
namespace L2
open PySem PySem.Spec PyProof.Rows
local instance keyBEq:BEq Key:=instBEqOfDecidableEq
local instance keyLBEq:@LawfulBEq Key keyBEq:=inferInstanceAs (@LawfulBEq Key instBEqOfDecidableEq)
theorem j3{prog:Program}{w:World}{h:Heap}{a:Addr}{S S':Key→Bool}{n n':Nat}(hS:h.SetOf (cG prog w) a S n)(e:∀k,S k=S' k)(en:n=n'):h.SetOf (cG prog w) a S' n':=by
 have:S=S':=funext e
 subst this
 subst en
 exact hS
section
variable {prog:Program}{w:World}{A:Around}{R:Result→Shared→Prop}{I:Addr}{fp wr:List Addr}{G:Array GenState→Array GenState→Prop}{n:Nat}{P:Nat→Value→Prop}{St:Nat→Shared→Prop}
theorem setLoop(W:WalksS prog w A.in1 I fp wr G n P St)(S:Addr)(hSf:S ∉ fp)(key:Nat→Key)(hval:∀i v,P i v→gx (key i) v=true∧v.scannable=true)
  (hnd:∀i j,i < j→j < n→key i≠key j)(hb:n+1 < scanBound):∀(k i:Nat) (s:Shared),n - i=k→i≤n→St i s→s.heap.SetOf (cG prog w) S (fun c=>(List.range i).any fun j=>decide (c=key j)) i→
   (∀s',Moved (S::wr) G s s'→s'.heap.SetOf (cG prog w) S (fun c=>(List.range n).any fun j=>decide (c=key j)) n→R (.ok (.ret .none)) s')→
   codeAny (model prog w) A (.builtin "set.update.loop" ⟨[.ref S,.ref I],[]⟩) R s:=by
 have hSw:S ∉ wr:=fun h=>hSf (W.sub _ h)
 have hsub:∀b∈wr,b∈S::wr:=fun b hb=>mem_cons_of_mem _ hb
 have eF:∀{s s':Shared}{T:Key→Bool}{m:Nat},Moved wr G s s'→s.heap.SetOf (cG prog w) S T m→s'.heap.SetOf (cG prog w) S T m:=fun hm ⟨o,es,ep,tb,ho,rest⟩=>⟨o,es,ep,tb,hm.heap S _ hSw ho,rest⟩
 intro k
 induction k with
 |zero=>
  intro i s hk hi hst hS hR
  obtain rfl:i=n:=by omega
  refine codeAny_builtin PyProof.Rows.F.entry_set_update_loop ?_
  rw[Around.under_plainId PyProof.Rows.F.plain_set_update_loop _]
  show wpAny _ A.in1 (pyNext (.ref I) >>= _) _ _ s
  refine wpAny_bind (W.done s _ _ hst fun s' hm=>?_)
  show wpAny _ A.in1 (ret Value.none) _ _ s'
  exact wpAny_pure (hR s' (hm.mono hsub) (eF hm hS))
 |succ k ih=>
  intro i s hk hi hst hS hR
  have hlt:i < n:=by omega
  refine codeAny_builtin PyProof.Rows.F.entry_set_update_loop ?_
  rw[Around.under_plainId PyProof.Rows.F.plain_set_update_loop _]
  show wpAny _ A.in1 (pyNext (.ref I) >>= _) _ _ s
  refine wpAny_bind (W.item i s _ _ hlt hst fun v s' hP hst' hm=>?_)
  obtain⟨hkv,hsc⟩:=hval i v hP
  have hS1:=eF hm hS
  show wpAny _ A.in1 (holding [v] (setAdd S v) >>= _) _ _ s'
  refine wpAny_bind (wpAny_holding ?_)
  unfold setAdd
  refine wpAny_holding ?_
  refine wpAny_bind ((cG prog w).pyHash (k:=key i) hkv ?_)
  refine wpAny_setAddHashed_of (knd:=cG prog w) (s:={ s' with toks:=s'.toks+1 }) hkv hsc hS1 (by omega) fun g hsb hS2=>?_
  have hno:((List.range i).any fun j=>decide (key i=key j))=false:=by
   rw[any_eq_false]
   intro j hj
   have hj':=mem_range.mp hj
   simp only[decide_eq_true_eq]
   exact fun e=>hnd j i hj' hlt e.symm
  have hS3:g.SetOf (cG prog w) S (fun c=>(List.range (i+1)).any fun j=>decide (c=key j)) (i+1):=by
   refine j3 hS2 (fun c=>?_) (by rw[hno];rfl)
   rw[range_succ,List.any_append]
   simp
  refine wpAny_pure ⟨plainId_quiet PyProof.Rows.F.plain_set_update_loop _,ih (i+1) _ (by omega) hlt (W.frame _ s' _ _ hst' (le_succ _) fun b hb o e=>?_) hS3 fun s'' hm'' hS''=>?_⟩
  ·rw[hsb.2 b (by rintro rfl;exact hSf hb)]
   exact e
  ·refine hR s'' (Moved.trans W.gtrans ((hm.mono hsub).then_heap (le_succ _) fun b o hb e=>?_) hm'') hS''
   rw[hsb.2 b (by rintro rfl;exact hb mem_cons_self)]
   exact e
end
section
variable {prog:Program}{w:World}{A:Around}{E:Value→Shared→Prop}{s:Shared}
theorem xX{l:Addr}{items:Array Value}{key:Nat→Key}{Q:Value→Shared→Prop}(hh:A.handled=none)(hl:s.heap.IsList l items)(hv:∀i v,items[i]? =some v→gx (key i) v=true∧v.scannable=true)
  (hnd:∀i j,i < j→j < items.size→key i≠key j)(hb:items.size+1 < scanBound)
  (h:∀(g:Heap)(tk:Nat)(T:Key→Bool),g.SetOf (cG prog w) s.heap.objs.size T items.size→(∀b o,b < s.heap.objs.size→s.heap.get? b=some o→g.get? b=some o)→Q (.ref s.heap.objs.size) { s with heap:=g,toks:=tk }):
  wpAny (model prog w) A (call (.type "set") [.ref l]) Q E s:=by
 obtain⟨c,tl,hmro⟩:=called_set.mro
 have hmade:=called_set.made
 have hsub:=called_set.sub
 refine wpAny_call (codeAny_of_tree ?_)
 show wpAny _ _ (callAny (.type "set") _) _ _ _
 refine wpAny_pure ⟨Code.quiet_builtin _ (by decide+kernel),codeAny_builtin PySem.F.entry_type_call ?_⟩
 rw[Around.under_plain (weight_type_call_type "set" [.ref l] []) rfl]
 have f1:=called_set.notType
 have f2:=called_set.canCreate
 have f3:=PySem.F.typeCall_set_1 (.ref l)
 repeat (any_goals (first|assumption|wp_step))
 refine codeAny_mono (code_set_new_1 (.ref l) (E:=E) (Q₁:=fun obj u=>∃led:Bool,obj=.ref s.heap.objs.size∧u={ s with heap:=s.heap.push { cls:=.type "set",dict:=none,data:=.set #[] 0 (.fresh 0 0 led) } }) fun led=>⟨led,rfl,rfl⟩) fun r u hr=>?_
 cases r with
 |error e=>exact hr
 |ok fl=>
  cases fl with
  |ret obj=>
   obtain⟨led,rfl,rfl⟩:=hr
   have hS:(s.heap.push { cls:=.type "set",dict:=none,data:=.set #[] 0 (.fresh 0 0 led) }).get? s.heap.objs.size=some { cls:=.type "set",dict:=none,data:=.set #[] 0 (.fresh 0 0 led) }:=get?_push_size _ rfl
   have hT:Shared.TypeIs { s with heap:=s.heap.push { cls:=.type "set",dict:=none,data:=.set #[] 0 (.fresh 0 0 led) } } (.ref s.heap.objs.size) "set" :=⟨_,hS,rfl⟩
   have hli:=called_set.init.lookup
   have hbi:=called_set.init.bind (.ref s.heap.objs.size)
   repeat (any_goals (first|assumption|wp_step))
   refine codeAny_mono (codeAny_call_builtin (R:=wants (fun r u=>r=.none∧∃g tk T,u={ s with heap:=g,toks:=tk }∧g.SetOf (cG prog w) s.heap.objs.size T items.size∧(∀b o,b < s.heap.objs.size→s.heap.get? b=some o→g.get? b=some o)) E)
    called_set.init.plain PySem.F.entry_set_init (check_set_init_1 hT ?_)) fun r2 u hr2=>?_
   ·obtain⟨⟨ocls,odict,odata,oslots⟩,hol,hcl,nl,hdl⟩:=hl
    simp only at hcl hdl
    subst hcl
    subst hdl
    have hol':(s.heap.push { cls:=.type "set",dict:=none,data:=.set #[] 0 (.fresh 0 0 led) }).get? l=some { cls:=.type "list",dict:=odict,data:=.seq items nl,slots:=oslots }:=get?_push_of_some _ hol
    have k1:=PySem.F.sub_list_set
    have k2:=PySem.F.sub_list_frozenset
    have k3:(Value.type "list" == Value.type "dict")=false:=by decide
    have hl1:(s.heap.push { cls:=.type "set",dict:=none,data:=.set #[] 0 (.fresh 0 0 led) }).IsList l items:=⟨_,hol',rfl,nl,rfl⟩
    unfold Builtin.«set.__init__» noKeywords Builtin.Frozenset.updateFrom
    generalize hPI:pyIter=PI
    wp_walk
    subst hPI
    refine wpAny_pyIter_list hl1 ?_
    refine wpAny_bind (wpAny_runValue ?_)
    have hlS:l < s.heap.objs.size:=lt_size hol
    have hneI:l≠(s.heap.push { cls:=.type "set",dict:=none,data:=.set #[] 0 (.fresh 0 0 led) }).objs.size:=by
     rw[size_push]
     exact ne_of_lt (lt_succ_of_lt hlS)
    have hSf:s.heap.objs.size ∉ [(s.heap.push { cls:=.type "set",dict:=none,data:=.set #[] 0 (.fresh 0 0 led) }).objs.size,l]:=by
     rw[size_push]
     simp only[mem_cons,not_mem_nil,or_false,not_or]
     exact⟨ne_of_lt (lt_succ_self _),ne_of_gt hlS⟩
    refine setLoop ((Walks.list (show A.in1.in1.in1.handled=none by simp[hh]) _ l hneI items).toS) s.heap.objs.size hSf key hv hnd hb (items.size - 0) 0 _ (by omega) (zero_le _) ⟨⟨_,get?_push_size _ rfl,rfl,rfl⟩,(hl1.push _)⟩ ?_ ?_
    ·refine j3 ((PyProof.Rows.setObjOf_fresh (knd:=cG prog w) led).setOf (get?_push_of_some _ hS) (by unfold scanBound;omega)) (fun _=>rfl) rfl
    ·intro s' hm hS'
     obtain⟨g,g',d',tk',os'⟩:=s'
     have eg:g'=s.gens:=hm.gens
     have ed:d'=s.drawn:=hm.drawn
     have eo:os'=s.os:=hm.os
     subst eg ed eo
     show wpAny _ _ _ _ _ _
     refine wpAny_pure ?_
     show wpAny _ _ (ret Value.none) _ _ _
     refine wpAny_pure ⟨rfl,g,tk',_,rfl,hS',fun b o hb e=>?_⟩
     have hb2:b≠(s.heap.push { cls:=.type "set",dict:=none,data:=.set #[] 0 (.fresh 0 0 led) }).objs.size:=by
      rw[size_push]
      exact ne_of_lt (lt_succ_of_lt hb)
     exact hm.heap b o (by simp only[mem_cons,not_mem_nil,or_false,not_or];exact⟨ne_of_lt hb,hb2⟩) (get?_push_of_some _ (get?_push_of_some _ e))
   ·cases r2 with
    |error e=>exact hr2
    |ok fl2=>
     cases fl2 with
     |ret r=>
      obtain⟨rfl,g,tk,T,rfl,hS',hk'⟩:=hr2
      repeat (any_goals (first|assumption|wp_step))
      exact h _ _ _ hS' hk'
     |_=>exact hr2.elim
  |_=>exact hr.elim
end
def setM(P:Program)(w:World)(a:Addr)(n:Nat):HO:=.ext fun h=>∃T,h.SetOf (cG P w) a T n
theorem lE{X:Cx}(hc:X.calm=true):ef X (.type "set") (fun xs H Q=>∃(p:Addr) (zs:List Str),xs=[.ref p]∧cF X.K H p (zs.map V.str)∧zs.Nodup∧zs.length < 1000∧∀q,H q=none→Q (.ref q) (upd H q (setM X.prog X.w q zs.length))):=by
 intro pins s σ H xs us Q I r h
 obtain⟨p,zs,rfl,hq,nd,hz,q⟩:=h
 obtain⟨u,rfl,rx⟩:=vals1 r
 cases rx
 obtain⟨its,rv,pl,_⟩:=I.list hq
 have hl:=rv.length
 rw[length_map]at hl
 refine xX (key:=fun i=>Sum.inr (zs.getD i "")) (I.ok.hd hc) pl.isList (fun i v e=>?_) (fun i j hij hj=>?_) (by rw[size_toArray,←hl];unfold scanBound;omega) fun g tk T hS kp=>?_
 ·have e':its[i]? =some v:=by simpa using e
  have hi:i < zs.length:=by
   have:=(List.getElem?_eq_some_iff.mp e').1
   omega
  obtain⟨u,eu,t,rfl⟩:=rv.get (show(zs.map V.str)[i]? =some (V.str zs[i]) by simp[hi])
  rw[eu]at e'
  cases e'
  have e2:zs.getD i "" =zs[i]:=by simp[List.getD,hi]
  show gx (Sum.inr (zs.getD i "")) _=true∧_
  rw[e2]
  exact⟨pj _ _,rfl⟩
 ·have hj':j < zs.length:=by
   rw[size_toArray,←hl]at hj
   exact hj
  have hi':i < zs.length:=by omega
  intro e
  have e1:zs.getD i "" =zs.getD j "" :=Sum.inr.inj e
  have e2:zs[i]=zs[j]:=by simpa [List.getD,hi',hj'] using e1
  exact absurd ((List.getElem_inj nd).mp e2) (by omega)
 ·have hn:H s.heap.objs.size=none:=I.hok.fresh (le_refl _)
  have e3:its.toArray.size=zs.length:=by rw[size_toArray,hl]
  rw[e3]at hS
  refine⟨.ref s.heap.objs.size,_,I.laid (t':=tk) (o:=setM X.prog X.w s.heap.objs.size zs.length) (fun b o e=>kp b o (lt_size e) e) (le_refl _) ⟨⟨T,hS⟩,?_,fun h1 h2 p k=>?_⟩,rfl,q _ hn⟩
  ·obtain⟨o,_,_,_,e,_⟩:=hS
   exact⟨o,e⟩
  ·obtain⟨T,o,es,ep,t,e,rest⟩:=p
   exact⟨T,o,es,ep,t,k o e,rest⟩
theorem gb{X:Cx}:ef X (.builtin "len") (fun xs H Q=>∃(p:Addr) (n:Nat),xs=[.ref p]∧H p=some (setM X.prog X.w p n)∧Q (.int n) H):=by
 intro pins s σ H xs us Q I r h
 obtain⟨p,n,rfl,hp,q⟩:=h
 obtain⟨u,rfl,rx⟩:=vals1 r
 cases rx
 obtain⟨⟨T,o,es,ep,t,e,ex,d,_,_,hsz,hf,rfl⟩,_⟩:=I.hok p _ hp
 have hb:es.size < 4096:=hsz
 exact call_len_set e ex d hf (by omega) ⟨.int es.size,H,I.tok _,⟨_,rfl⟩,q⟩
end L2
namespace L2
open PySem PySem.Spec PyProof.Rows
section
variable {K:PySem.W.Frag}{is:List Nat}{te:TE}{σ:St}{H:Hp}{Q:VK}
theorem Dg{J:It}{n:Nat}(Pv:Addr→Nat→List V→Hp→Prop)(hz:n≤sizeLine)(h0:∀D,H D=none→Pv D 0 [] (upd H D (.lst [])))
  (hD:∀D i ys H2,Pv D i ys H2→H2 D=some (.lst ys)∧ys.length=i)(hgo:∀D i ys H2,Pv D i ys H2→i < n→J.go i H2)(hstop:∀D ys H2,Pv D n ys H2→J.stop n H2)
  (he:∀D i ys H2 v H3 (Q':VK),Pv D i ys H2→i < n→J.yld i H2 v H3→(∀y H4,H4 D=some (.lst ys)→Pv D (i+1) (ys++[y]) (upd H4 D (.lst (ys++[y])))→Q' y H4)→te (some v::d3 is σ) H3 Q')
  (q:∀D ys H2,H D=none→Pv D n ys H2→Q (.ref D) H2):hU J is te σ H Q:=by
 intro D hDn
 refine⟨fun i m ys H2=>m=n - i∧i≤n∧Pv D i ys H2,⟨_,rfl,zero_le _,h0 D hDn⟩,?_⟩
 rintro i m ys H2 ⟨rfl,hi,p⟩
 obtain⟨d1,d2⟩:=hD D i ys H2 p
 refine⟨d1,?_⟩
 by_cases hlt:i < n
 ·refine .inr ⟨hgo D i ys H2 p hlt,fun v H3 y=>?_⟩
  refine he D i ys H2 v H3 _ p hlt y fun y' H4 e4 p4=>⟨e4,by omega,n - (i+1),by omega,rfl,hlt,p4⟩
 ·have e:i=n:=by omega
  subst e
  exact .inl ⟨hstop D ys H2 p,q D ys H2 hDn p⟩
theorem vK{J:It}{xs:List V}(f:V→V)(hz:xs.length≤sizeLine)(hgo:∀i H2,cA H H2→i < xs.length→J.go i H2)(hstop:∀H2,cA H H2→J.stop xs.length H2)
  (hy:∀i H2 v H3,cA H H2→i < xs.length→J.yld i H2 v H3→H3=H2∧xs[i]? =some v)
  (he:∀v H2 (Q':VK),v∈xs→cA H H2→(∀H3,cA H2 H3→Q' (f v) H3)→te (some v::d3 is σ) H2 Q')
  (q:∀D H',H D=none→cA H H'→H' D=some (.lst (xs.map f))→Q (.ref D) H'):hU J is te σ H Q:=by
 refine Dg (n:=xs.length) (fun D i ys H2=>H D=none∧cA H H2∧H2 D=some (.lst ys)∧i≤xs.length∧ys=(xs.take i).map f) hz (fun D hD=>⟨hD,cA.upd hD,cy,zero_le _,by simp⟩)
  (fun D i ys H2 p=>⟨p.2.2.1,by rw[p.2.2.2.2,length_map,length_take];have:=p.2.2.2.1;omega⟩) (fun D i ys H2 p hi=>hgo i H2 p.2.1 hi) (fun D ys H2 p=>hstop H2 p.2.1) ?_ ?_
 ·rintro D i ys H2 v H3 Q' ⟨hD,sm,hl,hi,hys⟩ hlt y k
  obtain⟨rfl,hv⟩:=hy i H2 v H3 sm hlt y
  refine he v _ _ (mem_of_getElem? hv) sm fun H4 s4=>?_
  refine k _ _ (s4 _ _ hl) ⟨hD,fun b o e=>?_,cy,hlt,?_⟩
  ·rw[cC (cz e hD)]
   exact s4 _ _ (sm _ _ e)
  ·rw[hys,take_add_one,hv,map_append]
   rfl
 ·rintro D ys H2 hD ⟨_,sm,hl,_,hys⟩
  rw[take_length]at hys
  rw[hys]at hl
  exact q D H2 hD sm hl
theorem jP{a:Addr}{xs:List V}(f:V→V)(hq:cF K H a xs)(hz:xs.length≤sizeLine)(he:∀v H2 (Q':VK),v∈xs→cA H H2→(∀H3,cA H2 H3→Q' (f v) H3)→te (some v::d3 is σ) H2 Q')
  (q:∀D H',H D=none→cA H H'→H' D=some (.lst (xs.map f))→Q (.ref D) H'):hU (Ax K a) is te σ H Q:=
 vK f hz (fun i H2 sm hi=>⟨xs,xs[i],sm.seq hq,by simp[hi]⟩) (fun H2 sm=>⟨xs,sm.seq hq,le_refl _⟩) (fun i H2 v H3 sm hi y=>⟨y.1,y.2 xs (sm.seq hq)⟩) he q
theorem AK{a:Addr}{xs:List V}(f:V→V)(hq:dq K H a xs)(hz:xs.length≤sizeLine)(he:∀v H2 (Q':VK),v∈xs→cA H H2→(∀H3,cA H2 H3→Q' (f v) H3)→te (some v::d3 is σ) H2 Q')
  (q:∀D H',H D=none→cA H H'→H' D=some (.lst (xs.map f))→Q (.ref D) H'):hU (HL K a) is te σ H Q:=
 vK f hz (fun i H2 sm hi=>⟨xs,xs[i],sm.Dr hq,by simp[hi]⟩) (fun H2 sm=>⟨xs,sm.Dr hq,le_refl _⟩) (fun i H2 v H3 sm hi y=>⟨y.1,y.2 xs (sm.Dr hq)⟩) he q
end
theorem hV{env:Env}{k:NameKind}(hk:k≠.free):∀{names:List (Str×NameKind)}{x:Str},names.lookup x=some k→
  (names.map fun(n,k)=>if(k == NameKind.free && env.scope.kind == .function && env.kindOf n == some .cell) then(n,NameKind.cell) else(n,k)).lookup x=some k
 |[],_,h=>by simp at h
 | (n,j)::r,x,h=>by
  have ih:=@hV env k hk r x
  show List.lookup x ((if(j == NameKind.free && env.scope.kind == .function && env.kindOf n == some .cell)=true then(n,NameKind.cell) else(n,j))::_)=_
  cases hx:x == n with
  |true=>
   simp only[lookup_cons,hx]at h
   cases h
   rw[if_neg (by simp[hk])]
   simp only[lookup_cons,hx]
  |false=>
   simp only[lookup_cons,hx]at h
   by_cases hc':(j == NameKind.free && env.scope.kind == .function && env.kindOf n == some .cell)=true
   ·rw[if_pos hc'];simp only[lookup_cons,hx];exact ih h
   ·rw[if_neg hc'];simp only[lookup_cons,hx];exact ih h
theorem iK{env:Env}:∀{names:List (Str×NameKind)}{x:Str},names.lookup x=some .free→
  (names.map fun(n,k)=>if(k == NameKind.free && env.scope.kind == .function && env.kindOf n == some .cell) then(n,NameKind.cell) else(n,k)).lookup x=some .cell∨
  (names.map fun(n,k)=>if(k == NameKind.free && env.scope.kind == .function && env.kindOf n == some .cell) then(n,NameKind.cell) else(n,k)).lookup x=some .free
 |[],_,h=>by simp at h
 | (n,j)::r,x,h=>by
  have ih:=@iK env r x
  show List.lookup x ((if(j == NameKind.free && env.scope.kind == .function && env.kindOf n == some .cell)=true then(n,NameKind.cell) else(n,j))::_)=_∨List.lookup x ((if(j == NameKind.free && env.scope.kind == .function && env.kindOf n == some .cell)=true then(n,NameKind.cell) else(n,j))::_)=_
  cases hx:x == n with
  |true=>
   simp only[lookup_cons,hx]at h
   cases h
   by_cases hc':(NameKind.free == NameKind.free && env.scope.kind == .function && env.kindOf n == some .cell)=true
   ·rw[if_pos hc'];simp only[lookup_cons,hx];first|exact .inl rfl|exact .inl trivial
   ·rw[if_neg hc'];simp only[lookup_cons,hx];first|exact .inr rfl|exact .inr trivial
  |false=>
   simp only[lookup_cons,hx]at h
   by_cases hc':(j == NameKind.free && env.scope.kind == .function && env.kindOf n == some .cell)=true
   ·rw[if_pos hc'];simp only[lookup_cons,hx];exact ih h
   ·rw[if_neg hc'];simp only[lookup_cons,hx];exact ih h
section
variable {X:Cx}{x y:Str}{ns:List Str}{scope:Scope}{cl:List (Str×Addr)}{fp:List Addr}{s3:Shared}{H3:Hp}{C:Addr}{sp:Sp}
structure wG(X:Cx)(x:Str)(sp:Sp):Prop where
 ex:∃(k:Nat) (f:Addr) (fd:FuncData) (ps:List Str),eD X.prog X.w X.K X.mg X.base l9 k f fd ps sp∧dD k X.A∧X.mg x=some (.ref f)∧keepIn X.K (.ref f)=true∧Binds X.K fd ps []
 db:(x == ("__debug__" :Str))=false
structure K7(X:Cx)(x:Str):Prop where
 nm:X.mg x=none
 hn:x≠ "__name__"
 db:(x == ("__debug__" :Str))=false
theorem wG.lc(B:wG X y sp)(h:scope.names.lookup y=some .globalImplicit):C5 (dA X (x::ns) scope cl fp s3 H3 C) y sp:=⟨B.ex,hV (by decide) h,B.db⟩
end
structure Gd(P:Program)(w:World)(K:PySem.W.Frag)(mg:Str→Option Value)(base:Heap)(k:Nat)(x:Str)(sp:Sp):Prop where
 ex:∃(f:Addr) (fd:FuncData) (ps:List Str),eD P w K mg base l9 k f fd ps sp∧mg x=some (.ref f)∧keepIn K (.ref f)=true∧Binds K fd ps []
structure Md(P:Program)(w:World)(K:PySem.W.Frag)(mg:Str→Option Value)(base:Heap)(k:Nat)(C:Addr)(m:Str)(sp:Sp):Prop where
 ex:∃(f:Addr) (fd:FuncData) (ps:List Str),eD P w K mg base l9 k f fd ps sp∧Meth K C m f∧Binds K fd ps []
 cl:tI K C
structure Kd(P:Program)(w:World)(K:PySem.W.Frag)(mg:Str→Option Value)(base:Heap)(k:Nat)(x:Str)(C:Addr)(sp:Sp):Prop where
 ex:∃(f:Addr) (fd:FuncData) (ps:List Str),eD P w K mg base l9 k f fd ps sp∧Mk K C f∧Binds K fd ps []
 nm:mg x=some (.ref C)
structure Iu(X:Cx)(x:Str)(C:Addr)(sp:Sp):Prop where
 ex:∃(k:Nat) (f:Addr) (fd:FuncData) (ps:List Str),eD X.prog X.w X.K X.mg X.base l9 k f fd ps sp∧dD (k+1) X.A∧Mk X.K C f∧Binds X.K fd ps []
 nm:X.mg x=some (.ref C)
 gl:Gl X x
 db:(x == ("__debug__" :Str))=false
structure Met(X:Cx)(C:Addr)(m:Str)(sp:Sp):Prop where
 ex:∃(k:Nat) (f:Addr) (fd:FuncData) (ps:List Str),eD X.prog X.w X.K X.mg X.base l9 k f fd ps sp∧dD k X.A∧Meth X.K C m f∧Binds X.K fd ps []
 cl:tI X.K C
structure Here(X:Cx)(P:Program)(w:World)(K:PySem.W.Frag)(mg:Str→Option Value)(base:Heap)(sc:Scope)(N:List Str)(k:Nat):Prop where
 pr:X.prog=P
 wd:X.w=w
 fK:X.K=K
 gm:X.mg=mg
 bs:X.base=base
 calm:X.calm=true
 own:PassesOwn (model X.prog X.w) X.A X.env X.xe
 hsc:X.env.scope=sc
 hN:X.N=N
 nd:X.N.Nodup
 room:dD k X.A
 fn:∀x,X.fn x=true
section
variable {X:Cx}{P:Program}{w:World}{K:PySem.W.Frag}{mg:Str→Option Value}{base:Heap}{sc:Scope}{N:List Str}{k j:Nat}{x m:Str}{sp:Sp}{C:Addr}
theorem Here.slot (h:Here X P w K mg base sc N k) (i:Nat) (hN:N[i]? =some x) (lc:Loc sc x) (db:(x == ("__debug__" :Str))=false) (cd:(x == ("__classdict__" :Str))=false):Slot X i x:=
 ⟨by rw[h.hN];exact hN,by rw[h.hsc];exact lc,.inl (h.fn x),db,cd⟩
theorem Here.sl (h:Here X P w K mg base sc N k) (i:Nat) (x:Str) (hN:N[i]? =some x:=by rfl) (lc:Loc sc x:=by first|exact .inl rfl|exact .inr rfl) (db:(x == ("__debug__" :Str))=false:=by decide) (cd:(x == ("__classdict__" :Str))=false:=by decide):Slot X i x:=h.slot i hN lc db cd
def HS(X:Cx):List Nat→List Str→Prop
 |i::is,x::r=>Slot X i x∧HS X is r
 |_,_=>True
theorem Here.Fq(h:Here X P w K mg base sc N k):∀(is:List Nat) (r:List Str),(∀(j i:Nat) x,is[j]? =some i→r[j]? =some x→N[i]? =some x)→(∀x∈r,(sc.names.lookup x=some .local∨sc.names.lookup x=some .cell)∧(x == ("__debug__" :Str))=false∧(x == ("__classdict__" :Str))=false)→HS X is r
 |[],_,_,_=>trivial
 |_::_,[],_,_=>trivial
 |i::is,x::r,e,c=>⟨h.slot i (e 0 i x rfl rfl) (c x mem_cons_self).1 (c x mem_cons_self).2.1 (c x mem_cons_self).2.2,Here.Fq h is r (fun j i x a b=>e (j+1) i x a b) fun y hy=>c y (mem_cons_of_mem _ hy)⟩
theorem Here.dZ (h:Here X P w K mg base sc N k) (is:List Nat) (e:is=List.range N.length:=by rfl) (c:∀x∈N,(sc.names.lookup x=some .local∨sc.names.lookup x=some .cell)∧(x == ("__debug__" :Str))=false∧(x == ("__classdict__" :Str))=false:=by decide+kernel):HS X is N:=h.Fq is N (fun j i x a b=>by
 subst e
 obtain⟨h1,h2⟩:=List.getElem?_eq_some_iff.mp a
 rw[List.getElem_range]at h2
 exact h2 ▸ b) c
theorem Here.gl(h:Here X P w K mg base sc N k)(hg:sc.names.lookup x=some .globalImplicit):Gl X x:=by
 show X.env.scope.names.lookup x=_
 rw[h.hsc]
 exact hg
theorem Here.bt (h:Here X P w K mg base sc N k) (hm:mg x=none) (hg:sc.names.lookup x=some .globalImplicit) (hn:x≠ "__name__") (db:(x == ("__debug__" :Str))=false):Bt X x:=⟨h.gl hg,by rw[h.gm];exact hm,hn,db⟩
theorem Here.b (h:Here X P w K mg base sc N k) (hm:mg x=none) (hg:sc.names.lookup x=some .globalImplicit:=by rfl) (hn:x≠ "__name__" :=by decide) (db:(x == ("__debug__" :Str))=false:=by decide):Bt X x:=h.bt hm hg hn db
theorem Here.KS (h:Here X P w K mg base sc N k) (G:Gd P w K mg base j x sp) (hg:sc.names.lookup x=some .globalImplicit) (hj:j≤k) (db:(x == ("__debug__" :Str))=false):C5 X x sp:=by
 obtain⟨f,fd,ps,h1,h2,h3,h4⟩:=G.ex
 obtain⟨rfl,rfl,rfl,rfl,rfl⟩:=And.intro h.pr (And.intro h.wd (And.intro h.fK (And.intro h.gm h.bs)))
 exact⟨⟨j,f,fd,ps,h1,h.room.mono hj,h2,h3,h4⟩,h.gl hg,db⟩
theorem Here.c (h:Here X P w K mg base sc N k) (G:Gd P w K mg base j x sp) (hg:sc.names.lookup x=some .globalImplicit:=by rfl) (hj:j≤k:=by first|decide|exact le_refl _) (db:(x == ("__debug__" :Str))=false:=by decide):C5 X x sp:=h.KS G hg hj db
theorem Here.Ie (h:Here X P w K mg base sc N k) (G:Gd P w K mg base j x sp) (hj:j≤k) (db:(x == ("__debug__" :Str))=false):wG X x sp:=by
 obtain⟨f,fd,ps,h1,h2,h3,h4⟩:=G.ex
 obtain⟨rfl,rfl,rfl,rfl,rfl⟩:=And.intro h.pr (And.intro h.wd (And.intro h.fK (And.intro h.gm h.bs)))
 exact⟨⟨j,f,fd,ps,h1,h.room.mono hj,h2,h3,h4⟩,db⟩
theorem Here.ci (h:Here X P w K mg base sc N k) (G:Gd P w K mg base j x sp) (hj:j≤k:=by first|decide|exact le_refl _) (db:(x == ("__debug__" :Str))=false:=by decide):wG X x sp:=h.Ie G hj db
theorem Here.HM (h:Here X P w K mg base sc N k) (G:Kd P w K mg base j x C sp) (hg:sc.names.lookup x=some .globalImplicit) (hj:j+1≤k) (db:(x == ("__debug__" :Str))=false):Iu X x C sp:=by
 obtain⟨f,fd,ps,h1,h2,h3⟩:=G.ex
 have nm:=G.nm
 obtain⟨rfl,rfl,rfl,rfl,rfl⟩:=And.intro h.pr (And.intro h.wd (And.intro h.fK (And.intro h.gm h.bs)))
 exact⟨⟨j,f,fd,ps,h1,h.room.mono hj,h2,h3⟩,nm,h.gl hg,db⟩
theorem Here.met(h:Here X P w K mg base sc N k)(G:Md P w K mg base j C m sp)(hj:j≤k):Met X C m sp:=by
 obtain⟨f,fd,ps,h1,h2,h3⟩:=G.ex
 have c:=G.cl
 obtain⟨rfl,rfl,rfl,rfl,rfl⟩:=And.intro h.pr (And.intro h.wd (And.intro h.fK (And.intro h.gm h.bs)))
 exact⟨⟨j,f,fd,ps,h1,h.room.mono hj,h2,h3⟩,c⟩
end
section
variable {X:Cx}{x y:Str}{ns:List Str}{scope:Scope}{cl:List (Str×Addr)}{fp:List Addr}{s3:Shared}{H3:Hp}{C D:Addr}{sp:Sp}{m:Str}
end
theorem D0:bootBuiltins "set" =some (.type "set"):=by decide+kernel
theorem pQ:bootBuiltins "min" =some (.builtin "min"):=by decide+kernel
theorem uc:bootBuiltins "max" =some (.builtin "max"):=by decide+kernel
theorem fc{c A B:Prop} [Decidable c] (hc:c)(h:A):if c then A else B:=by
 rw[if_pos hc]
 exact h
theorem ig{c A B:Prop} [Decidable c] (hc:¬c)(h:B):if c then A else B:=by
 rw[if_neg hc]
 exact h
inductive Il(K:PySem.W.Frag)(x y:V)(H:Hp)(Q:VK):Prop
 |mk(l b:Addr)(xs zs:List V)(hx:x=.ref l)(hy:y=.ref b)(s:cF K H l xs)(t:cF K H b zs)(e:xs.length+zs.length≤sizeLine)(q:∀p,H p=none→Q (.ref p) (upd H p (.lst (xs++zs))))
def CP(K:PySem.W.Frag):R2:=fun x y H Q=>Il K x y H Q
theorem mG{X:Cx}:iq X (binaryOp .Add) (CP X.K):=by
 intro pins s σ H x y v u Q I rx ry h
 obtain⟨l,b,xs,zs,rfl,rfl,hH,hB,hz,q⟩:=h
 cases rx
 cases ry
 obtain⟨its,r,pl,z⟩:=I.list hH
 obtain⟨its2,r2,pl2,z2⟩:=I.list hB
 have hl:=r.length
 have hl2:=r2.length
 obtain⟨⟨cls,dd,data,sl⟩,ho,hc,n,hd⟩:=pl.isList
 obtain⟨⟨cls2,dd2,data2,sl2⟩,ho2,hc2,n2,hd2⟩:=pl2.isList
 simp only at hc hd hc2 hd2
 subst hc hd hc2 hd2
 have e:its.toArray++its2.toArray=(its++its2).toArray:=by simp
 refine concat_meets ⟨_,ho,rfl⟩ ⟨_,ho2,rfl⟩ noFill_list_add seq_list_add PySem.F.slot_list_add PySem.F.entry_list_add (PySem.F.args_list_add_2 _ _) (list_addW l b its.toArray its2.toArray n n2 dd dd2 sl sl2 (by simp only[size_toArray];omega)) ⟨ho,ho2,?_⟩
 rw[e]
 exact⟨.ref _,_,I.Ia (t':=s.toks) (r.append r2) (by rw[length_append];omega),rfl,q _ I.fresh⟩
end L2
namespace J
open PySem PySem.Spec PyProof.Rows
open L2 (Cx V Hp St VK TE TT TA TS TG o8 TI TO R2 Sp XK E0 l9 eD dD Gl Binds RelV Vals cF dq fO Here Gd Md Kd Iu Met Df oY cD Meth Mk tI)
structure Hn(X:Cx)(id:String)(r:V→List V→Hp→VK→Prop):Prop where
 out:L2.Hv X id r
section
variable {X:Cx}{x y:Str}{ns:List Str}{scope:Scope}{cl:List (Str×Addr)}{fp:List Addr}{s3:Shared}{H3:Hp}{C:Addr}{sp:Sp}{p pos apos pos':Pos}{e o value:Expr}{es:List Expr}{ta te tv:TE}{t:TA}{m f:Str}{tg:Expr}
theorem _root_.b4 (h:scope.names.lookup x=some .local) (db:(x == ("__debug__" :Str))=false) (cd:(x == ("__classdict__" :Str))=false):JE (L2.dA X (x::ns) scope cl fp s3 H3 C) (.Name x p) (L2.j5 0):=
 ⟨L2.kr (i:=0) rfl (.inl (PySem.lookup_relabel_local h)) db cd⟩
theorem _root_.b8 {i:Nat}(h:scope.names.lookup y=some .free) (hi:ns[i]? =some y) (db:(y == ("__debug__" :Str))=false) (cd:(y == ("__classdict__" :Str))=false):JE (L2.dA X (x::ns) scope cl fp s3 H3 C) (.Name y p) (L2.j5 (i+1)):=
 ⟨L2.kr (i:=i+1) hi (.inr (L2.iK h)) db cd⟩
theorem HM(M:Iu X x C sp)(ha:JA X (e::es) t)(h1:L2.notStar e=true:=by rfl)(h2:es.all L2.notStar=true:=by rfl):JE X (.Call (.Name x p) (e::es) [] pos) (L2.C1 C sp [] E0 t):=by
 obtain⟨k,f,fd,ps,F,hr,mk,bi⟩:=M.ex
 exact⟨L2.Bu mk F hr M.gl M.nm bi .nil L2.v8 ha.out M.db (L2.cL h1) (L2.fw h2)⟩
theorem _root_.bM{pl:Sem Bool}(M:Met X C m sp)(he:JE X o ta)(ht:eval (.Call (.Attribute o m apos) [] [] pos) X.env=(do
   let ov ←eval o X.env
   standAt apos.atName
   let (f,first) ←holding [ov] (getMethod ov m pl)
   callWith pos f first (backTo pos (starEach [] X.env)) (backToKw pos (keywordEach [] X.env)))):JE X (.Call (.Attribute o m apos) [] [] pos) (L2.CL C m sp [] E0 ta L2.nj):=by
 obtain⟨k,f,fd,ps,F,hr,me,bi⟩:=M.ex
 exact⟨L2.zc he.out M.cl me F hr bi .nil L2.v8 ht⟩
theorem _root_.cw(he:JE X (.Name x p) ta):JE X (.Attribute (.Name x p) f pos) (L2.GQ X.K ta f):=⟨L2.DT he.out rfl⟩
theorem kQ(ha:JE X o ta)(hv:JE X value tv)(h:L2.jD value=false:=by rfl):JS X (.Assign [.Attribute o f pos'] value pos) (L2.FC X.K ta tv f):=⟨L2.kQ ha.out hv.out (L2.jN h)⟩
theorem _root_.bK:Hn X "list.append" L2.vB:=⟨L2.o4⟩
theorem jr:Hn X "list.reverse" L2.rT:=⟨L2.jr⟩
def nh(o:Expr):Bool:=match o with
 |.Call .. =>false
 |_=>true
theorem fP{o:Expr}{name:Str}{env:Env}{v:Sem Value}(h:nh o=true):attributeBase o name env v=v:=by
 cases o<;>first|rfl|cases h
theorem DC{cpos:Pos}{env:Env}(h1:L2.notStar e=true):((backTo cpos (starEach [e] env)).all (fun x=> !x.1) && (backToKw cpos (keywordEach [] env)).all (fun x=>x.1.isSome)
   && decide ([e].length+([]:List Keyword).length+(if([]:List Keyword).isEmpty then 0 else 1) < 30))=true:=by
 rw[L2.cL h1]
 rfl
theorem J2 {T id:String}{r:V→List V→Hp→VK→Prop}{name:Str}(pa:PlainAttrs T) (slot:Slot T name id) (hty:typeOf (.builtin id)=pure (.type "method_descriptor")) (hm:Hn X id r) (ho:JE X o te)
  (h:nh o=true:=by rfl)(hline:(apos.endLine == pos.line)=true:=by rfl):JE X (.Call (.Attribute o name apos) [] [] pos) (L2.Fl X.K T r te):=⟨L2.Er pa slot hty hm.out ho.out (fP h) hline⟩
theorem _root_.bL {T id:String}{r:V→List V→Hp→VK→Prop}{name:Str}(pa:PlainAttrs T) (slot:Slot T name id) (hty:typeOf (.builtin id)=pure (.type "method_descriptor")) (hm:Hn X id r) (ho:JE X o te) (ha:JA X [e] t)
  (h:nh o=true:=by rfl)(h1:L2.notStar e=true:=by rfl)(hline:(apos.endLine == pos.line)=true:=by rfl):JE X (.Call (.Attribute o name apos) [e] [] pos) (L2.Jr X.K T r te t):=
 ⟨L2.FK pa slot hty hm.out ho.out ha.out (fP h) (DC h1) hline (L2.cL h1) rfl⟩
theorem jW {e1:Expr}{kk:Nat}{tp:Pos}(B:L2.Bt X "enumerate") (ha:JA X [e1] t) (h1:L2.notStar e1=true:=by rfl):JI X (.Tuple es kk tp) (.Call (.Name "enumerate" p) [e1] [] pos) (L2.Cq X.K t):=⟨L2.jW B ha.out h1⟩
theorem lE(hc:X.calm=true):JF X (.type "set") (fun xs H Q=>∃(p:Addr) (zs:List Str),xs=[.ref p]∧cF X.K H p (zs.map V.str)∧zs.Nodup∧zs.length < 1000∧∀q,H q=none→Q (.ref q) (L2.upd H q (L2.setM X.prog X.w q zs.length))):=⟨L2.lE hc⟩
theorem gb:JF X (.builtin "len") (fun xs H Q=>∃(p:Addr) (n:Nat),xs=[.ref p]∧H p=some (L2.setM X.prog X.w p n)∧Q (.int n) H):=⟨L2.gb⟩
theorem _root_.bp:Gp X [] L2.F2:=⟨L2.AE⟩
theorem _root_.aI{g:TG}{u:o8}(S:JG X (.Name x p) g)(h:Gp X es u):Gp X (.Name x p::es) (L2.Cw g u):=⟨L2.y9 S.out h.out rfl⟩
theorem _root_.bE{k n:Nat}{u:o8}(hc:X.calm=true)(h:Gp X es u)(hn:(assignEach es X.env).length=n:=by rfl)(hst:(assignEach es X.env).findIdx? (·.1)=none:=by rfl):JG X (.Tuple es k pos) (L2.Ep X.K n u):=⟨L2.Aq hc h.out hn hst⟩
theorem _root_.bU{g:TG}(he:JE X e te)(hg:JG X tg g)(hs:swapsWithSole [tg] e pos.line X.env=pure false:=by rfl)(hw:swappedStores [tg] e X.env=pure none:=by rfl)
  (h1:(assignEach [tg] X.env).map (·.2)=[assign tg X.env]:=by rfl):JS X (.Assign [tg] e pos) (L2.sI te g):=⟨L2.DM he.out hg.out hs hw h1⟩
theorem mG:JB X .Add (L2.CP X.K):=⟨L2.mG⟩
theorem vV(h:JE X (.Name x p) te):JT X (.Name x p) (L2.tB te):=⟨L2.vd h.out (fun _=>rfl)⟩
theorem uJ{a b:Expr}:dU (.Subscript a b p):=⟨fun _ _=>rfl⟩
theorem _root_.cn{P:Program}{w:World}{K:PySem.W.Frag}{mg:Str→Option Value}{base:Heap}{sc:Scope}{N:List Str}{k:Nat}{v:V}(hh:Here X P w K mg base sc N k)(hm:∃u,mg x=some u∧RelV v u)(hg:sc.names.lookup x=some .globalImplicit)
  (db:(x == ("__debug__" :Str))=false):JE X (.Name x p) (L2.tC v):=by
 obtain⟨u,h1,h2⟩:=hm
 exact J.mq (hh.gl hg) (by rw[hh.gm];exact h1) h2 db
end
section
variable {P:Program}{w:World}{K:PySem.W.Frag}{mg:Str→Option Value}{base:Heap}{x qual m:Str}{st:Stmt}{f C:Addr}{fd:FuncData}{N ps:List Str}{k:Nat}{sp:Sp}
theorem mJ(F:oY K x qual st f fd)(S:cD N ps (L2.cB st))(len:∀vs H Q E,sp vs H Q E→vs.length=ps.length)
  (hbody:∀(X:Cx)(H:Hp)(vs:List V)(Q:VK)(E:XK),Here X P w K mg base (L2.cB st) N k→sp vs H Q E→∃t,uo X (L2.cU st) t∧t { nx:=fun _ H'=>Q .non H',rt:=Q } (L2.start N vs) H):eD P w K mg base l9 (k+1) f fd ps sp:=by
 refine FW F S len fun X cdv A outer s H vs Q E hX hr h=>?_
 subst hX
 exact hbody _ H vs Q E ⟨rfl,rfl,rfl,rfl,rfl,rfl,PassesOwn.never,rfl,rfl,S.nd,hr,fun _=>rfl⟩ h
theorem Ed(D:Df K mg x st ps f fd)(S:cD N ps (L2.cB st))(len:∀vs H Q E,sp vs H Q E→vs.length=ps.length)
  (hbody:∀(X:Cx)(H:Hp)(vs:List V)(Q:VK)(E:XK),Here X P w K mg base (L2.cB st) N k→sp vs H Q E→∃t,uo X (L2.cU st) t∧t { nx:=fun _ H'=>Q .non H',rt:=Q } (L2.start N vs) H):Gd P w K mg base (k+1) x sp:=
 ⟨f,fd,ps,mJ D.fn S len hbody,D.nm,D.fn.kp,D.bi⟩
theorem _root_.aE(D:Df K mg x st ps f fd)(S:cD N ps (L2.cB st))
  (hbody:∀(X:Cx)(H:Hp)(vs:List V)(Q:VK)(E:XK),Here X P w K mg base (L2.cB st) N k→sp vs H Q E→∃t,uo X (L2.cU st) t∧t { nx:=fun _ H'=>Q .non H',rt:=Q } (L2.start N vs) H)(len:∀vs H Q E,sp vs H Q E→vs.length=ps.length:=by intro _ _ _ _ h;first| (obtain⟨⟩:=h;subst_vars;rfl)| ((repeat (obtain⟨_,h⟩:=h));subst_vars;rfl)):Gd P w K mg base (k+1) x sp:=Ed D S len hbody
theorem _root_.b9(F:oY K m qual st f fd)(me:Meth K C m f)(bi:Binds K fd ps [])(cl:tI K C)(S:cD N ps (L2.cB st))(len:∀vs H Q E,sp vs H Q E→vs.length=ps.length)
  (hbody:∀(X:Cx)(H:Hp)(vs:List V)(Q:VK)(E:XK),Here X P w K mg base (L2.cB st) N k→sp vs H Q E→∃t,uo X (L2.cU st) t∧t { nx:=fun _ H'=>Q .non H',rt:=Q } (L2.start N vs) H):Md P w K mg base (k+1) C m sp:=
 ⟨⟨f,fd,ps,mJ F S len hbody,me,bi⟩,cl⟩
theorem Bv{y:Str}(F:oY K m qual st f fd)(mk:Mk K C f)(bi:Binds K fd ps [])(nm:mg y=some (.ref C))(S:cD N ps (L2.cB st))(len:∀vs H Q E,sp vs H Q E→vs.length=ps.length)
  (hbody:∀(X:Cx)(H:Hp)(vs:List V)(Q:VK)(E:XK),Here X P w K mg base (L2.cB st) N k→sp vs H Q E→∃t,uo X (L2.cU st) t∧t { nx:=fun _ H'=>Q .non H',rt:=Q } (L2.start N vs) H):Kd P w K mg base (k+1) y C sp:=
 ⟨⟨f,fd,ps,mJ F S len hbody,mk,bi⟩,nm⟩
end
end J
namespace L2
open PySem PySem.Spec PyProof.Rows
theorem xB{A:Around}{s:Shared}{x:V}{u v:Value}(ru:RelV x u)(rv:RelV x v)(h:(∃z,x=.str z)∨∃a,x=.ref a):SeqAt.EqAt A s u v true:=by
 rcases h with ⟨z,rfl⟩|⟨a,rfl⟩
 ·obtain⟨t,rfl⟩:=ru
  obtain⟨t',rfl⟩:=rv
  have:=SeqAt.EqAt.str_str (A:=A) (s:=s) z t z t'
  rw[beq_self_eq_true]at this
  exact this
 ·cases ru
  cases rv
  exact SeqAt.EqAt.same _
theorem iG(n:Nat):(List.range n).all (fun _=>true)=true:=by
 rw[all_eq_true]
 intro _ _
 rfl
def FQ(K:PySem.W.Frag):R2:=fun x y H Q=>∃a b xs ys,x=.ref a∧y=.ref b∧cF K H a xs∧cF K H b ys∧xs.length=ys.length∧
 (∀(i:Nat) u v,xs[i]? =some u→ys[i]? =some v→∃p q zs,u=.ref p∧v=.ref q∧p≠q∧cF K H p zs∧cF K H q zs∧∀z∈zs,(∃t,z=V.str t)∨∃c,z=V.ref c)∧Q (.bl false) H
theorem vc{X:Cx}(hu:X.A.units+1 < cLine):iq X (compareOp .NotEq) (FQ X.K):=by
 intro pins s σ H x y v u Q I rx ry h
 obtain⟨a,b,xs,ys,rfl,rfl,ha,hb,hl,he,q⟩:=h
 cases rx
 cases ry
 obtain⟨its,r,pl,_⟩:=I.list ha
 obtain⟨its2,r2,pl2,_⟩:=I.list hb
 have l1:=r.length
 have l2:=r2.length
 have key:SeqAt.RcNeAt X.A s (.ref a) (.ref b) (!((List.range its.toArray.size).all fun _=>true)):=by
  refine SeqAt.RcNeAt.lists pl.isList pl2.isList (by simp only[size_toArray];omega) (by omega) fun j h1 h2=>?_
  simp only[size_toArray]at h1 h2
  have e1:xs[j]? =some xs[j]:=getElem?_eq_getElem (by omega)
  have e2:ys[j]? =some ys[j]:=getElem?_eq_getElem (by omega)
  obtain⟨p,q,zs,ep,eq,npq,hp,hq,hz⟩:=he j _ _ e1 e2
  obtain⟨u1,eu1,ru1⟩:=r.get e1
  obtain⟨u2,eu2,ru2⟩:=r2.get e2
  rw[ep]at ru1
  rw[eq]at ru2
  cases ru1
  cases ru2
  have g1:its.toArray[j]=.ref p:=by
   have:its[j]? =some its[j]:=getElem?_eq_getElem h1
   rw[eu1]at this
   simpa using (Option.some.inj this).symm
  have g2:its2.toArray[j]=.ref q:=by
   have:its2[j]? =some its2[j]:=getElem?_eq_getElem h2
   rw[eu2]at this
   simpa using (Option.some.inj this).symm
  rw[g1,g2]
  obtain⟨jts,rj,plj,_⟩:=I.list hp
  obtain⟨jts2,rj2,plj2,_⟩:=I.list hq
  have m1:=rj.length
  have m2:=rj2.length
  have inner:SeqAt.RcAt X.A.in1 s (.ref p) (.ref q) ((List.range jts.toArray.size).all fun _=>true):=by
   refine SeqAt.RcAt.lists plj.isList plj2.isList (by simp only[size_toArray];omega) hu fun i k1 k2=>?_
   simp only[size_toArray]at k1 k2
   have f1:zs[i]? =some zs[i]:=getElem?_eq_getElem (by omega)
   obtain⟨w1,ew1,rw1⟩:=rj.get f1
   obtain⟨w2,ew2,rw2⟩:=rj2.get f1
   have c1:jts.toArray[i]=w1:=by
    have:jts[i]? =some jts[i]:=getElem?_eq_getElem k1
    rw[ew1]at this
    simpa using (Option.some.inj this).symm
   have c2:jts2.toArray[i]=w2:=by
    have:jts2[i]? =some jts2[i]:=getElem?_eq_getElem k2
    rw[ew2]at this
    simpa using (Option.some.inj this).symm
   rw[c1,c2]
   exact xB rw1 rw2 (hz _ (mem_of_getElem? f1))
  rw[iG]at inner
  exact SeqAt.EqAt.of_refs npq inner
 rw[iG]at key
 exact key X.prog X.w X.xe _ ⟨.bl false,H,I,rfl,q⟩
end L2
namespace J
open PySem PySem.Spec PyProof.Rows
theorem vc{X:L2.Cx}(hu:X.A.units+1 < cLine):JC X .NotEq (L2.FQ X.K):=⟨L2.vc hu⟩
end J
namespace L2
open PySem PySem.Spec PyProof.Rows
section
variable {X:Cx}{x:Str}{px pos:Pos}{elt iter:Expr}{scope:Scope}{wi:TI}{te:TE}{is:List Nat}{ns:List Str}
end
theorem wO{elt:Expr}{gs:List Comprehension}{scope:Scope}{pos py:Pos}{y:Str}{n:Nat}{env:Env}{sc:Scope}(hsc:env.scope=sc)
  (h:((if sc.kind.isAnnotationScope then ScopeKind.function else sc.kind) == .function && sc.names.lookup y == some .local && py.line == pos.line && !(scope.names.any fun(n,k)=>n == y && (k == .local || k == .cell)))=true):
  swapsWith (.ListComp elt gs scope pos) (some (.Name y py)) n env=pure true:=by
 subst hsc
 show(pure _:Sem Bool)=pure true
 exact congrArg pure h
end L2
namespace J
open PySem PySem.Spec PyProof.Rows
open L2 (Cx V Hp St VK TE TT TA TS TG o8 TI TO)
end J
namespace L2
open PySem PySem.Spec PyProof.Rows
section
variable {X:Cx}{pins:List (Addr×Obj)}{σ:St}{H:Hp}{s:Shared}{p:Addr}{ns:List Int}
theorem Inv.ints(I:Inv X pins σ H s)(h:cF X.K H p (ns.map V.int)):∃xs:Array (Int×Tok),s.heap.IsList p (intItems xs)∧xs.toList.map (·.1)=ns:=by
 obtain⟨its,r,pl,_⟩:=I.list h
 have hi:=intsAre_of r
 obtain⟨xs,e⟩:=hi.allInts.items
 refine⟨xs,by rw[←e];exact pl.isList,?_⟩
 have e2:=hi.numsOf
 have e3:its=(intItems xs).toList:=by rw[←e]
 rw[e3,nums_intItems]at e2
 exact e2
theorem i5(hc:X.calm=true):ef X (.builtin "sum") (fun xs H Q=>∃(p:Addr) (ns:List Int),xs=[.ref p]∧cF X.K H p (ns.map V.int)∧Q (.int ns.sum) H):=by
 intro pins s σ H xs us Q I r h
 obtain⟨p,ns,rfl,hq,q⟩:=h
 obtain⟨u,rfl,rx⟩:=vals1 r
 cases rx
 obtain⟨ys,hl,e⟩:=I.ints hq
 refine sum_intListG (I.ok.hd hc) hl fun h' tk t' hk=>?_
 rw[preSum_eq,e,take_of_length_le (by rw[←e,length_map,length_toList];exact le_refl _)]
 exact⟨.int _,H,I.kept (t':=tk) hk,⟨_,rfl⟩,q⟩
def jT:V→V→Option Bool
 |.ref a,.ref b=>if a=b then some true else none
 |x,y=>if dj x=true∧dj y=true then some (qV x y) else none
theorem xh{A:Around}{s:Shared}{x y:V}{u v:Value}{b:Bool}(ru:RelV x u)(rv:RelV y v)(h:jT x y=some b):SeqAt.EqAt A s u v b:=by
 have flat:(if dj x=true∧dj y=true then some (qV x y) else none)=some b→SeqAt.EqAt A s u v b:=fun h=>by
  by_cases c:dj x=true∧dj y=true
  ·rw[if_pos c]at h
   cases h
   exact pR ru rv c.1 c.2
  ·rw[if_neg c]at h
   cases h
 cases x with
 |ref a=>
  cases y with
  |ref c=>
   have h':(if a=c then some true else none)=some b:=h
   by_cases e:a=c
   ·rw[if_pos e]at h'
    cases h'
    cases ru
    cases rv
    rw[e]
    exact SeqAt.EqAt.same _
   ·rw[if_neg e]at h'
    cases h'
  |_=>exact flat h
 |_=>exact flat h
def Ho(bs:List Bool):Bool:=(List.range bs.length).all fun i=>bs.getD i false
def IK(K:PySem.W.Frag):R2:=fun x y H Q=>∃a b xs ys bs,x=.ref a∧y=.ref b∧cF K H a xs∧cF K H b ys∧xs.length=bs.length∧ys.length=bs.length∧(∀(i:Nat) u v c,xs[i]? =some u→ys[i]? =some v→bs[i]? =some c→jT u v=some c)∧Q (.bl (Ho bs)) H
theorem gC{its:List Value}{xs:List V}{j:Nat}(r:Vals xs its)(h:j < its.length):∃x,xs[j]? =some x∧RelV x its[j]:=by
 have hl:=r.length
 have e:xs[j]? =some xs[j]:=getElem?_eq_getElem (by omega)
 obtain⟨u,eu,ru⟩:=r.get e
 rw[getElem?_eq_getElem h]at eu
 cases eu
 exact⟨_,e,ru⟩
theorem EK(hu:X.A.units+1 < cLine):iq X (compareOp .Eq) (IK X.K):=by
 intro pins s σ H x y v u Q I rx ry h
 obtain⟨a,b,xs,ys,bs,rfl,rfl,ha,hb,l1,l2,he,q⟩:=h
 cases rx
 cases ry
 obtain⟨its,r,pl,_⟩:=I.list ha
 obtain⟨its2,r2,pl2,_⟩:=I.list hb
 have m1:=r.length
 have m2:=r2.length
 refine SeqAt.eq_listAt (e:=fun i=>bs.getD i false) pl.isList pl2.isList (by simp only[size_toArray];omega) (by omega) (fun j h1 h2=>?_) ?_
 ·simp only[size_toArray]at h1 h2
  obtain⟨x1,e1,r1⟩:=gC r h1
  obtain⟨x2,e2,r2'⟩:=gC r2 h2
  have hj:j < bs.length:=by omega
  have e3:bs[j]? =some bs[j]:=getElem?_eq_getElem hj
  have e4:bs.getD j false=bs[j]:=by rw[getD_eq_getElem?_getD,e3];rfl
  show SeqAt.EqAt X.A.in1 s its.toArray[j] its2.toArray[j] (bs.getD j false)
  rw[e4]
  simp only[List.getElem_toArray]
  exact xh r1 r2' (he j x1 x2 _ e1 e2 e3)
 ·have hz:its.toArray.size=bs.length:=by simp only[size_toArray];omega
  rw[hz]
  exact⟨.bl _,H,I,rfl,q⟩
end
end L2
namespace J
open PySem PySem.Spec PyProof.Rows
open L2 (Cx V cF)
theorem i5{X:Cx}(hc:X.calm=true):JF X (.builtin "sum") (fun xs H Q=>∃(p:Addr) (ns:List Int),xs=[.ref p]∧cF X.K H p (ns.map V.int)∧Q (.int ns.sum) H):=⟨L2.i5 hc⟩
end J
namespace L2
open PySem PySem.Spec PyProof.Rows
section
variable {X:Cx}
inductive FJ(vs:List V)(H:Hp)(Q:VK):Prop
 |mk(j:Int)(e:vs=[.int j])(lo: -(2 ^ 62)≤j)(hi:j≤sizeLine)(q:∀l,H l=none→Q (.ref l) (upd H l (.lst ((List.range j.toNat).map fun(i:Nat)=>V.int (i:Int)))))
def JJ(ta:TA):TE:=fun σ H Q=>ta σ H fun vs H1=>FJ vs H1 Q
inductive DS(K:PySem.W.Frag)(x y:V)(H:Hp)(Q:VK):Prop
 |mk(a b:Addr)(xs ys:List V)(hx:x=.ref a)(hy:y=.ref b)(s:cF K H a xs)(t:cF K H b ys)(n:xs.length≠ys.length)(q:Q (.bl false) H)
theorem wC(hu:X.A.units+1 < cLine):iq X (compareOp .Eq) (fun x y H Q=>DS X.K x y H Q):=by
 intro pins s σ H x y v u Q I rx ry h
 obtain⟨a,b,xs,ys,rfl,rfl,ha,hb,n,q⟩:=h
 cases rx
 cases ry
 obtain⟨its,r,pl,_⟩:=I.list ha
 obtain⟨its2,r2,pl2,_⟩:=I.list hb
 have m1:=r.length
 have m2:=r2.length
 refine SeqAt.eq_list_lengthsAt pl.isList pl2.isList ?_ (by omega) ⟨.bl _,H,I,rfl,q⟩
 rw[bne_iff_ne]
 simp only[size_toArray]
 omega
inductive Ku(K:PySem.W.Frag)(x y:V)(H:Hp)(Q:VK):Prop
 |mk(a b:Addr)(xs ys:List V)(bs:List Bool)(hx:x=.ref a)(hy:y=.ref b)(s:dq K H a xs)(t:dq K H b ys)(l1:xs.length=bs.length)(l2:ys.length=bs.length)
   (e:∀(i:Nat) u v c,xs[i]? =some u→ys[i]? =some v→bs[i]? =some c→jT u v=some c)(q:Q (.bl (Ho bs)) H)
end
end L2
namespace J
open PySem PySem.Spec PyProof.Rows
open L2 (Cx V cF dq)
end J
namespace L2
open PySem PySem.Spec PyProof.Rows
theorem nA{prog:Program}{w:World}{A:Around}{R:Result→Shared→Prop}{s:Shared}{elt target iter:Expr}{cts:List Expr}{scope:Scope}{pos:Pos}{it acc:Value}{env:Env}(I:Nat→Shared→Prop)
  (turn:∀n s,I n s→wpAny (model prog w) A (pyNext it) (fun r s₁=>match r with
   |none=>R (.ok .next) s₁
   |some v=>wpAny (model prog w) A (letOwnedTupleGo target it v) (fun _ s₁'=>wpAny (model prog w) A (assign target env v) (fun _ s₂=>wpAny (model prog w) A (forIn cts true fun c r=>if r=true then do let ok ←isTrue c env (eval c env);pure (ForInStep.yield ok) else pure (ForInStep.yield r)) (fun ok s₂'=>if ok=true then wpAny (model prog w) A (eval elt env) (fun x s₃=>
     wpAny (model prog w) A (call (.builtin "list.append") [acc,x]) (fun _ s₄=>∃m,m < n∧I m s₄) (notedBy (model prog w) A env fun e s'=>R (.error e) s') s₃)
     (notedBy (model prog w) A env fun e s'=>R (.error e) s') s₂' else ∃m,m < n∧I m s₂') (notedBy (model prog w) A env fun e s'=>R (.error e) s') s₂) (notedBy (model prog w) A env fun e s'=>R (.error e) s') s₁') (notedBy (model prog w) A env fun e s'=>R (.error e) s') s₁) (notedBy (model prog w) A env fun e s'=>R (.error e) s') s)
  (n:Nat) (h:I n s):
  codeAny (model prog w) A (.compLoop (.ListComp elt [⟨target,iter,cts,0⟩] scope pos) 0 it acc env) R s:=by
 refine codeAny_loop rfl I (fun n s hI=>?_) n h
 show wpAny _ _ ((compTurn (.ListComp elt [⟨target,iter,cts,0⟩] scope pos) 0 it acc env).onRaise (fun x=>do noteFrame x env;theTreesLotGoes x)) _ _ s
 refine wpAny_noted ?_
 rw[compTurn_list]
 refine wpAny_bind (wpAny_standAt (wpAny_bind (wpAny_mono (turn n s hI) (fun r s₁ h₁=>?_) fun _ _ h'=>h')))
 cases r with
 |none=>exact wpAny_pure h₁
 |some v=>
  refine wpAny_bind (wpAny_mono h₁ (fun _ s₁' h₁'=>?_) fun _ _ h'=>h')
  refine wpAny_bind (wpAny_mono h₁' (fun _ s₂ h₂=>wpAny_bind (wpAny_mono h₂ (fun ok s₃ h₃=>?_) fun _ _ h'=>h')) fun _ _ h'=>h')
  cases ok with
  |false=>exact wpAny_pure ⟨rfl,h₃⟩
  |true=>
   exact wpAny_bind (wpAny_bind (wpAny_mono h₃ (fun x s₄ h₄=>wpAny_bind (wpAny_mono h₄ (fun _ s₅ h₅=>wpAny_pure (wpAny_pure ⟨rfl,h₅⟩)) fun _ _ h'=>h')) fun _ _ h'=>h'))
def EV(X:Cx)(cts:List Expr)(t:TT):Prop:=
 ∀(pins:List (Addr×Obj)) (s:Shared) (σ:St) (H:Hp) (Q:Bool→Hp→Prop),Inv X pins σ H s→t σ H Q→wpAny (model X.prog X.w) X.A (forIn cts true fun c r=>if r=true then do let ok ←isTrue c X.env (eval c X.env);pure (ForInStep.yield ok) else pure (ForInStep.yield r)) (TP X pins σ Q) X.xe s
def sJ:TT:=fun _ H Q=>Q true H
theorem vE{X:Cx}:EV X [] sJ:=fun _ _ _ H _ I h=>wpAny_tests_nil ⟨H,I,h⟩
theorem B7{X:Cx}{ct:Expr}{t:TT}(h:PT X ct t):EV X [ct] t:=fun pins s σ H Q I q=>wpAny_tests_one (h pins s σ H Q I q)
inductive Hc(J:It)(n:Nat)(is:List Nat)(g:TG)(tc:TT)(te:TE)(σ:St)(W:Nat→Nat→List V→Hp→Prop)(D:Addr)(i m:Nat)(ys:List V)(H2:Hp):Prop
 |mk(go:J.go i H2)(nx:∀(os:St) v H3,os.length=n→J.yld i H2 v H3→g v (os++d3 is σ) H3 fun σ' H4=>(∃os':St,os'.length=n∧σ'=os'++d3 is σ)∧tc σ' H4 fun b H5=>if b=true then te σ' H5 (fun y H6=>
  H6 D=some (.lst ys)∧ys.length < sizeLine∧∃m',m' < m∧W (i+1) m' (ys++[y]) (upd H6 D (.lst (ys++[y])))) else ∃m',m' < m∧W (i+1) m' ys H5)
def eC(J:It)(n:Nat)(is:List Nat)(g:TG)(tc:TT)(te:TE)(σ:St)(H1:Hp)(Q:VK):Prop:=∀D,H1 D=none→∃W:Nat→Nat→List V→Hp→Prop,(∃m,W 0 m [] (upd H1 D (.lst [])))∧
 ∀i m ys H2,W i m ys H2→H2 D=some (.lst ys)∧((J.stop i H2∧Q (.ref D) H2)∨Hc J n is g tc te σ W D i m ys H2)
def BG(wi:TI)(n:Nat)(is:List Nat)(g:TG)(tc:TT)(te:TE):TE:=fun σ H Q=>wi σ H fun J H1=>eC J n is g tc te σ H1 Q
structure rB(sc:Scope)(N:List Str)(xs:List Str)(scope:Scope)(is:List Nat)(ns:List Str):Prop where
 kind:scope.kind=.function:=by rfl
 nocell:∀y∈scope.names,y.2≠.cell:=by decide+kernel
 names:∀y∈scope.names,y.2=.local→scope.names.lookup y.1=some .local:=by decide+kernel
 free:∀y∈scope.names,y.2=.free→sc.names.lookup y.1=some .cell:=by decide+kernel
 cap:ns.map some=is.map fun i=>N[i]? :=by rfl
 capf:∀y∈ns,scope.names.lookup y=some .free∧sc.names.lookup y=some .cell:=by decide+kernel
section
variable {X:Cx}{xs:List Str}{tg:Expr}{pos:Pos}{elt iter:Expr}{cts:List Expr}{scope:Scope}{wi:TI}{g:TG}{tc:TT}{te:TE}{is:List Nat}{ns:List Str}
def zh(X:Cx)(pins:List (Addr×Obj))(σ:St)(Qs:VK)(use:Option (Value→Sem Unit))(Qv:Value→Shared→Prop):Prop:=
 ∀(D C:Addr) (H5:Hp) (s6:Shared) (m:Str→Option Value),Qs (.ref D) H5→Inv X pins σ H5 s6→l8 X pins H5 C→s6.heap.Ns C m→compPost (model X.prog X.w) X.A X.xe use Qv (.ref D) C (.ok .next) s6
theorem kD{sc:Scope}{N:List Str}{use:Option (Value→Sem Unit)}{Qv:Value→Shared→Prop}{Gf:It→Hp→Prop}{Qs:VK}{cp:Pos}{pins:List (Addr×Obj)}{s:Shared}{σ:St}{H:Hp}(I:Inv X pins σ H s)(h:wi σ H Gf)(hG:∀J H1,Gf J H1→eC J xs.length is g tc te σ H1 Qs)
  (fin:zh X pins σ Qs use Qv)(hc:X.calm=true)(hi:PI X tg iter wi)(L:rB sc N xs scope is ns)(hg:∀cl fp s3 H3 C,PG (dA X (xs++ns) scope cl fp s3 H3 C) tg g)(hct:∀cl fp s3 H3 C,EV (dA X (xs++ns) scope cl fp s3 H3 C) cts tc)(he:∀cl fp s3 H3 C,PE (dA X (xs++ns) scope cl fp s3 H3 C) elt te)
  (hsc:X.env.scope=sc)(hN:X.N=N)(hs:∀x,foldedSetIterable iter X.env x=pure x):
  wpAny (model X.prog X.w) X.A (comprehension (.ListComp elt [⟨tg,iter,cts,0⟩] scope pos) scope X.env cp (newList []) false (eval iter X.env) use) Qv X.xe s:=by
 subst hsc hN
 obtain⟨cl,hcl,cl1,cl2⟩:=tT (env:=X.env) (scope:=scope) (fun y hy hf=>I.ok.has y.1 (.inl (L.free y hy hf)))
 refine wpAny_comprehension_free rfl hs hcl L.kind L.names (cX (hi pins s σ H _ I h) fun v s1 h1=>cX h1 fun itv s2 h2=>?_)
 obtain⟨it,fp,tn,J,H2,e,I2,T,st2,f2,h2⟩:=h2
 subst e
 refine wpAny_newObj_type (wpAny_newFunctionEnv L.nocell (by intro y hy;simp at hy) (fun h₁ hns₁ hsb₁=>?_) L.kind)
 have hD:H2 s2.heap.objs.size=none:=I2.hok.fresh (le_refl _)
 have I3:Inv X pins σ (upd H2 s2.heap.objs.size (.lst [])) { s2 with heap:=s2.heap.push { cls:=.type "list",dict:=none,data:=.seq ([]:List Value).toArray } }:=
  I2.laid (t':=s2.toks) (fun b u e=>get?_push_of_some _ e) (le_refl _) ⟨zero_le _,[],0,.nil,get?_push_size _ rfl⟩
 have kp23:∀b u,s2.heap.get? b=some u→(s2.heap.push { cls:=.type "list",dict:=none,data:=.seq ([]:List Value).toArray }).get? b=some u:=fun b u e=>get?_push_of_some _ e
 obtain⟨W,⟨m0,w0⟩,turn⟩:=hG J H2 h2 s2.heap.objs.size hD
 dsimp only at hns₁ hsb₁ ⊢
 generalize hD0:s2.heap.objs.size=D at *
 generalize hp3:s2.heap.push { cls:=.type "list",dict:=none,data:=.seq ([]:List Value).toArray }=p3 at *
 generalize hH3:upd H2 D (.lst [])=H3 at *
 have fpD:∀b∈fp,b≠D:=fun b hb=>by
  obtain⟨o,e,_⟩:=T.obj 0 s2.heap st2 b hb
  rw[←hD0]
  exact ne_of_lt (lt_size e)
 have fp3:∀b∈fp,l8 X pins H3 b:=fun b hb=>⟨by rw[←hH3,cC (fpD b hb)];exact(f2 b hb).1,(f2 b hb).2⟩
 have st3:tn 0 p3:=T.keep 0 s2.heap p3 st2 fun b _ o e=>kp23 b o e
 have fplt:∀b∈fp,b < p3.objs.size:=fun b hb=>by
  obtain⟨o,e,_⟩:=T.obj 0 p3 st3 b hb
  exact lt_size e
 have old:∀b u,p3.get? b=some u→h₁.get? b=some u:=fun b u e=>hsb₁.extBut b u (ne_of_lt (lt_size e)) (get?_push_of_some _ e)
 generalize hC:p3.objs.size=C at *
 have hfree:∀b∈fp,H3 b=none:=fun b hb=>(fp3 b hb).1
 have okX:(dA X (xs++ns) scope cl fp { s2 with heap:=p3 } H3 C).Ok:=by
  refine⟨I.ok.mod,L.kind,I.ok.glob,I.ok.blt,le_of_eq hC,fun y z c e1 e2=>I.ok.inj y z c (cl1 y c e1) (cl1 z c e2),fun y hy=>?_,fun _ _ z=>(by cases z),I.ok.hd,I.ok.frames,.inl rfl,fun b hb=>⟨ne_of_lt (fplt b hb),fun y c e=>(fp3 b hb).2.2.2.2.1 y c (cl1 y c e)⟩,I3.bs,le_trans I3.ok.bsz I3.sz,fun b o e hb=>?_,fun b hb z=>?_,I3.stack,I3.v3⟩
  ·have hm:(y,NameKind.free)∈scope.names:=by
    rcases hy with hy|hy
    ·exact jZ hy (.inl rfl) L.nocell
    ·exact jZ hy (.inr rfl) L.nocell
   obtain⟨c,hc'⟩:=I.ok.has y (.inl (L.free _ hm rfl))
   exact⟨c,(cl2 _ hm rfl).trans hc'⟩
  ·rcases (fp3 b hb).2.2.2.1 with z|z
   ·exact I.ok.noex b o e z
   ·exact absurd (lt_of_lt_of_le (lt_size e) (le_trans I.ok.bsz z)) (lt_irrefl _)
  ·exact(mem_cons.mp (I3.uv b z)).elim (fp3 b hb).2.1 (fp3 b hb).2.2.1
 have hlen:(d3 is σ).length=ns.length:=by
  have:=congrArg List.length L.cap
  rw[length_map,length_map]at this
  rw[d3,length_map]
  exact this.symm
 have rl:(List.replicate xs.length (none:Option V)).length=xs.length:=List.length_replicate ..
 have I4:Inv (dA X (xs++ns) scope cl fp { s2 with heap:=p3 } H3 C) [] (List.replicate xs.length none++d3 is σ) H3 { s2 with heap:=h₁,toks:=s2.toks+0 }:=by
  refine⟨okX,rfl,I3.bare,Un.kept old,⟨_,hns₁,fun i y v e1 e2 e3=>?_⟩,fun y c e=>?_,?_,fun y c e=>I3.freeC y c (cl1 y c e),fun p hp=>absurd (show p∈([]:List (Addr×Obj)) from hp) (by simp),I3.hok.kept old,by show(List.replicate xs.length none++d3 is σ).length=(xs++ns).length;rw[length_append,length_append,hlen,rl]⟩
  ·have e1:(xs++ns)[i]? =some y:=e1
   by_cases hi:i < xs.length
   ·rw[getElem?_append_left (by rw[rl];exact hi),List.getElem?_replicate,if_pos hi]at e2
    cases e2
   ·rw[getElem?_append_right (by rw[rl];omega),rl]at e2
    rw[getElem?_append_right (by omega)]at e1
    generalize i - xs.length=j at e1 e2
    have e1':ns[j]? =some y:=e1
    have e2':(d3 is σ)[j]? =some (some v):=e2
    have hy:=L.capf y (mem_of_getElem? e1')
    have hcap:(ns.map some)[j]? =(is.map fun i=>X.N[i]?)[j]? :=by rw[L.cap]
    rw[getElem?_map,getElem?_map,e1']at hcap
    rw[d3,getElem?_map]at e2'
    cases hk:is[j]? with
    |none=>rw[hk]at e2';cases e2'
    |some k=>
     rw[hk]at hcap e2'
     have hN:X.N[k]? =some y:=(Option.some.inj hcap).symm
     have hσ:σ[k]? =some (some v):=by
      have q:(σ[k]?).join=some v:=Option.some.inj e2'
      cases z:σ[k]? with
      |none=>rw[z]at q;cases q
      |some o=>rw[z]at q;exact congrArg some q
     obtain⟨m,hn,hl⟩:=I3.loc
     obtain⟨u,r,l⟩:=hl k y v hN hσ (.inr (.inl hy.2))
     refine⟨u,r,?_⟩
     rcases l with ⟨hk',_⟩|⟨hk',c,ec,o,ho,hd⟩
     ·have hk2:X.env.scope.names.lookup y=some .local:=hk'
      rw[hy.2]at hk2;cases hk2
     ·exact .inr ⟨.inl (j8 I.ok.kind hy.1 hy.2),c,(cl2 _ (PySem.mem_of_lookup hy.1) rfl).trans ec,o,old c o ho,hd⟩
  ·obtain⟨v,o,ho,hd⟩:=I3.cell y c (cl1 y c e)
   exact⟨v,o,old c o ho,hd⟩
  ·show H3 C=none
   rw[←hC]
   exact I3.hok.fresh (le_refl _)
 have st4:tn 0 h₁:=T.keep 0 p3 h₁ st3 fun b _ o e=>old b o e
 have stat:∀{H':Hp},(∀b∈fp,H' b=none)→∀b∈fp,l8 (dA X (xs++ns) scope cl fp { s2 with heap:=p3 } H3 C) [] H' b:=fun {H'} hn b hb=>
  ⟨hn b hb,ne_of_lt (fplt b hb),okX.exfs b hb,.inl hb,fun y c e=>(fp3 b hb).2.2.2.2.1 y c (cl1 y c e),fun p hp=>absurd (show p∈([]:List (Addr×Obj)) from hp) (by simp)⟩
 have loop:codeAny (model X.prog X.w) X.A (.compLoop (.ListComp elt [⟨tg,iter,cts,0⟩] scope pos) 0 (.ref it) (.ref D) (compEnvC scope cl C X.env))
   (compPost (model X.prog X.w) X.A X.xe use Qv (.ref D) C) { s2 with heap:=h₁,toks:=s2.toks+0 }:=by
  refine nA (fun n s'=>∃i os ys H',os.length=xs.length∧Inv (dA X (xs++ns) scope cl fp { s2 with heap:=p3 } H3 C) [] (os++d3 is σ) H' s'∧tn i s'.heap∧(∀b∈fp,H' b=none)∧W i n ys H') ?_ m0 ⟨0,List.replicate xs.length none,[],H3,rl,I4,st4,hfree,w0⟩
  rintro n s5 ⟨i,os,ys,H5,hos,I5,st5,fr5,w5⟩
  obtain⟨hD5,⟨stop,q⟩|⟨go,step⟩⟩:=turn i n ys H5 w5
  ·refine cX (T.done (dA X (xs++ns) scope cl fp { s2 with heap:=p3 } H3 C) rfl rfl rfl hc i [] s5 _ H5 _ I5 (stat fr5) st5 stop) fun r s6 ⟨hr,I6⟩=>?_
   subst hr
   obtain⟨m,hn,_⟩:=id I6.loc
   have neC:∀b o,p3.get? b=some o→b≠C:=fun b o e=>by rw[←hC];exact ne_of_lt (lt_size e)
   have fC:H5 C=none:=I6.free
   have I6X:Inv X pins σ H5 s6:=by
    refine I3.yj (s':=s6) (ch:=fp) I6.os ⟨fun b o e nn hb hx=>?_,fun b o e nn hb hx=>?_,I6.base.free,fun b o e hx=>?_,I6.base.tups,I6.base.frzs,I6.base.tbls⟩ (fun b ob e=>I6.hok b ob e) I6.bare fun b hb=>⟨(fp3 b hb).2.2.2.1,(fp3 b hb).2.1,(fp3 b hb).2.2.2.2.1,(fp3 b hb).2.2.2.2.2⟩
    ·exact I6.base.keep b o e nn hb hx
    ·exact I6.base.slot b o e nn hb hx
    ·exact I6.base.there b o e hx
   exact fin D C H5 s6 m q I6X (I3.vi (le_of_eq hC) fC) hn
  ·refine cX (T.item (dA X (xs++ns) scope cl fp { s2 with heap:=p3 } H3 C) rfl rfl rfl hc i [] s5 _ H5 _ I5 (stat fr5) st5 go) fun r s6 ⟨u,hr,h6⟩=>?_
   subst hr
   refine cX h6 fun _ s7 hpat=>?_
   obtain⟨v,H7,I7,r7,y7,st7,fr7⟩:=hpat
   have I7':=I7.pinned (stat fr7) (T.obj _ _ st7)
   refine wpAny_mono (hg cl fp { s2 with heap:=p3 } H3 C _ s7 (os++d3 is σ) H7 v u _ I7' r7 (step os v H7 hos y7)) (fun _ s8 ⟨σ8,H8,I8,⟨os',hos',e8⟩,q8⟩=>?_) fun _ _ z=>False.elim z
   subst e8
   refine wpAny_mono (hct cl fp { s2 with heap:=p3 } H3 C _ s8 _ H8 _ I8 q8) (fun bb sb ⟨Hb,Ib,qb⟩=>?_) fun _ _ z=>False.elim z
   cases bb with
   |false=>
    rw[if_neg Bool.false_ne_true]at qb
    rw[if_neg Bool.false_ne_true]
    obtain⟨m',hm',w9⟩:=qb
    refine⟨m',hm',i+1,os',ys,_,hos',Ib.gH,T.keep _ _ _ st7 fun b hb o e=>(Ib.pin (b,o) (mem_append_right _ (mem_append_right _ (d5 hb e)))).1,fun b hb=>?_,w9⟩
    obtain⟨o',e,d⟩:=T.obj _ _ st7 b hb
    exact(Ib.pin (b,o') (mem_append_right _ (mem_append_right _ (d5 hb e)))).2.1
   |true=>
    rw[if_pos rfl]at qb
    rw[if_pos rfl]
    refine wpAny_mono (he cl fp { s2 with heap:=p3 } H3 C _ sb _ Hb _ Ib qb) (fun uy s9 ⟨y,H9,I9,r9,hD9,hl9,m',hm',w9⟩=>?_) fun _ _ z=>False.elim z
    refine wpAny_mono (o4 (X:=dA X (xs++ns) scope cl fp { s2 with heap:=p3 } H3 C) _ s9 _ H9 (.ref D) [y] (.ref D) [uy] (fun _ H'=>H'=upd H9 D (.lst (ys++[y]))) I9 rfl (.cons r9 .nil) ⟨D,ys,y,rfl,rfl,hD9,hl9,rfl⟩) (fun _ s10 ⟨_,H10,I10,_,e10⟩=>?_) fun _ _ z=>False.elim z
    subst e10
    refine⟨m',hm',i+1,os',ys++[y],_,hos',I10.gH,T.keep _ _ _ st7 fun b hb o e=>(I10.pin (b,o) (mem_append_right _ (mem_append_right _ (d5 hb e)))).1,fun b hb=>?_,w9⟩
    obtain⟨o',e,d⟩:=T.obj _ _ st7 b hb
    exact(I10.pin (b,o') (mem_append_right _ (mem_append_right _ (d5 hb e)))).2.1
 exact codeAny_compStart_list loop (T.self X.A 0 _ _ _ st4 loop)
theorem pI{pins:List (Addr×Obj)}{σ:St}{Q:VK}:zh X pins σ Q none (EP X pins σ Q):=by
 intro D C H5 s6 m q I6 fC hn
 refine⟨m,hn,fun h' sb=>⟨.ref D,H5,I6.lH (t':=s6.toks) (fp:=[C]) (fun b hb=>?_) (fun b u nb e=>(sb.2 b (fun z=>nb (mem_singleton.mpr z))).trans e),rfl,q⟩⟩
 rw[mem_singleton]at hb
 subst hb
 exact fC
theorem xU{pins:List (Addr×Obj)}{σ:St}{Dn:Ends}{y:Str}{py:Pos}{iy:Nat}(hnd:X.N.Nodup)(hiy:X.N[iy]? =some y)(hly:Loc X.env.scope y)(hfy:X.fn y=true∨X.env.scope.names.lookup y=some .local):
  zh X pins σ (fun v H'=>Dn.nx (σ.set iy (some v)) H') (some (assign (.Name y py) X.env)) (fun _ s'=>SP X pins Dn .next s'):=by
 intro D C H5 s6 m q I6X fC hn
 have fpC:∀b∈[C],l8 X pins H5 b:=fun b hb=>by
  rw[mem_singleton]at hb
  subst hb
  exact fC
 obtain⟨oC,esC,epC,hoC,rC⟩:=id hn
 have obC:∀b∈[C],∃o,s6.heap.get? b=some o∧∀v,o.data≠.cell v:=fun b hb=>by
  rw[mem_singleton]at hb
  subst hb
  exact⟨oC,hoC,fun v z=>by rw[z]at rC;exact absurd rC.1 (fun w=>nomatch w)⟩
 have IP:=I6X.pinned fpC obC
 have hgy:PG X (.Name y py) (eA iy):=mW hnd hiy hly hfy
 show wpAny _ _ (assign (.Name y py) X.env (.ref D)) _ _ s6
 refine cX (hgy _ s6 σ H5 (.ref D) (.ref D) (fun σ' H'=>σ'=σ.set iy (some (.ref D))∧H'=H5) IP rfl ⟨rfl,rfl⟩) fun _ s7 hpat=>?_
 obtain⟨σ7,H7,I7,e1,e2⟩:=hpat
 subst e1
 subst e2
 have hC7:s7.heap.get? C=some oC:=(I7.pin (C,oC) (mem_append_right _ (mem_append_right _ (d5 (mem_singleton.mpr rfl) hoC)))).1
 exact⟨m,⟨oC,esC,epC,hC7,rC⟩,fun h' sb=>⟨_,H7,I7.gH.lH (t':=s7.toks) (fp:=[C]) fpC (fun b u nb e=>(sb.2 b (fun z=>nb (mem_singleton.mpr z))).trans e),q⟩⟩
theorem C6{sc:Scope}{N:List Str}(hc:X.calm=true)(hi:PI X tg iter wi)(L:rB sc N xs scope is ns)(hg:∀cl fp s3 H3 C,PG (dA X (xs++ns) scope cl fp s3 H3 C) tg g)(hct:∀cl fp s3 H3 C,EV (dA X (xs++ns) scope cl fp s3 H3 C) cts tc)(he:∀cl fp s3 H3 C,PE (dA X (xs++ns) scope cl fp s3 H3 C) elt te)
  (hsc:X.env.scope=sc)(hN:X.N=N)(hs:∀x,foldedSetIterable iter X.env x=pure x):PE X (.ListComp elt [⟨tg,iter,cts,0⟩] scope pos) (BG wi xs.length is g tc te):=by
 intro pins s σ H Q I h
 rw[eval_ListComp]
 exact kD I h (fun _ _ z=>z) pI hc hi L hg hct he hsc hN hs
theorem wx{sc:Scope}{N:List Str}{y:Str}{py spos:Pos}{iy:Nat}(hnd:X.N.Nodup)(hiy:X.N[iy]? =some y)(hly:Loc X.env.scope y)(hfy:X.fn y=true∨X.env.scope.names.lookup y=some .local)(hsw:swapsWith (.ListComp elt [⟨tg,iter,cts,0⟩] scope pos) (some (.Name y py)) spos.line X.env=pure true)
  (hc:X.calm=true)(hi:PI X tg iter wi)(L:rB sc N xs scope is ns)(hg:∀cl fp s3 H3 C,PG (dA X (xs++ns) scope cl fp s3 H3 C) tg g)(hct:∀cl fp s3 H3 C,EV (dA X (xs++ns) scope cl fp s3 H3 C) cts tc)(he:∀cl fp s3 H3 C,PE (dA X (xs++ns) scope cl fp s3 H3 C) elt te)
  (hsc:X.env.scope=sc)(hN:X.N=N)(hs:∀x,foldedSetIterable iter X.env x=pure x):PS X (.Assign [.Name y py] (.ListComp elt [⟨tg,iter,cts,0⟩] scope pos) spos) (sI (BG wi xs.length is g tc te) (eA iy)):=by
 intro pins s σ H Dn I h
 rw[exec_Assign_Name_used _ _ _ _ hsw]
 refine wpAny_bind (wpAny_standAt (wpAny_bind ?_))
 show wpAny _ X.A (do let _ ←comprehension (.ListComp elt [⟨tg,iter,cts,0⟩] scope pos) scope X.env _ (newList []) false (eval iter X.env) (some (assign (.Name y py) X.env))) _ _ s
 exact wpAny_bind (cX (Q:=fun _ s'=>SP X pins Dn .next s') (kD I h (fun _ _ z=>z) (xU hnd hiy hly hfy) hc hi L hg hct he hsc hN hs) fun _ s' hq=>wpAny_pure (wpAny_pure hq))
theorem Fj{J:It}{te:TE}{is:List Nat}{σ:St}{H1:Hp}{Q:VK}(h:hU J is te σ H1 Q):eC J 1 is (eA 0) sJ te σ H1 Q:=by
 intro D hD
 obtain⟨W,w0,k⟩:=h D hD
 refine⟨W,w0,fun i m ys H2 w=>?_⟩
 obtain⟨e,z|⟨go,nx⟩⟩:=k i m ys H2 w
 ·exact⟨e,.inl z⟩
 ·refine⟨e,.inr ⟨go,fun os v H3 hos y=>?_⟩⟩
  match os,hos with
  |[o],_=>exact⟨⟨[some v],rfl,rfl⟩,c9 (B:=∃m',m' < m∧W (i+1) m' ys H3) (nx v H3 y)⟩
theorem zv{sc:Scope}{N:List Str}{x:Str}{px:Pos}(hc:X.calm=true)(hi:PI X (.Name x px) iter wi)(L:Fm sc N x scope is ns)(he:∀cl fp s3 H3 C,PE (dA X (x::ns) scope cl fp s3 H3 C) elt te)
  (hsc:X.env.scope=sc:=by rfl)(hN:X.N=N:=by rfl)(hs:∀x,foldedSetIterable iter X.env x=pure x:=by intro _;rfl):PE X (.ListComp elt [⟨.Name x px,iter,[],0⟩] scope pos) (Jb wi is te):=by
 intro pins s σ H Q I h
 rw[eval_ListComp]
 exact kD (xs:=[x]) (g:=eA 0) (tc:=sJ) I h (fun _ _ z=>Fj z) pI hc hi ⟨L.kind,L.nocell,L.names,L.free,L.cap,L.capf⟩ (fun _ _ _ _ _=>mW (i:=0) L.nd rfl (.inl (lookup_relabel_local L.hx)) (.inr (lookup_relabel_local L.hx))) (fun _ _ _ _ _=>vE) he hsc hN hs
end
section
variable {K:PySem.W.Frag}{n:Nat}{is:List Nat}{g:TG}{tc:TT}{te:TE}{σ:St}{H:Hp}{Q:VK}
theorem fR(p:Nat→Bool)(f:Nat→V)(i:Nat):((List.range (i+1)).filter p).map f=((List.range i).filter p).map f++if p i=true then [f i] else []:=by
 rw[range_succ,filter_append,map_append]
 cases h:p i<;>simp[List.filter,h]
theorem u5{J:It}{N:Nat}(p:Nat→Bool)(f:Nat→V)(hz:N≤sizeLine)(hgo:∀i H2,cA H H2→i < N→J.go i H2)(hstop:∀H2,cA H H2→J.stop N H2)
  (he:∀(i:Nat)(os:St) v H2 H3 (K1:VK)(K2:Hp→Prop),i < N→os.length=n→cA H H2→J.yld i H2 v H3→(p i=true→∀H6,cA H2 H6→K1 (f i) H6)→(p i=false→∀H5,cA H2 H5→K2 H5)→
   g v (os++d3 is σ) H3 fun σ' H4=>(∃os':St,os'.length=n∧σ'=os'++d3 is σ)∧tc σ' H4 fun b H5=>if b=true then te σ' H5 K1 else K2 H5)
  (q:∀D H',H D=none→cA H H'→H' D=some (.lst (((List.range N).filter p).map f))→Q (.ref D) H'):eC J n is g tc te σ H Q:=by
 intro D hDn
 refine⟨fun i m ys H2=>m=N - i∧i≤N∧cA H H2∧H2 D=some (.lst ys)∧ys=((List.range i).filter p).map f,⟨_,rfl,zero_le _,cA.upd hDn,cy,rfl⟩,?_⟩
 rintro i m ys H2 ⟨rfl,hi,sm,hd,rfl⟩
 refine⟨hd,?_⟩
 by_cases hlt:i < N
 ·refine .inr ⟨hgo i H2 sm hlt,fun os v H3 hos y=>?_⟩
  have hl:(((List.range i).filter p).map f).length≤i:=by
   rw[length_map]
   have:=length_filter_le p (List.range i)
   rw[length_range]at this
   exact this
  refine he i os v H2 H3 _ _ hlt hos sm y (fun hp H6 s6=>⟨s6 _ _ hd,by omega,N - (i+1),by omega,rfl,hlt,fun b o e=>?_,cy,?_⟩) (fun hp H5 s5=>⟨N - (i+1),by omega,rfl,hlt,sm.trans s5,s5 _ _ hd,?_⟩)
  ·rw[cC (cz e hDn)]
   exact s6 _ _ (sm _ _ e)
  ·rw[fR,if_pos hp]
  ·rw[fR,if_neg (by rw[hp];exact Bool.false_ne_true),append_nil]
 ·have e:i=N:=by omega
  subst e
  exact .inl ⟨hstop H2 sm,q D H2 hDn sm hd⟩
theorem dz{a:Addr}{xs:List V}(p:Nat→Bool)(f:Nat→V)(hq:cF K H a xs)(hz:xs.length≤sizeLine)
  (he:∀(i:Nat)(os:St) v H2 (K1:VK)(K2:Hp→Prop),xs[i]? =some v→os.length=n→cA H H2→(p i=true→∀H6,cA H2 H6→K1 (f i) H6)→(p i=false→∀H5,cA H2 H5→K2 H5)→
   g v (os++d3 is σ) H2 fun σ' H4=>(∃os':St,os'.length=n∧σ'=os'++d3 is σ)∧tc σ' H4 fun b H5=>if b=true then te σ' H5 K1 else K2 H5)
  (q:∀D H',H D=none→cA H H'→H' D=some (.lst (((List.range xs.length).filter p).map f))→Q (.ref D) H'):eC (Ax K a) n is g tc te σ H Q:=
 u5 p f hz (fun i H2 sm hi=>⟨xs,xs[i],sm.seq hq,by simp[hi]⟩) (fun H2 sm=>⟨xs,sm.seq hq,le_refl _⟩) (fun i os v H2 H3 K1 K2 hi hos sm y k1 k2=>by
  obtain⟨rfl,y⟩:=y
  exact he i os v _ K1 K2 (y xs (sm.seq hq)) hos sm k1 k2) q
theorem pB{lo:Int}{N:Nat}(p:Nat→Bool)(f:Nat→V)(hz:N≤sizeLine)
  (he:∀(i:Nat)(os:St) H2 (K1:VK)(K2:Hp→Prop),i < N→os.length=n→cA H H2→(p i=true→∀H6,cA H2 H6→K1 (f i) H6)→(p i=false→∀H5,cA H2 H5→K2 H5)→
   g (.int (lo+i)) (os++d3 is σ) H2 fun σ' H4=>(∃os':St,os'.length=n∧σ'=os'++d3 is σ)∧tc σ' H4 fun b H5=>if b=true then te σ' H5 K1 else K2 H5)
  (q:∀D H',H D=none→cA H H'→H' D=some (.lst (((List.range N).filter p).map f))→Q (.ref D) H'):eC (Bh lo N) n is g tc te σ H Q:=
 u5 p f hz (fun i H2 _ hi=>hi) (fun H2 _=>le_refl N) (fun i os v H2 H3 K1 K2 hi hos sm y k1 k2=>by
  obtain⟨rfl,rfl⟩:=y
  exact he i os _ K1 K2 hi hos sm k1 k2) q
theorem rp{a:Addr}{xs:List V}(p:Nat→Bool)(f:Nat→V)(hq:cF K H a xs)(hz:xs.length≤sizeLine)
  (he:∀(i:Nat)(os:St) v (t:Addr) H2 (K1:VK)(K2:Hp→Prop),xs[i]? =some v→os.length=n→cA H H2→H2 t=none→(p i=true→∀H6,cA H2 H6→K1 (f i) H6)→(p i=false→∀H5,cA H2 H5→K2 H5)→
   g (.ref t) (os++d3 is σ) (upd H2 t (.tup [.int i,v])) fun σ' H4=>(∃os':St,os'.length=n∧σ'=os'++d3 is σ)∧tc σ' H4 fun b H5=>if b=true then te σ' H5 K1 else K2 H5)
  (q:∀D H',H D=none→cA H H'→H' D=some (.lst (((List.range xs.length).filter p).map f))→Q (.ref D) H'):eC (ET K a) n is g tc te σ H Q:=
 u5 p f hz (fun i H2 sm hi=>⟨xs,xs[i],sm.seq hq,by simp[hi]⟩) (fun H2 sm=>⟨xs,sm.seq hq,rfl⟩) (fun i os v H2 H3 K1 K2 hi hos sm y k1 k2=>by
  obtain⟨t,x,ht,rfl,rfl,y⟩:=y
  exact he i os x t _ K1 K2 (y xs (sm.seq hq)) hos sm ht k1 k2) q
end
section
variable {X:Cx}
theorem sR:∀bs:List Bool,((List.range bs.length).any fun i=>bs.getD i false)=bs.any id
 |[]=>rfl
 |b::r=>by
  rw[length_cons,List.range_succ_eq_map,any_cons,any_map,any_cons,←sR r]
  rfl
theorem gB(hc:X.calm=true):ef X (.builtin "any") (fun xs H Q=>∃(p:Addr) (bs:List Bool),xs=[.ref p]∧cF X.K H p (bs.map V.bl)∧Q (.bl (bs.any id)) H):=by
 intro pins s σ H xs us Q I r h
 obtain⟨p,bs,rfl,hq,q⟩:=h
 obtain⟨u,rfl,rx⟩:=vals1 r
 cases rx
 obtain⟨its,rv,pl,hz⟩:=I.list hq
 have hl:=rv.length
 rw[length_map]at hl
 have hlt:p < s.heap.objs.size:=by obtain⟨o,n,e,_⟩:=pl;exact lt_size e
 refine call_any_walk (wpAny_pyIter_list pl.isList ?_)
 refine⟨s.heap.objs.size,[s.heap.objs.size,p],[s.heap.objs.size],its.toArray.size,_,_,fun i=>bs.getD i false,rfl,Walks.list (show X.A.in1.handled=none from I.ok.hd hc) s.heap.objs.size p (ne_of_lt hlt) its.toArray,
  ⟨⟨_,get?_push_size _ rfl,rfl,rfl⟩,?_⟩,fun i v s' Q' E' hv hQ=>?_,fun h' tk kk=>?_⟩
 ·obtain⟨o,e,r⟩:=pl.isList
  exact⟨o,get?_push_of_some _ e,r⟩
 ·have hi:i < bs.length:=by
   have:i < its.length:=by
    have:=(Array.getElem?_eq_some_iff.mp hv).1
    simpa using this
   omega
  have hb:(bs.map V.bl)[i]? =some (V.bl bs[i]):=by simp[hi]
  obtain⟨u,hu,ru⟩:=rv.get hb
  have hv':its[i]? =some v:=by simpa using hv
  rw[hu]at hv'
  cases hv'
  obtain rfl:v=Value.bool bs[i]:=ru
  refine wpAny_truthy_bool ?_
  have e:bs.getD i false=bs[i]:=by simp[List.getD,hi]
  rw[←e]
  exact hQ
 ·refine⟨.bl (bs.any id),H,?_,?_,q⟩
  ·have I1:Inv X pins σ H { s with heap:=s.heap.push { cls:=.type "list_iterator",data:=.fields #[.ref p,.int 0 0] } }:=I.kept (t':=s.toks) fun b o e=>get?_push_of_some _ e
   have I2:Inv X pins σ H { s with heap:=h',toks:=tk }:=I.kept (t':=tk) fun b o e=>kk b o (by
    intro z
    have z':b=s.heap.objs.size:=by simpa using z
    exact absurd (lt_size e) (by rw[z'];exact lt_irrefl _)) (get?_push_of_some _ e)
   exact I2
  ·show Value.bool _=Value.bool _
   congr 1
   rw[size_toArray,←hl]
   exact sR bs
end
end L2
namespace J
open PySem PySem.Spec PyProof.Rows
open L2 (Cx V Hp St VK TE TT TA TS TG o8 TI TO cF)
structure Hw(X:Cx)(cts:List Expr)(t:TT):Prop where
 out:L2.EV X cts t
section
variable {X:Cx}{x y:Str}{xs ns:List Str}{scope:Scope}{cl:List (Str×Addr)}{fp:List Addr}{s3:Shared}{H3:Hp}{C:Addr}{p pos spos py:Pos}{ct tg it elt:Expr}{cts:List Expr}{tc:TT}{te:TE}{wi:TI}{g:TG}{is:List Nat}{sc:Scope}{N:List Str}{iy:Nat}
theorem _root_.bW{x:Str}{px:Pos}(hc:X.calm=true)(hi:JI X (.Name x px) it wi)(L:L2.Fm sc N x scope is ns)(he:∀cl fp s3 H3 C,JE (L2.dA X (x::ns) scope cl fp s3 H3 C) elt te)(hsc:X.env.scope=sc)(hN:X.N=N)(hs:∀x,foldedSetIterable it X.env x=pure x:=by intro _;rfl):
  JE X (.ListComp elt [⟨.Name x px,it,[],0⟩] scope pos) (L2.Jb wi is te):=⟨L2.zv hc hi.out L (fun cl fp s3 H3 C=>(he cl fp s3 H3 C).out) hsc hN hs⟩
theorem _root_.bT:Hw X [] L2.sJ:=⟨L2.vE⟩
theorem _root_.bz(h:JT X ct tc):Hw X [ct] tc:=⟨L2.B7 h.out⟩
theorem _root_.aG {i:Nat}(h:scope.names.lookup y=some .local) (hi:xs[i]? =some y) (db:(y == ("__debug__" :Str))=false) (cd:(y == ("__classdict__" :Str))=false):JE (L2.dA X xs scope cl fp s3 H3 C) (.Name y p) (L2.j5 i):=
 ⟨L2.kr (i:=i) hi (.inl (PySem.lookup_relabel_local h)) db cd⟩
theorem _root_.aU {i:Nat}(h:scope.names.lookup y=some .free) (hi:xs[i]? =some y) (db:(y == ("__debug__" :Str))=false) (cd:(y == ("__classdict__" :Str))=false):JE (L2.dA X xs scope cl fp s3 H3 C) (.Name y p) (L2.j5 i):=
 ⟨L2.kr (i:=i) hi (.inr (L2.iK h)) db cd⟩
theorem _root_.aT{i:Nat}(nd:xs.Nodup)(h:scope.names.lookup y=some .local)(hi:xs[i]? =some y):JG (L2.dA X xs scope cl fp s3 H3 C) (.Name y p) (L2.eA i):=
 ⟨L2.mW (i:=i) nd hi (.inl (PySem.lookup_relabel_local h)) (.inr (PySem.lookup_relabel_local h))⟩
theorem _root_.bF(hc:X.calm=true)(hi:JI X tg it wi)(L:L2.rB sc N xs scope is ns)(hg:∀cl fp s3 H3 C,JG (L2.dA X (xs++ns) scope cl fp s3 H3 C) tg g)(hct:∀cl fp s3 H3 C,Hw (L2.dA X (xs++ns) scope cl fp s3 H3 C) cts tc)(he:∀cl fp s3 H3 C,JE (L2.dA X (xs++ns) scope cl fp s3 H3 C) elt te)
  (hsc:X.env.scope=sc)(hN:X.N=N)(hs:∀x,foldedSetIterable it X.env x=pure x:=by intro _;rfl):JE X (.ListComp elt [⟨tg,it,cts,0⟩] scope pos) (L2.BG wi xs.length is g tc te):=
 ⟨L2.C6 hc hi.out L (fun cl fp s3 H3 C=>(hg cl fp s3 H3 C).out) (fun cl fp s3 H3 C=>(hct cl fp s3 H3 C).out) (fun cl fp s3 H3 C=>(he cl fp s3 H3 C).out) hsc hN hs⟩
theorem _root_.bQ(S:L2.Slot X iy y)(hnd:X.N.Nodup)(hc:X.calm=true)(hi:JI X tg it wi)(L:L2.rB sc N xs scope is ns)(hg:∀cl fp s3 H3 C,JG (L2.dA X (xs++ns) scope cl fp s3 H3 C) tg g)(hct:∀cl fp s3 H3 C,Hw (L2.dA X (xs++ns) scope cl fp s3 H3 C) cts tc)(he:∀cl fp s3 H3 C,JE (L2.dA X (xs++ns) scope cl fp s3 H3 C) elt te)
  (hsc:X.env.scope=sc)(hN:X.N=N)
  (hw:((if sc.kind.isAnnotationScope then ScopeKind.function else sc.kind) == .function && sc.names.lookup y == some .local && py.line == pos.line && !(scope.names.any fun(n,k)=>n == y && (k == .local || k == .cell)))=true)
  (hs:∀x,foldedSetIterable it X.env x=pure x:=by intro _;rfl):
  JS X (.Assign [.Name y py] (.ListComp elt [⟨tg,it,cts,0⟩] scope pos) spos) (L2.sI (L2.BG wi xs.length is g tc te) (L2.eA iy)):=
 ⟨L2.wx hnd S.hN S.lc S.fn (L2.wO hsc hw) hc hi.out L (fun cl fp s3 H3 C=>(hg cl fp s3 H3 C).out) (fun cl fp s3 H3 C=>(hct cl fp s3 H3 C).out) (fun cl fp s3 H3 C=>(he cl fp s3 H3 C).out) hsc hN hs⟩
theorem gB(hc:X.calm=true):JF X (.builtin "any") (fun xs H Q=>∃(p:Addr) (bs:List Bool),xs=[.ref p]∧cF X.K H p (bs.map V.bl)∧Q (.bl (bs.any id)) H):=⟨L2.gB hc⟩
end
end J
namespace L2
open PySem PySem.Spec PyProof.Rows
section
variable {κ:Type} [DecidableEq κ]
def cS(kvs:List (κ×V))(k:κ):Option V:=(kvs.find? fun kv=>decide (kv.1=k)).map (·.2)
def putK(kvs:List (κ×V))(k:κ)(v:V):List (κ×V):=
 if(kvs.any fun kv=>decide (kv.1=k))=true then kvs.map (fun kv=>if kv.1=k then(kv.1,v) else kv) else kvs++[(k,v)]
def yP(kvs:List (κ×V))(k:κ):List (κ×V):=kvs.filter fun kv=>decide (kv.1≠k)
theorem dN{p:κ×V}{r:List (κ×V)}{k:κ}(e:p.1=k):cS (p::r) k=some p.2:=by simp[cS,find?_cons,e]
theorem dP{p:κ×V}{r:List (κ×V)}{k:κ}(e:¬p.1=k):cS (p::r) k=cS r k:=by simp[cS,find?_cons,e]
theorem fF(k:κ):∀kvs:List (κ×V),(kvs.any fun kv=>decide (kv.1=k))=(cS kvs k).isSome
 |[]=>rfl
 |p::r=>by
  rw[any_cons]
  by_cases e:p.1=k
  ·simp only[dN e,decide_eq_true e,Bool.true_or,Option.isSome_some]
  ·rw[dP e,decide_eq_false e,Bool.false_or];exact fF k r
theorem sL(k j:κ)(y:V):∀kvs:List (κ×V),cS (kvs.map fun kv=>if kv.1=k then(kv.1,y) else kv) j=(cS kvs j).map fun x=>if j=k then y else x
 |[]=>rfl
 |p::r=>by
  have ih:=sL k j y r
  rw[map_cons]
  by_cases h:p.1=k
  ·rw[if_pos h]
   by_cases e:p.1=j
   ·rw[dN (p:=(p.1,y)) e,dN e,map_some,if_pos (e.symm.trans h)]
   ·rw[dP (p:=(p.1,y)) e,dP e,ih]
  ·rw[if_neg h]
   by_cases e:p.1=j
   ·rw[dN (p:=p) e,dN e,map_some,if_neg (fun z=>h (e.trans z))]
   ·rw[dP (p:=p) e,dP e,ih]
theorem pH(k j:κ)(y:V):∀kvs:List (κ×V),cS kvs k=none→cS (kvs++[(k,y)]) j=if j=k then some y else cS kvs j
 |[],_=>by
  by_cases e:k=j
  ·rw[if_pos e.symm];exact dN (p:=(k,y)) e
  ·rw[if_neg (fun z=>e z.symm)];exact dP (p:=(k,y)) e
 |p::r,hn=>by
  rw[List.cons_append]
  have hk:¬p.1=k:=fun z=>by rw[dN z]at hn;cases hn
  rw[dP hk]at hn
  have ih:=pH k j y r hn
  by_cases e:p.1=j
  ·rw[dN e,dN e,if_neg (fun z=>hk (e.trans z))]
  ·rw[dP e,dP e,ih]
theorem dY(kvs:List (κ×V))(k j:κ)(y:V):cS (putK kvs k y) j=if j=k then some y else cS kvs j:=by
 unfold putK
 by_cases a:(kvs.any fun kv=>decide (kv.1=k))=true
 ·rw[if_pos a,sL]
  rw[fF]at a
  by_cases e:j=k
  ·obtain⟨x,hx⟩:=isSome_iff_exists.mp a
   rw[if_pos e,e,hx,map_some,if_pos rfl]
  ·rw[if_neg e]
   cases cS kvs j with
   |none=>rfl
   |some x=>rw[map_some,if_neg e]
 ·rw[if_neg a]
  refine pH k j y kvs ?_
  rw[fF]at a
  cases q:cS kvs k with
  |none=>rfl
  |some x=>rw[q]at a;exact(a rfl).elim
theorem d8(kvs:List (κ×V))(k:κ)(v:V):(putK kvs k v).length≤kvs.length+1:=by
 unfold putK
 split
 ·rw[length_map];omega
 ·rw[length_append,length_cons,List.length_nil];omega
theorem ip.gw{o:Option V}{u:Option Value}(r:ip o u):o.isSome=u.isSome:=by
 cases o with
 |none=>cases u with
  |none=>rfl
  |some _=>exact(show False from r).elim
 |some _=>cases u with
  |none=>exact(show False from r).elim
  |some _=>rfl
theorem ip.getD{o:Option V}{u:Option Value}{d:V}{d':Value}(r:ip o u)(rd:RelV d d'):RelV (o.getD d) (u.getD d'):=by
 cases o with
 |none=>cases u with
  |none=>exact rd
  |some _=>exact(show False from r).elim
 |some _=>cases u with
  |none=>exact(show False from r).elim
  |some _=>exact r
theorem KV.val{kvs:List (κ×V)}{vs:List (κ×Value)}(r:KV kvs vs)(k:κ):ip (cS kvs k) (valueAt vs k):=by
 unfold KV at r
 induction r with
 |nil=>exact True.intro
 | @cons p q ps qs h t ih=>
  obtain⟨h1,h2⟩:=h
  by_cases e:p.1=k
  ·have e':q.1=k:=h1.symm.trans e
   have b:valueAt (q::qs) k=some q.2:=by simp[valueAt,find?_cons,e']
   rw[dN e,b];exact h2
  ·have e':¬q.1=k:=fun z=>e (h1.trans z)
   have b:valueAt (q::qs) k=valueAt qs k:=by simp[valueAt,find?_cons,e']
   rw[dP e,b];exact ih
theorem KV.any{kvs:List (κ×V)}{vs:List (κ×Value)}(r:KV kvs vs)(k:κ):(kvs.any fun kv=>decide (kv.1=k))=vs.any fun kv=>decide (kv.1=k):=by
 unfold KV at r
 induction r with
 |nil=>rfl
 |cons h t ih=>rw[any_cons,any_cons,ih,h.1]
theorem KV.Dm{kvs:List (κ×V)}{vs:List (κ×Value)}(r:KV kvs vs)(k:κ){y:V}{u:Value}(ry:RelV y u):
  KV (kvs.map fun kv=>if kv.1=k then(kv.1,y) else kv) (vs.map fun kv=>if kv.1=k then(kv.1,u) else kv):=by
 unfold KV at r ⊢
 induction r with
 |nil=>exact .nil
 | @cons p q ps qs h t ih=>
  rw[map_cons,map_cons]
  refine .cons ?_ ih
  obtain⟨h1,h2⟩:=h
  by_cases e:p.1=k
  ·rw[if_pos e,if_pos (h1.symm.trans e)];exact⟨h1,ry⟩
  ·rw[if_neg e,if_neg (fun z=>e (h1.trans z))];exact⟨h1,h2⟩
theorem KV.put{kvs:List (κ×V)}{vs:List (κ×Value)}(r:KV kvs vs)(k:κ){y:V}{u:Value}(ry:RelV y u):KV (putK kvs k y) (stored vs k u):=by
 unfold putK stored
 rw[r.any k]
 by_cases e:(vs.any fun kv=>decide (kv.1=k))=true
 ·rw[if_pos e,if_pos e];exact r.Dm k ry
 ·rw[if_neg e,if_neg e];exact Paired.snoc r ⟨rfl,ry⟩
theorem KV.keys{kvs:List (κ×V)}{vs:List (κ×Value)}(r:KV kvs vs):kvs.map (·.1)=vs.map (·.1):=by
 unfold KV at r
 induction r with
 |nil=>rfl
 |cons h t ih=>rw[map_cons,map_cons,ih,h.1]
theorem KV.length{kvs:List (κ×V)}{vs:List (κ×Value)}(r:KV kvs vs):kvs.length=vs.length:=Paired.length r
end
theorem lT{P:Program}{w:World}{k:Key}{u:Value}(r:RelV (kV k) u):(cG P w).is k u=true:=by
 cases k with
 |inl i=>obtain⟨t,e⟩:=(show ∃t,u=Value.int i t from r);subst e;exact tf P w i t
 |inr x=>obtain⟨t,e⟩:=(show ∃t,u=Value.str x t from r);subst e;exact qX P w x t
theorem pC{P:Program}{w:World}:∀{ks:List Key}{us:List Value},Vals (ks.map kV) us→ItemsAre (cG P w) ks us
 |[],_,r=>by rw[map_nil]at r;cases r;exact .nil
 |k::ks,_,r=>by
  rw[map_cons]at r
  cases r with
  |cons h t=>exact .cons (lT h) (pC t)
abbrev KT(H:Hp):List (List Key×V)→List (List Key×Addr×Value)→Prop:=Paired fun p q=>p.1=q.1∧H q.2.1=some (.tup (p.1.map kV))∧RelV p.2 q.2.2
theorem KT.val{H:Hp}{kvs:List (List Key×V)}{xs:List (List Key×Addr×Value)}(r:KT H kvs xs)(k:List Key):ip (cS kvs k) ((atKey xs k).map (·.2)):=by
 induction r with
 |nil=>exact True.intro
 | @cons p q ps qs h t ih=>
  obtain⟨h1,_,h2⟩:=h
  by_cases e:p.1=k
  ·have e':q.1=k:=h1.symm.trans e
   have b:atKey (q::qs) k=some q.2:=by simp[atKey,find?_cons,e']
   rw[dN e,b];exact h2
  ·have e':¬q.1=k:=fun z=>e (h1.trans z)
   have b:atKey (q::qs) k=atKey qs k:=by simp[atKey,find?_cons,e']
   rw[dP e,b];exact ih
theorem KT.Dm{H:Hp}{kvs:List (List Key×V)}{xs:List (List Key×Addr×Value)}(r:KT H kvs xs)(k:List Key){y:V}{u:Value}(ry:RelV y u):
  KT H (kvs.map fun kv=>if kv.1=k then(kv.1,y) else kv) (xs.map (putAt k u)):=by
 induction r with
 |nil=>exact .nil
 | @cons p q ps qs h t ih=>
  rw[map_cons,map_cons]
  refine .cons ?_ ih
  obtain⟨h1,h2,h3⟩:=h
  unfold putAt
  by_cases e:p.1=k
  ·rw[if_pos e,if_pos (h1.symm.trans e)];exact⟨h1,h2,ry⟩
  ·rw[if_neg e,if_neg (fun z=>e (h1.trans z))];exact⟨h1,h2,h3⟩
theorem KT.put{H:Hp}{kvs:List (List Key×V)}{xs:List (List Key×Addr×Value)}(r:KT H kvs xs)(k:List Key){b:Addr}{y:V}{u:Value}(hb:H b=some (.tup (k.map kV)))(ry:RelV y u):
  KT H (putK kvs k y) (storedH xs k b u):=by
 have e:(kvs.any fun kv=>decide (kv.1=k))=(atKey xs k).isSome:=by
  rw[fF,(r.val k).gw,isSome_map]
 unfold putK storedH
 rw[e]
 by_cases q:(atKey xs k).isSome=true
 ·rw[if_pos q,if_pos q];exact r.Dm k ry
 ·rw[if_neg q,if_neg q];exact Paired.snoc r ⟨rfl,hb,ry⟩
theorem KT.keeps{H H':Hp}{kvs:List (List Key×V)}{xs:List (List Key×Addr×Value)}(r:KT H kvs xs)(ht:∀b ys,H b=some (.tup ys)→H' b=some (.tup ys)):KT H' kvs xs:=
 Paired.DX r fun _ _ z=>⟨z.1,ht _ _ z.2.1,z.2.2⟩
section
variable {P:Program}{w:World}{H:Hp}{h:Heap}{a:Addr}
theorem Cs{u:HO}(ok:gF P w H h)(e:Rd H a u):cV P w H h a u:=e.ok ok
theorem lP{kvs:List (Key×V)}(ok:gF P w H h)(e:Rd H a (.dK kvs)):kvs.length≤sizeLine∧(a == sysModules)=false∧∃vs,KV kvs vs∧h.DictOf (cG P w) a vs:=
 show cV P w H h a (.dK kvs) from Cs ok e
theorem CF{kvs:List (Key×V)}(ok:gF P w H h)(e:H a=some (.dK kvs)):kvs.length≤sizeLine∧(a == sysModules)=false∧∃vs,KV kvs vs∧h.DictOf (cG P w) a vs:=lP ok (.inl e)
theorem jm{ks:List Key}(ok:gF P w H h)(e:H a=some (.tup (ks.map kV))):(tupleKind (cG P w)).is h ks a:=by
 obtain⟨_,its,r,o,h1,h2,n,h3⟩:=(show cV P w H h a (.tup (ks.map kV)) from ok a _ e)
 exact⟨o,its.toArray,n,h1,h2,h3,by simpa using pC r⟩
theorem lL{kvs:List (List Key×V)}(ok:gF P w H h)(e:Rd H a (.dT kvs)):kvs.length≤sizeLine∧(a == sysModules)=false∧
  ∃xs,KT H kvs xs∧h.DictOfH (tupleKind (cG P w)) a xs:=by
 obtain⟨z,y,xs,r,o,es,ep,h1,h2,h3,h4,h5⟩:=(show cV P w H h a (.dT kvs) from Cs ok e)
 refine⟨z,y,xs,r,o,es,ep,h1,h2,h3,h4,fun x hx=>?_,h5⟩
 have all:∀{l:List (List Key×V)}{m:List (List Key×Addr×Value)},KT H l m→∀x∈m,(tupleKind (cG P w)).is h x.1 x.2.1:=by
  intro l m q
  induction q with
  |nil=>intro x hx;exact nomatch hx
  | @cons p q ps qs hq t ih=>
   intro x hx
   rcases mem_cons.mp hx with e|hx
   ·subst e
    exact jm ok (by rw[←hq.1];exact hq.2.1)
   ·exact ih x hx
 exact all r x hx
theorem F6{kvs:List (List Key×V)}(ok:gF P w H h)(e:H a=some (.dT kvs)):kvs.length≤sizeLine∧(a == sysModules)=false∧
  ∃xs,KT H kvs xs∧h.DictOfH (tupleKind (cG P w)) a xs:=lL ok (.inl e)
end
def ei(H:Hp)(a:Addr)(y:V)(r:Option V):Prop:=
 (∃kvs k,Rd H a (.dK kvs)∧y=kV k∧r=cS kvs k)∨∃kvs k b,Rd H a (.dT kvs)∧y=.ref b∧H b=some (.tup (k.map kV))∧r=cS kvs k
def kF(H:Hp)(a:Addr)(y v:V)(H':Hp):Prop:=
 (∃kvs k,H a=some (.dK kvs)∧y=kV k∧kvs.length < sizeLine∧H'=upd H a (.dK (putK kvs k v)))∨
 ∃kvs k b,H a=some (.dT kvs)∧y=.ref b∧H b=some (.tup (k.map kV))∧kvs.length < sizeLine∧H'=upd H a (.dT (putK kvs k v))
theorem ei.k{H:Hp}{a:Addr}{kvs:List (Key×V)}{k:Key}(e:H a=some (.dK kvs)):ei H a (kV k) (cS kvs k):=.inl ⟨kvs,k,.inl e,rfl,rfl⟩
theorem kF.k{H:Hp}{a:Addr}{kvs:List (Key×V)}{k:Key}{v:V}(e:H a=some (.dK kvs))(hl:kvs.length < sizeLine):kF H a (kV k) v (upd H a (.dK (putK kvs k v))):=.inl ⟨kvs,k,e,rfl,hl,rfl⟩
section
variable {X:Cx}{pins:List (Addr×Obj)}{σ:St}{H:Hp}{s:Shared}{a:Addr}{y v:V}{u r:Value}{o:Option V}{A:Around}{E:Value→Shared→Prop}
theorem Inv.big(I:Inv X pins σ H s):sysModules < s.heap.objs.size:=by
 have h:mainGlobals < s.heap.objs.size:=(I.mod.glob.keeps I.bk).lt
 exact lt_trans (by decide) h
theorem wF{Q:Value→Shared→Prop}(hu:A.units+1 < cLine)(I:Inv X pins σ H s)(g:ei H a y (some v))(ry:RelV y u)(h:∀w' s',Inv X pins σ H s'→RelV v w'→Q w' s'):
  wpAny (model X.prog X.w) A (getItem (.ref a) u) Q E s:=by
 rcases g with ⟨kvs,k,e,ey,l⟩|⟨kvs,k,b,e,ey,eb,l⟩
 ·subst ey
  obtain⟨z,hd,vs,rel,dd⟩:=lP I.hok e
  obtain⟨w',hw,rw'⟩:=ip.some_of (v:=v) (o:=valueAt vs k) (by rw[l];exact rel.val k)
  exact wpAny_getItem_of (lT ry) dd.mapOf hw (h w' _ (I.tok _) rw')
 ·subst ey
  cases (show u=Value.ref b from ry)
  obtain⟨z,hd,xs,rel,dd⟩:=lL I.hok e
  obtain⟨w',hw,rw'⟩:=ip.some_of (v:=v) (o:=(atKey xs k).map (·.2)) (by rw[l];exact rel.val k)
  obtain⟨p,hp,hp2⟩:=map_eq_some_iff.mp hw
  refine wpAny_getItem_heap (tupleKind_room_in1 hu) (jm I.hok eb) dd hp ?_
  rw[hp2]
  exact h w' _ (I.tok _) rw'
theorem ID{Q:Value→Shared→Prop}(hu:A.units+1 < cLine)(I:Inv X pins σ H s)(g:ei H a y o)(ry:RelV y u)(h:∀s',Inv X pins σ H s'→Q (.bool o.isSome) s'):
  wpAny (model X.prog X.w) A (compareOp .In u (.ref a)) Q E s:=by
 rcases g with ⟨kvs,k,e,ey,l⟩|⟨kvs,k,b,e,ey,eb,l⟩
 ·subst ey
  obtain⟨z,hd,vs,rel,dd⟩:=lP I.hok e
  refine wpAny_in_of (lT ry) hd dd.mapOf ?_
  rw[←(rel.val k).gw,←l]
  exact h _ (I.tok _)
 ·subst ey
  cases (show u=Value.ref b from ry)
  obtain⟨z,hd,xs,rel,dd⟩:=lL I.hok e
  refine wpAny_in_heap (tupleKind_room_in1 hu) (jm I.hok eb) hd dd ?_
  have q:=(rel.val k).gw
  rw[isSome_map]at q
  rw[←q,←l]
  exact h _ (I.tok _)
theorem AM{Q:Value→Shared→Prop}(hu:A.units+1 < cLine)(I:Inv X pins σ H s)(g:ei H a y o)(ry:RelV y u)(h:∀s',Inv X pins σ H s'→Q (.bool (!o.isSome)) s'):
  wpAny (model X.prog X.w) A (compareOp .NotIn u (.ref a)) Q E s:=by
 rcases g with ⟨kvs,k,e,ey,l⟩|⟨kvs,k,b,e,ey,eb,l⟩
 ·subst ey
  obtain⟨z,hd,vs,rel,dd⟩:=lP I.hok e
  refine wpAny_notIn_of (lT ry) hd dd.mapOf ?_
  rw[←(rel.val k).gw,←l]
  exact h _ (I.tok _)
 ·subst ey
  cases (show u=Value.ref b from ry)
  obtain⟨z,hd,xs,rel,dd⟩:=lL I.hok e
  refine wpAny_notIn_heap (tupleKind_room_in1 hu) (jm I.hok eb) hd dd ?_
  have q:=(rel.val k).gw
  rw[isSome_map]at q
  rw[←q,←l]
  exact h _ (I.tok _)
theorem vo{h':Heap}{t':Nat}{ob:HO}(I:Inv X pins σ H s)(mu:E2 (H a))(hs:Heap.SameBut a s.heap h')(he:∃q,h'.get? a=some q)(new:cV X.prog X.w (upd H a ob) h' a ob):
  Inv X pins σ (upd H a ob) { s with heap:=h',toks:=t' }:=
 I.write (x:=a) (e:=a) mu (.inl rfl) (fun b q hb z=>(hs.2 b hb).trans z) he new
theorem zN{P:Program}{w:World}{H':Hp}{h':Heap}{kvs:List (Key×V)}{vs:List (Key×Value)}(z:kvs.length≤sizeLine)(hd:(a == sysModules)=false)(rel:KV kvs vs)(dd:h'.DictOf (cG P w) a vs):
  cV P w H' h' a (.dK kvs):=⟨z,hd,vs,rel,dd⟩
theorem x3{H':Hp}{Q:Unit→Shared→Prop}(hu:A.units+1 < cLine)(I:Inv X pins σ H s)(g:kF H a y v H')(ry:RelV y u)(rv:RelV v r)(h:∀s',Inv X pins σ H' s'→Q () s'):
  wpAny (model X.prog X.w) A (setItem (.ref a) u r) Q E s:=by
 rcases g with ⟨kvs,k,e,ey,l,eH⟩|⟨kvs,k,b,e,ey,eb,l,eH⟩
 ·subst ey eH
  obtain⟨z,hd,vs,rel,dd⟩:=CF I.hok e
  have hz:vs.length≤sizeLine:=by rw[←rel.length];exact z
  have hl:(putK kvs k v).length≤sizeLine:=by have:=d8 kvs k v;omega
  refine wpAny_setItem_pairs (hsz:=hz) (lT ry) dd fun h' dd' hs=>h _ ?_
  have he:∃q,h'.get? a=some q:=let ⟨q,_,_,hq,_⟩:=dd';⟨q,hq⟩
  exact vo I (by rw[e];exact True.intro) hs he (zN hl hd (rel.put k rv) dd')
 ·subst ey eH
  cases (show u=Value.ref b from ry)
  obtain⟨z,hd,xs,rel,dd⟩:=F6 I.hok e
  have hz:xs.length≤sizeLine:=by rw[←Paired.length rel];exact z
  have hl:(putK kvs k v).length≤sizeLine:=by have:=d8 kvs k v;omega
  refine wpAny_setItem_heap (hsz:=hz) (tupleKind_room_in1 hu) (jm I.hok eb) dd fun h' dd' hs=>h _ ?_
  obtain⟨q,es,ep,hq,h2,h3,h4,_,h5⟩:=dd'
  refine vo I (by rw[e];exact True.intro) hs ⟨q,hq⟩ ⟨hl,hd,_,(rel.put k eb rv).keeps fun c ys ec=>?_,q,es,ep,hq,h2,h3,h4,h5⟩
  rw[cC (n5 ec e (fun z=>nomatch z))]
  exact ec
end
section
variable {X:Cx}{pins:List (Addr×Obj)}{σ:St}{H:Hp}{s:Shared}{a:Addr}{kvs:List (Key×V)}{k:Key}{u:Value}{A:Around}{E:Value→Shared→Prop}
end
def Fc(i:Expr):Prop:=∀ov iv,subscripted i false ov iv=operate [ov,iv] (getItem ov iv)
theorem BF{prog:Program}{w:World}{A:Around}{E:Value→Shared→Prop}{s:Shared}{env:Env}{value slice:Expr}{pos:Pos}{T id:String}{Q:Value→Shared→Prop}
  (hl:typeLookup (.type T) "__getitem__" =pure (some (.builtin id))) (hs:Fc slice)
  (h:wpAny (model prog w) A (eval value env) (fun o s₁=>wpAny (model prog w) A (eval slice env) (fun i s₂=>s₂.TypeIs o T∧wpAny (model prog w) A (getItem o i) Q E s₂) E s₁) E s):
  wpAny (model prog w) A (eval (.Subscript value slice pos) env) Q E s:=by
 refine Subscript_ (wpAny_mono h (fun o s₁ h₁=>wpAny_mono h₁ (fun i s₂ h₂=>?_) fun _ _ x=>x) fun _ _ x=>x)
 obtain⟨hT,h₂⟩:=h₂
 unfold subscriptTail
 refine wpAny_bind ?_
 rw[getitemInPython_of_ne hT.not_modules]
 refine wpAny_bind (wpAny_specialOf hT hl ?_)
 have fin:wpAny (model prog w) A (subscripted slice false o i) (fun r s₃=>wpAny (model prog w) A (letTemporaryGo value o r >>= fun _=>pure r) Q E s₃) E s₂:=by
  rw[hs o i]
  exact wpAny_operating (wpAny_mono h₂ (fun r s₃ h₃=>wpAny_bind (wpAny_letTemporaryGo (wpAny_pure h₃))) fun _ _ x=>x)
 first
  |exact wpAny_pure (wpAny_bind fin)
  |exact wpAny_bind (wpAny_pure (wpAny_bind fin))
  |exact wpAny_bind fin
theorem rW{X:Cx}{pins:List (Addr×Obj)}{σ:St}{H:Hp}{s:Shared}{a:Addr}{y:V}{o:Option V}(I:Inv X pins σ H s)(g:ei H a y o):s.TypeIs (.ref a) "dict" :=by
 rcases g with ⟨kvs,k,e,_,_⟩|⟨kvs,k,b,e,_,_,_⟩
 ·obtain⟨_,_,vs,_,dd⟩:=lP I.hok e
  exact dd.typeIs
 ·obtain⟨_,_,xs,_,dd⟩:=lL I.hok e
  exact dd.typeIs
def Ct(td ty:TE):TE:=fun σ H Q=>td σ H fun x H1=>ty σ H1 fun y H2=>∃a v,x=.ref a∧ei H2 a y (some v)∧Q v H2
def Bz(ty td:TE):TE:=fun σ H Q=>ty σ H fun y H1=>td σ H1 fun x H2=>∃a o,x=.ref a∧ei H2 a y o∧Q (.bl o.isSome) H2
def ma(ty td:TE):TE:=fun σ H Q=>ty σ H fun y H1=>td σ H1 fun x H2=>∃a o,x=.ref a∧ei H2 a y o∧Q (.bl (!o.isSome)) H2
def CD(td ty tv:TE):TS:=fun D σ H=>tv σ H fun v H1=>td σ H1 fun x H2=>ty σ H2 fun y H3=>∃a H4,x=.ref a∧kF H3 a y v H4∧D.nx σ H4
def Ju(td ty tv:TE)(rd:V→V→Hp→VK→Prop):TS:=fun D σ H=>td σ H fun x H1=>ty σ H1 fun y H2=>∃a v,x=.ref a∧ei H2 a y (some v)∧
 tv σ H2 fun y2 H3=>rd v y2 H3 fun z H4=>∃H5,kF H4 a y z H5∧D.nx σ H5
def Jh(td ty:TE):TS:=fun D σ H=>td σ H fun x H1=>ty σ H1 fun y H2=>∃a kvs k,x=.ref a∧H2 a=some (.dK kvs)∧y=kV k∧(cS kvs k).isSome=true∧D.nx σ (upd H2 a (.dK (yP kvs k)))
section
variable {X:Cx}{o i e value:Expr}{pos pos' tpos:Pos}{td ty tv:TE}
theorem BQ(hu:X.A.units+1 < cLine)(ho:PE X o td)(hi:PE X i ty)(hs:Fc i):PE X (.Subscript o i pos) (Ct td ty):=by
 intro pins s σ H Q I h
 refine BF PySem.F.slot_dict_getitem.lookup hs (cX (ho pins s σ H _ I h) fun u s1 ⟨x,H1,I1,rx,q1⟩=>cX (hi pins s1 σ H1 _ I1 q1) fun iv s2 hpat=>?_)
 obtain⟨y,H2,I2,ry,a,v,ex,g,q2⟩:=hpat
 subst ex
 obtain rfl:u=Value.ref a:=rx
 exact⟨rW I2 g,wF hu I2 g ry fun w' s3 I3 rw'=>⟨v,H2,I3,rw',q2⟩⟩
theorem yx(hu:X.A.units+1 < cLine)(hi:PE X i ty)(ho:PE X o td):PC X .In i o (Bz ty td):=by
 intro pins s σ H Q I h
 refine cX (hi pins s σ H _ I h) fun iv s1 ⟨y,H1,I1,ry,q1⟩=>cX (ho pins s1 σ H1 _ I1 q1) fun u s2 hpat=>?_
 obtain⟨x,H2,I2,rx,a,ov,ex,g,q2⟩:=hpat
 subst ex
 obtain rfl:u=Value.ref a:=rx
 exact ID hu I2 g ry fun s3 I3=>⟨.bl ov.isSome,H2,I3,rfl,q2⟩
theorem ph(hu:X.A.units+1 < cLine)(hi:PE X i ty)(ho:PE X o td):PC X .NotIn i o (ma ty td):=by
 intro pins s σ H Q I h
 refine cX (hi pins s σ H _ I h) fun iv s1 ⟨y,H1,I1,ry,q1⟩=>cX (ho pins s1 σ H1 _ I1 q1) fun u s2 hpat=>?_
 obtain⟨x,H2,I2,rx,a,ov,ex,g,q2⟩:=hpat
 subst ex
 obtain rfl:u=Value.ref a:=rx
 exact AM hu I2 g ry fun s3 I3=>⟨.bl (!ov.isSome),H2,I3,rfl,q2⟩
theorem AW(hu:X.A.units+1 < cLine)(ho:PE X o td)(hi:PE X i ty)(hv:PE X value tv)(hs:swapsWith value (some (.Subscript o i pos')) pos.line X.env=pure false):
  PS X (.Assign [.Subscript o i pos'] value pos) (CD td ty tv):=by
 intro pins s σ H D I h
 refine wpAny_Assign_Subscript (cX (hv pins s σ H _ I h) fun r s1 ⟨v,H1,I1,rv,q1⟩=>cX (ho pins s1 σ H1 _ I1 q1) fun u s2 ⟨x,H2,I2,rx,q2⟩=>cX (hi pins s2 σ H2 _ I2 q2) fun iv s3 hpat=>?_) hs
 obtain⟨y,H3,I3,ry,a,H4,ex,g,q3⟩:=hpat
 subst ex
 obtain rfl:u=Value.ref a:=rx
 exact x3 hu I3 g ry rv fun s4 I4=>⟨σ,H4,I4,q3⟩
end
def IQ:TE:=fun _ H Q=>∀p,H p=none→Q (.ref p) (upd H p (.dK []))
def HQ:TE:=fun _ H Q=>∀p,H p=none→Q (.ref p) (upd H p (.dT []))
section
variable {X:Cx}{pos:Pos}
end
def um:List (TE×TE)→St→Hp→(List (V×V)→Hp→Prop)→Prop
 |[],_,H,Q=>Q [] H
 | (tk,tv)::r,σ,H,Q=>tk σ H fun x H1=>tv σ H1 fun y H2=>um r σ H2 fun ps H3=>Q ((x,y)::ps) H3
abbrev VV:List (V×V)→List (Value×Value)→Prop:=Paired fun p q=>RelV p.1 q.1∧RelV p.2 q.2
def K8(X:Cx)(pos:Pos)(keys:List (Option Expr))(values:List Expr)(trs:List (TE×TE)):Prop:=
 ∀(pins:List (Addr×Obj)) (s:Shared) (σ:St) (H:Hp) (Q:List (V×V)→Hp→Prop),Inv X pins σ H s→um trs σ H Q→
  wpAny (model X.prog X.w) X.A (evalPairs (pairTrees keys values X.env pos)) (fun vs s'=>∃ps H',Inv X pins σ H' s'∧VV ps vs∧Q ps H') X.xe s
def eB(kvs more:List (Key×V)):List (Key×V):=more.foldl (fun acc kv=>putK acc kv.1 kv.2) kvs
theorem KV.merge:∀{more:List (Key×V)}{rs:List (Key×Value)}{kvs:List (Key×V)}{vs:List (Key×Value)},KV more rs→KV kvs vs→KV (eB kvs more) (merged vs rs):=by
 intro more rs kvs vs r
 unfold KV at r
 induction r generalizing kvs vs with
 |nil=>intro q;exact q
 | @cons p q ps qs h t ih=>
  intro r0
  have e:KV (putK kvs p.1 p.2) (stored vs q.1 q.2):=by
   have:=r0.put p.1 h.2
   rw[←h.1];exact this
  exact ih e
theorem je:∀(more kvs:List (Key×V)),(eB kvs more).length≤kvs.length+more.length
 |[],kvs=>by show kvs.length≤kvs.length+0;omega
 |p::r,kvs=>by
  have h1:=je r (putK kvs p.1 p.2)
  have h2:=d8 kvs p.1 p.2
  show(eB (putK kvs p.1 p.2) r).length≤_
  rw[length_cons];omega
def Jg(trs:List (TE×TE)):TE:=fun σ H Q=>∀p,H p=none→um trs σ (upd H p (.dK [])) fun ps H2=>H2 p=some (.dK [])∧∃kvs:List (Key×V),ps=kvs.map (fun kv=>(kV kv.1,kv.2))∧kvs.length≤15∧Q (.ref p) (upd H2 p (.dK (eB [] kvs)))
structure M1(X:Cx)(o:Expr)(m:Str)(apos:Pos)(e:Expr)(cpos:Pos):Prop where
 base:attributeBase o m X.env (eval o X.env)=eval o X.env
 DC:((backTo cpos (starEach [e] X.env)).all (fun x=> !x.1) && (backToKw cpos (keywordEach [] X.env)).all (fun x=>x.1.isSome)
  && decide (([e]:List Expr).length+([]:List Keyword).length+(if([]:List Keyword).isEmpty then 0 else 1) < 30))=true
 line:(apos.endLine == cpos.line)=true
 trees:backTo cpos (starEach [e] X.env)=[(false,eval e X.env)]
structure M2(X:Cx)(o:Expr)(m:Str)(apos:Pos)(e f:Expr)(cpos:Pos):Prop where
 base:attributeBase o m X.env (eval o X.env)=eval o X.env
 DC:((backTo cpos (starEach [e,f] X.env)).all (fun x=> !x.1) && (backToKw cpos (keywordEach [] X.env)).all (fun x=>x.1.isSome)
  && decide (([e,f]:List Expr).length+([]:List Keyword).length+(if([]:List Keyword).isEmpty then 0 else 1) < 30))=true
 line:(apos.endLine == cpos.line)=true
 trees:backTo cpos (starEach [e,f] X.env)=[(false,eval e X.env),(false,eval f X.env)]
def FY(H:Hp)(a:Addr):Prop:=(∃kvs,Rd H a (.dK kvs))∨∃kvs,Rd H a (.dT kvs)
theorem yD{X:Cx}{pins:List (Addr×Obj)}{σ:St}{H:Hp}{s:Shared}{a:Addr}(I:Inv X pins σ H s)(d:FY H a):
  s.TypeIs (.ref a) "dict" ∧(∀b,Value.ref a=.ref b→∃ob,s.heap.get? b=some ob∧ob.dict=none)∧(a == sysModules)=false:=by
 rcases d with ⟨kvs,e⟩|⟨kvs,e⟩
 ·obtain⟨_,hd,vs,_,dd⟩:=lP I.hok e
  refine⟨dd.typeIs,fun b q=>?_,hd⟩
  cases q
  obtain⟨ob,_,_,h1,h2,_⟩:=dd
  exact⟨ob,h1,h2.2.1⟩
 ·obtain⟨_,hd,xs,_,dd⟩:=lL I.hok e
  refine⟨dd.typeIs,fun b q=>?_,hd⟩
  cases q
  obtain⟨ob,_,_,h1,h2,_⟩:=dd
  exact⟨ob,h1,h2.2.1⟩
section
variable {X:Cx}{pins:List (Addr×Obj)}{σ:St}{H:Hp}{s:Shared}{a:Addr}{y d:V}{u r:Value}{o:Option V}{A:Around}{E:Value→Shared→Prop}
theorem Ew{Q:Value→Shared→Prop}(hu:A.units+1 < cLine)(I:Inv X pins σ H s)(g:ei H a y o)(ry:RelV y u)(h:∀w' s',Inv X pins σ H s'→RelV (o.getD .non) w'→Q w' s'):
  wpAny (model X.prog X.w) A (call (.builtin "dict.get") [.ref a,u]) Q E s:=by
 rcases g with ⟨kvs,k,e,ey,l⟩|⟨kvs,k,b,e,ey,eb,l⟩
 ·subst ey
  obtain⟨z,hd,vs,rel,dd⟩:=lP I.hok e
  refine call_meetsIn slot_dict_get dd.typeIs entry_dict_get (PySem.F.args_dict_get_2 _ _) (meets_dict_get (cG X.prog X.w) a (lT ry) hd) ⟨_,dd.mapOf,h _ _ (I.tok _) ?_⟩
  rw[l]
  exact(rel.val k).getD rfl
 ·subst ey
  cases (show u=Value.ref b from ry)
  obtain⟨z,hd,xs,rel,dd⟩:=lL I.hok e
  refine call_meetsIn slot_dict_get dd.typeIs entry_dict_get (PySem.F.args_dict_get_2 _ _) (meetsH_dict_get (tupleKind (cG X.prog X.w)) a b hd) ⟨tupleKind_room_in1 hu,k,xs,jm I.hok eb,dd,h _ _ (I.tok _) ?_⟩
  rw[l]
  exact(rel.val k).getD rfl
theorem Dy{Q:Value→Shared→Prop}(hu:A.units+1 < cLine)(I:Inv X pins σ H s)(g:ei H a y o)(ry:RelV y u)(rd:RelV d r)(h:∀w' s',Inv X pins σ H s'→RelV (o.getD d) w'→Q w' s'):
  wpAny (model X.prog X.w) A (call (.builtin "dict.get") [.ref a,u,r]) Q E s:=by
 rcases g with ⟨kvs,k,e,ey,l⟩|⟨kvs,k,b,e,ey,eb,l⟩
 ·subst ey
  obtain⟨z,hd,vs,rel,dd⟩:=lP I.hok e
  refine call_meetsIn slot_dict_get dd.typeIs entry_dict_get (PySem.F.args_dict_get_3 _ _ _) (meets_dict_get_default (cG X.prog X.w) a (lT ry) hd r) ⟨_,dd.mapOf,h _ _ (I.tok _) ?_⟩
  rw[l]
  exact(rel.val k).getD rd
 ·subst ey
  cases (show u=Value.ref b from ry)
  obtain⟨z,hd,xs,rel,dd⟩:=lL I.hok e
  refine call_meetsIn slot_dict_get dd.typeIs entry_dict_get (PySem.F.args_dict_get_3 _ _ _) (meetsH_dict_get_default (tupleKind (cG X.prog X.w)) a b hd r) ⟨tupleKind_room_in1 hu,k,xs,jm I.hok eb,dd,h _ _ (I.tok _) ?_⟩
  rw[l]
  exact(rel.val k).getD rd
end
def ud(td ty:TE):TE:=fun σ H Q=>td σ H fun x H1=>∃a,x=.ref a∧FY H1 a∧ty σ H1 fun y H2=>∃o,ei H2 a y o∧Q (o.getD .non) H2
def zS(td ty tx:TE):TE:=fun σ H Q=>td σ H fun x H1=>∃a,x=.ref a∧FY H1 a∧ty σ H1 fun y H2=>tx σ H2 fun z H3=>∃o,ei H3 a y o∧Q (o.getD z) H3
def Ir(td ty:TE):TE:=fun σ H Q=>td σ H fun x H1=>∃a,x=.ref a∧FY H1 a∧ty σ H1 fun y H2=>∃kvs k v,H2 a=some (.dK kvs)∧y=kV k∧cS kvs k=some v∧Q v (upd H2 a (.dK (yP kvs k)))
def HK(td ty tx:TE):TE:=fun σ H Q=>td σ H fun x H1=>∃a,x=.ref a∧FY H1 a∧ty σ H1 fun y H2=>tx σ H2 fun z H3=>∃kvs k,H3 a=some (.dK kvs)∧y=kV k∧
 (∀v,cS kvs k=some v→Q v (upd H3 a (.dK (yP kvs k))))∧(cS kvs k=none→Q z H3)
section
variable {X:Cx}{o e f:Expr}{apos cpos:Pos}{td ty tx:TE}
theorem rZ (hu:X.A.units+1 < cLine) (ho:PE X o td) (he:PE X e ty) (m:M1 X o "get" apos e cpos):PE X (.Call (.Attribute o "get" apos) [e] [] cpos) (ud td ty):=by
 intro pins s σ H Q I h
 refine wpAny_Call_method m.base m.DC m.line PySem.F.plainAttrs_dict slot_dict_get PySem.F.type_dict_get (cX (ho pins s σ H _ I h) fun u s1 hpat=>?_)
 obtain⟨x,H1,I1,rx,a,ex,d,q1⟩:=hpat
 subst ex
 obtain rfl:u=Value.ref a:=rx
 obtain⟨t1,t2,_⟩:=yD I1 d
 refine⟨t1,t2,?_⟩
 rw[m.trees]
 refine Calls.callWith_builtin rfl (Calls.evalArgs_plain (Calls.spliced_cons (cX (he pins s1 σ H1 _ I1 q1) fun iv s2 ⟨y,H2,I2,ry,ov,g,q2⟩=>Calls.spliced_nil ?_)))
 exact Ew hu I2 g ry fun w' s3 I3 rw'=>⟨_,H2,I3,rw',q2⟩
theorem Ab (hu:X.A.units+1 < cLine) (ho:PE X o td) (he:PE X e ty) (hf:PE X f tx) (m:M2 X o "get" apos e f cpos):PE X (.Call (.Attribute o "get" apos) [e,f] [] cpos) (zS td ty tx):=by
 intro pins s σ H Q I h
 refine wpAny_Call_method m.base m.DC m.line PySem.F.plainAttrs_dict slot_dict_get PySem.F.type_dict_get (cX (ho pins s σ H _ I h) fun u s1 hpat=>?_)
 obtain⟨x,H1,I1,rx,a,ex,d,q1⟩:=hpat
 subst ex
 obtain rfl:u=Value.ref a:=rx
 obtain⟨t1,t2,_⟩:=yD I1 d
 refine⟨t1,t2,?_⟩
 rw[m.trees]
 refine Calls.callWith_builtin rfl (Calls.evalArgs_plain (Calls.spliced_cons (cX (he pins s1 σ H1 _ I1 q1) fun iv s2 ⟨y,H2,I2,ry,q2⟩=>
  Calls.spliced_cons (cX (hf pins s2 σ H2 _ I2 q2) fun fv s3 ⟨z,H3,I3,rz,ov,g,q3⟩=>Calls.spliced_nil ?_))))
 exact Dy hu I3 g ry rz fun w' s4 I4 rw'=>⟨_,H3,I4,rw',q3⟩
end
section
variable {X:Cx}{pins:List (Addr×Obj)}{σ:St}{H:Hp}{s:Shared}{a:Addr}{kvs:List (Key×V)}{A:Around}{E:Value→Shared→Prop}
end
section
variable {X:Cx}{pins:List (Addr×Obj)}{σ:St}{H:Hp}{s:Shared}{a:Addr}{y:V}{u:Value}{A:Around}{E:Value→Shared→Prop}
end
end L2
namespace L2
open PySem PySem.Spec PyProof.Rows
theorem ug:bootBuiltins "any" =some (.builtin "any"):=by decide+kernel
section
variable {X:Cx}{y m:Str}{N':List Str}{scope:Scope}{cl:List (Str×Addr)}{fp:List Addr}{s3:Shared}{H3:Hp}{C D:Addr}{sp:Sp}
theorem wG.lg(B:wG X y sp)(h:scope.names.lookup y=some .globalImplicit):C5 (dA X N' scope cl fp s3 H3 C) y sp:=⟨B.ex,hV (by decide) h,B.db⟩
end
def yy(zs xs:List V):Bool:=(List.range (min zs.length xs.length)).all (fun i=>qV (zs.getD i .non) (xs.getD i .non)) && zs.length == xs.length
def EY(H:Hp)(xs:List V)(v:V):Bool:=match v with
 |.ref c=>match H c with
  |some (.tup zs)=>yy zs xs
  |_=>false
 |_=>false
theorem yn{x:V}(f:dj x=true):qV x x=true:=by
 cases x with
 |non=>rfl
 |bl b=>exact beq_self_eq_true b
 |int i=>exact beq_self_eq_true i
 |str z=>exact beq_self_eq_true z
 |_=>exact absurd (show false=true from f) Bool.false_ne_true
theorem x5{xs:List V}(f:xs.all dj=true)(i:Nat):dj (xs.getD i .non)=true:=by
 rw[getD_eq_getElem?_getD]
 cases h:xs[i]? with
 |none=>rfl
 |some v=>exact all_eq_true.mp f v (mem_of_getElem? h)
theorem zj{xs:List V}(f:xs.all dj=true):yy xs xs=true:=by
 unfold yy
 rw[beq_self_eq_true,Bool.and_true,all_eq_true]
 exact fun i _=>yn (x5 f i)
inductive GH(K:PySem.W.Frag)(x y:V)(H:Hp)(Q:VK):Prop
 |mk(a b:Addr)(xs ys:List V)(hx:x=.ref a)(hy:y=.ref b)(s:H a=some (.tup xs))(t:cF K H b ys)(f:xs.all dj=true)(g:∀v∈ys,∃c zs,v=.ref c∧H c=some (.tup zs)∧zs.all dj=true)(q:Q (.bl (ys.any (EY H xs))) H)
def Fo(H:Hp)(xs:List V)(u:Value):Bool:=match u with
 |.ref c=>EY H xs (.ref c)
 |_=>false
theorem vN{H:Hp}{xs:List V}:∀{ys:List V}{us:List Value},Vals ys us→(∀v∈ys,∃c zs,v=.ref c∧H c=some (.tup zs)∧zs.all dj=true)→us.any (Fo H xs)=ys.any (EY H xs)
 |_,_,.nil,_=>rfl
 |y::_,u::_,.cons r t,g=>by
  obtain⟨c,zs,rfl,_⟩:=g y (mem_cons_self ..)
  cases r
  rw[any_cons,any_cons,vN t fun v hv=>g v (mem_cons_of_mem _ hv)]
  rfl
theorem rf:∀{ys:List V}{us:List Value}{u:Value},Vals ys us→u∈us→∃y∈ys,RelV y u
 |_,_,_,.nil,h=>by cases h
 |y::_,_::_,u,.cons r t,h=>by
  rcases mem_cons.mp h with rfl|h
  ·exact⟨y,mem_cons_self ..,r⟩
  ·obtain⟨z,hz,q⟩:=rf t h
   exact⟨z,mem_cons_of_mem _ hz,q⟩
theorem xg{X:Cx}{pins:List (Addr×Obj)}{σ:St}{H:Hp}{s:Shared}{A:Around}{c a:Addr}{zs xs:List V}(I:Inv X pins σ H s)(hu:A.units < cLine)(hc:H c=some (.tup zs))(ha:H a=some (.tup xs))(fz:zs.all dj=true)(fx:xs.all dj=true):SeqAt.EqAt A s (.ref c) (.ref a) (yy zs xs):=by
 by_cases e:c=a
 ·subst e
  rw[hc]at ha
  cases ha
  rw[zj fx]
  exact SeqAt.EqAt.same _
 ·obtain⟨its,r,pl,_⟩:=I.tuple (dq.of (K:=X.K) hc)
  obtain⟨its2,r2,pl2,_⟩:=I.tuple (dq.of (K:=X.K) ha)
  have m1:=r.length
  have m2:=r2.length
  have:=SeqAt.RcAt.tuples (A:=A) (e:=fun i=>qV (zs.getD i .non) (xs.getD i .non)) pl pl2 hu (fun j h1 h2=>by
   simp only[size_toArray]at h1 h2
   obtain⟨x1,e1,r1⟩:=gC r h1
   obtain⟨x2,e2,r2'⟩:=gC r2 h2
   simp only[List.getElem_toArray]
   rw[getD_eq_getElem?_getD,getD_eq_getElem?_getD,e1,e2]
   exact pR r1 r2' (all_eq_true.mp fz _ (mem_of_getElem? e1)) (all_eq_true.mp fx _ (mem_of_getElem? e2)))
  refine SeqAt.EqAt.of_refs e ?_
  simp only[size_toArray]at this
  rw[←m1,←m2]at this
  exact this
theorem jh{X:Cx}(hu:X.A.units+1 < cLine):iq X (compareOp .In) (fun x y H Q=>GH X.K x y H Q):=by
 intro pins s σ H x y v u Q I rx ry h
 obtain⟨a,b,xs,ys,rfl,rfl,ha,hb,fx,g,q⟩:=h
 cases rx
 cases ry
 obtain⟨its,r,pl,_⟩:=I.list hb
 refine SeqAt.in_listAt (Fo H xs) pl.isList (fun w hw=>?_) ⟨.bl _,H,I,rfl,?_⟩
 ·obtain⟨z,hz,rz⟩:=rf r (by simpa using hw)
  obtain⟨c,zs,rfl,hc,fz⟩:=g z hz
  cases rz
  have e:Fo H xs (.ref c)=yy zs xs:=by
   show(match H c with|some (.tup zs)=>yy zs xs|_=>false)=_
   rw[hc]
  rw[e]
  exact xg I hu hc ha fz fx
 ·rw[show its.toArray.any (Fo H xs)=its.any (Fo H xs) by simp,vN r g]
  exact q
end L2
namespace J
open PySem PySem.Spec PyProof.Rows
open L2 (Cx V Hp St VK TE TT TA TS TG o8 TI TO cF dq)
section
variable {X:Cx}{N':List Str}{scope:Scope}{cl:List (Str×Addr)}{fp:List Addr}{s3:Shared}{H3:Hp}{C:Addr}{o i e value:Expr}{es:List Expr}{pos pos':Pos}{td ty tv:TE}
theorem _root_.b7:JX (L2.dA X N' scope cl fp s3 H3 C) (L2.BI X.K):=⟨L2.wg⟩
theorem _root_.bo:JX (L2.dA X N' scope cl fp s3 H3 C) (L2.Bl X.K):=⟨L2.yU⟩
theorem oX:JC (L2.dA X N' scope cl fp s3 H3 C) .NotIn (L2.Hs X.K true):=⟨L2.kq⟩
theorem mQ{k n:Nat}{u:o8}(hc:X.calm=true)(h:Gp (L2.dA X N' scope cl fp s3 H3 C) es u)(hn:(assignEach es (L2.dA X N' scope cl fp s3 H3 C).env).length=n:=by rfl)(hst:(assignEach es (L2.dA X N' scope cl fp s3 H3 C).env).findIdx? (·.1)=none:=by rfl):
  JG (L2.dA X N' scope cl fp s3 H3 C) (.Tuple es k pos) (L2.Ep X.K n u):=⟨L2.Aq (X:=L2.dA X N' scope cl fp s3 H3 C) hc h.out hn hst⟩
theorem jh(hu:X.A.units+1 < cLine):JC X .In (fun x y H Q=>L2.GH X.K x y H Q):=⟨L2.jh hu⟩
theorem _root_.bq(hu:X.A.units+1 < cLine)(ho:JE X o td)(hi:JE X i ty)(hs:dU i):JE X (.Subscript o i pos) (L2.Ct td ty):=⟨L2.BQ hu ho.out hi.out (fun ov iv=>hs.out ov iv)⟩
theorem qN(hu:X.A.units+1 < cLine)(hi:JE X i ty)(ho:JE X o td)(hm:behindInMarks .In o=false:=by rfl):JT X (.Compare i [.In] [o] pos) (L2.tB (L2.Bz ty td)):=⟨L2.zL (L2.yx hu hi.out ho.out) hm⟩
theorem kB(hu:X.A.units+1 < cLine)(hi:JE X i ty)(ho:JE X o td)(hm:behindInMarks .NotIn o=false:=by rfl):JT X (.Compare i [.NotIn] [o] pos) (L2.tB (L2.ma ty td)):=⟨L2.zL (L2.ph hu hi.out ho.out) hm⟩
theorem _root_.bV(hu:X.A.units+1 < cLine)(ho:JE X o td)(hi:JE X i ty)(hv:JE X value tv)(h:L2.jD value=false:=by rfl):JS X (.Assign [.Subscript o i pos'] value pos) (L2.CD td ty tv):=⟨L2.AW hu ho.out hi.out hv.out (L2.jN h)⟩
end
end J
namespace L2
open PySem PySem.Spec PyProof.Rows
section
variable {X:Cx}
inductive CJ(x y:V)(H:Hp)(Q:VK):Prop
 |mk(a b:Addr)(xs ys:List V)(hx:x=.ref a)(hy:y=.ref b)(s:H a=some (.tup xs))(t:H b=some (.tup ys))(f:xs.all dj=true)(g:ys.all dj=true)(q:Q (.bl (yy xs ys)) H)
theorem qS(hu:X.A.units+1 < cLine):iq X (compareOp .Eq) (fun x y H Q=>CJ x y H Q):=by
 intro pins s σ H x y v u Q I rx ry h
 obtain⟨a,b,xs,ys,rfl,rfl,ha,hb,fx,fy,q⟩:=h
 cases rx
 cases ry
 obtain⟨its,r,pl,_⟩:=I.tuple (dq.of (K:=X.K) ha)
 obtain⟨its2,r2,pl2,_⟩:=I.tuple (dq.of (K:=X.K) hb)
 have m1:=r.length
 have m2:=r2.length
 refine SeqAt.eq_tupleAt (e:=fun i=>qV (xs.getD i .non) (ys.getD i .non)) pl pl2 (by omega) (fun j h1 h2=>?_) ?_
 ·simp only[size_toArray]at h1 h2
  obtain⟨x1,e1,r1⟩:=gC r h1
  obtain⟨x2,e2,r2'⟩:=gC r2 h2
  simp only[List.getElem_toArray]
  rw[getD_eq_getElem?_getD,getD_eq_getElem?_getD,e1,e2]
  exact pR r1 r2' (all_eq_true.mp fx _ (mem_of_getElem? e1)) (all_eq_true.mp fy _ (mem_of_getElem? e2))
 ·simp only[size_toArray]
  rw[←m1,←m2]
  exact⟨.bl _,H,I,rfl,q⟩
inductive C0(x y:V)(H:Hp)(Q:VK):Prop
 |mk(z:Str)(n:Int)(hx:x=.str z)(hy:y=.int n)(n01:n=0∨n=1)(q:Q (.str (Txt.mul z n)) H)
theorem qR:iq X (binaryOp .Mult) (fun x y H Q=>C0 x y H Q):=by
 intro pins s σ H x y v u Q I rx ry h
 obtain⟨z,n,rfl,rfl,n01,q⟩:=h
 obtain⟨t,rfl⟩:=rx
 obtain⟨t',rfl⟩:=ry
 refine SB.mul ?_ fun tk k=>⟨.str _,H,I.tok k,⟨_,rfl⟩,q⟩
 rcases n01 with rfl|rfl
 ·exact⟨by decide,fun h=>absurd (by decide) h,fun h=>absurd (by decide) h⟩
 ·exact⟨by decide,fun _ h=>absurd h (by simp),fun _ h=>absurd h (by simp)⟩
end
end L2
namespace J
open PySem PySem.Spec PyProof.Rows
open L2 (Cx V Hp St VK TE TT TA TS TG o8 TI TO)
section
variable {X:Cx}{o e f c:Expr}{body:List Stmt}{apos cpos pos:Pos}{td ty tx:TE}{tc:TT}{tb:TS}
theorem qS(hu:X.A.units+1 < cLine):JC X .Eq (fun x y H Q=>L2.CJ x y H Q):=⟨L2.qS hu⟩
theorem qR:JB X .Mult (fun x y H Q=>L2.C0 x y H Q):=⟨L2.qR⟩
theorem Hd{env:Env}(h1:L2.notStar e=true)(h2:L2.notStar f=true):backTo cpos (starEach [e,f] env)=[(false,eval e env),(false,eval f env)]:=by
 rw[L2.cL h1,L2.cL h2]
 rfl
theorem IS(hu:X.A.units+1 < cLine)(ho:JE X o td)(he:JE X e ty)(h:nh o=true:=by rfl)(h1:L2.notStar e=true:=by rfl)(hline:(apos.endLine == cpos.line)=true:=by rfl):JE X (.Call (.Attribute o "get" apos) [e] [] cpos) (L2.ud td ty):=
 ⟨L2.rZ hu ho.out he.out ⟨fP h,DC h1,hline,by rw[L2.cL h1];rfl⟩⟩
theorem IB(hp:PassesOwn (model X.prog X.w) X.A X.env X.xe)(hc:JT X c tc)(hb:uo X body tb):JS X (.While c body [] pos) (L2.As tc tb):=⟨L2.yV hp hc.out hb.out⟩
end
end J
namespace L2
open PySem PySem.Spec PyProof.Rows
section
variable {X:Cx}
theorem ku:∀{us:List Value}{zs:List Str},StrsAre us zs→Vals (zs.map V.str) us
 |_,_,.nil=>.nil
 |_,_,.cons _ _ r=>.cons ⟨_,rfl⟩ (ku r)
inductive Hg(K:PySem.W.Frag)(xs:List V)(H:Hp)(Q:VK):Prop
 |mk(p:Addr)(zs:List Str)(e:xs=[.ref p])(s:cF K H p (zs.map V.str))(l:zs.length < 64)(q:∀l zs',H l=none→zs'.Perm zs→sortedS zs'=true→Q (.ref l) (upd H l (.lst (zs'.map V.str))))
theorem fh:ef X (.builtin "sorted") (fun xs H Q=>Hg X.K xs H Q):=by
 intro pins s σ H xs us Q I r h
 obtain⟨p,zs,rfl,hq,l64,q⟩:=h
 obtain⟨u,rfl,rx⟩:=vals1 r
 cases rx
 obtain⟨its,rv,pl,hz⟩:=I.list hq
 have hl:=rv.length
 rw[length_map]at hl hz
 refine sorted_strs pl.isList (oy rv) (by omega) fun out ss' a1 a2 a3=>?_
 obtain⟨e,he⟩:=sortedAll_at s.heap its out
 refine⟨.ref _,_,I.laid (t':=s.toks) (fun b o hb=>sortedAll_old hb) (le_succ _) (show cV X.prog X.w _ _ _ (.lst (ss'.map V.str)) from ⟨by rw[length_map,a2.length_eq];exact hz,out.toList,e,ku a1,he⟩),rfl,q _ _ (I.hok.fresh (le_succ _)) a2 a3⟩
theorem xD{a b:List Nat}(h1:ltCps a b=false)(h2:ltCps b a=false):a=b:=by
 rw[ltCps_eq,decide_eq_false_iff_not]at h1 h2
 exact List.le_antisymm (not_lt.mp h2) (not_lt.mp h1)
theorem le_trans'{a b c:List Nat}(h1:ltCps b a=false)(h2:ltCps c b=false):ltCps c a=false:=by
 rw[ltCps_eq,decide_eq_false_iff_not]at *
 exact not_lt.mpr (List.le_trans (not_lt.mp h1) (not_lt.mp h2))
theorem jt:∀{l:List Str}{p:Str},risingS p l=true→∀y∈l,ltCps y.cps.toList p.cps.toList=false
 |x::r,p,h,y,hy=>by
  have h':(!ltCps x.cps.toList p.cps.toList && risingS x r)=true:=h
  rw[and_eq_true,not_eq_true']at h'
  rcases mem_cons.mp hy with rfl|hy
  ·exact h'.1
  ·exact le_trans' h'.1 (jt h'.2 y hy)
theorem lQ{x:Str}{r:List Str}(h:sortedS (x::r)=true):sortedS r=true:=by
 cases r with
 |nil=>rfl
 |cons y t=>
  have h':(!ltCps y.cps.toList x.cps.toList && risingS y t)=true:=h
  rw[and_eq_true]at h'
  exact h'.2
theorem Ca{a b:Str}(h:a.cps.toList=b.cps.toList):a=b:=by
 obtain⟨x⟩:=a
 obtain⟨y⟩:=b
 have h':x.toList=y.toList:=h
 rw[Array.toList_inj.mp h']
theorem oE:∀{l m:List Str},l.Perm m→sortedS l=true→sortedS m=true→l=m
 |[],m,p,_,_=>(List.nil_perm.mp p).symm ▸ rfl
 |x::r,m,p,h1,h2=>by
  cases m with
  |nil=>exact absurd (List.perm_nil.mp p) (by simp)
  |cons y t=>
   have e:x=y:=by
    have mx:x∈y::t:=p.mem_iff.mp mem_cons_self
    have my:y∈x::r:=p.mem_iff.mpr mem_cons_self
    rcases mem_cons.mp mx with e|mx
    ·exact e
    ·rcases mem_cons.mp my with e|my
     ·exact e.symm
     ·exact Ca (xD (jt h2 x mx) (jt h1 y my))
   subst e
   rw[oE (List.perm_cons x |>.mp p) (lQ h1) (lQ h2)]
inductive J7(K:PySem.W.Frag)(x y:V)(H:Hp)(Q:VK):Prop
 |same (a b:Addr)(xs ys:List V)(bs:List Bool)(hx:x=.ref a)(hy:y=.ref b)(s:cF K H a xs)(t:cF K H b ys)(l1:xs.length=bs.length)(l2:ys.length=bs.length)(e:∀(i:Nat) u v c,xs[i]? =some u→ys[i]? =some v→bs[i]? =some c→jT u v=some c)(q:Q (.bl (!(Ho bs))) H)
 |other (a b:Addr)(xs ys:List V)(hx:x=.ref a)(hy:y=.ref b)(s:cF K H a xs)(t:cF K H b ys)(n:xs.length≠ys.length)(q:Q (.bl true) H)
theorem yt:typeLookup (.type "list") "keys" =pure none:=by rw[typeLookup_type,builtinLookup_eq_fast];kernel_rfl
theorem d4:plainId "dict.update.loop" =true:=by decide+kernel
theorem ic:entryFor table "dict.update.loop" =some Builtin.«dict.update.loop» :=entryFor_of_tree (by kernel_rfl)
end
section
variable {prog:Program}{w:World}{A:Around}{E:Value→Shared→Prop}{s:Shared}
theorem oR {a:Addr}{o:Obj}{xs:Array Value}{k:Nat}{Q:Option Value→Shared→Prop}(hx:s.heap.get? a=some o) (hc:o.cls=.type "list") (hdat:o.data=.seq xs k) (hd:o.dict=none) (hA:A.handled=none)
  (h:∀h' tk,(∀b u,s.heap.get? b=some u→h'.get? b=some u)→Q none { s with heap:=h',toks:=tk }):wpAny (model prog w) A (getAttr? (.ref a) "keys") Q E s:=by
 obtain⟨c,dct,dat,sl⟩:=o
 simp only at hc hdat hd
 subst hc hdat hd
 obtain⟨hp,g,d,tk,os⟩:=s
 have hT:∀tk',(⟨hp,g,d,tk',os⟩:Shared).TypeIs (.ref a) "list" :=fun _=>⟨_,hx,rfl⟩
 have f1:=sub_AttributeError
 have f3:=PySem.F.slot_list_getattribute.lookup
 have f4:=PySem.F.slot_list_getattribute.bind (.ref a)
 have f5:=am_list_getattr_none
 unfold getAttr? getAttrBy? getAttrBy
 repeat (any_goals (first|assumption|exact hT _| ((with_reducible show wpAny _ _ (call (Value.builtin "list.__getattribute__") _ _) _ _ _);refine call_meets PySem.F.slot_list_getattribute (hT _) am_entry_list_getattribute (PySem.F.args_list_getattribute_2 _ _) (meets_getattribute_miss_list a xs k sl "keys" _ yt (by decide+kernel) (by decide+kernel)) ⟨hx,hA,fun h' tk' e hx'=>?_⟩)|wp_step))
 obtain⟨t',u',he⟩:=hx'.there
 show wpAny _ _ (getattributeRaised _ _ _ _ _ _ _) _ _ _
 unfold getattributeRaised
 repeat (any_goals (first|assumption|wp_step))
 exact h _ _ hx'.of.keeps
end
section
variable {prog:Program}{w:World}{A:Around}{R:Result→Shared→Prop}{I:Addr}{fp wr:List Addr}{G:Array GenState→Array GenState→Prop}{n:Nat}{P:Nat→Value→Prop}{St:Nat→Shared→Prop}
theorem zO(W:WalksS prog w A.in1 I fp wr G n P St)(D:Addr)(hDf:D ∉ fp)(ps:List (Key×Value))(T:Nat→Addr)(kk:Nat→Value)(hn:ps.length=n)(hb:n≤sizeLine)
  (hP:∀i v,P i v→v=.ref (T i))(hT:∀i,i < n→T i≠D∧T i ∉ wr)(hk:∀i kv,ps[i]? =some kv→gx kv.1 (kk i)=true):
  ∀(k i:Nat) (s:Shared),n - i=k→i≤n→St i s→s.heap.DictOf (cG prog w) D (merged [] (ps.take i))→(∀i kv,ps[i]? =some kv→IsTup s.heap (T i) #[kk i,kv.2])→
   (∀s',Moved (D::wr) G s s'→s'.heap.DictOf (cG prog w) D (merged [] ps)→R (.ok (.ret .none)) s')→
   codeAny (model prog w) A (.builtin "dict.update.loop" ⟨[.ref D,.ref I,rawInt i,.none],[]⟩) R s:=by
 have hDw:D ∉ wr:=fun h=>hDf (W.sub _ h)
 have hsub:∀b∈wr,b∈D::wr:=fun b hb=>mem_cons_of_mem _ hb
 have eF:∀{s s':Shared}{kvs:List (Key×Value)},Moved wr G s s'→s.heap.DictOf (cG prog w) D kvs→s'.heap.DictOf (cG prog w) D kvs:=fun hm ⟨o,es,ep,ho,r⟩=>⟨o,es,ep,hm.heap D _ hDw ho,r⟩
 intro k
 induction k with
 |zero=>
  intro i s hk' hi hst hD ht hR
  obtain rfl:i=n:=by omega
  refine codeAny_builtin ic ?_
  rw[Around.under_plainId d4 _]
  show wpAny _ A.in1 (pyNext (.ref I) >>= _) _ _ s
  refine wpAny_bind (W.done s _ _ hst fun s' hm=>?_)
  rw[←hn,take_length]at hD
  show wpAny _ A.in1 (Builtin.Dict.addKeywords D [] >>= _) _ _ s'
  exact wpAny_bind (wpAny_pure (wpAny_pure (hR s' (hm.mono hsub) (eF hm hD))))
 |succ k ih=>
  intro i s hk' hi hst hD ht hR
  have hlt:i < n:=by omega
  obtain⟨kv,hkv⟩:∃kv,ps[i]? =some kv:=⟨_,getElem?_eq_getElem (by rw[hn];exact hlt)⟩
  refine codeAny_builtin ic ?_
  rw[Around.under_plainId d4 _]
  show wpAny _ A.in1 (pyNext (.ref I) >>= _) _ _ s
  refine wpAny_bind (W.item i s _ _ hlt hst fun v s' hv hst' hm=>?_)
  cases hP i v hv
  have hD1:=eF hm hD
  have ht1:∀i kv,ps[i]? =some kv→IsTup s'.heap (T i) #[kk i,kv.2]:=fun j kv hj=>by
   obtain⟨o,ho,r⟩:=ht j kv hj
   exact⟨o,hm.heap _ _ (hT j (by rw[←hn];exact(List.getElem?_eq_some_iff.mp hj).1)).2 ho,r⟩
  obtain⟨o,ho,hc,m,hd⟩:=ht1 i kv hkv
  show wpAny _ A.in1 (holding [.ref (T i)] _ >>= _) _ _ s'
  refine wpAny_bind (wpAny_holding ?_)
  refine wpAny_bind (wpAny_tryCatch ?_)
  unfold Builtin.Dict.pairItems
  refine wpAny_bind (wpAny_typeOf (T:= "tuple") ⟨_,ho,hc⟩ ?_)
  rw[if_pos (by decide)]
  refine wpAny_bind (wpAny_seqItems ho hd (wpAny_pure ?_))
  show wpAny _ A.in1 (holding [kk i,kv.2] (dictSet D (kk i) kv.2)) _ _ s'
  have hl:(merged [] (ps.take i)).length≤sizeLine:=by
   have:=merged_length_le [] (ps.take i)
   have e:(ps.take i).length≤i:=by rw[length_take];omega
   have z:([]:List (Key×Value)).length=0:=rfl
   omega
  refine wpAny_holding (wpAny_dictSet_pairs (knd:=cG prog w) (hsz:=hl) (hk i kv hkv) hD1 fun h' hd' hs=>?_)
  rw[←merged_take_succ [] ps i kv hkv]at hd'
  have hc1:((i:Int)+1)=((i+1:Nat):Int):=by push_cast;rfl
  refine wpAny_pure ⟨plainId_quiet d4 _,?_⟩
  show codeAny _ A (.builtin "dict.update.loop" ⟨[.ref D,.ref I,rawInt ((i:Int)+1),.none],[]⟩) R _
  rw[hc1]
  refine ih (i+1) _ (by omega) hlt (W.frame _ s' _ _ hst' (le_succ _) fun b hb o e=>?_) hd' (fun j kv hj=>?_) fun s'' hm'' hS''=>?_
  ·rw[hs.2 b (by rintro rfl;exact hDf hb)]
   exact e
  ·obtain⟨o,ho,r⟩:=ht1 j kv hj
   exact⟨o,(hs.2 _ (hT j (by rw[←hn];exact(List.getElem?_eq_some_iff.mp hj).1)).1).trans ho,r⟩
  ·refine hR s'' (Moved.trans W.gtrans ((hm.mono hsub).then_heap (le_succ _) fun b o hb e=>?_) hm'') hS''
   rw[hs.2 b (by rintro rfl;exact hb mem_cons_self)]
   exact e
end
section
variable {prog:Program}{w:World}{A:Around}{E:Value→Shared→Prop}{s:Shared}
theorem tU {l:Addr}{o:Obj}{items:Array Value}{c:Nat}{Q:Value→Shared→Prop}(ps:List (Key×Value)) (T:Nat→Addr) (kk:Nat→Value) (hh:A.handled=none) (hx:s.heap.get? l=some o) (hc:o.cls=.type "list") (hdat:o.data=.seq items c) (hd:o.dict=none) (hsz:ps.length=items.size) (hb:ps.length≤sizeLine)
  (hi:∀(i:Nat)(v:Value),items[i]? =some v→v=.ref (T i))(hk:∀i kv,ps[i]? =some kv→gx kv.1 (kk i)=true)(ht:∀i kv,ps[i]? =some kv→IsTup s.heap (T i) #[kk i,kv.2])
  (h:∀h' tk,h'.DictOf (cG prog w) s.heap.objs.size (merged [] ps)→(∀b o,s.heap.get? b=some o→h'.get? b=some o)→Q (.ref s.heap.objs.size) { s with heap:=h',toks:=tk }):
  wpAny (model prog w) A (call (.type "dict") [.ref l]) Q E s:=by
 refine callType_codes (Q₁:=fun obj s₁=>obj=.ref s.heap.objs.size∧s₁={ s with heap:=s.heap.push { cls:=.type "dict",data:=.dict #[] } }) PySem.F.kt_called_dict (PySem.F.kt_typeCall_dict_1 _) PySem.F.entry_dict_init (kt_code_dict_new _ ⟨rfl,rfl⟩) ?_
 rintro obj s₁ ⟨rfl,rfl⟩
 have hnew:=Heap.DictOf.new (knd:=cG prog w) s.heap
 have hx1:=get?_push_of_some { cls:=.type "dict",data:=.dict #[] } hx
 refine⟨hnew.typeIs,PySem.F.args_dict_init_2 _ _,?_⟩
 unfold Builtin.«dict.__init__»
 refine wpAny_bind ?_
 unfold Builtin.Dict.selfAndRest
 refine wpAny_bind (wpAny_notOrdered_dict hnew.typeIs ?_)
 show wpAny _ _ (pure (s.heap.objs.size,[Value.ref l])) _ _ _
 refine wpAny_pure ?_
 show wpAny _ _ (Builtin.Dict.updateFrom "dict.__init__" s.heap.objs.size (.ref l) [] .none) _ _ _
 unfold Builtin.Dict.updateFrom
 refine wpAny_bind (wpAny_typeOf (T:= "list") ⟨_,hx1,hc⟩ ?_)
 rw[if_pos (by decide)]
 refine wpAny_bind (oR hx1 hc hdat hd hh fun h1 tk kp1=>?_)
 rw[if_pos (show Option.isNone (none:Option Value)=true from rfl)]
 refine wpAny_bind (wpAny_rule ?_)
 have hx2:=kp1 _ _ hx1
 have hl2:h1.IsList l items:=⟨o,hx2,hc,c,hdat⟩
 have kp2:∀b u,s.heap.get? b=some u→h1.get? b=some u:=fun b u e=>kp1 _ _ (get?_push_of_some _ e)
 have lD:s.heap.objs.size < h1.objs.size:=lt_size (kp1 _ _ (get?_push_size _ rfl))
 refine wpAny_bind (wpAny_pyIter_list hl2 ?_)
 refine wpAny_pure ⟨plainId_quiet d4 _,?_⟩
 have hlS:l < s.heap.objs.size:=lt_size hx
 have hDf:s.heap.objs.size ∉ [h1.objs.size,l]:=by
  simp only[mem_cons,not_mem_nil,or_false,not_or]
  exact⟨ne_of_lt lD,ne_of_gt hlS⟩
 have hT:∀i,i < items.size→T i≠s.heap.objs.size∧T i ∉ [h1.objs.size]:=fun i hi'=>by
  obtain⟨kv,hkv⟩:∃kv,ps[i]? =some kv:=⟨_,getElem?_eq_getElem (by rw[hsz];exact hi')⟩
  obtain⟨o',ho',_⟩:=ht i kv hkv
  have lt:=lt_size ho'
  rw[mem_singleton]
  exact⟨ne_of_lt lt,ne_of_lt (lt_trans lt lD)⟩
 have dn:h1.DictOf (cG prog w) s.heap.objs.size []:=by
  obtain⟨o',es,ep,ho',r⟩:=hnew
  exact⟨o',es,ep,kp1 _ _ ho',r⟩
 refine zO ((Walks.list (show A.in1.in1.handled=none by simp[hh]) h1.objs.size l (ne_of_lt (lt_trans hlS lD)) items).toS) s.heap.objs.size hDf ps T kk hsz (by rw[←hsz];exact hb) hi hT hk (items.size - 0) 0 _ (by omega) (zero_le _) ⟨⟨_,get?_push_size _ rfl,rfl,rfl⟩,hl2.push _⟩ (dn.push _) (fun i kv e=>?_) ?_
 ·obtain⟨o',ho',r⟩:=ht i kv e
  exact⟨o',get?_push_of_some _ (kp2 _ _ ho'),r⟩
 ·intro s' hm hS'
  obtain⟨g,g',d',tk',os'⟩:=s'
  have eg:g'=s.gens:=hm.gens
  have ed:d'=s.drawn:=hm.drawn
  have eo:os'=s.os:=hm.os
  subst eg ed eo
  refine⟨rfl,h g tk' hS' fun b u e=>?_⟩
  have lt:=lt_size e
  refine hm.heap b u ?_ (get?_push_of_some _ (kp2 _ _ e))
  simp only[mem_cons,not_mem_nil,or_false,not_or]
  exact⟨ne_of_lt lt,ne_of_lt (lt_trans lt lD)⟩
end
theorem j6{α β:Type}{R:α→β→Prop}:∀{xs:List α}{us:List β},xs.length=us.length→(∀(i:Nat) x v,xs[i]? =some x→us[i]? =some v→R x v)→Paired R xs us
 |[],[],_,_=>.nil
 |_::_,[],h,_=>by cases h
 |[],_::_,h,_=>by cases h
 |x::_,u::_,h,k=>.cons (k 0 x u rfl rfl) (j6 (Nat.succ.inj h) fun i y v hy hv=>k (i+1) y v hy hv)
section
variable {X:Cx}
inductive FP(K:PySem.W.Frag)(vs:List V)(H:Hp)(Q:VK):Prop
 |mk(p:Addr)(xs:List V)(kvs:List (Key×V))(e:vs=[.ref p])(s:cF K H p xs)(l:xs.length=kvs.length)(t:∀(i:Nat) x kv,xs[i]? =some x→kvs[i]? =some kv→∃a,x=.ref a∧H a=some (.tup [kV kv.1,kv.2]))(q:∀d,H d=none→Q (.ref d) (upd H d (.dK (eB [] kvs))))
theorem eR(hc:X.calm=true):ef X (.type "dict") (fun vs H Q=>FP X.K vs H Q):=by
 intro pins s σ H vs us Q I r h
 obtain⟨p,xs,kvs,rfl,hq,ll,ht,q⟩:=h
 obtain⟨u,rfl,rx⟩:=vals1 r
 cases rx
 obtain⟨its,rv,⟨o,c,ho,hcl,hd,hdat⟩,hz⟩:=I.list hq
 have hl:=rv.length
 have row:∀i:Nat,∃t:Addr×Value×Value,i < its.length→its[i]? =some (.ref t.1)∧∀kv,kvs[i]? =some kv→IsTup s.heap t.1 #[t.2.1,t.2.2]∧RelV (kV kv.1) t.2.1∧RelV kv.2 t.2.2:=fun i=>by
  by_cases hi:i < its.length
  ·obtain⟨kv,hkv⟩:∃kv,kvs[i]? =some kv:=⟨_,getElem?_eq_getElem (by omega)⟩
   obtain⟨x,hx⟩:∃x,xs[i]? =some x:=⟨_,getElem?_eq_getElem (by omega)⟩
   obtain⟨a,rfl,ha⟩:=ht i x kv hx hkv
   obtain⟨u,eu,ru⟩:=rv.get hx
   cases ru
   obtain⟨jts,rj,tp,_⟩:=I.tuple (dq.of (K:=X.K) ha)
   cases rj with
   |cons r1 rest=>
    cases rest with
    |cons r2 rest2=>
     cases rest2
     exact⟨(a,_,_),fun _=>⟨eu,fun kv' e=>by rw[hkv]at e;cases e;exact⟨tp,r1,r2⟩⟩⟩
  ·exact⟨(0,.none,.none),fun h=>absurd h hi⟩
 obtain⟨f,hf⟩:=Classical.axiomOfChoice row
 have hps:∀(i:Nat) q,(kvs.mapIdx fun i kv=>(kv.1,(f i).2.2))[i]? =some q→∃kv,kvs[i]? =some kv∧q=(kv.1,(f i).2.2):=fun i q e=>by
  rw[List.getElem?_mapIdx]at e
  obtain⟨kv,e1,rfl⟩:=map_eq_some_iff.mp e
  exact⟨kv,e1,rfl⟩
 have hlt:∀{i:Nat}{kv:Key×V},kvs[i]? =some kv→i < its.length:=fun e=>by
  have:=(List.getElem?_eq_some_iff.mp e).1
  omega
 have hpl:(kvs.mapIdx fun i kv=>(kv.1,(f i).2.2)).length=kvs.length:=List.length_mapIdx
 refine tU (kvs.mapIdx fun i kv=>(kv.1,(f i).2.2)) (fun i=>(f i).1) (fun i=>(f i).2.1) (I.ok.hd hc) ho hcl hdat hd (by rw[hpl,size_toArray];omega) (by rw[hpl];omega) (fun i v e=>?_) (fun i q e=>?_) (fun i q e=>?_) fun h' tk hD kp=>?_
 ·have e':its[i]? =some v:=by simpa using e
  have:=(hf i (List.getElem?_eq_some_iff.mp e').1).1
  rw[e']at this
  exact Option.some.inj this
 ·obtain⟨kv,e1,rfl⟩:=hps i q e
  exact lT (P:=X.prog) (w:=X.w) ((hf i (hlt e1)).2 kv e1).2.1
 ·obtain⟨kv,e1,rfl⟩:=hps i q e
  exact((hf i (hlt e1)).2 kv e1).1
 ·have rel:KV kvs (kvs.mapIdx fun i kv=>(kv.1,(f i).2.2)):=j6 hpl.symm fun i p q e1 e2=>by
   obtain⟨kv,e3,rfl⟩:=hps i q e2
   rw[e1]at e3
   cases e3
   exact⟨rfl,((hf i (hlt e1)).2 _ e1).2.2⟩
  have rel2:KV (eB [] kvs) (merged [] (kvs.mapIdx fun i kv=>(kv.1,(f i).2.2))):=KV.merge rel .nil
  have ml:=je kvs []
  have z:([]:List (Key×V)).length=0:=rfl
  refine⟨.ref _,_,I.laid (a:=s.heap.objs.size) (o:=.dK (eB [] kvs)) (t':=tk) kp (le_refl _) (zN (by omega) (beq_eq_false_iff_ne.mpr (Ne.symm (ne_of_lt I.big))) rel2 hD),rfl,q _ (I.hok.fresh (le_refl _))⟩
end
section
variable {prog:Program}{w:World}{A:Around}{E:Value→Shared→Prop}{s:Shared}
end
section
variable {X:Cx}
inductive Gn(K:PySem.W.Frag)(vs:List V)(H:Hp)(Q:VK):Prop
 |mk(p:Addr)(xs:List V)(e:vs=[.ref p])(s:cF K H p xs)(q:∀l,H l=none→Q (.ref l) (upd H l (.lst xs.reverse)))
def Jx(K:PySem.W.Frag)(ta:TA):TE:=fun σ H Q=>ta σ H fun vs H1=>Gn K vs H1 Q
theorem gJ:bootBuiltins "sorted" =some (.builtin "sorted"):=by decide+kernel
theorem Be:bootBuiltins "dict" =some (.type "dict"):=by decide+kernel
theorem yM:bootBuiltins "sum" =some (.builtin "sum"):=by decide+kernel
end
end L2
namespace J
open PySem PySem.Spec PyProof.Rows
open L2 (Cx V cF dq)
theorem fh{X:Cx}:JF X (.builtin "sorted") (fun xs H Q=>L2.Hg X.K xs H Q):=⟨L2.fh⟩
theorem eR{X:Cx}(hc:X.calm=true):JF X (.type "dict") (fun vs H Q=>L2.FP X.K vs H Q):=⟨L2.eR hc⟩
end J
namespace L2
open PySem PySem.Spec PyProof.Rows
section
variable {X:Cx}
inductive Fp(K:PySem.W.Frag)(x y:V)(H:Hp)(Q:VK):Prop
 |same (a b:Addr)(xs ys:List V)(bs:List Bool)(hx:x=.ref a)(hy:y=.ref b)(s:cF K H a xs)(t:cF K H b ys)(l1:xs.length=bs.length)(l2:ys.length=bs.length)(e:∀(i:Nat) u v c,xs[i]? =some u→ys[i]? =some v→bs[i]? =some c→jT u v=some c)(q:Q (.bl (Ho bs)) H)
 |other (a b:Addr)(xs ys:List V)(hx:x=.ref a)(hy:y=.ref b)(s:cF K H a xs)(t:cF K H b ys)(n:xs.length≠ys.length)(q:Q (.bl false) H)
theorem qO(hu:X.A.units+1 < cLine):iq X (compareOp .Eq) (fun x y H Q=>Fp X.K x y H Q):=by
 intro pins s σ H x y v u Q I rx ry h
 rcases h with ⟨a,b,xs,ys,bs,hx,hy,s1,t1,l1,l2,e,q⟩|⟨a,b,xs,ys,hx,hy,s1,t1,n,q⟩
 ·exact EK hu pins s σ H x y v u Q I rx ry ⟨a,b,xs,ys,bs,hx,hy,s1,t1,l1,l2,e,q⟩
 ·exact wC hu pins s σ H x y v u Q I rx ry ⟨a,b,xs,ys,hx,hy,s1,t1,n,q⟩
inductive Jc(K:PySem.W.Frag)(x y:V)(H:Hp)(Q:VK):Prop
 |mk(a b:Addr)(xs ys:List V)(hx:x=.ref a)(hy:y=.ref b)(s:H a=some (.tup xs))(t:cF K H b ys)(f:xs.all dj=true)(g:∀v∈ys,∃c zs,v=.ref c∧H c=some (.tup zs)∧zs.all dj=true)(q:Q (.bl (!(ys.any (EY H xs)))) H)
inductive DG(K:PySem.W.Frag)(x:V)(st:Option Int)(H:Hp)(Q:VK):Prop
 |mk(a:Addr)(xs:List V)(hx:x=.ref a)(hst:st=some (-1))(s:cF K H a xs)(q:∀p ys,H p=none→ys.length≤xs.length→(∀v∈ys,v∈xs)→Q (.ref p) (upd H p (.lst ys)))
def Iz(K:PySem.W.Frag)(te:TE)(ts:TO):TE:=fun σ H Q=>te σ H fun x H1=>ts σ H1 fun st H2=>DG K x st H2 Q
theorem qT{e d:Expr}{ty td:TE}{pos:Pos}(hu:X.A.units+1 < cLine)(hi:PE X e ty)(ho:PE X d td)(hm:behindInMarks .In d=false:=by rfl):PE X (.Compare e [.In] [d] pos) (Bz ty td):=zX (yx hu hi ho) hm
end
section
variable {prog:Program}{w:World}{A:Around}{R:Result→Shared→Prop}{I:Addr}{fp wr:List Addr}{G:Array GenState→Array GenState→Prop}{n:Nat}{P:Nat→Value→Prop}{St:Nat→Shared→Prop}
def HA(xs ps:List (List Key×Addr×Value)):List (List Key×Addr×Value):=ps.foldl (fun acc q=>storedH acc q.1 q.2.1 q.2.2) xs
end
section
variable {prog:Program}{w:World}{A:Around}{E:Value→Shared→Prop}{s:Shared}
end
def DR(kvs more:List (List Key×V)):List (List Key×V):=more.foldl (fun acc kv=>putK acc kv.1 kv.2) kvs
section
variable {X:Cx}
inductive Jp(K:PySem.W.Frag)(vs:List V)(H:Hp)(Q:VK):Prop
 |mk(p:Addr)(xs:List V)(kvs:List (List Key×V))(e:vs=[.ref p])(s:cF K H p xs)(l:xs.length=kvs.length)(t:∀(i:Nat) x kv,xs[i]? =some x→kvs[i]? =some kv→∃a b,x=.ref a∧H a=some (.tup [.ref b,kv.2])∧H b=some (.tup (kv.1.map kV)))(q:∀d,H d=none→Q (.ref d) (upd H d (.dT (DR [] kvs))))
end
end L2
namespace J
open PySem PySem.Spec PyProof.Rows
open L2 (Cx V Hp St VK TE TT TA TS TG o8 TI TO cF dq)
section
variable {X:Cx}{e d st:Expr}{ty td te:TE}{ts:TO}{pos p2:Pos}
theorem FU{o f:Expr}{apos cpos:Pos}{tx:TE}(hu:X.A.units+1 < cLine)(ho:JE X o td)(he:JE X e ty)(hf:JE X f tx)(h:nh o=true:=by rfl)(h1:L2.notStar e=true:=by rfl)(h2:L2.notStar f=true:=by rfl)(hline:(apos.endLine == cpos.line)=true:=by rfl):JE X (.Call (.Attribute o "get" apos) [e,f] [] cpos) (L2.zS td ty tx):=
 ⟨L2.Ab hu ho.out he.out hf.out ⟨fP h,by rw[Hd h1 h2];rfl,hline,Hd h1 h2⟩⟩
theorem qO(hu:X.A.units+1 < cLine):JC X .Eq (fun x y H Q=>L2.Fp X.K x y H Q):=⟨L2.qO hu⟩
theorem qT(hu:X.A.units+1 < cLine)(hi:JE X e ty)(ho:JE X d td)(hm:behindInMarks .In d=false:=by rfl):JE X (.Compare e [.In] [d] pos) (L2.Bz ty td):=⟨L2.qT hu hi.out ho.out hm⟩
end
end J
namespace TS
open PySem PyProof.Rows
def mL:Bool→Keyed→Array Keyed→Nat→Nat→Nat→StateT SortSt Sem (Option Nat):=sortPriv% PySem.Builtin.gallop
def key(κ:KeyKind)(p:Keyed):κ.α:=(κ.keyOf p.1).getD κ.dflt
def gO(κ:KeyKind)(p:Keyed):Prop:=∃a,κ.keyOf p.1=some a
def j4(prog:Program)(w:World)(A:Around)(E:Value→Shared→Prop)(s:Shared)(κ:KeyKind)(kd:SortKind):Prop:=
 ∀(x y:Keyed) (st:SortSt) (Q:Option Bool→SortSt→Prop),kindOf st=kd→gO κ x→gO κ y→Q (some (κ.blt (key κ x) (key κ y))) st→wpS (model prog w) A E s (lt' x y) Q st
section
variable {prog:Program}{w:World}{A:Around}{E:Value→Shared→Prop}{s:Shared}{κ:KeyKind}{kd:SortKind}
theorem cK{arr:Array Keyed}{i:Nat}{x:Keyed}{st:SortSt}{Q:Keyed→SortSt→Prop}(h:arr[i]? =some x)(q:Q x st):wpS (model prog w) A E s (elem' arr i) Q st:=by
 rw[elem'_eq,h]
 exact wpS_pure q
def EH(κ:KeyKind)(left:Bool)(k x:Keyed):Bool:=if left then κ.blt (key κ x) (key κ k) else !(κ.blt (key κ k) (key κ x))
theorem Cn(hL:j4 prog w A E s κ kd){left:Bool}{k x:Keyed}{arr:Array Keyed}{i:Nat}{st:SortSt}{Q:Option Bool→SortSt→Prop}(hk:kindOf st=kd)(kk:gO κ k)(hx:arr[i]? =some x)(kx:gO κ x)(q:Q (some (EH κ left k x)) st):
  wpS (model prog w) A E s (elem' arr i >>= fun x=>if left=true then lt' x k else lt' k x >>= fun r=>pure (Option.map (fun y=> !y) r)) Q st:=by
 refine wpS_bind (cK hx ?_)
 cases left with
 |true=>
  rw[if_pos rfl]
  exact hL x k st Q hk kx kk q
 |false=>
  rw[if_neg Bool.false_ne_true]
  exact wpS_bind (hL k x st _ hk kk kx (wpS_pure q))
theorem uD(hL:j4 prog w A E s κ kd){left:Bool}{k:Keyed}{arr:Array Keyed}{base n hint:Nat}{st:SortSt}{Q:Option Nat→SortSt→Prop}(hk:kindOf st=kd)(kk:gO κ k)(f:Nat→Bool)(hf:∀i,i < n→∃x,arr[base+i]? =some x∧gO κ x∧EH κ left k x=f i)(mono:∀i j,i≤j→j < n→f j=true→f i=true)(hh:hint < n)
  (q:∀m,m≤n→(∀i,i < m→f i=true)→(∀i,m≤i→i < n→f i=false)→Q (some m) st):wpS (model prog w) A E s (mL left k arr base n hint) Q st:=by
 have beyond:∀{i:Nat}{R:Option Bool→SortSt→Prop},i < n→R (some (f i)) st→wpS (model prog w) A E s (elem' arr (base+i) >>= fun x=>if left=true then lt' x k else lt' k x >>= fun r=>pure (Option.map (fun y=> !y) r)) R st:=fun {i R} hi hR=>by
  obtain⟨x,hx,kx,e⟩:=hf i hi
  exact Cn hL hk kk hx kx (e ▸ hR)
 have up:∀i j,i≤j→j < n→f i=false→f j=false:=fun i j h1 h2 h3=>by
  cases h:f j with
  |false=>rfl
  |true=>rw[mono i j h1 h2 h]at h3;cases h3
 refine wpS_bind (beyond hh ?_)
 dsimp only
 by_cases hr:f hint=true
 ·rw[if_pos hr]
  refine wpS_bind (wpS_mono (wpS_forRange (I:=fun x c st'=>st'=st∧∃la o,c=(none,la,o)∧la < o∧x+1≤o∧hint+la < n∧f (hint+la)=true)
   (Q:=fun c st'=>st'=st∧∃la o,c=(none,la,o)∧la < o∧hint+la < n∧f (hint+la)=true∧(n - hint≤o∨(hint+o < n∧f (hint+o)=false))) ?step ?fin ⟨rfl,0,1,rfl,by omega,by omega,by omega,hr⟩) ?post)
  case step=>
   rintro x c st' _ hx ⟨rfl,la,o,rfl,h1,h2,h3,h4⟩
   dsimp only
   by_cases c1:o ≥ n - hint
   ·rw[if_pos c1]
    exact wpS_pure ⟨rfl,la,o,rfl,h1,h3,h4,.inl c1⟩
   ·rw[if_neg c1]
    refine wpS_bind (beyond (by omega) ?_)
    dsimp only
    cases hm:f (hint+o) with
    |false=>exact wpS_pure ⟨rfl,la,o,rfl,h1,h3,h4,.inr ⟨by omega,hm⟩⟩
    |true=>exact wpS_pure ⟨rfl,o,2 * o+1,rfl,by omega,by omega,by omega,hm⟩
  case fin=>
   rintro c st' ⟨rfl,la,o,rfl,h1,h2,h3,h4⟩
   exact⟨rfl,la,o,rfl,h1,h3,h4,.inl (by omega)⟩
  case post=>
   rintro c st' ⟨e0,la,o,rfl,h1,h3,h4,h5⟩
   rw[e0];clear e0 st'
   dsimp only
   have d:∀i,hint+min o (n - hint)≤i→i < n→f i=false:=fun i i1 i2=>by
    rcases h5 with h5|⟨h5,h6⟩
    ·omega
    ·exact up _ i (by omega) i2 h6
   refine wpS_bind (wpS_mono (wpS_forRange (I:=fun x c st''=>st''=st∧∃lo hi,c=(none,lo,hi)∧lo≤hi∧hi≤n∧hi - lo≤n - x∧(∀i,i < lo→f i=true)∧(∀i,hi≤i→i < n→f i=false))
    (Q:=fun c st''=>st''=st∧∃hi,c=(none,hi,hi)∧hi≤n∧(∀i,i < hi→f i=true)∧(∀i,hi≤i→i < n→f i=false)) ?sstep ?sfin ⟨rfl,_,_,rfl,(by omega),(by omega),by omega,(fun i hi=>mono i _ (by omega) h3 h4),d⟩) ?spost)
   case sstep=>
    rintro x c st'' _ hx ⟨rfl,lo,hi,rfl,g1,g2,g3,g4,g5⟩
    dsimp only
    by_cases c1:lo ≥ hi
    ·rw[if_pos c1]
     have e:lo=hi:=by omega
     subst e
     exact wpS_pure ⟨rfl,lo,rfl,g2,g4,g5⟩
    ·rw[if_neg c1]
     refine wpS_bind (beyond (by omega) ?_)
     dsimp only
     cases hm:f (lo+(hi - lo) / 2) with
     |true=>exact wpS_pure ⟨rfl,_,_,rfl,by omega,by omega,by omega,fun i hi'=>mono i _ (by omega) (by omega) hm,g5⟩
     |false=>exact wpS_pure ⟨rfl,_,_,rfl,by omega,by omega,by omega,g4,fun i h1 h2=>up _ i h1 h2 hm⟩
   case sfin=>
    rintro c st'' ⟨rfl,lo,hi,rfl,g1,g2,g3,g4,g5⟩
    have e:lo=hi:=by omega
    subst e
    exact⟨rfl,lo,rfl,g2,g4,g5⟩
   case spost=>
    rintro c st'' ⟨rfl,hi,rfl,g2,g4,g5⟩
    exact wpS_pure (q hi g2 g4 g5)
 ·rw[if_neg hr]
  have hr':f hint=false:=eq_false_of_ne_true hr
  refine wpS_bind (wpS_mono (wpS_forRange (I:=fun x c st'=>st'=st∧∃la o,c=(none,la,o)∧la < o∧x+1≤o∧la≤hint∧f (hint - la)=false)
   (Q:=fun c st'=>st'=st∧∃la o,c=(none,la,o)∧la < o∧la≤hint∧f (hint - la)=false∧(hint+1≤o∨(o≤hint∧f (hint - o)=true))) ?step ?fin ⟨rfl,0,1,rfl,by omega,by omega,by omega,hr'⟩) ?post)
  case step=>
   rintro x c st' _ hx ⟨rfl,la,o,rfl,h1,h2,h3,h4⟩
   dsimp only
   by_cases c1:o ≥ hint+1
   ·rw[if_pos c1]
    exact wpS_pure ⟨rfl,la,o,rfl,h1,h3,h4,.inl c1⟩
   ·rw[if_neg c1]
    refine wpS_bind (beyond (by omega) ?_)
    dsimp only
    cases hm:f (hint - o) with
    |true=>exact wpS_pure ⟨rfl,la,o,rfl,h1,h3,h4,.inr ⟨by omega,hm⟩⟩
    |false=>exact wpS_pure ⟨rfl,o,2 * o+1,rfl,by omega,by omega,by omega,hm⟩
  case fin=>
   rintro c st' ⟨rfl,la,o,rfl,h1,h2,h3,h4⟩
   exact⟨rfl,la,o,rfl,h1,h3,h4,.inl (by omega)⟩
  case post=>
   rintro c st' ⟨e0,la,o,rfl,h1,h3,h4,h5⟩
   rw[e0];clear e0 st'
   dsimp only
   have d:∀i,i < hint+1 - min o (hint+1)→f i=true:=fun i i1=>by
    rcases h5 with h5|⟨h5,h6⟩
    ·omega
    ·exact mono i _ (by omega) (by omega) h6
   refine wpS_bind (wpS_mono (wpS_forRange (I:=fun x c st''=>st''=st∧∃lo hi,c=(none,lo,hi)∧lo≤hi∧hi≤n∧hi - lo≤n - x∧(∀i,i < lo→f i=true)∧(∀i,hi≤i→i < n→f i=false))
    (Q:=fun c st''=>st''=st∧∃hi,c=(none,hi,hi)∧hi≤n∧(∀i,i < hi→f i=true)∧(∀i,hi≤i→i < n→f i=false)) ?sstep ?sfin ⟨rfl,_,_,rfl,(by omega),(by omega),by omega,d,(fun i i1 i2=>up _ i i1 i2 h4)⟩) ?spost)
   case sstep=>
    rintro x c st'' _ hx ⟨rfl,lo,hi,rfl,g1,g2,g3,g4,g5⟩
    dsimp only
    by_cases c1:lo ≥ hi
    ·rw[if_pos c1]
     have e:lo=hi:=by omega
     subst e
     exact wpS_pure ⟨rfl,lo,rfl,g2,g4,g5⟩
    ·rw[if_neg c1]
     refine wpS_bind (beyond (by omega) ?_)
     dsimp only
     cases hm:f (lo+(hi - lo) / 2) with
     |true=>exact wpS_pure ⟨rfl,_,_,rfl,by omega,by omega,by omega,fun i hi'=>mono i _ (by omega) (by omega) hm,g5⟩
     |false=>exact wpS_pure ⟨rfl,_,_,rfl,by omega,by omega,by omega,g4,fun i h1 h2=>up _ i h1 h2 hm⟩
   case sfin=>
    rintro c st'' ⟨rfl,lo,hi,rfl,g1,g2,g3,g4,g5⟩
    have e:lo=hi:=by omega
    subst e
    exact⟨rfl,lo,rfl,g2,g4,g5⟩
   case spost=>
    rintro c st'' ⟨rfl,hi,rfl,g2,g4,g5⟩
    exact wpS_pure (q hi g2 g4 g5)
end
end TS
namespace TS
open PySem PyProof.Rows
variable {κ:KeyKind}
def da(κ:KeyKind)(l:List Keyed):Prop:=l.Pairwise fun x y=>κ.kle (key κ x) (key κ y)
def F8(κ:KeyKind)(v:κ.α)(p:Keyed):Bool:= !κ.blt (key κ p) v && !κ.blt v (key κ p)
def fk(κ:KeyKind)(v:κ.α)(l:List Keyed):List Keyed:=l.filter (F8 κ v)
def Below(κ:KeyKind)(l m:List Keyed):Prop:=∀x∈l,∀y∈m,κ.kle (key κ x) (key κ y)
def Under(κ:KeyKind)(l m:List Keyed):Prop:=∀x∈l,∀y∈m,κ.klt (key κ x) (key κ y)
def cI(κ:KeyKind)(l m:List Keyed):Prop:=∀v,fk κ v l=fk κ v m
theorem Under.below{l m:List Keyed}(h:Under κ l m):Below κ l m:=fun x hx y hy=>KeyOrd.kle_of_klt (h x hx y hy)
theorem i6(v:κ.α)(l m:List Keyed):fk κ v (l++m)=fk κ v l++fk κ v m:=filter_append ..
theorem rL(p:Keyed):F8 κ (key κ p) p=true:=by
 unfold F8
 rw[κ.irrefl]
 rfl
theorem Ae{v:κ.α}{p:Keyed}(h:F8 κ v p=true):key κ p=v:=by
 unfold F8 at h
 rw[and_eq_true,not_eq_true',not_eq_true']at h
 exact κ.total _ _ h.1 h.2
theorem cI.refl(l:List Keyed):cI κ l l:=fun _=>rfl
theorem cI.trans{l m n:List Keyed}(h:cI κ l m)(h':cI κ m n):cI κ l n:=fun v=>(h v).trans (h' v)
theorem cI.append{l m l' m':List Keyed}(h:cI κ l l')(h':cI κ m m'):cI κ (l++m) (l'++m'):=fun v=>by
 rw[i6,i6,h v,h' v]
theorem cI.perm{l m:List Keyed}(h:cI κ l m):l.Perm m:=by
 classical
 refine List.perm_iff_count.mpr fun x=>?_
 have e:=congrArg (List.count x) (h (key κ x))
 unfold fk at e
 rwa [List.count_filter (rL x),List.count_filter (rL x)]at e
theorem cI.mem{l m:List Keyed}(h:cI κ l m){x:Keyed}:x∈l↔x∈m:=h.perm.mem_iff
theorem cI.swap{l m:List Keyed}(h:Under κ l m):cI κ (l++m) (m++l):=fun v=>by
 rw[i6,i6]
 by_cases e:fk κ v l=[]
 ·rw[e,append_nil,nil_append]
 ·obtain⟨x,hx⟩:=List.exists_mem_of_ne_nil _ e
  obtain⟨x1,x2⟩:=mem_filter.mp hx
  have e2:fk κ v m=[]:=List.eq_nil_iff_forall_not_mem.mpr fun y hy=>by
   obtain⟨y1,y2⟩:=mem_filter.mp hy
   have:=h x x1 y y1
   rw[Ae x2,Ae y2]at this
   unfold KeyOrd.klt at this
   rw[κ.irrefl]at this
   cases this
  rw[e2,append_nil,nil_append]
theorem da.append{l m:List Keyed}(h:da κ l)(h':da κ m)(b:Below κ l m):da κ (l++m):=List.pairwise_append.mpr ⟨h,h',b⟩
theorem da.left{l m:List Keyed}(h:da κ (l++m)):da κ l:=(List.pairwise_append.mp h).1
theorem da.right{l m:List Keyed}(h:da κ (l++m)):da κ m:=(List.pairwise_append.mp h).2.1
theorem da.mid{l m:List Keyed}(h:da κ (l++m)):Below κ l m:=(List.pairwise_append.mp h).2.2
theorem da.drop{l:List Keyed}(h:da κ l)(i:Nat):da κ (l.drop i):=List.Pairwise.sublist (List.drop_sublist i l) h
theorem Below.append{l m n:List Keyed}(h:Below κ l n)(h':Below κ m n):Below κ (l++m) n:=fun x hx=>(mem_append.mp hx).elim (h x) (h' x)
theorem Below.left{l m n:List Keyed}(h:Below κ l (m++n)):Below κ l m:=fun x hx y hy=>h x hx y (mem_append_left _ hy)
theorem Below.right{l m n:List Keyed}(h:Below κ l (m++n)):Below κ l n:=fun x hx y hy=>h x hx y (mem_append_right _ hy)
theorem Below.nil{l:List Keyed}:Below κ l []:=fun _ _ _ h=>by cases h
theorem oo(l:List Keyed)(i k:Nat):l.drop i=(l.drop i).take k++l.drop (i+k):=by
 rw[←List.drop_drop,take_append_drop]
structure jd(κ:KeyKind)(al bl out:List Keyed)(ia ib:Nat):Prop where
 so:da κ out
 oa:Below κ out (al.drop ia)
 ob:Below κ out (bl.drop ib)
 st:cI κ (out++(al.drop ia++bl.drop ib)) (al++bl)
theorem jd.uG{al bl out:List Keyed}{ia ib k:Nat}(sa:da κ al)(h:jd κ al bl out ia ib)(b:Below κ ((al.drop ia).take k) (bl.drop ib)):jd κ al bl (out++(al.drop ia).take k) (ia+k) ib:=by
 have e:=oo al ia k
 have s:=sa.drop ia
 have oa:=h.oa
 have st:=h.st
 rw[e]at s oa st
 refine⟨h.so.append s.left oa.left,oa.right.append s.mid,h.ob.append b,?_⟩
 rw[append_assoc,←append_assoc _ (al.drop (ia+k))]
 exact st
theorem jd.uw{al bl out:List Keyed}{ia ib k:Nat}(sb:da κ bl)(h:jd κ al bl out ia ib)(b:Under κ ((bl.drop ib).take k) (al.drop ia)):jd κ al bl (out++(bl.drop ib).take k) ia (ib+k):=by
 have e:=oo bl ib k
 have s:=sb.drop ib
 have ob:=h.ob
 have st:=h.st
 rw[e]at s ob st
 refine⟨h.so.append s.left ob.left,h.oa.append b.below,ob.right.append s.mid,?_⟩
 refine cI.trans ?_ st
 rw[append_assoc]
 refine(cI.refl _).append ?_
 rw[←append_assoc,←append_assoc]
 exact(cI.swap b).append (cI.refl _)
theorem jd.done{al bl out:List Keyed}{ia ib:Nat}(sa:da κ al)(sb:da κ bl)(h:jd κ al bl out ia ib)(e:al.drop ia=[]∨bl.drop ib=[]):da κ (out++al.drop ia++bl.drop ib)∧cI κ (out++al.drop ia++bl.drop ib) (al++bl):=by
 refine⟨?_,by rw[append_assoc];exact h.st⟩
 rcases e with e|e
 ·rw[e,append_nil]
  exact h.so.append (sb.drop ib) h.ob
 ·rw[e,append_nil]
  exact h.so.append (sa.drop ia) h.oa
theorem jd.last{al bl out:List Keyed}{ia ib:Nat}(sa:da κ al)(sb:da κ bl)(h:jd κ al bl out ia ib)(u:Under κ (bl.drop ib) (al.drop ia)):da κ (out++bl.drop ib++al.drop ia)∧cI κ (out++bl.drop ib++al.drop ia) (al++bl):=by
 refine⟨(h.so.append (sb.drop ib) h.ob).append (sa.drop ia) (h.oa.append u.below),cI.trans ?_ h.st⟩
 rw[append_assoc]
 exact(cI.refl _).append (cI.swap u)
def yF:Array Keyed→Array Keyed→StateT SortSt Sem (Array Keyed):=sortPriv% PySem.Builtin.mergeLo
section
variable {prog:Program}{w:World}{A:Around}{E:Value→Shared→Prop}{s:Shared}{kd:SortKind}
structure Kept(st st':SortSt):Prop where
 kind:kindOf st'=kindOf st
 arr:arrOf st'=arrOf st
 pend:pendingOf st'=pendingOf st
 failed:failedOf st'=failedOf st
theorem Kept.refl(st:SortSt):Kept st st:=⟨rfl,rfl,rfl,rfl⟩
theorem Kept.trans{a b c:SortSt}(h:Kept a b)(h':Kept b c):Kept a c:=⟨h'.kind.trans h.kind,h'.arr.trans h.arr,h'.pend.trans h.pend,h'.failed.trans h.failed⟩
def oT:Nat→StateT SortSt Sem Unit:=sortPriv% PySem.Builtin.setMinGallop
theorem j7{g:Nat}{st:SortSt}{Q:Unit→SortSt→Prop}(q:∀st',Kept st st'→Q () st'):wpS (model prog w) A E s (oT g) Q st:=by
 exact wpS_modify (q _ ⟨rfl,rfl,rfl,rfl⟩)
theorem vH{l:List Keyed}{b m:Nat}{x:Keyed}:x∈(l.drop b).take m↔∃i,i < m∧l[b+i]? =some x:=by
 constructor
 ·intro h
  obtain⟨i,hi⟩:=getElem?_of_mem h
  have hl:=(List.getElem?_eq_some_iff.mp hi).1
  rw[length_take]at hl
  rw[getElem?_take_of_lt (by omega),getElem?_drop]at hi
  exact⟨i,by omega,hi⟩
 ·rintro⟨i,h1,h2⟩
  refine mem_of_getElem? (i:=i) ?_
  rw[getElem?_take_of_lt h1,getElem?_drop]
  exact h2
theorem da.at{l:List Keyed}{b n i j:Nat}{x y:Keyed}(h:da κ ((l.drop b).take n))(ij:i≤j)(jn:j < n)(hx:l[b+i]? =some x)(hy:l[b+j]? =some y):κ.kle (key κ x) (key κ y):=by
 by_cases e:i=j
 ·subst e
  rw[hx]at hy
  cases hy
  exact KeyOrd.kle_refl _
 ·have h1:((l.drop b).take n)[i]? =some x:=by rw[getElem?_take_of_lt (by omega),getElem?_drop];exact hx
  have h2:((l.drop b).take n)[j]? =some y:=by rw[getElem?_take_of_lt jn,getElem?_drop];exact hy
  obtain⟨i1,e1⟩:=List.getElem?_eq_some_iff.mp h1
  obtain⟨j1,e2⟩:=List.getElem?_eq_some_iff.mp h2
  have:=List.pairwise_iff_getElem.mp h i j i1 j1 (by omega)
  rwa [e1,e2]at this
theorem vI(hL:j4 prog w A E s κ kd){left:Bool}{k:Keyed}{arr:Array Keyed}{base n hint:Nat}{st:SortSt}{Q:Option Nat→SortSt→Prop}(hk:kindOf st=kd)(kk:gO κ k)(ks:∀x∈arr.toList,gO κ x)(sz:base+n≤arr.size)(ss:da κ ((arr.toList.drop base).take n))(hh:hint < n)
  (q:∀m,m≤n→(∀x∈(arr.toList.drop base).take m,EH κ left k x=true)→(∀x∈(arr.toList.drop (base+m)).take (n - m),EH κ left k x=false)→Q (some m) st):wpS (model prog w) A E s (mL left k arr base n hint) Q st:=by
 have ex:∀i,i < n→∃x,arr.toList[base+i]? =some x∧gO κ x:=fun i hi=>by
  have:base+i < arr.toList.length:=by rw[length_toList];omega
  exact⟨_,getElem?_eq_getElem this,ks _ (getElem_mem this)⟩
 refine uD hL hk kk (fun i=>match arr.toList[base+i]? with|some x=>EH κ left k x|none=>false) (fun i hi=>?_) (fun i j ij jn hj=>?_) hh fun m hm m1 m2=>q m hm (fun x hx=>?_) (fun x hx=>?_)
 ·obtain⟨x,hx,kx⟩:=ex i hi
  exact⟨x,by rw[←hx,getElem?_toList],kx,by rw[hx]⟩
 ·obtain⟨x,hx,kx⟩:=ex i (by omega)
  obtain⟨y,hy,ky⟩:=ex j jn
  have le:=ss.at ij jn hx hy
  rw[hy]at hj
  rw[hx]
  dsimp only at hj ⊢
  cases left with
  |true=>exact KeyOrd.klt_of_kle_of_klt le (show κ.klt _ _ from hj)
  |false=>
   have hj':κ.blt (key κ k) (key κ y)=false:=by
    have:(!κ.blt (key κ k) (key κ y))=true:=hj
    rwa [not_eq_true']at this
   have:κ.kle (key κ x) (key κ k):=KeyOrd.kle_trans le hj'
   show(!κ.blt (key κ k) (key κ x))=true
   rw[not_eq_true']
   exact this
 ·obtain⟨i,hi,hx'⟩:=vH.mp hx
  have:=m1 i hi
  rwa [hx']at this
 ·obtain⟨i,hi,hx'⟩:=vH.mp hx
  rw[Nat.add_assoc]at hx'
  have:=m2 (m+i) (by omega) (by omega)
  rwa [hx']at this
theorem eQ(l:List Keyed)(b:Nat){n:Nat}(h:l.length - b≤n):(l.drop b).take n=l.drop b:=take_of_length_le (by rw[length_drop];exact h)
theorem og(hL:j4 prog w A E s κ kd){k:Keyed}{arr:Array Keyed}{base n hint:Nat}{st:SortSt}{Q:Option Nat→SortSt→Prop}(hk:kindOf st=kd)(kk:gO κ k)(ks:∀x∈arr.toList,gO κ x)(sz:base+n≤arr.size)(ss:da κ ((arr.toList.drop base).take n))(hh:hint < n)
  (q:∀m,m≤n→Below κ ((arr.toList.drop base).take m) [k]→Under κ [k] ((arr.toList.drop (base+m)).take (n - m))→Q (some m) st):wpS (model prog w) A E s (mL false k arr base n hint) Q st:=
 vI hL hk kk ks sz ss hh fun m hm m1 m2=>q m hm (fun x hx y hy=>by
  cases mem_singleton.mp hy
  have:=m1 x hx
  unfold EH at this
  rw[if_neg Bool.false_ne_true,not_eq_true']at this
  exact this) (fun y hy x hx=>by
  cases mem_singleton.mp hy
  have:=m2 x hx
  unfold EH at this
  rw[if_neg Bool.false_ne_true,Bool.not_eq_false']at this
  exact this)
theorem nu(hL:j4 prog w A E s κ kd){k:Keyed}{arr:Array Keyed}{base n hint:Nat}{st:SortSt}{Q:Option Nat→SortSt→Prop}(hk:kindOf st=kd)(kk:gO κ k)(ks:∀x∈arr.toList,gO κ x)(sz:base+n≤arr.size)(ss:da κ ((arr.toList.drop base).take n))(hh:hint < n)
  (q:∀m,m≤n→Under κ ((arr.toList.drop base).take m) [k]→Below κ [k] ((arr.toList.drop (base+m)).take (n - m))→Q (some m) st):wpS (model prog w) A E s (mL true k arr base n hint) Q st:=
 vI hL hk kk ks sz ss hh fun m hm m1 m2=>q m hm (fun x hx y hy=>by
  cases mem_singleton.mp hy
  exact m1 x hx) (fun y hy x hx=>by
  cases mem_singleton.mp hy
  exact m2 x hx)
def ja(κ:KeyKind)(a b r:Array Keyed):Prop:=da κ r.toList∧cI κ r.toList (a.toList++b.toList)
theorem jY(a:Array Keyed)(i:Nat):(a.extract i a.size).toList=a.toList.drop i:=by
 rw[toList_extract]
 exact eQ _ _ (by rw[length_toList];exact le_refl _)
theorem ou(a:Array Keyed)(i k:Nat):(a.extract i (i+k)).toList=(a.toList.drop i).take k:=by
 rw[toList_extract]
 show(a.toList.drop i).take (i+k - i)=_
 rw[Nat.add_sub_cancel_left]
theorem dF{a:Array Keyed}{i:Nat}{x:Keyed}(h:a[i]? =some x):a.toList.drop i=x::a.toList.drop (i+1):=by
 rw[←getElem?_toList]at h
 obtain⟨h1,h2⟩:=List.getElem?_eq_some_iff.mp h
 rw[List.drop_eq_getElem_cons h1,h2]
theorem da.head{x:Keyed}{l:List Keyed}(h:da κ (x::l)):Below κ [x] (x::l):=fun a ha b hb=>by
 cases mem_singleton.mp ha
 rcases mem_cons.mp hb with rfl|hb
 ·exact KeyOrd.kle_refl _
 ·exact(List.pairwise_cons.mp h).1 b hb
theorem Under.over{k:Keyed}{l m:List Keyed}(h:Under κ l [k])(b:Below κ [k] m):Under κ l m:=fun x hx y hy=>KeyOrd.klt_of_klt_of_kle (h x hx k (mem_singleton_self _)) (b k (mem_singleton_self _) y hy)
theorem Below.over{k:Keyed}{l m:List Keyed}(h:Below κ l [k])(b:Below κ [k] m):Below κ l m:=fun x hx y hy=>KeyOrd.kle_trans (h x hx k (mem_singleton_self _)) (b k (mem_singleton_self _) y hy)
section
variable {a b out:Array Keyed}{ia ib:Nat}(sa:da κ a.toList)(sb:da κ b.toList)
include sa sb
theorem jd.m8(h:jd κ a.toList b.toList out.toList ia ib)(e:a.size≤ia∨b.size≤ib):ja κ a b (out++a.extract ia a.size++b.extract ib b.size):=by
 unfold ja
 rw[toList_append,toList_append,jY,jY]
 exact h.done sa sb (e.imp (fun e=>List.drop_eq_nil_of_le (by rw[length_toList];exact e)) (fun e=>List.drop_eq_nil_of_le (by rw[length_toList];exact e)))
theorem jd.AJ(h:jd κ a.toList b.toList out.toList ia ib)(u:Under κ (b.toList.drop ib) (a.toList.drop ia)):ja κ a b (out++b.extract ib b.size++a.extract ia a.size):=by
 unfold ja
 rw[toList_append,toList_append,jY,jY]
 exact h.last sa sb u
omit sa in
theorem jd.o9{x:Keyed}(h:jd κ a.toList b.toList out.toList ia ib)(hx:b[ib]? =some x)(u:Under κ [x] (a.toList.drop ia)):jd κ a.toList b.toList (out.push x).toList ia (ib+1):=by
 rw[toList_push]
 have e:(b.toList.drop ib).take 1=[x]:=by rw[dF hx];rfl
 have:=h.uw (k:=1) sb (by rw[e];exact u)
 rwa [e]at this
omit sb in
theorem jd.o7{x:Keyed}(h:jd κ a.toList b.toList out.toList ia ib)(hx:a[ia]? =some x)(u:Below κ [x] (b.toList.drop ib)):jd κ a.toList b.toList (out.push x).toList (ia+1) ib:=by
 rw[toList_push]
 have e:(a.toList.drop ia).take 1=[x]:=by rw[dF hx];rfl
 have:=h.uG (k:=1) sa (by rw[e];exact u)
 rwa [e]at this
end
structure LI(κ:KeyKind)(a b:Array Keyed)(st:SortSt)(out:Array Keyed)(ia ib t:Nat)(st':SortSt):Prop where
 kp:Kept st st'
 m:jd κ a.toList b.toList out.toList ia ib
 la:ia+1 < a.size
 lb:ib < b.size
 t:t≤ia+ib
theorem f7{a:Array Keyed}{i:Nat}(h:i < a.size):∃x,a[i]? =some x∧x∈a.toList:=⟨_,getElem?_pos a i h,by simp⟩
theorem cH{α:Type}{c:Prop} [Decidable c]{m1 m2:StateT SortSt Sem α}{Q:α→SortSt→Prop}{st:SortSt}(h1:c→wpS (model prog w) A E s m1 Q st)(h2:¬c→wpS (model prog w) A E s m2 Q st):wpS (model prog w) A E s (if c then m1 else m2) Q st:=by
 by_cases h:c
 ·rw[if_pos h]
  exact h1 h
 ·rw[if_neg h]
  exact h2 h
theorem jd.ER{a b out:Array Keyed}{ia ib k:Nat}(sa:da κ a.toList)(h:jd κ a.toList b.toList out.toList ia ib)(u:Below κ ((a.toList.drop ia).take k) (b.toList.drop ib)):jd κ a.toList b.toList (out++a.extract ia (ia+k)).toList (ia+k) ib:=by
 rw[toList_append,ou]
 exact h.uG sa u
theorem jd.DF{a b out:Array Keyed}{ia ib k:Nat}(sb:da κ b.toList)(h:jd κ a.toList b.toList out.toList ia ib)(u:Under κ ((b.toList.drop ib).take k) (a.toList.drop ia)):jd κ a.toList b.toList (out++b.extract ib (ib+k)).toList ia (ib+k):=by
 rw[toList_append,ou]
 exact h.uw sb u
theorem rO(a:Array Keyed){i m n:Nat}(h:a.size - i≤n)(hm:m≤n):(a.toList.drop (i+m)).take (n - m)=a.toList.drop (i+m):=eQ _ _ (by rw[length_toList];omega)
theorem sO(hL:j4 prog w A E s κ kd){a b:Array Keyed}{st:SortSt}{Q:Array Keyed→SortSt→Prop}(hk:kindOf st=kd)(ka:∀x∈a.toList,gO κ x)(kb:∀x∈b.toList,gO κ x)(sa:da κ a.toList)(sb:da κ b.toList)(a1:1≤a.size)(b1:1≤b.size)(u1:Under κ (b.toList.take 1) a.toList)(u2:Under κ b.toList (a.toList.drop (a.size - 1)))
  (q:∀r st',Kept st st'→ja κ a b r→Q r st'):wpS (model prog w) A E s (yF a b) Q st:=by
 refine wpS_bind (wpS_lift (wpAny_rule ⟨rfl,?_⟩))
 obtain⟨b0,hb0,mb0⟩:=f7 b1
 refine wpS_bind (cK hb0 ?_)
 have ub:∀ib,Under κ (b.toList.drop ib) (a.toList.drop (a.size - 1)):=fun ib x hx y hy=>u2 x (List.mem_of_mem_drop hx) y hy
 have m0:jd κ a.toList b.toList (#[b0]:Array Keyed).toList 0 1:=by
  have h0:jd κ a.toList b.toList (#[]:Array Keyed).toList 0 0:=⟨List.Pairwise.nil,(fun _ h=>by cases h),(fun _ h=>by cases h),cI.refl _⟩
  refine h0.o9 sb hb0 ?_
  have e:b.toList.take 1=[b0]:=by
   have:=dF hb0
   rw[drop_zero]at this
   rw[this]
   rfl
  rw[e]at u1
  exact u1
 by_cases c1:(1 == b.size)=true
 ·rw[if_pos c1]
  exact wpS_pure (q _ st (Kept.refl _) (m0.m8 sa sb (.inr (by rw[beq_iff_eq]at c1;omega))))
 rw[if_neg c1]
 by_cases c2:(0+1 == a.size)=true
 ·rw[if_pos c2]
  exact wpS_pure (q _ st (Kept.refl _) (m0.AJ sa sb (by rw[beq_iff_eq]at c2;have:=ub 1;rwa [show a.size - 1=0 by omega]at this)))
 rw[if_neg c2]
 rw[beq_iff_eq]at c1 c2
 refine wpS_bind (wpS_get ?_)
 refine wpS_bind (wpS_mono (wpS_forRange (I:=fun x c st'=>∃out ia ib mg,c=(none,out,ia,ib,mg)∧LI κ a b st out ia ib x st')
  (Q:=fun c st'=>∃r c',c=(some r,c')∧Kept st st'∧ja κ a b r) ?step ?fin ⟨_,_,_,_,rfl,Kept.refl _,m0,by omega,by omega,zero_le _⟩) ?post)
 case post=>
  rintro c st' ⟨r,c',rfl,kp,mr⟩
  exact wpS_pure (q r st' kp mr)
 case fin=>
  rintro c st' ⟨out,ia,ib,mg,rfl,li⟩
  have:=li.t
  have:=li.la
  have:=li.lb
  omega
 case step=>
  rintro x c st1 _ hx ⟨out,ia,ib,mg,rfl,li⟩
  dsimp only
  refine wpS_bind (wpS_mono (wpS_forRange (I:=fun y c st'=>∃out ia ib ac bc,c=(none,out,ia,ib,ac,bc)∧LI κ a b st out ia ib (x+y) st')
   (Q:=fun c st'=>(∃r c',c=(some r,c')∧Kept st st'∧ja κ a b r)∨∃out ia ib ac bc,c=(none,out,ia,ib,ac,bc)∧LI κ a b st out ia ib (x+1) st') ?istep ?ifin ⟨_,_,_,_,_,rfl,li⟩) ?ipost)
  case ifin=>
   rintro c st' ⟨out,ia,ib,ac,bc,rfl,li⟩
   have:=li.t
   have:=li.la
   have:=li.lb
   omega
  case istep=>
   rintro y c st2 _ hy ⟨out,ia,ib,ac,bc,rfl,li⟩
   dsimp only
   obtain⟨xb,hxb,mxb⟩:=f7 li.lb
   obtain⟨xa,hxa,mxa⟩:=f7 (show ia < a.size by have:=li.la;omega)
   refine wpS_bind (cK hxb (wpS_bind (cK hxa (wpS_bind (hL xb xa st2 _ (li.kp.kind.trans hk) (kb xb mxb) (ka xa mxa) ?_)))))
   dsimp only
   have ha':=(sa.drop ia)
   rw[dF hxa]at ha'
   have hb':=(sb.drop ib)
   rw[dF hxb]at hb'
   have bela:Below κ [xa] (a.toList.drop ia):=by rw[dF hxa];exact ha'.head
   have belb:Below κ [xb] (b.toList.drop ib):=by rw[dF hxb];exact hb'.head
   have lla:=li.la
   have llb:=li.lb
   have llt:=li.t
   cases hc:κ.blt (key κ xb) (key κ xa) with
   |true=>
    rw[if_pos rfl]
    have m':=li.m.o9 sb hxb (Under.over (k:=xa) (fun x hx y hy=>by cases mem_singleton.mp hx;cases mem_singleton.mp hy;exact hc) bela)
    refine wpS_bind (cK hxb ?_)
    by_cases c3:(ib+1 == b.size)=true
    ·rw[if_pos c3]
     exact wpS_pure (.inl ⟨_,_,rfl,li.kp,m'.m8 sa sb (.inr (by rw[beq_iff_eq]at c3;omega))⟩)
    rw[if_neg c3]
    rw[beq_iff_eq]at c3
    by_cases c4:bc+1 ≥ mg
    ·rw[if_pos c4]
     exact wpS_pure (.inr ⟨_,_,_,_,_,rfl,li.kp,m',lla,by omega,by omega⟩)
    ·rw[if_neg c4]
     exact wpS_pure ⟨_,_,_,_,_,rfl,li.kp,m',lla,by omega,by omega⟩
   |false=>
    rw[if_neg Bool.false_ne_true]
    have m':=li.m.o7 sa hxa (Below.over (k:=xb) (fun x hx y hy=>by cases mem_singleton.mp hx;cases mem_singleton.mp hy;exact hc) belb)
    refine wpS_bind (cK hxa ?_)
    by_cases c3:(ia+1+1 == a.size)=true
    ·rw[if_pos c3]
     exact wpS_pure (.inl ⟨_,_,rfl,li.kp,m'.AJ sa sb (by rw[beq_iff_eq]at c3;have:=ub ib;rwa [show a.size - 1=ia+1 by omega]at this)⟩)
    rw[if_neg c3]
    rw[beq_iff_eq]at c3
    by_cases c4:ac+1 ≥ mg
    ·rw[if_pos c4]
     exact wpS_pure (.inr ⟨_,_,_,_,_,rfl,li.kp,m',by omega,by omega,by omega⟩)
    ·rw[if_neg c4]
     exact wpS_pure ⟨_,_,_,_,_,rfl,li.kp,m',by omega,by omega,by omega⟩
  case ipost=>
   rintro c st2 (⟨r,c',rfl,kp,mr⟩|⟨out,ia,ib,ac,bc,rfl,li⟩)
   ·exact wpS_pure ⟨r,_,rfl,kp,mr⟩
   dsimp only
   refine wpS_bind (wpS_lift (wpAny_rule ⟨rfl,?_⟩))
   refine wpS_bind (wpS_mono (wpS_forRange (I:=fun y c st'=>∃out ia ib mg ac bc,c=(none,out,ia,ib,mg,ac,bc)∧LI κ a b st out ia ib (x+1+y) st')
    (Q:=fun c st'=>(∃r c',c=(some r,c')∧Kept st st'∧ja κ a b r)∨∃out ia ib mg ac bc,c=(none,out,ia,ib,mg,ac,bc)∧LI κ a b st out ia ib (x+1) st') ?gstep ?gfin ⟨_,_,_,_,_,_,rfl,li⟩) ?gpost)
   case gfin=>
    rintro c st' ⟨out,ia,ib,mg,ac,bc,rfl,li⟩
    have:=li.t
    have:=li.la
    have:=li.lb
    omega
   case gpost=>
    rintro c st3 (⟨r,c',rfl,kp,mr⟩|⟨out,ia,ib,mg,ac,bc,rfl,li⟩)
    ·exact wpS_pure ⟨r,_,rfl,kp,mr⟩
    dsimp only
    exact wpS_bind (j7 fun st4 kp4=>wpS_pure ⟨_,_,_,_,rfl,li.kp.trans kp4,li.m,li.la,li.lb,li.t⟩)
   case gstep=>
    rintro y c st3 _ hy ⟨out,ia,ib,mg,ac,bc,rfl,li⟩
    dsimp only
    obtain⟨xb,hxb,mxb⟩:=f7 li.lb
    have hb':=(sb.drop ib)
    rw[dF hxb]at hb'
    have belb:Below κ [xb] (b.toList.drop ib):=by rw[dF hxb];exact hb'.head
    clear hb'
    have belA:∀{i:Nat}{x:Keyed},a[i]? =some x→Below κ [x] (a.toList.drop i):=fun {i x} hx=>by
     have h:=sa.drop i
     rw[dF hx]at h ⊢
     exact h.head
    have ubl:∀{i:Nat}(j:Nat),i+1=a.size→Under κ (b.toList.drop j) (a.toList.drop i):=fun {i} j e=>by
     have:=ub j
     rwa [show a.size - 1=i by omega]at this
    have lla:=li.la
    have llb:=li.lb
    have llt:=li.t
    refine cH (fun _=>?_) (fun _=>?_)
    all_goals
     refine wpS_bind (j7 fun st4 kp4=>?_)
     have kp3:=li.kp.trans kp4
     refine wpS_bind (cK hxb (wpS_bind (og hL (kp3.kind.trans hk) (kb xb mxb) ka (by omega) (by rw[eQ _ _ (by rw[length_toList];exact le_refl _)];exact sa.drop _) (by omega) fun k1 hk1 bl1 un1=>?_)))
     dsimp only
     rw[rO a (le_refl _) hk1]at un1
     have m2:=jd.ER sa li.m (Below.over bl1 belb)
     refine cH (fun c1=>cH (fun c2=>?_) (fun c2=>cH (fun c7=>?_) (fun c7=>?_))) (fun c1=>?_)
     ·rw[beq_iff_eq]at c2
      exact wpS_pure (.inl ⟨_,_,rfl,kp3,m2.AJ sa sb (ubl _ (by omega))⟩)
     ·rw[beq_iff_eq]at c7
      exact wpS_pure (.inl ⟨_,_,rfl,kp3,m2.m8 sa sb (.inl (by omega))⟩)
     rw[beq_iff_eq]at c2 c7
     have lt:=show ia+k1 < a.size by omega
     rotate_left
     have e:k1=0:=by omega
     subst e
     have m2:=li.m
     have lt:=show ia < a.size by omega
     all_goals
      have m3:=jd.o9 sb m2 hxb un1
      refine wpS_bind (cK hxb ?_)
      refine cH (fun c3=>?_) (fun c3=>?_)
      ·rw[beq_iff_eq]at c3
       exact wpS_pure (.inl ⟨_,_,rfl,kp3,m3.m8 sa sb (.inr (by omega))⟩)
      rw[beq_iff_eq]at c3
      obtain⟨xc,hxc,mxc⟩:=f7 lt
      have belc:=belA hxc
      refine wpS_bind (cK hxc (wpS_bind (nu hL (kp3.kind.trans hk) (ka xc mxc) kb (by omega) (by rw[eQ _ _ (by rw[length_toList];omega)];exact sb.drop _) (by omega) fun k2 hk2 ul bl=>?_)))
      dsimp only
      rw[rO b (by omega) hk2]at bl
      have m4:=jd.DF sb m3 (Under.over ul belc)
      refine cH (fun c4=>cH (fun c6=>?_) (fun c6=>?_)) (fun c4=>?_)
      ·rw[beq_iff_eq]at c6
       exact wpS_pure (.inl ⟨_,_,rfl,kp3,m4.m8 sa sb (.inr (by omega))⟩)
      rw[beq_iff_eq]at c6
      rotate_left
      have e:k2=0:=by omega
      subst e
      have m4:=m3
      all_goals
       have m5:=jd.o7 sa m4 hxc bl
       refine wpS_bind (cK hxc ?_)
       refine cH (fun c5=>?_) (fun c5=>?_)
       ·rw[beq_iff_eq]at c5
        exact wpS_pure (.inl ⟨_,_,rfl,kp3,m5.AJ sa sb (ubl _ (by omega))⟩)
       ·rw[beq_iff_eq]at c5
        exact cH (fun _=>wpS_pure (.inr ⟨_,_,_,_,_,_,rfl,kp3,m5,by omega,by omega,by omega⟩)) (fun _=>wpS_pure ⟨_,_,_,_,_,_,rfl,kp3,m5,by omega,by omega,by omega⟩)
end
end TS
namespace TS
open PySem PyProof.Rows
variable {κ:KeyKind}
theorem jH(l:List Keyed){m n:Nat}(h:m≤n):l.take n=l.take m++(l.drop m).take (n - m):=by
 rw[←List.drop_take]
 have:=take_append_drop m (l.take n)
 rw[List.take_take,Nat.min_eq_left h]at this
 exact this.symm
theorem da.take{l:List Keyed}(h:da κ l)(i:Nat):da κ (l.take i):=List.Pairwise.sublist (List.take_sublist i l) h
structure jc(κ:KeyKind)(al bl o:List Keyed)(na nb:Nat):Prop where
 so:da κ o
 oa:Below κ (al.take na) o
 ob:Below κ (bl.take nb) o
 st:cI κ (al.take na++(bl.take nb++o)) (al++bl)
theorem Below.yr{l m n:List Keyed}(h:Below κ l m)(h':Below κ l n):Below κ l (m++n):=fun x hx y hy=>(mem_append.mp hy).elim (h x hx y) (h' x hx y)
theorem Below.CT{l m n:List Keyed}(h:Below κ (l++m) n):Below κ l n:=fun x hx y hy=>h x (mem_append_left _ hx) y hy
theorem Below.Al{l m n:List Keyed}(h:Below κ (l++m) n):Below κ m n:=fun x hx y hy=>h x (mem_append_right _ hx) y hy
theorem jc.uG{al bl o:List Keyed}{na nb m:Nat}(sa:da κ al)(h:jc κ al bl o na nb)(hm:m≤na)(u:Under κ (bl.take nb) ((al.drop m).take (na - m))):jc κ al bl ((al.drop m).take (na - m)++o) m nb:=by
 have e:=jH al hm
 have s:=sa.take na
 have oa:=h.oa
 have st:=h.st
 rw[e]at s oa st
 refine⟨s.right.append h.so oa.Al,s.mid.yr oa.CT,u.below.yr h.ob,cI.trans ?_ st⟩
 rw[append_assoc]
 refine(cI.refl _).append ?_
 rw[←append_assoc,←append_assoc]
 exact(cI.swap u).append (cI.refl _)
theorem jc.uw{al bl o:List Keyed}{na nb m:Nat}(sb:da κ bl)(h:jc κ al bl o na nb)(hm:m≤nb)(u:Below κ (al.take na) ((bl.drop m).take (nb - m))):jc κ al bl ((bl.drop m).take (nb - m)++o) na m:=by
 have e:=jH bl hm
 have s:=sb.take nb
 have ob:=h.ob
 have st:=h.st
 rw[e]at s ob st
 refine⟨s.right.append h.so ob.Al,u.yr h.oa,s.mid.yr ob.CT,?_⟩
 rw[←append_assoc (bl.take m)]
 exact st
theorem jc.done{al bl o:List Keyed}{na nb:Nat}(sa:da κ al)(sb:da κ bl)(h:jc κ al bl o na nb)(e:na=0∨nb=0):da κ (al.take na++bl.take nb++o)∧cI κ (al.take na++bl.take nb++o) (al++bl):=by
 refine⟨?_,by rw[append_assoc];exact h.st⟩
 rcases e with e|e
 ·rw[e,take_zero,nil_append]
  exact(sb.take nb).append h.so h.ob
 ·rw[e,take_zero,append_nil]
  exact(sa.take na).append h.so h.oa
theorem jc.first{al bl o:List Keyed}{na nb:Nat}(sa:da κ al)(sb:da κ bl)(h:jc κ al bl o na nb)(u:Under κ (bl.take nb) (al.take na)):da κ (bl.take nb++al.take na++o)∧cI κ (bl.take nb++al.take na++o) (al++bl):=by
 refine⟨?_,cI.trans ?_ h.st⟩
 ·rw[append_assoc]
  exact(sb.take nb).append ((sa.take na).append h.so h.oa) (u.below.yr h.ob)
 ·rw[←append_assoc]
  exact(cI.swap u).append (cI.refl _)
def yO:Array Keyed→Array Keyed→StateT SortSt Sem (Array Keyed):=sortPriv% PySem.Builtin.mergeHi
section
variable {prog:Program}{w:World}{A:Around}{E:Value→Shared→Prop}{s:Shared}{kd:SortKind}
abbrev bk(out:Array Keyed):List Keyed:=out.toList.reverse
section
variable {a b out:Array Keyed}{na nb:Nat}(sa:da κ a.toList)(sb:da κ b.toList)
include sa sb
theorem jc.m8(h:jc κ a.toList b.toList (bk out) na nb)(e:na=0∨nb=0):ja κ a b (a.extract 0 na++b.extract 0 nb++out.reverse):=by
 unfold ja
 rw[toList_append,toList_append,toList_extract,toList_extract,toList_reverse]
 exact h.done sa sb e
theorem jc.AV(h:jc κ a.toList b.toList (bk out) na nb)(u:Under κ (b.toList.take nb) (a.toList.take na)):ja κ a b (b.extract 0 nb++a.extract 0 na++out.reverse):=by
 unfold ja
 rw[toList_append,toList_append,toList_extract,toList_extract,toList_reverse]
 exact h.first sa sb u
omit sa in
theorem jc.DF{m:Nat}(h:jc κ a.toList b.toList (bk out) na nb)(hm:m≤nb)(u:Below κ (a.toList.take na) ((b.toList.drop m).take (nb - m))):jc κ a.toList b.toList (bk (out++(b.extract m nb).reverse)) na m:=by
 have e:bk (out++(b.extract m nb).reverse)=(b.toList.drop m).take (nb - m)++bk out:=by
  show(out++(b.extract m nb).reverse).toList.reverse=_
  rw[toList_append,toList_reverse,toList_extract,reverse_append,reverse_reverse]
 rw[e]
 exact h.uw sb hm u
omit sb in
theorem jc.ER{m:Nat}(h:jc κ a.toList b.toList (bk out) na nb)(hm:m≤na)(u:Under κ (b.toList.take nb) ((a.toList.drop m).take (na - m))):jc κ a.toList b.toList (bk (out++(a.extract m na).reverse)) m nb:=by
 have e:bk (out++(a.extract m na).reverse)=(a.toList.drop m).take (na - m)++bk out:=by
  show(out++(a.extract m na).reverse).toList.reverse=_
  rw[toList_append,toList_reverse,toList_extract,reverse_append,reverse_reverse]
 rw[e]
 exact h.uG sa hm u
end
theorem pM{a:Array Keyed}{m n:Nat}{x:Keyed}(hx:a[m]? =some x)(h:n=m+1):(a.toList.drop m).take (n - m)=[x]:=by
 rw[dF hx,show n - m=1 by omega]
 rfl
theorem v9(out:Array Keyed)(x:Keyed):bk (out.push x)=[x]++bk out:=by
 show(out.push x).toList.reverse=_
 rw[toList_push,reverse_append]
 rfl
theorem jc.o7{a b out:Array Keyed}{na nb m:Nat}{x:Keyed}(sa:da κ a.toList)(h:jc κ a.toList b.toList (bk out) na nb)(hx:a[m]? =some x)(hm:na=m+1)(u:Under κ (b.toList.take nb) [x]):jc κ a.toList b.toList (bk (out.push x)) m nb:=by
 have e:=pM hx hm
 have:=h.uG (m:=m) sa (by omega) (by rw[e];exact u)
 rw[e]at this
 rw[v9]
 exact this
theorem jc.o9{a b out:Array Keyed}{na nb m:Nat}{x:Keyed}(sb:da κ b.toList)(h:jc κ a.toList b.toList (bk out) na nb)(hx:b[m]? =some x)(hm:nb=m+1)(u:Below κ (a.toList.take na) [x]):jc κ a.toList b.toList (bk (out.push x)) na m:=by
 have e:=pM hx hm
 have:=h.uw (m:=m) sb (by omega) (by rw[e];exact u)
 rw[e]at this
 rw[v9]
 exact this
theorem da.last{a:Array Keyed}(h:da κ a.toList){m n:Nat}{x:Keyed}(hx:a[m]? =some x)(hn:n=m+1):Below κ (a.toList.take n) [x]:=by
 have s:=h.take n
 have e:=jH a.toList (show m≤n by omega)
 rw[pM hx hn]at e
 rw[e]at s ⊢
 exact s.mid.append fun y hy z hz=>by
  cases mem_singleton.mp hy
  cases mem_singleton.mp hz
  exact KeyOrd.kle_refl _
theorem Below.under{k:Keyed}{l m:List Keyed}(h:Below κ l [k])(u:Under κ [k] m):Under κ l m:=fun x hx y hy=>KeyOrd.klt_of_kle_of_klt (h x hx k (mem_singleton_self _)) (u k (mem_singleton_self _) y hy)
structure HI(κ:KeyKind)(a b:Array Keyed)(st:SortSt)(out:Array Keyed)(na nb t:Nat)(st':SortSt):Prop where
 kp:Kept st st'
 m:jc κ a.toList b.toList (bk out) na nb
 la:1≤na
 lb:2≤nb
 ha:na≤a.size
 hb:nb≤b.size
 t:na+nb+t≤a.size+b.size
theorem rA(hL:j4 prog w A E s κ kd){a b:Array Keyed}{st:SortSt}{Q:Array Keyed→SortSt→Prop}(hk:kindOf st=kd)(ka:∀x∈a.toList,gO κ x)(kb:∀x∈b.toList,gO κ x)(sa:da κ a.toList)(sb:da κ b.toList)(a1:1≤a.size)(b1:1≤b.size)(u1:Under κ (b.toList.take 1) a.toList)(u2:Under κ b.toList (a.toList.drop (a.size - 1)))
  (q:∀r st',Kept st st'→ja κ a b r→Q r st'):wpS (model prog w) A E s (yO a b) Q st:=by
 refine wpS_bind (wpS_lift (wpAny_rule ⟨rfl,?_⟩))
 obtain⟨a0,ha0,ma0⟩:=f7 (show a.size - 1 < a.size by omega)
 refine wpS_bind (cK ha0 ?_)
 have ubf:∀{nb:Nat}(na:Nat),nb=1→Under κ (b.toList.take nb) (a.toList.take na):=fun {nb} na e x hx y hy=>by
  subst e
  exact u1 x hx y (List.mem_of_mem_take hy)
 have m0:jc κ a.toList b.toList (bk #[a0]) (a.size - 1) b.size:=by
  have h0:jc κ a.toList b.toList (bk #[]) a.size b.size:=⟨List.Pairwise.nil,Below.nil,Below.nil,by
   rw[take_of_length_le (by rw[length_toList];exact le_refl _),take_of_length_le (by rw[length_toList];exact le_refl _)]
   show cI κ (_++(_++[])) _
   rw[append_nil]
   exact cI.refl _⟩
  refine h0.o7 sa ha0 (by omega) fun x hx y hy=>u2 x (List.mem_of_mem_take hx) y ?_
  rw[dF ha0]
  cases mem_singleton.mp hy
  exact mem_cons_self
 refine cH (fun c1=>?_) (fun c1=>?_)
 ·rw[beq_iff_eq]at c1
  exact wpS_pure (q _ st (Kept.refl _) (m0.m8 sa sb (.inl c1)))
 refine cH (fun c2=>?_) (fun c2=>?_)
 ·rw[beq_iff_eq]at c2
  exact wpS_pure (q _ st (Kept.refl _) (m0.AV sa sb (ubf _ c2)))
 rw[beq_iff_eq]at c1 c2
 refine wpS_bind (wpS_get ?_)
 refine wpS_bind (wpS_mono (wpS_forRange (I:=fun x c st'=>∃na nb out mg,c=(none,na,nb,out,mg)∧HI κ a b st out na nb x st')
  (Q:=fun c st'=>∃r c',c=(some r,c')∧Kept st st'∧ja κ a b r) ?step ?fin ⟨_,_,_,_,rfl,Kept.refl _,m0,by omega,by omega,by omega,by omega,by omega⟩) ?post)
 case post=>
  rintro c st' ⟨r,c',rfl,kp,mr⟩
  exact wpS_pure (q r st' kp mr)
 case fin=>
  rintro c st' ⟨na,nb,out,mg,rfl,li⟩
  have:=li.t
  have:=li.la
  have:=li.lb
  omega
 case step=>
  rintro x c st1 _ hx ⟨na,nb,out,mg,rfl,li⟩
  dsimp only
  refine wpS_bind (wpS_mono (wpS_forRange (I:=fun y c st'=>∃na nb out ac bc,c=(none,na,nb,out,ac,bc)∧HI κ a b st out na nb (x+y) st')
   (Q:=fun c st'=>(∃r c',c=(some r,c')∧Kept st st'∧ja κ a b r)∨∃na nb out ac bc,c=(none,na,nb,out,ac,bc)∧HI κ a b st out na nb (x+1) st') ?istep ?ifin ⟨_,_,_,_,_,rfl,li⟩) ?ipost)
  case ifin=>
   rintro c st' ⟨na,nb,out,ac,bc,rfl,li⟩
   have:=li.t
   have:=li.la
   have:=li.lb
   omega
  case istep=>
   rintro y c st2 _ hy ⟨na,nb,out,ac,bc,rfl,li⟩
   dsimp only
   have lla:=li.la
   have llb:=li.lb
   have lha:=li.ha
   have lhb:=li.hb
   have llt:=li.t
   obtain⟨xb,hxb,mxb⟩:=f7 (show nb - 1 < b.size by omega)
   obtain⟨xa,hxa,mxa⟩:=f7 (show na - 1 < a.size by omega)
   have belb:=sb.last hxb (show nb=_ by omega)
   have bela:=sa.last hxa (show na=_ by omega)
   refine wpS_bind (cK hxb (wpS_bind (cK hxa (wpS_bind (hL xb xa st2 _ (li.kp.kind.trans hk) (kb xb mxb) (ka xa mxa) ?_)))))
   dsimp only
   cases hc:κ.blt (key κ xb) (key κ xa) with
   |true=>
    rw[if_pos rfl]
    have m':=li.m.o7 sa hxa (by omega) (Below.under (k:=xb) belb (fun x hx y hy=>by cases mem_singleton.mp hx;cases mem_singleton.mp hy;exact hc))
    refine wpS_bind (cK hxa ?_)
    refine cH (fun c3=>?_) (fun c3=>?_)
    ·rw[beq_iff_eq]at c3
     exact wpS_pure (.inl ⟨_,_,rfl,li.kp,m'.m8 sa sb (.inl c3)⟩)
    rw[beq_iff_eq]at c3
    exact cH (fun _=>wpS_pure (.inr ⟨_,_,_,_,_,rfl,li.kp,m',by omega,by omega,by omega,by omega,by omega⟩)) (fun _=>wpS_pure ⟨_,_,_,_,_,rfl,li.kp,m',by omega,by omega,by omega,by omega,by omega⟩)
   |false=>
    rw[if_neg Bool.false_ne_true]
    have m':=li.m.o9 sb hxb (by omega) (Below.over (k:=xa) bela (fun x hx y hy=>by cases mem_singleton.mp hx;cases mem_singleton.mp hy;exact hc))
    refine wpS_bind (cK hxb ?_)
    refine cH (fun c3=>?_) (fun c3=>?_)
    ·rw[beq_iff_eq]at c3
     exact wpS_pure (.inl ⟨_,_,rfl,li.kp,m'.AV sa sb (ubf _ c3)⟩)
    rw[beq_iff_eq]at c3
    exact cH (fun _=>wpS_pure (.inr ⟨_,_,_,_,_,rfl,li.kp,m',by omega,by omega,by omega,by omega,by omega⟩)) (fun _=>wpS_pure ⟨_,_,_,_,_,rfl,li.kp,m',by omega,by omega,by omega,by omega,by omega⟩)
  case ipost=>
   rintro c st2 (⟨r,c',rfl,kp,mr⟩|⟨na,nb,out,ac,bc,rfl,li⟩)
   ·exact wpS_pure ⟨r,_,rfl,kp,mr⟩
   dsimp only
   refine wpS_bind (wpS_lift (wpAny_rule ⟨rfl,?_⟩))
   refine wpS_bind (wpS_mono (wpS_forRange (I:=fun y c st'=>∃na nb out mg ac bc,c=(none,na,nb,out,mg,ac,bc)∧HI κ a b st out na nb (x+1+y) st')
    (Q:=fun c st'=>(∃r c',c=(some r,c')∧Kept st st'∧ja κ a b r)∨∃na nb out mg ac bc,c=(none,na,nb,out,mg,ac,bc)∧HI κ a b st out na nb (x+1) st') ?gstep ?gfin ⟨_,_,_,_,_,_,rfl,li⟩) ?gpost)
   case gfin=>
    rintro c st' ⟨na,nb,out,mg,ac,bc,rfl,li⟩
    have:=li.t
    have:=li.la
    have:=li.lb
    omega
   case gpost=>
    rintro c st3 (⟨r,c',rfl,kp,mr⟩|⟨na,nb,out,mg,ac,bc,rfl,li⟩)
    ·exact wpS_pure ⟨r,_,rfl,kp,mr⟩
    dsimp only
    exact wpS_bind (j7 fun st4 kp4=>wpS_pure ⟨_,_,_,_,rfl,li.kp.trans kp4,li.m,li.la,li.lb,li.ha,li.hb,li.t⟩)
   case gstep=>
    rintro y c st3 _ hy ⟨na,nb,out,mg,ac,bc,rfl,li⟩
    dsimp only
    have lla:=li.la
    have llb:=li.lb
    have lha:=li.ha
    have lhb:=li.hb
    have llt:=li.t
    obtain⟨xb,hxb,mxb⟩:=f7 (show nb - 1 < b.size by omega)
    have belb:=sb.last hxb (show nb=_ by omega)
    refine cH (fun _=>?_) (fun _=>?_)
    all_goals
     refine wpS_bind (j7 fun st4 kp4=>?_)
     have kp3:=li.kp.trans kp4
     refine wpS_bind (cK hxb (wpS_bind (og hL (kp3.kind.trans hk) (kb xb mxb) ka (by omega) (by rw[drop_zero];exact sa.take _) (by omega) fun k1 hk1 bl1 un1=>?_)))
     dsimp only
     rw[drop_zero]at bl1
     rw[zero_add]at un1
     have m2:=jc.ER sa li.m hk1 (Below.under belb un1)
     refine cH (fun c1=>cH (fun c2=>?_) (fun c2=>?_)) (fun c1=>?_)
     ·rw[beq_iff_eq]at c2
      exact wpS_pure (.inl ⟨_,_,rfl,kp3,m2.m8 sa sb (.inl (by omega))⟩)
     rw[beq_iff_eq]at c2
     rotate_left
     have e:k1=na:=by omega
     subst e
     have m2:=li.m
     all_goals
      have m3:=jc.o9 sb m2 hxb (by omega) bl1
      refine wpS_bind (cK hxb ?_)
      refine cH (fun c3=>?_) (fun c3=>?_)
      ·rw[beq_iff_eq]at c3
       exact wpS_pure (.inl ⟨_,_,rfl,kp3,m3.AV sa sb (ubf _ (by omega))⟩)
      rw[beq_iff_eq]at c3
      obtain⟨xc,hxc,mxc⟩:=f7 (show k1 - 1 < a.size by omega)
      have belc:=sa.last hxc (show k1=_ by omega)
      refine wpS_bind (cK hxc (wpS_bind (nu hL (kp3.kind.trans hk) (ka xc mxc) kb (by omega) (by rw[drop_zero];exact sb.take _) (by omega) fun k2 hk2 ul bl=>?_)))
      dsimp only
      rw[drop_zero]at ul
      rw[zero_add]at bl
      have m4:=jc.DF sb m3 hk2 (Below.over belc bl)
      refine cH (fun c4=>cH (fun c6=>?_) (fun c6=>cH (fun c7=>?_) (fun c7=>?_))) (fun c4=>?_)
      ·rw[beq_iff_eq]at c6
       exact wpS_pure (.inl ⟨_,_,rfl,kp3,m4.AV sa sb (ubf _ (by omega))⟩)
      ·rw[beq_iff_eq]at c7
       exact wpS_pure (.inl ⟨_,_,rfl,kp3,m4.m8 sa sb (.inr (by omega))⟩)
      rw[beq_iff_eq]at c6 c7
      rotate_left
      have e:k2=nb - 1:=by omega
      subst e
      have m4:=m3
      all_goals
       have m5:=jc.o7 sa m4 hxc (by omega) ul
       refine wpS_bind (cK hxc ?_)
       refine cH (fun c5=>?_) (fun c5=>?_)
       ·rw[beq_iff_eq]at c5
        exact wpS_pure (.inl ⟨_,_,rfl,kp3,m5.m8 sa sb (.inl (by omega))⟩)
       ·rw[beq_iff_eq]at c5
        exact cH (fun _=>wpS_pure (.inr ⟨_,_,_,_,_,_,rfl,kp3,m5,by omega,by omega,by omega,by omega,by omega⟩)) (fun _=>wpS_pure ⟨_,_,_,_,_,_,rfl,kp3,m5,by omega,by omega,by omega,by omega,by omega⟩)
end
end TS
namespace TS
open PySem PyProof.Rows
variable {κ:KeyKind}
def vb:Nat→Nat→StateT SortSt Sem (Option Nat):=sortPriv% PySem.Builtin.countRun
def qP:Nat→Nat→Nat→StateT SortSt Sem Bool:=sortPriv% PySem.Builtin.binarySort
theorem sj{xs:Array Keyed}{P G R:List Keyed}(e:xs.toList=P++(G++R)){i j:Nat}(hi:i=P.length)(hj:j=i+G.length):(mirror xs i j ((j - i) / 2)).toList=P++(G.reverse++R):=by
 have hs:xs.size=P.length+(G.length+R.length):=by rw[←length_toList,e,length_append,length_append]
 apply List.ext_getElem?
 intro k
 rw[getElem?_toList,getElem?_mirror_all (by omega),←getElem?_toList,←getElem?_toList,e]
 by_cases h:i≤k∧k < j
 ·rw[if_pos h,getElem?_append_right (by omega),getElem?_append_left (by omega),getElem?_append_right (by omega),getElem?_append_left (by rw[length_reverse];omega),List.getElem?_reverse (by omega)]
  congr 1
  omega
 ·rw[if_neg h]
  by_cases h1:k < i
  ·rw[getElem?_append_left (by omega),getElem?_append_left (by omega)]
  ·rw[getElem?_append_right (by omega),getElem?_append_right (by omega),getElem?_append_right (by omega),getElem?_append_right (by rw[length_reverse];omega),length_reverse]
theorem sF{xs:Array Keyed}{P T R:List Keyed}{x:Keyed}(e:xs.toList=P++(T++x::R)){src d:Nat}(hi:src=P.length+T.length)(hd:d=T.length):(bubble xs src d).toList=P++(x::T++R):=by
 have hs:xs.size=P.length+(T.length+(R.length+1)):=by rw[←length_toList,e,length_append,length_append];rfl
 apply List.ext_getElem?
 intro k
 rw[getElem?_toList,getElem?_bubble (by omega) d (by omega),←getElem?_toList,←getElem?_toList,←getElem?_toList,e]
 by_cases h:k=src - d
 ·rw[if_pos h,getElem?_append_right (by omega),getElem?_append_right (by omega),getElem?_append_right (by omega),show src - P.length - T.length=0 by omega,show k - P.length=0 by omega]
  rfl
 ·rw[if_neg h]
  by_cases h1:src - d < k∧k≤src
  ·rw[if_pos h1,getElem?_append_right (by omega),getElem?_append_left (by omega),getElem?_append_right (by omega),getElem?_append_left (by show _ < T.length+1;omega),show k - P.length=(k - 1 - P.length)+1 by omega,List.getElem?_cons_succ]
  ·rw[if_neg h1]
   by_cases h2:k < P.length
   ·rw[getElem?_append_left h2,getElem?_append_left h2]
   ·rw[getElem?_append_right (by omega),getElem?_append_right (by omega),getElem?_append_right (by omega),getElem?_append_right (by show T.length+1≤_;omega),show k - P.length - T.length=(k - P.length - (T.length+1))+1 by omega,List.getElem?_cons_succ]
    rfl
theorem jz:∀(m:List Keyed) (j off:Nat) (xs:Array Keyed) (P Y R:List Keyed),xs.toList=P++(Y++R)→m.length=Y.length→off+j=P.length→
  ((m.zipIdx j).foldl (fun(a:Array Keyed) (x:Keyed×Nat)=>a.setIfInBounds (off+x.2) x.1) xs).toList=P++(m++R)
 |[],j,off,xs,P,Y,R,e,l,_=>by
  rw[List.zipIdx_nil,List.foldl_nil,e,eq_nil_of_length_eq_zero l.symm]
 |x::m,j,off,xs,P,[],R,e,l,_=>by cases l
 |x::m,j,off,xs,P,y::Y,R,e,l,h=>by
  rw[List.zipIdx_cons,List.foldl_cons]
  have ih:=jz m (j+1) off (xs.setIfInBounds (off+j) x) (P++[x]) Y R (by
   rw[Array.toList_setIfInBounds,e,h,List.set_append_right _ _ (le_refl _),sub_self,append_assoc]
   rfl) (Nat.succ.inj l) (by rw[length_append,←h];rfl)
  rw[ih,append_assoc]
  rfl
structure tJ(st st':SortSt):Prop where
 kind:kindOf st'=kindOf st
 pend:pendingOf st'=pendingOf st
 failed:failedOf st'=failedOf st
theorem tJ.refl(st:SortSt):tJ st st:=⟨rfl,rfl,rfl⟩
theorem tJ.trans{a b c:SortSt}(h:tJ a b)(h':tJ b c):tJ a c:=⟨h'.kind.trans h.kind,h'.pend.trans h.pend,h'.failed.trans h.failed⟩
section
variable {prog:Program}{w:World}{A:Around}{E:Value→Shared→Prop}{s:Shared}{kd:SortKind}
theorem jU{st:SortSt}{P G R:List Keyed}(e:(arrOf st).toList=P++(G++R)){i j:Nat}(hi:i=P.length)(hj:j=i+G.length){Q:Unit→SortSt→Prop}(q:∀st',tJ st st'→(arrOf st').toList=P++(G.reverse++R)→Q () st'):wpS (model prog w) A E s (reverseSlice' i j) Q st:=by
 rw[reverseSlice'_eq]
 exact wpS_modify (q _ ⟨rfl,rfl,rfl⟩ (sj e hi hj))
theorem yh{st:SortSt}{P T R:List Keyed}{x:Keyed}(e:(arrOf st).toList=P++(T++x::R)){src dst:Nat}(hi:src=P.length+T.length)(hd:dst=P.length){Q:Unit→SortSt→Prop}(q:∀st',tJ st st'→(arrOf st').toList=P++(x::T++R)→Q () st'):wpS (model prog w) A E s (moveDown' src dst) Q st:=by
 rw[moveDown'_eq]
 exact wpS_modify (q _ ⟨rfl,rfl,rfl⟩ (sF e hi (by omega)))
theorem gM(hL:j4 prog w A E s κ kd){st:SortSt}{i j:Nat}{x y:Keyed}{Q:Option Bool→SortSt→Prop}(hk:kindOf st=kd)(hx:(arrOf st).toList[i]? =some x)(hy:(arrOf st).toList[j]? =some y)(kx:gO κ x)(ky:gO κ y)(q:Q (some (κ.blt (key κ x) (key κ y))) st):wpS (model prog w) A E s (ltAt' i j) Q st:=by
 rw[ltAt'_eq]
 refine wpS_bind (wpS_get ?_)
 rw[getElem?_toList]at hx hy
 exact wpS_bind (cK hx (wpS_bind (cK hy (hL x y st Q hk kx ky q))))
theorem mI{P R:List Keyed}{x:Keyed}{i:Nat}(h:i=P.length):(P++x::R)[i]? =some x:=by
 rw[getElem?_append_right (by omega),h,sub_self]
 rfl
theorem jX{P C R:List Keyed}{x:Keyed}{i:Nat}(h:i=P.length+C.length):(P++((C++[x])++R))[i]? =some x:=by
 rw[append_assoc,←append_assoc P]
 exact mI (by rw[length_append];exact h)
theorem mH{P C R:List Keyed}{x:Keyed}{i:Nat}(h:i=P.length+C.length):(P++(C++x::R))[i]? =some x:=by
 rw[←append_assoc]
 exact mI (by rw[length_append];exact h)
theorem da.snoc{l:List Keyed}{x:Keyed}(h:da κ l)(b:Below κ l [x]):da κ (l++[x]):=h.append (List.pairwise_singleton _ _) b
theorem kh{l:List Keyed}(h:1≤l.length):∃c x,l=c++[x]:=⟨l.dropLast,l.getLast (by intro e;rw[e]at h;cases h),(List.dropLast_concat_getLast _).symm⟩
theorem da.ym{c:List Keyed}{x y:Keyed}(h:da κ (c++[x]))(b:κ.kle (key κ x) (key κ y)):Below κ (c++[x]) [y]:=fun u hu v hv=>by
 cases mem_singleton.mp hv
 rcases mem_append.mp hu with hu|hu
 ·exact KeyOrd.kle_trans (h.mid u hu x (mem_singleton_self _)) b
 ·cases mem_singleton.mp hu
  exact b
structure uk(κ:KeyKind)(st0:SortSt)(P S:List Keyed)(n:Nat)(M O R:List Keyed)(st:SortSt):Prop where
 e:(arrOf st).toList=P++(M++R)
 s:S=O++R
 m:M.length=n
 o:O.length=n
 sm:da κ M
 tm:cI κ M O
 cg:tJ st0 st
structure zZ(κ:KeyKind)(st0:SortSt)(P S:List Keyed)(n neq:Nat)(C G O R:List Keyed)(st:SortSt):Prop where
 e:(arrOf st).toList=P++((C++G)++R)
 s:S=O++R
 o:O.length=n
 m:C.length+G.length=n
 g:G.length=neq+1
 sc:da κ C.reverse
 un:Under κ G C
 gg:Below κ G G
 t:cI κ (C.reverse++G) O
 cg:tJ st0 st
theorem qt{P C G R:List Keyed}:P++((C++G)++R)=(P++C)++(G++R):=by rw[append_assoc,append_assoc]
theorem nN{G:List Keyed}(h:Below κ G G):da κ G:=List.pairwise_iff_forall_sublist.mpr fun {a b} hs=>h a (hs.subset mem_cons_self) b (hs.subset (mem_cons_of_mem _ (mem_singleton_self _)))
theorem Under.rev{G C:List Keyed}(h:Under κ G C):Under κ G C.reverse:=fun x hx y hy=>h x hx y (mem_reverse.mp hy)
theorem zZ.up{st0:SortSt}{P S C G O R:List Keyed}{n neq:Nat}{st st':SortSt}(d:zZ κ st0 P S n neq C G O R st)(cg:tJ st st')(e:(arrOf st').toList=P++((G++C.reverse)++R)):uk κ st0 P S n (G++C.reverse) O R st':=
 ⟨e,d.s,by have:=d.m;rw[length_append,length_reverse];omega,d.o,(nN d.gg).append d.sc d.un.rev.below,(cI.swap d.un.rev).trans d.t,d.cg.trans cg⟩
theorem zZ.less{st0:SortSt}{P S C G O R:List Keyed}{n neq:Nat}{st st':SortSt}{y:Keyed}(d:zZ κ st0 P S n neq C G O (y::R) st)(u:Under κ [y] G)(g1:1≤G.length)(cg:tJ st st')(e:(arrOf st').toList=(P++C)++(G.reverse++y::R)):zZ κ st0 P S (n+1) 0 (C++G.reverse) [y] (O++[y]) R st':=by
 have m:=d.m
 have r:(C++G.reverse).reverse=G++C.reverse:=by rw[reverse_append,reverse_reverse]
 refine⟨by rw[e,append_assoc,append_assoc,append_assoc];rfl,by rw[d.s,append_assoc];rfl,by rw[length_append,d.o];rfl,by rw[length_append,length_reverse];show _+1=_;omega,rfl,?_,?_,?_,?_,d.cg.trans cg⟩
 ·rw[r]
  exact(nN d.gg).append d.sc d.un.rev.below
 ·intro x hx z hz
  rcases mem_append.mp hz with hz|hz
  ·obtain⟨g,hg⟩:=List.exists_mem_of_length_pos g1
   exact KeyOrd.klt_of_klt_of_kle (u x hx g hg) (d.un.below g hg z hz)
  ·exact u x hx z (mem_reverse.mp hz)
 ·intro x hx z hz
  cases mem_singleton.mp hx
  cases mem_singleton.mp hz
  exact KeyOrd.kle_refl _
 ·rw[r]
  exact((cI.swap d.un.rev).trans d.t).append (cI.refl _)
theorem zZ.same{st0:SortSt}{P S C G O R:List Keyed}{n neq:Nat}{st:SortSt}{y z:Keyed}(d:zZ κ st0 P S n neq C G O (y::R) st)(hz:z∈G)(h1:κ.kle (key κ z) (key κ y))(h2:κ.kle (key κ y) (key κ z)):zZ κ st0 P S (n+1) (neq+1) C (G++[y]) (O++[y]) R st:=by
 have m:=d.m
 have g:=d.g
 refine⟨by rw[d.e,←append_assoc C,append_assoc _ [y]];rfl,by rw[d.s,append_assoc];rfl,by rw[length_append,d.o];rfl,by rw[length_append];show _+(_+1)=_;omega,by rw[length_append,g];rfl,d.sc,?_,?_,?_,d.cg⟩
 ·intro u hu v hv
  rcases mem_append.mp hu with hu|hu
  ·exact d.un u hu v hv
  ·cases mem_singleton.mp hu
   exact KeyOrd.klt_of_kle_of_klt h2 (d.un z hz v hv)
 ·intro u hu v hv
  have a1:κ.kle (key κ u) (key κ z):=by
   rcases mem_append.mp hu with hu|hu
   ·exact d.gg u hu z hz
   ·cases mem_singleton.mp hu
    exact h2
  refine KeyOrd.kle_trans a1 ?_
  rcases mem_append.mp hv with hv|hv
  ·exact d.gg z hz v hv
  ·cases mem_singleton.mp hv
   exact h1
 ·rw[←append_assoc]
  exact d.t.append (cI.refl _)
theorem nG(hL:j4 prog w A E s κ kd){lo nrem:Nat}{st:SortSt}{Q:Option Nat→SortSt→Prop}{P S:List Keyed}(hk:kindOf st=kd)(ks:∀x∈S,gO κ x)(he0:(arrOf st).toList=P++S)(hlo:lo=P.length)(hn:S.length=nrem)(h1:1≤nrem)
  (q:∀n st' M O R,1≤n→n≤nrem→uk κ st P S n M O R st'→Q (some n) st'):wpS (model prog w) A E s (vb lo nrem) Q st:=by
 have a0:∃M O R,uk κ st P S 1 M O R st:=by
  cases S with
  |nil=>rw[←hn]at h1;cases h1
  |cons x R=>exact⟨[x],[x],R,he0,rfl,rfl,rfl,List.pairwise_singleton _ _,cI.refl _,tJ.refl _⟩
 refine wpS_bind (wpS_mono (wpS_forRange (I:=fun x c st'=>c=(none,x)∧∃M O R,uk κ st P S x M O R st')
  (Q:=fun c st'=>∃n,c=(none,n)∧(1≤n∧n≤nrem)∧∃M O R,uk κ st P S n M O R st'∧(R=[]∨∃c z y R',M=c++[z]∧R=y::R'∧κ.klt (key κ y) (key κ z))) ?step ?fin ⟨rfl,a0⟩) ?post)
 case step=>
  rintro x c st' hx0 hx ⟨rfl,M,O,R,he,hS,hM,hO,sM,tM,cg⟩
  dsimp only
  cases R with
  |nil=>rw[hS,append_nil,hO]at hn;omega
  |cons y R=>
  obtain⟨c,z,rfl⟩:=kh (show 1≤M.length by omega)
  have kM:gO κ z:=ks z (by rw[hS];exact mem_append_left _ (tM.mem.mp (mem_append_right _ (mem_singleton_self _))))
  have ky:gO κ y:=ks y (by rw[hS];exact mem_append_right _ mem_cons_self)
  rw[length_append]at hM
  have hM':c.length+1=x:=hM
  refine wpS_bind (gM hL (cg.kind.trans hk) (by rw[he];exact mH (by rw[length_append];show _=_+(c.length+1);omega)) (by rw[he];exact jX (by omega)) ky kM ?_)
  dsimp only
  cases hb:κ.blt (key κ y) (key κ z) with
  |true=>exact wpS_pure ⟨x,rfl,⟨by omega,by omega⟩,c++[z],O,y::R,⟨he,hS,by rw[length_append];exact hM,hO,sM,tM,cg⟩,.inr ⟨c,z,y,R,rfl,rfl,hb⟩⟩
  |false=>exact wpS_pure ⟨rfl,(c++[z])++[y],O++[y],R,by rw[he,append_assoc _ [y]];rfl,by rw[hS,append_assoc];rfl,by rw[length_append,length_append];show c.length+1+1=_;omega,by rw[length_append];show O.length+1=_;omega,sM.snoc (sM.ym hb),tM.append (cI.refl _),cg⟩
 case fin=>
  rintro c st' ⟨rfl,M,O,R,h⟩
  have hR:R=[]:=by
   have h3:=h.s
   rw[h3,length_append,h.o]at hn
   exact eq_nil_of_length_eq_zero (by omega)
  exact⟨_,rfl,⟨by omega,by omega⟩,M,O,R,h,.inl hR⟩
 case post=>
  rintro c st1 ⟨n,rfl,nn,M,O,R,h,hR⟩
  dsimp only
  refine cH (fun c1=>wpS_pure (q n st1 M O R nn.1 nn.2 h)) (fun c1=>?_)
  rw[beq_iff_eq]at c1
  rcases hR with rfl|⟨c,z,y,R,rfl,rfl,lt⟩
  ·exfalso
   rw[h.s,append_nil,h.o]at hn
   exact c1 hn
  have nn1:=nn.1
  have nn2:=nn.2
  have hm:=h.m
  rw[length_append]at hm
  have hm':c.length+1=n:=hm
  have hz:z∈c++[z]:=mem_append_right _ (mem_singleton_self _)
  have kof:∀u∈c++[z],gO κ u:=fun u hu=>ks u (by rw[h.s];exact mem_append_left _ (h.tm.mem.mp hu))
  have start:∀{C:List Keyed}{st2:SortSt},tJ st st2→(arrOf st2).toList=P++(C++y::R)→C.reverse=c++[z]→(∀u∈c++[z],κ.kle (key κ z) (key κ u))→zZ κ st P S (n+1) 0 C [y] (O++[y]) R st2:=fun {C st2} cg e r al=>by
   have cl:C.length=n:=by rw[←length_reverse,r,length_append];exact hm'
   refine⟨by rw[e,append_assoc];rfl,by rw[h.s,append_assoc];rfl,by rw[length_append,h.o];rfl,by rw[cl];rfl,rfl,by rw[r];exact h.sm,fun a ha b hb=>?_,fun a ha b hb=>?_,by rw[r];exact h.tm.append (cI.refl _),cg⟩
   ·cases mem_singleton.mp ha
    exact KeyOrd.klt_of_klt_of_kle lt (al b (by rw[←r];exact mem_reverse.mpr hb))
   ·cases mem_singleton.mp ha
    cases mem_singleton.mp hb
    exact KeyOrd.kle_refl _
  refine cH (fun c2=>?_) (fun c2=>?_)
  obtain⟨f,c',rfl⟩:∃f c',c=f::c':=by
   cases c with
   |nil=>have:0+1=n:=hm';omega
   |cons f c'=>exact⟨f,c',rfl⟩
  refine wpS_bind (gM hL (h.cg.kind.trans hk) (x:=f) (y:=z) (by rw[h.e];exact mI hlo) (by rw[h.e];exact jX (by omega)) (kof f mem_cons_self) (kof z hz) ?_)
  dsimp only
  refine cH (fun hb=>wpS_pure (q n st1 _ _ _ nn1 nn2 h)) (fun hb=>?_)
  refine wpS_bind (jU h.e hlo (by rw[length_append];show _=_+(_+1);omega) fun st2 cg2 e2=>?_)
  have d0:=start (h.cg.trans cg2) e2 (reverse_reverse _) fun u hu=>KeyOrd.kle_trans (show κ.kle (key κ z) (key κ f) from eq_false_iff.mpr hb) (da.head (x:=f) (l:=c'++[z]) h.sm f (mem_singleton_self _) u hu)
  rotate_left
  have c0:c=[]:=eq_nil_of_length_eq_zero (by omega)
  subst c0
  have d0:=start (C:=[z]) h.cg h.e rfl fun u hu=>by
   cases mem_singleton.mp hu
   exact KeyOrd.kle_refl _
  all_goals
   refine wpS_bind (wpS_lift (wpAny_rule ⟨rfl,?_⟩))
   refine wpS_bind (wpS_mono (wpS_forRange (I:=fun x c st'=>∃neq,c=(none,x,neq)∧∃C G O R,zZ κ st P S x neq C G O R st')
    (Q:=fun c st'=>∃m neq,c=(none,m,neq)∧(1≤m∧m≤nrem)∧∃C G O R,zZ κ st P S m neq C G O R st') ?_ ?_ ⟨0,rfl,_,_,_,_,d0⟩) ?_)
   ·rintro x c st' hx0 hx ⟨neq,rfl,C,G,O,R,d⟩
    dsimp only
    cases R with
    |nil=>rw[d.s,append_nil,d.o]at hn;omega
    |cons y R=>
    have dg:=d.g
    have dm:=d.m
    obtain⟨g,z,rfl⟩:=kh (show 1≤G.length by omega)
    have hz:z∈g++[z]:=mem_append_right _ (mem_singleton_self _)
    have kz:gO κ z:=ks z (by rw[d.s];exact mem_append_left _ (d.t.mem.mp (mem_append_right _ hz)))
    have ky:gO κ y:=ks y (by rw[d.s];exact mem_append_right _ mem_cons_self)
    rw[length_append]at dg dm
    have dg':g.length+1=neq+1:=dg
    have dm':C.length+(g.length+1)=x:=dm
    have py:(arrOf st').toList[lo+x]? =some y:=by rw[d.e];exact mH (by rw[length_append,length_append];show _=_+(C.length+(g.length+1));omega)
    have pz:(arrOf st').toList[lo+x - 1]? =some z:=by rw[d.e,←append_assoc C];exact jX (by rw[length_append];omega)
    refine wpS_bind (gM hL (d.cg.kind.trans hk) py pz ky kz ?_)
    dsimp only
    cases hb:κ.blt (key κ y) (key κ z) with
    |true=>
     have u:Under κ [y] (g++[z]):=fun a ha b hb'=>by
      cases mem_singleton.mp ha
      exact KeyOrd.klt_of_klt_of_kle (show κ.klt _ _ from hb) (d.gg z hz b hb')
     rw[if_pos rfl]
     refine cH (fun c2=>?_) (fun c2=>?_)
     ·refine wpS_bind (jU (P:=P++C) (G:=g++[z]) (R:=y::R) (d.e.trans qt) (by rw[length_append];omega) (by rw[length_append];show _=_+(g.length+1);omega) fun st3 cg3 e3=>?_)
      exact wpS_pure ⟨0,rfl,_,_,_,_,d.less u (by rw[length_append];show 1≤_+1;omega) cg3 e3⟩
     ·have g0:g=[]:=eq_nil_of_length_eq_zero (by omega)
      subst g0
      exact wpS_pure ⟨0,rfl,_,_,_,_,d.less u (le_refl 1) (tJ.refl _) (d.e.trans qt)⟩
    |false=>
     rw[if_neg Bool.false_ne_true]
     refine wpS_bind (gM hL (d.cg.kind.trans hk) pz py kz ky ?_)
     dsimp only
     cases hb2:κ.blt (key κ z) (key κ y) with
     |true=>exact wpS_pure ⟨x,neq,rfl,⟨by omega,by omega⟩,C,g++[z],O,y::R,d⟩
     |false=>exact wpS_pure ⟨neq+1,rfl,_,_,_,_,d.same hz hb hb2⟩
   ·rintro c st' ⟨neq,rfl,C,G,O,R,d⟩
    have:=d.s
    have:=d.o
    exact⟨_,neq,rfl,⟨by omega,by rw[d.s,length_append,d.o]at hn;omega⟩,C,G,O,R,d⟩
   ·rintro c st3 ⟨m,neq,rfl,mm,C,G,O,R,d⟩
    dsimp only
    have dg:=d.g
    have dm:=d.m
    have hm1:=mm.1
    have hm2:=mm.2
    refine cH (fun c2=>?_) (fun c2=>?_)
    refine wpS_bind (jU (P:=P++C) (G:=G) (R:=R) (d.e.trans qt) (by rw[length_append];omega) (by omega) fun st4 cg4 e4=>?_)
    refine wpS_bind (jU (P:=P) (G:=C++G.reverse) (R:=R) (e4.trans qt.symm) hlo (by rw[length_append,length_reverse];omega) fun st5 cg5 e5=>?_)
    have up:=d.up (cg4.trans cg5) (by rw[e5,reverse_append,reverse_reverse])
    rotate_left
    refine wpS_bind (jU (P:=P) (G:=C++G) (R:=R) d.e hlo (by rw[length_append];omega) fun st5 cg5 e5=>?_)
    have G1:G.reverse=G:=by
     obtain⟨g,z,rfl⟩:=kh (show 1≤G.length by omega)
     rw[length_append]at dg
     rw[eq_nil_of_length_eq_zero (show g.length=0 by have:g.length+1=neq+1:=dg;omega)]
     rfl
    have up:=d.up cg5 (by rw[e5,reverse_append,G1])
    all_goals
     refine wpS_bind (wpS_mono (wpS_forRange (I:=fun x c st'=>c=(none,x)∧∃M O R,uk κ st P S x M O R st')
      (Q:=fun c st'=>∃n,c=(none,n)∧(1≤n∧n≤nrem)∧∃M O R,uk κ st P S n M O R st'∧(R=[]∨∃c z y R',M=c++[z]∧R=y::R'∧κ.klt (key κ y) (key κ z))) ?_ ?_ ⟨rfl,_,_,_,up⟩) ?_)
     ·rintro x c st' hx0 hx ⟨rfl,M,O,R,he,hS,hM,hO,sM,tM,cg⟩
      dsimp only
      cases R with
      |nil=>rw[hS,append_nil,hO]at hn;omega
      |cons y R=>
      obtain⟨c,z,rfl⟩:=kh (show 1≤M.length by omega)
      have kM:gO κ z:=ks z (by rw[hS];exact mem_append_left _ (tM.mem.mp (mem_append_right _ (mem_singleton_self _))))
      have ky:gO κ y:=ks y (by rw[hS];exact mem_append_right _ mem_cons_self)
      rw[length_append]at hM
      have hM':c.length+1=x:=hM
      refine wpS_bind (gM hL (cg.kind.trans hk) (by rw[he];exact mH (by rw[length_append];show _=_+(c.length+1);omega)) (by rw[he];exact jX (by omega)) ky kM ?_)
      dsimp only
      cases hb:κ.blt (key κ y) (key κ z) with
      |true=>exact wpS_pure ⟨x,rfl,⟨by omega,by omega⟩,c++[z],O,y::R,⟨he,hS,by rw[length_append];exact hM,hO,sM,tM,cg⟩,.inr ⟨c,z,y,R,rfl,rfl,hb⟩⟩
      |false=>exact wpS_pure ⟨rfl,(c++[z])++[y],O++[y],R,by rw[he,append_assoc _ [y]];rfl,by rw[hS,append_assoc];rfl,by rw[length_append,length_append];show c.length+1+1=_;omega,by rw[length_append];show O.length+1=_;omega,sM.snoc (sM.ym hb),tM.append (cI.refl _),cg⟩
     ·rintro c st' ⟨rfl,M,O,R,h⟩
      have hR:R=[]:=by
       have h3:=h.s
       rw[h3,length_append,h.o]at hn
       exact eq_nil_of_length_eq_zero (by omega)
      exact⟨_,rfl,⟨by omega,by omega⟩,M,O,R,h,.inl hR⟩
     ·rintro c st' ⟨n,rfl,nn,M,O,R,h,_⟩
      exact wpS_pure (q n st' M O R nn.1 nn.2 h)
end
end TS
namespace TS
open PySem PyProof.Rows
variable {κ:KeyKind}
def oZ:Nat→StateT SortSt Sem Bool:=sortPriv% PySem.Builtin.mergeAt
section
variable {prog:Program}{w:World}{A:Around}{E:Value→Shared→Prop}{s:Shared}{kd:SortKind}
theorem da.get{l:List Keyed}(h:da κ l){i j:Nat}{x y:Keyed}(ij:i≤j)(hx:l[i]? =some x)(hy:l[j]? =some y):κ.kle (key κ x) (key κ y):=by
 have:=da.at (κ:=κ) (l:=l) (b:=0) (n:=l.length) (i:=i) (j:=j) (x:=x) (y:=y) (by rw[drop_zero,take_length];exact h) ij (List.getElem?_eq_some_iff.mp hy).1 (by rw[zero_add];exact hx) (by rw[zero_add];exact hy)
 exact this
theorem uk.ins{st0:SortSt}{P S M O R:List Keyed}{k l:Nat}{st st':SortSt}{y:Keyed}(h:uk κ st0 P S k M O (y::R) st)(b:Below κ (M.take l) [y])(u:Under κ [y] (M.drop l))(cg:tJ st st')(e:(arrOf st').toList=(P++M.take l)++(y::M.drop l++R)):uk κ st0 P S (k+1) (M.take l++(y::M.drop l)) (O++[y]) R st':=by
 have ml:=h.m
 have sp:M.take l++M.drop l=M:=take_append_drop l M
 have sm:=h.sm
 rw[←sp]at sm
 refine⟨by rw[e,←qt],by rw[h.s,append_assoc];rfl,?_,by rw[length_append,h.o];rfl,?_,?_,h.cg.trans cg⟩
 ·have:=congrArg List.length sp
  rw[length_append]at this ⊢
  show _+(_+1)=_
  omega
 ·refine sm.left.append (List.pairwise_cons.mpr ⟨fun z hz=>KeyOrd.kle_of_klt (u y (mem_singleton_self _) z hz),sm.right⟩) fun a ha c hc=>?_
  rcases mem_cons.mp hc with rfl|hc
  ·exact b a ha c (mem_singleton_self _)
  ·exact sm.mid a ha c hc
 ·have t:cI κ (M.take l++(y::M.drop l)) (M++[y]):=by
   have:cI κ (M.take l++([y]++M.drop l)) (M.take l++(M.drop l++[y])):=(cI.refl _).append (cI.swap u)
   rw[←append_assoc (M.take l) (M.drop l),sp]at this
   exact this
  exact t.trans (h.tm.append (cI.refl _))
theorem kJ(hL:j4 prog w A E s κ kd){lo n ok:Nat}{st0 st:SortSt}{Q:Bool→SortSt→Prop}{P S M O R:List Keyed}(hk:kindOf st0=kd)(ks:∀x∈S,gO κ x)(hlo:lo=P.length)(hn:n≤S.length)(h1:1≤ok)(hok:ok≤n)(h:uk κ st0 P S ok M O R st)
  (q:∀st' M O R,uk κ st0 P S n M O R st'→Q true st'):wpS (model prog w) A E s (qP lo n ok) Q st:=by
 refine wpS_bind (wpS_mono (wpS_forRange (I:=fun k c st'=>c=(none,())∧∃M O R,uk κ st0 P S k M O R st')
  (Q:=fun c st'=>c=(none,())∧∃M O R,uk κ st0 P S n M O R st') ?step ?fin ⟨rfl,M,O,R,by rw[show max ok 1=ok by omega];exact h⟩) ?post)
 case post=>
  rintro c st' ⟨rfl,M,O,R,h⟩
  exact wpS_pure (q st' M O R h)
 case fin=>
  rintro c st' ⟨rfl,M,O,R,h⟩
  rw[show max (max ok 1) n=n by omega]at h
  exact⟨rfl,M,O,R,h⟩
 case step=>
  rintro k c st1 hk0 hkn ⟨rfl,M,O,R,h⟩
  cases R with
  |nil=>have e:=h.s;rw[append_nil]at e;rw[e,h.o]at hn;omega
  |cons y R=>
  have hM:=h.m
  have ky:gO κ y:=ks y (by rw[h.s];exact mem_append_right _ mem_cons_self)
  refine wpS_bind (wpS_mono (wpS_forRange (I:=fun x c st'=>st'=st1∧∃l r,c=(none,l,r)∧l≤r∧r≤k∧r - l≤k - x∧(∀i u,i < l→M[i]? =some u→κ.kle (key κ u) (key κ y))∧(∀i u,r≤i→M[i]? =some u→κ.klt (key κ y) (key κ u)))
   (Q:=fun c st'=>st'=st1∧∃l,c=(none,l,l)∧l≤k∧(∀i u,i < l→M[i]? =some u→κ.kle (key κ u) (key κ y))∧(∀i u,l≤i→M[i]? =some u→κ.klt (key κ y) (key κ u))) ?istep ?ifin ⟨rfl,0,k,rfl,by omega,by omega,by omega,fun i u hi=>by omega,fun i u hi hu=>by have:=(List.getElem?_eq_some_iff.mp hu).1;omega⟩) ?ipost)
  case ifin=>
   rintro c st' ⟨rfl,l,r,rfl,lr,rk,rl,g1,g2⟩
   have e:l=r:=by omega
   subst e
   exact⟨rfl,l,rfl,rk,g1,g2⟩
  case istep=>
   rintro x c st' _ hx ⟨rfl,l,r,rfl,lr,rk,rl,g1,g2⟩
   dsimp only
   refine cH (fun c1=>?_) (fun c1=>?_)
   ·have e:l=r:=by omega
    subst e
    exact wpS_pure ⟨rfl,l,rfl,rk,g1,g2⟩
   obtain⟨z,hz⟩:∃z,M[(l+r) / 2]? =some z:=⟨_,getElem?_eq_getElem (by omega)⟩
   have kz:gO κ z:=ks z (by rw[h.s];exact mem_append_left _ (h.tm.mem.mp (mem_of_getElem? hz)))
   refine wpS_bind (gM hL (h.cg.kind.trans hk) (x:=y) (y:=z) (by rw[h.e];exact mH (by omega)) (by rw[h.e,getElem?_append_right (by omega),getElem?_append_left (by omega),←hz];congr 1;omega) ky kz ?_)
   dsimp only
   cases hb:κ.blt (key κ y) (key κ z) with
   |true=>exact wpS_pure ⟨rfl,l,(l+r) / 2,rfl,by omega,by omega,by omega,g1,fun i u hi hu=>KeyOrd.klt_of_klt_of_kle (show κ.klt _ _ from hb) (h.sm.get hi hz hu)⟩
   |false=>exact wpS_pure ⟨rfl,(l+r) / 2+1,r,rfl,by omega,by omega,by omega,fun i u hi hu=>KeyOrd.kle_trans (h.sm.get (by omega) hu hz) (show κ.kle _ _ from hb),g2⟩
  case ipost=>
   rintro c st' ⟨rfl,l,rfl,lk,g1,g2⟩
   dsimp only
   have e1:(arrOf st').toList=(P++M.take l)++(M.drop l++y::R):=by rw[h.e,←qt,take_append_drop]
   have tl:(M.take l).length=l:=by rw[length_take];omega
   have dl:(M.drop l).length=k - l:=by rw[length_drop];omega
   refine wpS_bind (yh e1 (by rw[length_append];omega) (by rw[length_append];omega) fun st2 cg2 e2=>wpS_pure ⟨rfl,_,_,_,h.ins (l:=l) (fun a ha b hb=>?_) (fun b hb a ha=>?_) cg2 e2⟩)
   ·cases mem_singleton.mp hb
    obtain⟨i,hi⟩:=getElem?_of_mem ha
    have il:=(List.getElem?_eq_some_iff.mp hi).1
    rw[getElem?_take_of_lt (by omega)]at hi
    exact g1 i a (by omega) hi
   ·cases mem_singleton.mp hb
    obtain⟨i,hi⟩:=getElem?_of_mem ha
    rw[getElem?_drop]at hi
    exact g2 (l+i) a (by omega) hi
theorem wN{L P X Y:List Keyed}(e:L=P++(X++Y)){i m:Nat}(hi:i=P.length)(hm:m≤X.length):(L.drop i).take m=X.take m:=by
 rw[e,hi,List.drop_left,List.take_append_of_le_length hm]
theorem Eh{L P X Y:List Keyed}(e:L=P++(X++Y)){i k n:Nat}(hi:i=P.length)(hn:n=X.length)(hk:k≤n):(L.drop (i+k)).take (n - k)=X.drop k:=by
 have:L=(P++X.take k)++(X.drop k++Y):=by rw[e,←qt,take_append_drop]
 rw[wN this (by rw[length_append,length_take];omega) (by rw[length_drop];omega)]
 exact take_of_length_le (by rw[length_drop];omega)
theorem pL{A1 A2 B1 B2 M:List Keyed}(sa:da κ (A1++A2))(sb:da κ (B1++B2))(b1:Below κ A1 (B1++B2))(b2:Below κ (A1++A2) B2)(sm:da κ M)(tm:cI κ M (A2++B1)):da κ (A1++(M++B2))∧cI κ (A1++(M++B2)) ((A1++A2)++(B1++B2)):=by
 have mm:∀x∈M,x∈A2∨x∈B1:=fun x hx=>mem_append.mp (tm.mem.mp hx)
 refine⟨sa.left.append (sm.append sb.right fun x hx y hy=>?_) fun x hx y hy=>?_,?_⟩
 ·exact(mm x hx).elim (fun h=>b2 x (mem_append_right _ h) y hy) (fun h=>sb.mid x h y hy)
 ·rcases mem_append.mp hy with hy|hy
  ·exact(mm y hy).elim (fun h=>sa.mid x hx y h) (fun h=>b1 x hx y (mem_append_left _ h))
  ·exact b2 x (mem_append_left _ hx) y hy
 ·have:cI κ (A1++(M++B2)) (A1++((A2++B1)++B2)):=(cI.refl _).append (tm.append (cI.refl _))
  rw[append_assoc A1 A2,←append_assoc A2 B1 B2]
  exact this
theorem Bw{l:List Keyed}(h:1≤l.length):∃x r,l=x::r:=by
 cases l with
 |nil=>cases h
 |cons x r=>exact⟨x,r,rfl⟩
structure Mg(κ:KeyKind)(st st':SortSt)(P X Y R:List Keyed)(pend:Array (Nat×Nat×Nat)):Prop where
 kind:kindOf st'=kindOf st
 failed:failedOf st'=failedOf st
 pend:pendingOf st'=pend
 ex:∃M,(arrOf st').toList=P++(M++R)∧da κ M∧cI κ M (X++Y)
theorem Bm{σ:Type}{M:Model}{A:Around}{E:Value→Shared→Prop}{s:Shared}{st' st:σ}{Q:PUnit→σ→Prop}(h:Q ⟨⟩ st'):wpS M A E s (set st':StateT σ Sem PUnit) Q st:=by
 unfold wpS
 rw[StateT.run_set]
 exact wpAny_pure ⟨rfl,h⟩
theorem oO(hL:j4 prog w A E s κ kd){st:SortSt}{Q:Bool→SortSt→Prop}{P X Y R:List Keyed}{i sa na pa sb nb pb:Nat}(hk:kindOf st=kd)(hf:failedOf st=none)(ks:∀x∈(arrOf st).toList,gO κ x)(p1:(pendingOf st)[i]? =some (sa,na,pa))(p2:(pendingOf st)[i+1]? =some (sb,nb,pb))
  (e:(arrOf st).toList=P++(X++(Y++R)))(ha:sa=P.length)(hx:na=X.length)(hb:sb=sa+na)(hy:nb=Y.length)(x1:1≤na)(y1:1≤nb)(sx:da κ X)(sy:da κ Y)
  (q:∀st',Mg κ st st' P X Y R (((pendingOf st).setIfInBounds i (sa,na+nb,pa)).eraseIdxIfInBounds (i+1))→Q true st'):wpS (model prog w) A E s (oZ i) Q st:=by
 refine wpS_bind (wpS_get ?_)
 rw[p1,p2]
 dsimp only
 refine wpS_bind (Bm ?_)
 have sz:(arrOf st).size=P.length+(X.length+(Y.length+R.length)):=by rw[←length_toList,e,length_append,length_append,length_append]
 have e':(arrOf st).toList=(P++X)++(Y++R):=by rw[e,append_assoc]
 obtain⟨y0,Y',hY⟩:=Bw (show 1≤Y.length by omega)
 obtain⟨c,z,hX⟩:=kh (show 1≤X.length by omega)
 have cl:c.length+1=na:=by rw[hx,hX,length_append];rfl
 have ey:(arrOf st)[sb]? =some y0:=by
  rw[←getElem?_toList,e',hY]
  exact mI (by rw[length_append];omega)
 have ez:∀k,k≤na→0 < na - k→(arrOf st)[sa+k+(na - k) - 1]? =some z:=fun k h1 h2=>by
  rw[←getElem?_toList,e,hX]
  exact jX (by omega)
 have kX:∀u∈X,gO κ u:=fun u hu=>ks u (by rw[e];exact mem_append_right _ (mem_append_left _ hu))
 have kY:∀u∈Y,gO κ u:=fun u hu=>ks u (by rw[e];exact mem_append_right _ (mem_append_right _ (mem_append_left _ hu)))
 have by0:Below κ [y0] Y:=by rw[hY]at sy ⊢;exact sy.head
 have lastz:Below κ X [z]:=by rw[hX]at sx ⊢;exact sx.ym (KeyOrd.kle_refl _)
 refine wpS_bind (cK ey (wpS_bind (og hL hk (kY y0 (by rw[hY];exact mem_cons_self)) ks (show sa+na≤(arrOf st).size by omega) (by rw[wN e ha (by omega)];exact sx.take _) (by omega) fun k hk1 bl un=>?_)))
 rw[wN e ha (by omega)]at bl
 rw[Eh e ha hx hk1]at un
 dsimp only
 refine cH (fun c1=>?_) (fun c1=>?_)
 ·rw[beq_iff_eq]at c1
  rw[take_of_length_le (by omega)]at bl
  exact wpS_pure (q _ ⟨rfl,rfl,rfl,X++Y,by rw[append_assoc];exact e,sx.append sy (Below.over bl by0),cI.refl _⟩)
 rw[beq_iff_eq]at c1
 refine wpS_bind (cK (ez k hk1 (by omega)) (wpS_bind (nu hL hk (kX z (by rw[hX];exact mem_append_right _ (mem_singleton_self _))) ks (show sb+nb≤(arrOf st).size by omega) (by rw[wN e' (by rw[length_append];omega) (by omega)];exact sy.take _) (by omega) fun m hm ul bl2=>?_)))
 rw[wN e' (by rw[length_append];omega) (by omega)]at ul
 rw[Eh e' (by rw[length_append];omega) hy hm]at bl2
 dsimp only
 refine cH (fun c2=>?_) (fun c2=>?_)
 ·rw[beq_iff_eq]at c2
  rw[c2,drop_zero]at bl2
  exact wpS_pure (q _ ⟨rfl,rfl,rfl,X++Y,by rw[append_assoc];exact e,sx.append sy (Below.over lastz bl2),cI.refl _⟩)
 rw[beq_iff_eq]at c2
 have hax:((arrOf st).extract (sa+k) sb).toList=X.drop k:=by
  rw[toList_extract]
  have:=Eh e ha hx hk1
  rw[show na - k=sb - (sa+k) by omega]at this
  exact this
 have hay:((arrOf st).extract sb (sb+m)).toList=Y.take m:=by
  rw[ou]
  exact wN e' (by rw[length_append];omega) (by omega)
 have lax:((arrOf st).extract (sa+k) sb).size=na - k:=by rw[←length_toList,hax,length_drop];omega
 have lay:((arrOf st).extract sb (sb+m)).size=m:=by rw[←length_toList,hay,length_take];omega
 generalize (arrOf st).extract (sa+k) sb=ax at hax lax
 generalize (arrOf st).extract sb (sb+m)=ay at hay lay
 have ka:∀u∈ax.toList,gO κ u:=fun u hu=>kX u (List.mem_of_mem_drop (by rw[←hax];exact hu))
 have kb:∀u∈ay.toList,gO κ u:=fun u hu=>kY u (List.mem_of_mem_take (by rw[←hay];exact hu))
 have sax:da κ ax.toList:=by rw[hax];exact sx.drop k
 have say:da κ ay.toList:=by rw[hay];exact sy.take m
 have u1:Under κ (ay.toList.take 1) ax.toList:=by
  rw[hay,hax,List.take_take,hY,Nat.min_eq_left (by omega)]
  exact un
 have u2:Under κ ay.toList (ax.toList.drop (ax.size - 1)):=by
  rw[hay,hax,lax,List.drop_drop,hX,List.drop_left' (by omega)]
  exact ul
 refine cH (fun _=>?_) (fun _=>?_)
 ·refine wpS_bind (sO hL hk ka kb sax say (by omega) (by omega) u1 u2 ?_)
  intro r st4 kp mr
  have rl:r.toList.length=(X.drop k++Y.take m).length:=by rw[←hax,←hay];exact mr.2.perm.length_eq
  refine wpS_bind (wpS_modify (wpS_bind (wpS_get (wpS_pure ?_))))
  show Q (failedOf st4).isNone _
  rw[kp.failed.trans hf]
  have mr2:=mr.2
  rw[hax,hay]at mr2
  have fin:=pL (A1:=X.take k) (A2:=X.drop k) (B1:=Y.take m) (B2:=Y.drop m) (by rw[take_append_drop];exact sx) (by rw[take_append_drop];exact sy) (by rw[take_append_drop];exact Below.over bl by0) (by rw[take_append_drop];exact Below.over lastz bl2) mr.1 mr2
  rw[take_append_drop,take_append_drop]at fin
  refine q _ ⟨kp.kind,kp.failed,kp.pend,_,?_,fin.1,fin.2⟩
  refine(jz r.toList 0 (sa+k) (arrOf st4) (P++X.take k) (X.drop k++Y.take m) (Y.drop m++R) ?_ rl ?_).trans ?_
  ·rw[kp.arr,←qt,←append_assoc (X.take k),take_append_drop,append_assoc X,←append_assoc (Y.take m),take_append_drop]
   exact e
  ·rw[length_append,length_take]
   omega
  ·rw[append_assoc P,append_assoc (X.take k),append_assoc r.toList]
 ·refine wpS_bind (rA hL hk ka kb sax say (by omega) (by omega) u1 u2 ?_)
  intro r st4 kp mr
  have rl:r.toList.length=(X.drop k++Y.take m).length:=by rw[←hax,←hay];exact mr.2.perm.length_eq
  refine wpS_bind (wpS_modify (wpS_bind (wpS_get (wpS_pure ?_))))
  show Q (failedOf st4).isNone _
  rw[kp.failed.trans hf]
  have mr2:=mr.2
  rw[hax,hay]at mr2
  have fin:=pL (A1:=X.take k) (A2:=X.drop k) (B1:=Y.take m) (B2:=Y.drop m) (by rw[take_append_drop];exact sx) (by rw[take_append_drop];exact sy) (by rw[take_append_drop];exact Below.over bl by0) (by rw[take_append_drop];exact Below.over lastz bl2) mr.1 mr2
  rw[take_append_drop,take_append_drop]at fin
  refine q _ ⟨kp.kind,kp.failed,kp.pend,_,?_,fin.1,fin.2⟩
  refine(jz r.toList 0 (sa+k) (arrOf st4) (P++X.take k) (X.drop k++Y.take m) (Y.drop m++R) ?_ rl ?_).trans ?_
  ·rw[kp.arr,←qt,←append_assoc (X.take k),take_append_drop,append_assoc X,←append_assoc (Y.take m),take_append_drop]
   exact e
  ·rw[length_append,length_take]
   omega
  ·rw[append_assoc P,append_assoc (X.take k),append_assoc r.toList]
end
end TS
namespace TS
open PySem PyProof.Rows
variable {κ:KeyKind}
def tO:StateT SortSt Sem Unit:=sortPriv% PySem.Builtin.sortRuns
def fX(κ:KeyKind):Nat→List (Nat×Nat×Nat)→List (List Keyed)→Prop
 |_,[],[]=>True
 |off,p::ps,r::rs=>p.1=off∧p.2.1=r.length∧1≤p.2.1∧da κ r∧fX κ (off+p.2.1) ps rs
 |_,_,_=>False
theorem fX.merge:∀(i off:Nat) (ps:List (Nat×Nat×Nat)) (rs:List (List Keyed)),fX κ off ps rs→i+1 < ps.length→
  ∃rs1 X Y rs2 sa na pa sb nb pb,ps[i]? =some (sa,na,pa)∧ps[i+1]? =some (sb,nb,pb)∧rs=rs1++(X::Y::rs2)∧sa=off+rs1.flatten.length∧na=X.length∧sb=sa+na∧nb=Y.length∧1≤na∧1≤nb∧da κ X∧da κ Y∧
   ∀M,da κ M→M.length=na+nb→fX κ off ((ps.set i (sa,na+nb,pa)).eraseIdx (i+1)) (rs1++(M::rs2))
 |0,off,[],_,_,l=>by cases l
 |0,off,[p],_,_,l=>by have:1 < 1:=l;omega
 |0,off,(sa,na,pa)::(sb,nb,pb)::ps,[],t,_=>t.elim
 |0,off,(sa,na,pa)::(sb,nb,pb)::ps,[X],t,_=>t.2.2.2.2.elim
 |0,off,(sa,na,pa)::(sb,nb,pb)::ps,X::Y::rs,⟨h1,h2,h3,h4,h5,h6,h7,h8,h9⟩,_=>by
  dsimp only at h1 h2 h3 h5 h6 h7 h9
  subst h1
  refine⟨[],X,Y,rs,sa,na,pa,sb,nb,pb,rfl,rfl,rfl,rfl,h2,h5,h6,h3,h7,h4,h8,fun M sm ml=>⟨rfl,ml.symm,?_,sm,?_⟩⟩
  ·show 1≤na+nb
   omega
  ·show fX κ (sa+(na+nb)) ps rs
   rw[←Nat.add_assoc]
   exact h9
 |i+1,off,[],_,_,l=>by cases l
 |i+1,off,p::ps,[],t,_=>t.elim
 |i+1,off,p::ps,r::rs,⟨h1,h2,h3,h4,h5⟩,l=>by
  obtain⟨rs1,X,Y,rs2,sa,na,pa,sb,nb,pb,g1,g2,g3,g4,g5,g6,g7,g8,g9,g10,g11,g12⟩:=fX.merge i _ ps rs h5 (Nat.lt_of_succ_lt_succ l)
  refine⟨r::rs1,X,Y,rs2,sa,na,pa,sb,nb,pb,g1,g2,by rw[g3];rfl,?_,g5,g6,g7,g8,g9,g10,g11,fun M sm ml=>⟨h1,h2,h3,h4,g12 M sm ml⟩⟩
  rw[flatten_cons,length_append,←h2]
  omega
theorem fX.push:∀{off:Nat}{ps:List (Nat×Nat×Nat)}{rs:List (List Keyed)}{M:List Keyed}{pw:Nat},fX κ off ps rs→da κ M→1≤M.length→fX κ off (ps++[(off+rs.flatten.length,M.length,pw)]) (rs++[M])
 |off,[],[],M,pw,_,sm,ml=>⟨by rw[flatten_nil];rfl,rfl,ml,sm,trivial⟩
 |off,[],_::_,M,pw,t,_,_=>t.elim
 |off,_::_,[],M,pw,t,_,_=>t.elim
 |off,p::ps,r::rs,M,pw,⟨h1,h2,h3,h4,h5⟩,sm,ml=>by
  refine⟨h1,h2,h3,h4,?_⟩
  have:=fX.push (pw:=pw) h5 sm ml
  rw[flatten_cons,length_append,←h2,←Nat.add_assoc]
  exact this
theorem fX.power:∀(i:Nat){off:Nat}{ps:List (Nat×Nat×Nat)}{rs:List (List Keyed)}{pw:Nat},fX κ off ps rs→fX κ off (ps.modify i fun p=>(p.1,p.2.1,pw)) rs
 |0,off,[],[],pw,_=>trivial
 |0,off,[],_::_,pw,t=>t.elim
 |0,off,_::_,[],pw,t=>t.elim
 |0,off,p::ps,r::rs,pw,t=>t
 |i+1,off,[],[],pw,_=>trivial
 |i+1,off,[],_::_,pw,t=>t.elim
 |i+1,off,_::_,[],pw,t=>t.elim
 |i+1,off,p::ps,r::rs,pw,⟨h1,h2,h3,h4,h5⟩=>⟨h1,h2,h3,h4,fX.power i h5⟩
theorem fX.len:∀{off:Nat}{ps:List (Nat×Nat×Nat)}{rs:List (List Keyed)},fX κ off ps rs→ps.length≤rs.flatten.length
 |off,[],[],_=>zero_le _
 |off,[],_::_,t=>t.elim
 |off,_::_,[],t=>t.elim
 |off,p::ps,r::rs,⟨h1,h2,h3,h4,h5⟩=>by
  have:=fX.len h5
  rw[flatten_cons,length_append,←h2]
  show ps.length+1≤_
  omega
theorem fX.one{ps:List (Nat×Nat×Nat)}{rs:List (List Keyed)}{off:Nat}(t:fX κ off ps rs)(h:ps.length≤1):da κ rs.flatten:=by
 cases ps with
 |nil=>
  cases rs with
  |nil=>exact List.Pairwise.nil
  |cons r rs=>exact t.elim
 |cons p ps=>
  cases ps with
  |cons p' ps=>have:ps.length+1+1≤1:=h;omega
  |nil=>
   cases rs with
   |nil=>exact t.elim
   |cons r rs=>
    cases rs with
    |nil=>rw[flatten_cons,flatten_nil,append_nil];exact t.2.2.2.1
    |cons r' rs=>exact t.2.2.2.2.elim
section
variable {prog:Program}{w:World}{A:Around}{E:Value→Shared→Prop}{s:Shared}{kd:SortKind}
theorem Dv{c:Prop} [Decidable c]{n:Nat}(h:1 < n):(if c then n - 2 - 1 else n - 2)+1 < n:=by
 split<;>omega
structure RI(κ:KeyKind)(kd:SortKind)(a₀:List Keyed)(lo:Nat)(S:List Keyed)(st:SortSt):Prop where
 kind:kindOf st=kd
 failed:failedOf st=none
 stb:cI κ (arrOf st).toList a₀
 ex:∃Rs,fX κ 0 (pendingOf st).toList Rs∧(arrOf st).toList=Rs.flatten++S∧Rs.flatten.length=lo
theorem RI.keys{a₀ S:List Keyed}{lo:Nat}{st:SortSt}(h:RI κ kd a₀ lo S st)(ks:∀x∈a₀,gO κ x):∀x∈(arrOf st).toList,gO κ x:=fun x hx=>ks x (h.stb.mem.mp hx)
theorem jg(hL:j4 prog w A E s κ kd){a₀ S:List Keyed}{lo i:Nat}{st:SortSt}{Q:Bool→SortSt→Prop}(ks:∀x∈a₀,gO κ x)(h:RI κ kd a₀ lo S st)(hi:i+1 < (pendingOf st).size)
  (q:∀st',RI κ kd a₀ lo S st'→(pendingOf st').size+1=(pendingOf st).size→Q true st'):wpS (model prog w) A E s (oZ i) Q st:=by
 obtain⟨Rs,t,e,l⟩:=h.ex
 obtain⟨rs1,X,Y,rs2,sa,na,pa,sb,nb,pb,g1,g2,rfl,g4,g5,g6,g7,g8,g9,g10,g11,g12⟩:=t.merge i 0 _ _ (by rw[length_toList];exact hi)
 rw[zero_add]at g4
 have e':(arrOf st).toList=rs1.flatten++(X++(Y++(rs2.flatten++S))):=by
  rw[e,flatten_append,flatten_cons,flatten_cons,append_assoc,append_assoc,append_assoc]
 refine oO hL h.kind h.failed (h.keys ks) (by rw[←getElem?_toList];exact g1) (by rw[←getElem?_toList];exact g2) e' g4 g5 g6 g7 g8 g9 g10 g11 fun st' mg=>?_
 obtain⟨M,eM,sM,tM⟩:=mg.ex
 have ml:M.length=na+nb:=by rw[tM.perm.length_eq,length_append,g5,g7]
 have hpl:(pendingOf st').toList=((pendingOf st).toList.set i (sa,na+nb,pa)).eraseIdx (i+1):=by
  rw[mg.pend,Array.toList_eraseIdxIfInBounds,Array.toList_setIfInBounds]
 refine q st' ⟨mg.kind.trans h.kind,mg.failed.trans h.failed,cI.trans ?_ h.stb,rs1++(M::rs2),by rw[hpl];exact g12 M sM ml,?_,?_⟩ ?_
 ·rw[eM,e',←append_assoc X]
  exact(cI.refl _).append (tM.append (cI.refl _))
 ·rw[eM,flatten_append,flatten_cons,append_assoc,append_assoc]
 ·rw[←l,flatten_append,flatten_append,flatten_cons,flatten_cons,flatten_cons,length_append,length_append,length_append,length_append,length_append]
  omega
 ·rw[←length_toList,hpl,List.length_eraseIdx,if_pos (by rw[List.length_set,length_toList];exact hi),List.length_set,length_toList]
  omega
theorem RI.push{a₀ M R:List Keyed}{lo n:Nat}{st st':SortSt}(h:RI κ kd a₀ lo (M++R) st)(sM:da κ M)(ml:M.length=n)(n1:1≤n)(k:kindOf st'=kindOf st)(f:failedOf st'=failedOf st)(ar:arrOf st'=arrOf st)(pd:pendingOf st'=(pendingOf st).push (lo,n,0)):RI κ kd a₀ (lo+n) R st':=by
 obtain⟨Rs,t,e,l⟩:=h.ex
 refine⟨k.trans h.kind,f.trans h.failed,by rw[ar];exact h.stb,Rs++[M],?_,?_,?_⟩
 ·rw[pd,toList_push]
  have:=t.push (pw:=0) sM (by omega)
  rw[zero_add,l,ml]at this
  exact this
 ·rw[ar,e,flatten_append,flatten_cons,flatten_nil,append_nil,append_assoc]
 ·rw[flatten_append,flatten_cons,flatten_nil,append_nil,length_append,l,ml]
theorem RI.power{a₀ S:List Keyed}{lo i pw:Nat}{st st':SortSt}(h:RI κ kd a₀ lo S st)(k:kindOf st'=kindOf st)(f:failedOf st'=failedOf st)(ar:arrOf st'=arrOf st)(pd:pendingOf st'=(pendingOf st).modify i fun p=>(p.1,p.2.1,pw)):RI κ kd a₀ lo S st':=by
 obtain⟨Rs,t,e,l⟩:=h.ex
 exact⟨k.trans h.kind,f.trans h.failed,by rw[ar];exact h.stb,Rs,by rw[pd,Array.toList_modify];exact t.power i,by rw[ar];exact e,l⟩
theorem RI.Bp{a₀ M R:List Keyed}{lo n i pw:Nat}{st st':SortSt}(h:RI κ kd a₀ lo (M++R) st)(sM:da κ M)(ml:M.length=n)(n1:1≤n)(k:kindOf st'=kindOf st)(f:failedOf st'=failedOf st)(ar:arrOf st'=arrOf st)(pd:pendingOf st'=((pendingOf st).modify i fun p=>(p.1,p.2.1,pw)).push (lo,n,0)):RI κ kd a₀ (lo+n) R st':=
 RI.push (st:=setPending st ((pendingOf st).modify i fun p=>(p.1,p.2.1,pw))) (h.power rfl rfl rfl rfl) sM ml n1 k f ar pd
theorem RI.asc{a₀ S M O R:List Keyed}{lo n:Nat}{st st':SortSt}{Rs:List (List Keyed)}(h:RI κ kd a₀ lo S st)(t:fX κ 0 (pendingOf st).toList Rs)(e:(arrOf st).toList=Rs.flatten++S)(l:Rs.flatten.length=lo)(as:uk κ st Rs.flatten S n M O R st'):RI κ kd a₀ lo (M++R) st':=by
 refine⟨as.cg.kind.trans h.kind,as.cg.failed.trans h.failed,cI.trans ?_ h.stb,Rs,by rw[as.cg.pend];exact t,as.e,l⟩
 rw[as.e,e,as.s]
 exact(cI.refl _).append (as.tm.append (cI.refl _))
theorem oi(hL:j4 prog w A E s κ kd){st:SortSt}{Q:Unit→SortSt→Prop}(hk:kindOf st=kd)(hf:failedOf st=none)(hp:pendingOf st= #[])(ks0:∀x∈(arrOf st).toList,gO κ x)
  (q:∀st',failedOf st'=none→da κ (arrOf st').toList→cI κ (arrOf st').toList (arrOf st).toList→Q () st'):wpS (model prog w) A E s tO Q st:=by
 refine wpS_bind (wpS_get ?_)
 obtain⟨a₀,ha₀⟩:∃a₀,a₀=(arrOf st).toList:=⟨_,rfl⟩
 rw[←ha₀]at ks0 q
 have ks:=ks0
 have r0:RI κ kd a₀ 0 (arrOf st).toList st:=⟨hk,hf,by rw[ha₀];exact cI.refl _,[],by rw[hp];trivial,rfl,rfl⟩
 have hN:(arrOf st).size=a₀.length:=by rw[ha₀,length_toList]
 have r0':∃lo S,((none:Option Unit),0)=((none:Option Unit),lo)∧RI κ kd a₀ lo S st∧0≤lo:=⟨0,_,rfl,r0,le_refl 0⟩
 have lens:∀{lo S st'},RI κ kd a₀ lo S st'→lo+S.length=(arrOf st).size:=fun {lo S st'} h=>by
  obtain⟨Rs,t,e,l⟩:=h.ex
  rw[hN,←h.stb.perm.length_eq,e,length_append,l]
 refine wpS_bind (wpS_mono (wpS_forRange (I:=fun x c st'=>∃lo S,c=(none,lo)∧RI κ kd a₀ lo S st'∧x≤lo)
  (Q:=fun c st'=>c.1=none∧∃lo,RI κ kd a₀ lo [] st') ?step ?fin r0') ?post)
 case fin=>
  rintro c st' ⟨lo,S,rfl,ri,hx⟩
  have:=lens ri
  have hx':max 0 (arrOf st).size≤lo:=hx
  have hS:S=[]:=eq_nil_of_length_eq_zero (by omega)
  subst hS
  exact⟨rfl,lo,ri⟩
 case step=>
  rintro x c st1 _ hx ⟨lo,S,rfl,ri,hxl⟩
  dsimp only
  have hl:=lens ri
  refine cH (fun c1=>?_) (fun c1=>?_)
  ·have hS:S=[]:=eq_nil_of_length_eq_zero (by have:(arrOf st).size≤lo:=c1;omega)
   subst hS
   exact wpS_pure ⟨rfl,lo,ri⟩
  have c1':lo < (arrOf st).size:=Nat.lt_of_not_le c1
  obtain⟨Rs,t,e,l⟩:=ri.ex
  have kS:∀u∈S,gO κ u:=fun u hu=>ri.keys ks u (by rw[e];exact mem_append_right _ hu)
  refine wpS_bind (nG hL ri.kind kS e l.symm (by show S.length=(arrOf st).size - lo;omega) (by show 1≤(arrOf st).size - lo;omega) fun n st2 M O R n1 nn as=>?_)
  dsimp only
  refine cH (fun c2=>?_) (fun c2=>?_)
  refine wpS_bind (wpS_lift (wpAny_rule ⟨rfl,?_⟩))
  have hmn:n≤min ((arrOf st).size - lo) _:=Nat.le_min.mpr ⟨nn,le_of_lt c2⟩
  refine wpS_bind (kJ hL ri.kind kS l.symm (le_trans (Nat.min_le_left _ _) (by show(arrOf st).size - lo≤S.length;omega)) n1 hmn as fun stx M O R as=>?_)
  have n1:=le_trans n1 hmn
  clear nn hmn c2
  have ri':=ri.asc t e l as
  have sM:=as.sm
  have ml:=as.m
  simp only[Bool.not_true,false_eq_true,if_false]
  rotate_left
  clear c2
  obtain⟨stx,hstx⟩:∃stx,stx=st2:=⟨_,rfl⟩
  subst hstx
  have ri':=ri.asc t e l as
  have sM:=as.sm
  have ml:=as.m
  all_goals
   refine wpS_bind (wpS_get ?_)
   cases hbk:(pendingOf stx).back? with
   |none=>
    dsimp only
    exact wpS_bind (wpS_modify (wpS_pure ⟨_,R,rfl,ri'.push sM ml n1 rfl rfl rfl rfl,by omega⟩))
   |some bk=>
    obtain⟨s1,n1',pw'⟩:=bk
    dsimp only
    refine wpS_bind (wpS_mono (wpS_forRange (I:=fun x c st'=>c=(none,())∧RI κ kd a₀ lo (M++R) st') (Q:=fun c st'=>c=(none,())∧RI κ kd a₀ lo (M++R) st') ?cstep (fun _ _ h=>h) ⟨rfl,ri'⟩) ?cpost)
    case cpost=>
     rintro c st5 ⟨rfl,ri5⟩
     exact wpS_bind (wpS_modify (wpS_bind (wpS_modify (wpS_pure ⟨_,R,rfl,ri5.Bp sM ml n1 rfl rfl rfl rfl,by omega⟩))))
    case cstep=>
     rintro x' c st5 _ _ ⟨rfl,ri5⟩
     refine wpS_bind (wpS_get ?_)
     by_cases c5:(pendingOf st5).size > 1
     ·rw[if_pos c5,getElem?_pos (pendingOf st5) ((pendingOf st5).size - 2) (by omega)]
      generalize (pendingOf st5)[(pendingOf st5).size - 2]=pp
      obtain⟨f1,f2,older⟩:=pp
      dsimp only
      refine cH (fun _=>wpS_pure ⟨rfl,ri5⟩) (fun _=>?_)
      exact wpS_bind (jg hL ks ri5 (show(pendingOf st5).size - 2+1 < (pendingOf st5).size by omega) fun st6 ri6 _=>wpS_pure ⟨rfl,ri6⟩)
     ·rw[if_neg c5]
      exact wpS_pure ⟨rfl,ri5⟩
 case post=>
  rintro c st1 ⟨hc,lo,ri⟩
  rw[hc]
  dsimp only
  have hl:=lens ri
  have hl':lo=(arrOf st).size:=hl
  obtain⟨Rs,t,e,l⟩:=ri.ex
  have pl:(pendingOf st1).size≤(arrOf st).size:=by
   rw[←hl',←l,←length_toList]
   exact t.len
  refine wpS_bind (wpS_mono (wpS_forRange (I:=fun x c st'=>c=(none,())∧RI κ kd a₀ lo [] st'∧(pendingOf st').size+x≤(arrOf st).size) (Q:=fun c st'=>c=(none,())∧RI κ kd a₀ lo [] st'∧(pendingOf st').size≤1) ?fstep ?ffin ⟨rfl,ri,pl⟩) ?fpost)
  case ffin=>
   rintro c st' ⟨rfl,ri,h⟩
   exact⟨rfl,ri,by have h':(pendingOf st').size+max 0 (arrOf st).size≤(arrOf st).size:=h;omega⟩
  case fpost=>
   rintro c st' ⟨rfl,ri,h⟩
   obtain⟨Rs,t,e,l⟩:=ri.ex
   rw[append_nil]at e
   exact wpS_pure (q st' ri.failed (by rw[e];exact t.one (by rw[length_toList];exact h)) ri.stb)
  case fstep=>
   rintro x c st2 _ hx ⟨rfl,ri,h⟩
   refine wpS_bind (wpS_get ?_)
   refine cH (fun c3=>wpS_pure ⟨rfl,ri,c3⟩) (fun c3=>?_)
   have c3':1 < (pendingOf st2).size:=Nat.lt_of_not_le c3
   refine wpS_bind (jg hL ks ri (Dv c3') fun st3 ri3 h3=>?_)
   exact wpS_pure ⟨rfl,ri3,by omega⟩
end
end TS
namespace TS
open PySem PyProof.Rows
def intKind:KeyKind where
 α:=Int
 blt a b:=decide (a < b)
 irrefl a:=by simp
 trans a b c h1 h2:=by
  rw[decide_eq_true_iff]at *
  omega
 negTrans a b c h:=by
  rw[decide_eq_true_iff]at *
  rw[decide_eq_true_iff]
  omega
 total a b h1 h2:=by
  rw[decide_eq_false_iff_not]at *
  omega
 keyOf v:=match v with
  |.int n _=>some n
  |_=>none
 dflt:=0
section
variable {prog:Program}{w:World}{A:Around}{E:Value→Shared→Prop}{s:Shared}
theorem zp:j4 prog w A E s intKind oneType':=by
 rintro⟨x,p⟩ ⟨y,q⟩ st Q hk ⟨a,ha⟩ ⟨b,hb⟩ h
 cases x<;>cases ha
 cases y<;>cases hb
 rw[lt'_eq]
 refine wpS_bind (wpS_get ?_)
 rw[hk,keyLt'_oneType]
 exact wpS_bind (wpS_lift (wpAny_attempt (oneLt_int ⟨rfl,wpS_pure h⟩)))
theorem wpAny_forIn_list{M:Model}{α β:Type}{f:α→β→Sem (ForInStep β)}(I:List α→β→Shared→Prop){Q:β→Shared→Prop}(hstep:∀x r b s,I (x::r) b s→wpAny M A (f x b) (fun z s'=>∃b',z=.yield b'∧I r b' s') E s)(hend:∀b s,I [] b s→Q b s):∀(l:List α) (b:β) (s:Shared),I l b s→wpAny M A (forIn l b f) Q E s
 |[],b,s,h=>by
  rw[forIn_nil]
  exact wpAny_pure (hend b s h)
 |x::r,b,s,h=>by
  rw[forIn_cons]
  refine wpAny_bind (wpAny_mono (hstep x r b s h) (fun z s' h'=>?_) fun _ _ e=>e)
  obtain⟨b',rfl,h'⟩:=h'
  exact wpAny_forIn_list I hstep hend r b' s' h'
inductive KeysAre(R:Value→Int→Prop):List Value→List Value→Prop
 |nil:KeysAre R [] []
 |snoc {vs ks:List Value}{v:Value}{i:Int}{t:Tok}(h:KeysAre R vs ks)(r:R v i):KeysAre R (vs++[v]) (ks++[.int i t])
theorem KeysAre.ints{R:Value→Int→Prop}{vs ks:List Value}(h:KeysAre R vs ks):∀k∈ks,∃n t,k=.int n t:=by
 induction h with
 |nil=>intro k hk;cases hk
 |snoc h r ih=>
  intro k hk
  rcases mem_append.mp hk with hk|hk
  ·exact ih k hk
  ·exact⟨_,_,mem_singleton.mp hk⟩
theorem KeysAre.len{R:Value→Int→Prop}{vs ks:List Value}(h:KeysAre R vs ks):ks.length=vs.length:=by
 induction h with
 |nil=>rfl
 |snoc h r ih=>rw[length_append,length_append,ih];rfl
def wz:Array Value→Sem SortKind:=sortPriv% PySem.Builtin.keyKind
theorem DE{vs:List Value}(h:¬vs.length < 2):∃v₁ v₂ rest,vs=v₁::v₂::rest:=by
 match vs,h with
 |[],h=>exact absurd (show 0 < 2 by decide) h
 |[_],h=>exact absurd (show 1 < 2 by decide) h
 |v₁::v₂::rest,_=>exact⟨v₁,v₂,rest,rfl⟩
end
end TS
namespace TS
open PySem PyProof.Rows
def n6(rv:Bool)(f:Addr):List (Str×Value):=(Str.ofString "key",.ref f)::if rv=true then [(Str.ofString "reverse",.bool true)] else []
section
variable {prog:Program}{w:World}{A:Around}{E:Value→Shared→Prop}{s:Shared}
theorem D3 {rv:Bool}{f:Addr}{b:Str×Value→PUnit→Sem (ForInStep PUnit)}{Q:PUnit→Shared→Prop}(h:∀p,p.1=Str.ofString "key" ∨p.1=Str.ofString "reverse" →b p ⟨⟩=pure (.yield ⟨⟩)) (q:Q ⟨⟩ s):wpAny (model prog w) A (forIn (n6 rv f) PUnit.unit b) Q E s:=by
 unfold n6
 rw[forIn_cons,h _ (.inl rfl)]
 refine wpAny_bind (wpAny_pure ?_)
 dsimp only
 cases rv
 ·rw[if_neg Bool.false_ne_true,forIn_nil]
  exact wpAny_pure q
 ·rw[if_pos rfl,forIn_cons,h _ (.inr rfl)]
  refine wpAny_bind (wpAny_pure ?_)
  dsimp only
  rw[forIn_nil]
  exact wpAny_pure q
theorem EA{rv:Bool}{f:Addr}{jp:Bool→Sem PySem.Fin}{Q:PySem.Fin→Shared→Prop}(q:wpAny (model prog w) A (jp rv) Q E s):wpAny (model prog w) A (match List.lookup (Str.ofString "reverse") (n6 rv f) with
  |some r=>do
   let reverse ←truthy r
   jp reverse
  |none=>do
   let reverse ←pure false
   jp reverse) Q E s:=by
 have e:(Str.ofString "reverse" == Str.ofString "key")=false:=by decide+kernel
 unfold n6
 rw[lookup_cons,e]
 cases rv
 ·rw[if_neg Bool.false_ne_true]
  exact wpAny_bind (wpAny_pure q)
 ·rw[if_pos rfl,lookup_cons,beq_self_eq_true]
  exact wpAny_bind (wpAny_of_eq rfl q)
theorem zd{rv:Bool}{jp:PUnit→Sem PySem.Fin}{Q:PySem.Fin→Shared→Prop}(q:wpAny (model prog w) A (jp ⟨⟩) Q E s):wpAny (model prog w) A (if rv=true then do
   let r ←rule "list.sort.reverse"
   jp r
  else jp ⟨⟩) Q E s:=by
 cases rv with
 |false=>
  rw[if_neg Bool.false_ne_true]
  exact q
 |true=>
  rw[if_pos rfl]
  exact wpAny_bind (wpAny_rule q)
theorem qc {rv:Bool}{G:Shared→Prop}{R:Value→Int→Prop}{f a:Addr}{vs:List Value}{n:Nat}{P:Fin→Shared→Prop}(ho:s.heap.get? a=some (seqObj "list" vs.toArray n)) (vl:vs.length≤sizeLine)
  (g0:G { s with heap:=((s.heap.update a (Obj.mapSeq fun _=> #[])).push (seqObj "tuple" vs.toArray 0)).push (seqObj "list" #[] 0) })
  (gu:∀s' g,G s'→G { s' with heap:=s'.heap.update (s.heap.objs.size+1) (Obj.mapSeq g) })
  (gc:∀x∈vs,∀s',G s'→wpAny (model prog w) A (call (.ref f) [x]) (fun k s''=>(∃i t,k=.int i t∧R x i)∧G s''∧(∀b o,(b=a∨b=s.heap.objs.size+1)→s'.heap.get? b=some o→s''.heap.get? b=some o)) (fun _ _=>False) s')
  (fin:∀s' (ks:List Value) (arr:Array Keyed),G s'→(∃e,s'.heap.get? a=some (seqObj "list" #[] e))→KeysAre R vs ks→da intKind arr.toList→cI intKind arr.toList (if rv=true then(ks.zip vs).reverse else ks.zip vs)→P (.done (.ret .none)) { s' with heap:=(s'.heap.update (s.heap.objs.size+1) (Obj.mapSeq fun _=> #[])).update a (Obj.mapSeq fun _=>if rv=true then(arr.map (·.2)).reverse else arr.map (·.2)) }):
  wpAny (model prog w) A (Builtin.«list.sort» ⟨[.ref a],n6 rv f⟩) P E s:=by
 unfold Builtin.«list.sort»
 dsimp only[length_cons,List.length_nil]
 have l0:¬(0+(n6 rv f).length > 2):=by
  cases rv
  ·show ¬(0+1 > 2);decide
  ·show ¬(0+2 > 2);decide
 have l1:List.lookup (Str.ofString "key") (n6 rv f)=some (.ref f):=by
  unfold n6
  rw[lookup_cons]
  simp
 have l3:(Value.ref f != Value.none)=true:=rfl
 rw[if_neg l0,if_neg (by decide),l1]
 dsimp only[Option.getD]
 simp only[l3,if_true]
 have ha:a < s.heap.objs.size:=lt_size ho
 refine wpAny_bind (D3 (fun p hp=>?_) ?_)
 ·have hk:(p.1 != Str.ofString "key" && p.1 != Str.ofString "reverse")=false:=by
   rcases hp with e|e
   ·rw[e]
    decide+kernel
   ·rw[e]
    decide+kernel
  exact if_neg (by rw[hk];exact Bool.false_ne_true)
 refine EA ?_
 refine wpAny_bind (listItems_at ho rfl ?_)
 refine wpAny_bind (listUpdate_at ho rfl ?_)
 obtain⟨e1,ho1⟩:∃e1,(s.heap.update a (Obj.mapSeq fun _=> #[])).get? a=some (seqObj "list" #[] e1):=⟨_,get?_update_seq ho (fun _=> #[])⟩
 refine wpAny_bind (seqEpoch_at ho1 rfl ?_)
 refine wpAny_bind (wpAny_newTuple ?_)
 refine wpAny_bind (wpAny_newList ?_)
 refine wpAny_holding ?_
 have hN:(s.heap.update a (Obj.mapSeq fun _=> #[])).objs.size=s.heap.objs.size:=size_update _ _ _
 have hks:((s.heap.update a (Obj.mapSeq fun _=> #[])).push (seqObj "tuple" vs.toArray 0)).objs.size=s.heap.objs.size+1:=by rw[size_push',hN]
 have ho6:(((s.heap.update a (Obj.mapSeq fun _=> #[])).push (seqObj "tuple" vs.toArray 0)).push (seqObj "list" #[] 0)).get? a=some (seqObj "list" #[] e1):=by
  rw[get?_push_ne _ _ _ (by rw[hks];exact ne_of_lt (lt_succ_of_lt ha)),get?_push_ne _ _ _ (by rw[hN];exact ne_of_lt ha)]
  exact ho1
 have hk6:(((s.heap.update a (Obj.mapSeq fun _=> #[])).push (seqObj "tuple" vs.toArray 0)).push (seqObj "list" #[] 0)).get? (s.heap.objs.size+1)=some (seqObj "list" #[] 0):=by
  rw[←hks]
  exact get?_push_size _ rfl
 show wpAny (model prog w) A _ P E { s with heap:=((s.heap.update a (Obj.mapSeq fun _=> #[])).push (seqObj "tuple" vs.toArray 0)).push (seqObj "list" #[] 0) }
 simp only[hks]
 generalize hh1:((s.heap.update a (Obj.mapSeq fun _=> #[])).push (seqObj "tuple" vs.toArray 0)).push (seqObj "list" #[] 0)=h1 at g0 ho6 hk6
 have hne:s.heap.objs.size+1≠a:=ne_of_gt (lt_succ_of_lt ha)
 have hsz:vs.toArray.size=vs.length:=size_toArray
 refine wpAny_bind (wpAny_rule ?_)
 rw[List.forIn_toArray]
 refine wpAny_bind (wpAny_mono (wpAny_forIn_list (I:=fun rest _ s'=>∃dn ks e2,vs=dn++rest∧KeysAre R dn ks∧G s'∧s'.heap.get? a=some (seqObj "list" #[] e1)∧s'.heap.get? (s.heap.objs.size+1)=some (seqObj "list" ks.toArray e2))
  (Q:=fun _ s'=>∃ks e2,KeysAre R vs ks∧G s'∧s'.heap.get? a=some (seqObj "list" #[] e1)∧s'.heap.get? (s.heap.objs.size+1)=some (seqObj "list" ks.toArray e2)) ?step ?fin' vs _ _ ⟨[],[],0,rfl,.nil,g0,ho6,hk6⟩) ?post fun _ _ e=>e)
 case fin'=>
  rintro b s' ⟨dn,ks,e2,e,k,g,h1,h2⟩
  rw[append_nil]at e
  subst e
  exact⟨ks,e2,k,g,h1,h2⟩
 case step=>
  rintro x r b s' ⟨dn,ks,e2,e,k,g,h1,h2⟩
  have mx:x∈vs:=by rw[e];exact mem_append_right _ mem_cons_self
  have kl:ks.length+1≤vs.length:=by rw[k.len,e,length_append];show _≤_+(_+1);omega
  refine wpAny_bind (wpAny_attempt (wpAny_mono (gc x mx s' g) (fun kv s2 h=>?_) fun _ _ h=>False.elim h))
  obtain⟨⟨i,t,rfl,ri⟩,g2,kp⟩:=h
  dsimp only
  have hk2:=kp _ _ (.inr rfl) h2
  refine wpAny_bind (listUpdate_at hk2 rfl ?_ (by rw[size_toArray];omega) (by rw[Array.size_push,size_toArray];omega))
  have hk3:=get?_update_seq hk2 (fun x=>x.push (.int i t))
  simp only[List.push_toArray]at hk3
  refine wpAny_pure ⟨_,rfl,dn++[x],ks++[.int i t],_,by rw[e,append_assoc];rfl,k.snoc ri,gu _ _ g2,?_,hk3⟩
  exact(get?_update_ne _ _ _ _ hne.symm).trans (kp _ _ (.inl rfl) h1)
 case post=>
  rintro _ s' ⟨ks,e2,k,g,h1,h2⟩
  have kl:=k.len
  refine wpAny_bind (listItems_at h2 rfl ?_)
  refine zd ?_
  have k2:ks.toArray.size=ks.length:=size_toArray
  have zl:(if rv=true then(ks.toArray.zip vs.toArray).reverse else ks.toArray.zip vs.toArray).toList=if rv=true then(ks.zip vs).reverse else ks.zip vs:=by
   cases rv
   ·exact Array.toList_zip
   ·exact(toList_reverse).trans (congrArg List.reverse Array.toList_zip)
  have zn:(if rv=true then(ks.zip vs).reverse else ks.zip vs).length=vs.length:=by
   have e:(ks.zip vs).length=vs.length:=by rw[length_zip,kl,min_self]
   cases rv
   ·exact e
   ·exact length_reverse.trans e
  have al:∀{st':SortSt},cI intKind (arrOf st').toList (if rv=true then(ks.zip vs).reverse else ks.zip vs)→(arrOf st').size=vs.length:=fun {st'} h=>by
   rw[←length_toList,h.perm.length_eq,zn]
  have sr:∀X:Array Value,(if rv=true then X.reverse else X).size=X.size:=fun X=>by
   cases rv
   ·rfl
   ·exact Array.size_reverse
  by_cases c2:vs.toArray.size < 2
  ·rw[if_pos c2]
   refine wpAny_bind (wpAny_pure ?_)
   rw[if_pos c2,StateT.run_pure]
   refine wpAny_bind (wpAny_pure ?_)
   dsimp only
   have fz:=fin s' ks (if rv=true then(ks.toArray.zip vs.toArray).reverse else ks.toArray.zip vs.toArray) g ⟨e1,h1⟩ k (by
    rw[zl]
    have l2':(if rv=true then(ks.zip vs).reverse else ks.zip vs).length < 2:=by rw[zn,←hsz];exact c2
    match (if rv=true then(ks.zip vs).reverse else ks.zip vs),l2' with
    |[],_=>exact List.Pairwise.nil
    |[_],_=>exact List.pairwise_singleton _ _) (by rw[zl];exact cI.refl _)
   refine wpAny_bind (listUpdate_at h2 rfl ?_ (by rw[size_toArray];omega) (by show 0≤_;omega))
   refine wpAny_bind (wpAny_letGo ?_)
   have ha2:(s'.heap.update (s.heap.objs.size+1) (Obj.mapSeq fun _=> #[])).get? a=some (seqObj "list" #[] e1):=(get?_update_ne _ _ _ _ hne.symm).trans h1
   refine wpAny_bind (seqEpoch_at ha2 rfl ?_)
   refine wpAny_bind (listUpdate_at ha2 rfl ?_ (by show 0≤_;omega) (by rw[sr,Array.size_map,←length_toList,zl,zn];omega))
   simp only[bne_self_eq_false,false_eq_true,if_false]
   exact wpAny_pure fz
  ·rw[if_neg c2]
   have hkk:wz ks.toArray=pure oneType':=by
    obtain⟨v₁,v₂,rest,e⟩:=DE (vs:=ks) (by rw[kl,←hsz];exact c2)
    have:=intsAre_map ks k.ints
    rw[e]at this ⊢
    exact keyKind_ints this
   refine wpAny_bind (wpAny_of_eq hkk ?_)
   rw[if_neg c2]
   refine wpAny_bind (wpAny_mono (oi (κ:=intKind) zp (st:=SortSt.mk' oneType' (if rv=true then(ks.toArray.zip vs.toArray).reverse else ks.toArray.zip vs.toArray) #[] 7 none)
    (Q:=fun _ st'=>failedOf st'=none∧da intKind (arrOf st').toList∧cI intKind (arrOf st').toList (if rv=true then(ks.zip vs).reverse else ks.zip vs)) rfl rfl rfl (fun p hp=>?_) fun st' f1 f2 f3=>⟨f1,f2,by rw[←zl];exact f3⟩) ?_ fun _ _ e=>e)
   ·have hp':p∈ks.zip vs:=by
     have h:p∈(if rv=true then(ks.zip vs).reverse else ks.zip vs):=by rw[←zl];exact hp
     cases rv
     ·exact h
     ·exact mem_reverse.mp h
    obtain⟨n',t',e'⟩:=k.ints p.1 (of_mem_zip (show(p.1,p.2)∈ks.zip vs from hp')).1
    exact⟨n',by rw[e'];rfl⟩
   ·rintro⟨⟨⟩,st'⟩ s2 ⟨rfl,f1,f2,f3⟩
    dsimp only
    have fz:=fin s2 ks (arrOf st') g ⟨e1,h1⟩ k f2 f3
    refine wpAny_bind (listUpdate_at h2 rfl ?_ (by rw[size_toArray];omega) (by show 0≤_;omega))
    refine wpAny_bind (wpAny_letGo ?_)
    have ha2:(s2.heap.update (s.heap.objs.size+1) (Obj.mapSeq fun _=> #[])).get? a=some (seqObj "list" #[] e1):=(get?_update_ne _ _ _ _ hne.symm).trans h1
    refine wpAny_bind (seqEpoch_at ha2 rfl ?_)
    refine wpAny_bind (listUpdate_at ha2 rfl ?_ (by show 0≤_;omega) (by rw[sr];refine le_trans (le_of_eq ((Array.size_map ..).trans (al f3))) ?_;omega))
    have f1':(sortPriv% PySem.Builtin.SortState.failed) st'=none:=f1
    rw[f1']
    simp only[bne_self_eq_false,false_eq_true,if_false]
    exact wpAny_pure fz
end
end TS
namespace L2
open PySem PySem.Spec PyProof.Rows
section
variable {X:Cx}
theorem Un.over{fs ex:List Addr}{H H1:Hp}{h h1 h2:Heap}(u:Un fs ex H H1 h h1)(k:∀b,b < h.objs.size→h2.get? b=h1.get? b):Un fs ex H H1 h h2 where
 keep:=fun b o q n hb hx=>(k b (lt_size q)).trans (u.keep b o q n hb hx)
 slot:=fun b o q n hb hx=>by
  obtain⟨sl,e⟩:=u.slot b o q n hb hx
  exact⟨sl,(k b (lt_size q)).trans e⟩
 free:=u.free
 there:=fun b o q hx=>by
  obtain⟨o',e⟩:=u.there b o q hx
  exact⟨o',(k b (lt_size q)).trans e⟩
 tups:=u.tups
 frzs:=u.frzs
 tbls:=u.tbls
theorem Un.z0{fs ex:List Addr}{H:Hp}{h h1:Heap}{a:Addr}{o:HO}(u:Un fs ex H H h h1)(ha:h.objs.size≤a)(hn:H a=none):Un fs ex H (upd H a o) h h1 where
 keep:=u.keep
 slot:=u.slot
 free:=fun b ob q n hx=>by rw[cC (ne_of_lt (lt_of_lt_of_le (lt_size q) ha))];exact n
 there:=u.there
 tups:=fun b xs q=>by rw[cC (cz q hn)];exact q
 frzs:=fun b ob xs q=>by rw[cC (cz q hn)];exact q
 tbls:=fun b ps q=>⟨#[],by rw[cC (cz q hn),q];simp⟩
theorem gF.over{P:Program}{w:World}{H:Hp}{h0 h h':Heap}(x0:gF P w H h0)(x:gF P w H h)(k:∀b,b < h0.objs.size→h'.get? b=h.get? b):gF P w H h':=fun a o e=>
 (x a o e).eF (fun b u hb q=>(k b (hb.elim (fun z=>z ▸ x0.lt e) (fun z=>x0.lt z))).trans q) (fun _ q=>q) fun _ _ q=>q
theorem gF.z0{P:Program}{w:World}{H:Hp}{h:Heap}{a:Addr}{o:HO}(x:gF P w H h)(hn:H a=none)(new:cV P w (upd H a o) h a o):gF P w (upd H a o) h:=fun b u e=>by
 by_cases hb:b=a
 ·subst hb
  rw[cy]at e
  cases e
  exact new
 ·rw[cC hb]at e
  exact(x b u e).eF (fun c v _ q=>q) (fun c q=>by rw[cC (cz q hn)];exact q) fun c xs q=>by rw[cC (cz q hn)];exact q
def dr:Value→Addr
 |.ref a=>a
 |_=>0
def yW(g:Addr→Int)(v:Value)(i:Int):Prop:=∃a,v=.ref a∧g a=i
theorem wV{g:Addr→Int}{vs ks:List Value}(h:TS.KeysAre (yW g) vs ks):∀p∈ks.zip vs,TS.key TS.intKind p=g (dr p.2)∧p.2=.ref (dr p.2):=by
 induction h with
 |nil=>intro p hp;cases hp
 |snoc h r ih=>
  intro p hp
  rw[List.zip_append h.len]at hp
  rcases mem_append.mp hp with hp|hp
  ·exact ih p hp
  ·cases mem_singleton.mp hp
   obtain⟨a,rfl,e⟩:=r
   exact⟨e.symm,rfl⟩
theorem vO:∀{as:List Addr}{its:List Value},Vals (as.map V.ref) its→its=as.map Value.ref
 |[],[],_=>rfl
 |[],_::_,h=>by cases h
 |_::_,[],h=>by cases h
 |a::as,v::its,h=>by
  cases h with
  |cons r t=>
   cases r
   rw[map_cons,vO t]
theorem pe:∀(as:List Addr),Vals (as.map V.ref) (as.map Value.ref)
 |[]=>.nil
 |a::as=>.cons rfl (pe as)
inductive DB(K:PySem.W.Frag)(sp:Sp)(xs:List V)(H:Hp)(Q:VK):Prop
 |mk(p:Addr)(as:List Addr)(g:Addr→Int)(e:xs=[.ref p])(s:cF K H p (as.map V.ref))(hs:∀a∈as,∀Q':VK,Q' (.int (g a)) H→sp [.ref a] H Q' E0)
   (q:∀(l:Addr)(zs:List Addr),H l=none→zs.Perm as→zs.Pairwise (fun a b=>g a≤g b)→(∀i,zs.filter (fun a=>decide (g a=i))=as.filter (fun a=>decide (g a=i)))→Q (.ref l) (upd H l (.lst (zs.map V.ref))))
structure zM(X:Cx)(x:Str)(sp:Sp):Prop where
 ex:∃(k:Nat) (f:Addr) (fd:FuncData) (ps:List Str),eD X.prog X.w X.K X.mg X.base l9 k f fd ps sp∧dD (k+2) X.A∧X.mg x=some (.ref f)∧Binds X.K fd ps []
 gl:Gl X x
 db:(x == ("__debug__" :Str))=false
theorem Here.FG {P:Program}{w:World}{K:PySem.W.Frag}{mg:Str→Option Value}{base:Heap}{sc:Scope}{N:List Str}{k j:Nat}{x:Str}{sp:Sp}(h:Here X P w K mg base sc N k) (G:Gd P w K mg base j x sp) (hg:sc.names.lookup x=some .globalImplicit) (hj:j+2≤k) (db:(x == ("__debug__" :Str))=false):zM X x sp:=by
 obtain⟨f,fd,ps,h1,h2,h3,h4⟩:=G.ex
 obtain⟨rfl,rfl,rfl,rfl,rfl⟩:=And.intro h.pr (And.intro h.wd (And.intro h.fK (And.intro h.gm h.bs)))
 exact⟨⟨j,f,fd,ps,h1,h.room.mono hj,h2,h4⟩,h.gl hg,db⟩
end
end L2
namespace J
open PySem PySem.Spec PyProof.Rows
open L2 (Cx V cF dq)
theorem Cv{X:Cx}{c a b:Expr}{pos:Pos}{tA:L2.TT}{ta tb:L2.TE}(hc:JT X c tA)(ha:JE X a ta)(hb:JE X b tb):JE X (.IfExp c a b pos) (L2.Jq tA ta tb):=⟨L2.yX hc.out ha.out hb.out⟩
end J
namespace L2
open PySem PySem.Spec PyProof.Rows
section
variable {X:Cx}
inductive Fx(K:PySem.W.Frag)(x y:V)(H:Hp)(Q:Prop):Prop
 |mk(a b:Addr)(xs ys:List V)(hx:x=.ref a)(hy:y=.ref b)(s:cF K H a xs)(t:cF K H b ys)(l:xs.length=ys.length)
   (he:∀(i:Nat) u v,xs[i]? =some u→ys[i]? =some v→∃p q zs,u=.ref p∧v=.ref q∧dq K H p zs∧dq K H q zs∧∀z∈zs,jT z z=some true)(q:Q)
end
end L2
namespace J
open PySem PySem.Spec PyProof.Rows
open L2 (Cx V cF dq)
end J
namespace L2
open PySem PySem.Spec PyProof.Rows
section
variable {X:Cx}
theorem vU{P:Program}{w:World}{z:Str}{v:Value}(h:(cG P w).is (Sum.inr z) v=true):∃t,v=.str z t:=by
 cases v with
 |str x t=>
  have e:x=z:=by simpa [cG,gx,Value.isStrOf] using h
  exact⟨t,by rw[e]⟩
 |_=>simp[cG,gx,Value.isStrOf]at h
theorem vM:∀{us:List Value}{zs:List Str},us.length=zs.length→(∀(i:Nat) u z,us[i]? =some u→zs[i]? =some z→∃t,u=.str z t)→StrsAre us zs
 |[],[],_,_=>.nil
 |[],_::_,l,_=>by cases l
 |_::_,[],l,_=>by cases l
 |u::us,z::zs,l,h=>by
  obtain⟨t,rfl⟩:=h 0 u z rfl rfl
  exact .cons _ _ (vM (Nat.succ.inj l) fun i u z h1 h2=>h (i+1) u z h1 h2)
inductive Fe(xs:List V)(H:Hp)(Q:VK):Prop
 |mk(p:Addr)(kvs:List (Key×V))(zs:List Str)(e:xs=[.ref p])(s:H p=some (.dK kvs))(k:kvs.map (·.1)=zs.map Sum.inr)(l:zs.length < 64)(q:∀l zs',H l=none→zs.Nodup→zs'.Perm zs→sortedS zs'=true→Q (.ref l) (upd H l (.lst (zs'.map V.str))))
theorem gQ(hc:X.calm=true):ef X (.builtin "sorted") (fun xs H Q=>Fe xs H Q):=by
 intro pins s σ H xs us Q I r h
 obtain⟨p,kvs,zs,rfl,hp,hk,l64,q⟩:=h
 obtain⟨u,rfl,rx⟩:=vals1 r
 cases rx
 obtain⟨kz,hsm,vs,kv,o,es,ep,ho,ed,hdat,kof,prs,nd⟩:=CF I.hok hp
 have kl:vs.length=zs.length:=by
  have:=congrArg List.length hk
  rw[length_map,length_map,kv.length]at this
  exact this
 have hsz:sizeLine=16777216:=sizeLine_eq
 have zat:∀{j:Nat}{k:Key}{x:Value},vs[j]? =some (k,x)→∃z,zs[j]? =some z∧k=Sum.inr z:=fun {j k x} e=>by
  have e1:(vs.map (·.1))[j]? =some k:=by rw[getElem?_map,e];rfl
  rw[←kv.keys,hk,getElem?_map]at e1
  obtain⟨z,h1,h2⟩:=map_eq_some_iff.mp e1
  exact⟨z,h1,h2.symm⟩
 have znd:zs.Nodup:=by
  rw[←kv.keys,hk]at nd
  exact(List.pairwise_map.mp nd).imp fun h e=>h (by rw[e])
 refine call_function_entry_kw kind_sorted plain_sorted entry_sorted (args_sorted1 _) ?_
 unfold Builtin.«sorted»
 refine wpAny_bind (m:=checkCount "sorted" 1 1 _) (wpAny_pure ?_)
 refine wpAny_bind (PySem.W.kdu_collect (PySem.W.kdl_dict (knd:=cG X.prog X.w) (kvs:=vs) (ep:=ep) hsm) (I.ok.hd hc) ⟨o,es,ho,ed,hdat,kof,prs,nd⟩ (by omega) fun h' tk acc kp it=>?_)
 obtain⟨al,ai⟩:=it
 have sa:StrsAre acc.toList zs:=vM (by rw[length_toList];omega) fun i u z h1 h2=>by
  rw[getElem?_toList]at h1
  obtain⟨k,x,e1,e2⟩:=ai i u h1
  obtain⟨z',e3,rfl⟩:=zat e1
  rw[h2]at e3
  cases e3
  exact vU e2
 have al':acc.toList.length=zs.length:=by rw[length_toList];omega
 have pl:(h'.push (seqObj "list" acc.toList.toArray 0)).get? h'.objs.size=some (seqObj "list" acc.toList.toArray 0):=get?_push_size _ rfl
 refine wpAny_bind (wpAny_newList ?_ (by omega))
 refine wpAny_bind (wpAny_holding (wpAny_call_entry slot_list_sort ⟨_,pl,rfl⟩ entry_list_sort (list_sort_treeK strKind_oneLt pl sa.keysOf (fun v₁ v₂ rest e=>keyKind_strs (e ▸ sa)) (by omega) fun st' a1 a2=>?_) (args_list_sort _)))
 obtain⟨ss',b1,b2,b3⟩:=sorted_out_str sa a1 a2
 obtain⟨e,he⟩:=sortedHeap_at (out:=(arrOf st').map (·.2)) pl
 have I':Inv X pins σ H { s with heap:=h',toks:=tk }:=I.un (t':=tk) (Un.kept kp) (I.hok.kept kp)
 refine⟨_,rfl,wpAny_pure ⟨_,rfl,.ref h'.objs.size,_,I'.laid (t':=tk) (o:=.lst (ss'.map V.str)) (fun b u hb=>?_) (le_refl _) ⟨by rw[length_map,b2.length_eq];omega,_,e,ku b1,he⟩,rfl,q _ _ (I'.hok.fresh (le_refl _)) znd b2 b3⟩⟩
 have lt:=lt_size hb
 exact(sortedHeap_old (ne_of_lt lt) (by rw[size_push'];exact lt_succ_of_lt lt)).trans ((get?_push_ne _ _ _ (ne_of_lt lt)).trans hb)
inductive E5(K:PySem.W.Frag)(H:Hp)(z y:V):Prop
 |flat (e:z=y)(f:jT z z=some true)
 |tup (w v:Addr)(ws:List V)(hz:z=.ref w)(hy:y=.ref v)(s:dq K H w ws)(t:dq K H v ws)(f:∀x∈ws,jT x x=some true)
inductive IA(K:PySem.W.Frag)(x y:V)(H:Hp)(Q:Prop):Prop
 |mk(a b:Addr)(xs ys:List V)(hx:x=.ref a)(hy:y=.ref b)(s:cF K H a xs)(t:cF K H b ys)(l:xs.length=ys.length)
   (he:∀(i:Nat) u v,xs[i]? =some u→ys[i]? =some v→∃p q zs ws,u=.ref p∧v=.ref q∧dq K H p zs∧dq K H q ws∧zs.length=ws.length∧∀(j:Nat) z y,zs[j]? =some z→ws[j]? =some y→E5 K H z y)(q:Q)
end
end L2
namespace J
open PySem PySem.Spec PyProof.Rows
open L2 (Cx V cF dq)
theorem gQ{X:Cx}(hc:X.calm=true):JF X (.builtin "sorted") (fun xs H Q=>L2.Fe xs H Q):=⟨L2.gQ hc⟩
end J
namespace L2
open PySem PySem.Spec PyProof.Rows
section
variable {X:Cx}
inductive FT(K:PySem.W.Frag)(H:Hp)(z y:V):Prop
 |flat (e:z=y)(f:jT z z=some true)
 |rows (h:Fx K z y H True)
inductive Jd(K:PySem.W.Frag)(x y:V)(H:Hp)(Q:VK):Prop
 |same (a b:Addr)(zs ws:List V)(hx:x=.ref a)(hy:y=.ref b)(s:dq K H a zs)(t:dq K H b ws)(l:zs.length=ws.length)(e:∀(j:Nat) z y,zs[j]? =some z→ws[j]? =some y→FT K H z y)(q:Q (.bl false) H)
end
theorem lG{X:Cx}{e d:Expr}{ty td:TE}{pos:Pos}(hu:X.A.units+1 < cLine)(hi:PE X e ty)(ho:PE X d td)(hm:behindInMarks .NotIn d=false:=by rfl):PE X (.Compare e [.NotIn] [d] pos) (ma ty td):=zX (ph hu hi ho) hm
end L2
namespace J
open PySem PySem.Spec PyProof.Rows
open L2 (Cx V cF dq TE)
theorem lG{X:Cx}{e d:Expr}{ty td:TE}{pos:Pos}(hu:X.A.units+1 < cLine)(hi:JE X e ty)(ho:JE X d td)(hm:behindInMarks .NotIn d=false:=by rfl):JE X (.Compare e [.NotIn] [d] pos) (L2.ma ty td):=⟨L2.lG hu hi.out ho.out hm⟩
end J
namespace L2
open PySem PySem.Spec PyProof.Rows
section
variable {X:Cx}
theorem mZ(rv:Bool)(a:Value)(f:Addr):argsOk "sorted" ⟨[a],TS.n6 rv f⟩:=by cases rv<;>(unfold argsOk;kernel_rfl)
theorem oI(rv:Bool)(a:Value)(f:Addr):argsOk "list.sort" ⟨[a],TS.n6 rv f⟩:=by cases rv<;>(unfold argsOk;kernel_rfl)
inductive AZ(K:PySem.W.Frag)(rv:Bool)(sp:Sp)(xs:List V)(H:Hp)(Q:VK):Prop
 |mk(p:Addr)(as:List Addr)(g:Addr→Int)(e:xs=[.ref p])(s:cF K H p (as.map V.ref))(hs:∀a∈as,∀Q':VK,Q' (.int (g a)) H→sp [.ref a] H Q' E0)
   (q:∀(l:Addr)(ys:List Addr),H l=none→ys.Perm as→ys.Pairwise (fun a b=>g a≤g b)→(∀i,ys.filter (fun a=>decide (g a=i))=(if rv=true then as.reverse else as).filter (fun a=>decide (g a=i)))→Q (.ref l) (upd H l (.lst ((if rv=true then ys.reverse else ys).map V.ref))))
theorem nF{rv:Bool}{k:Nat}{f:Addr}{fd:FuncData}{ps:List Str}{sp:Sp}(F:eD X.prog X.w X.K X.mg X.base l9 k f fd ps sp)(hr:dD (k+2) X.A)(hb:Binds X.K fd ps []){pins:List (Addr×Obj)}{s:Shared}{σ:St}{H:Hp}{xs:List V}{us:List Value}{Q:VK}
  (I:Inv X pins σ H s)(r:Vals xs us)(h:AZ X.K rv sp xs H Q):wpAny (model X.prog X.w) X.A (call (.builtin "sorted") us (TS.n6 rv f)) (EP X pins σ Q) X.xe s:=by
 obtain⟨p,as,g,rfl,hq,hs,q⟩:=h
 obtain⟨u,rfl,rx⟩:=vals1 r
 cases rx
 obtain⟨its,rvl,pl,hz⟩:=I.list hq
 obtain rfl:=vO rvl
 rw[length_map]at hz
 refine call_function_entry_kw kind_sorted plain_sorted entry_sorted (mZ _ _ _) ?_
 unfold Builtin.«sorted»
 refine wpAny_bind (m:=checkCount "sorted" 1 1 _) (wpAny_pure ?_)
 refine wpAny_bind (collect_list pl.isList ?_)
 refine wpAny_bind (wpAny_newList ?_)
 have hsz:((s.heap.push (seqObj "list" #[] 0)).update s.heap.objs.size (Obj.mapSeq (· ++(as.map Value.ref).toArray))).objs.size=s.heap.objs.size+1:=by
  rw[size_update,size_push']
 have hoL:(((s.heap.push (seqObj "list" #[] 0)).update s.heap.objs.size (Obj.mapSeq (· ++(as.map Value.ref).toArray))).push (seqObj "list" (as.map Value.ref).toArray 0)).get? (s.heap.objs.size+1)=some (seqObj "list" (as.map Value.ref).toArray 0):=by
  rw[←hsz]
  exact get?_push_size _ rfl
 show wpAny _ _ _ _ _ { s with heap:=((s.heap.push (seqObj "list" #[] 0)).update s.heap.objs.size (Obj.mapSeq (· ++(as.map Value.ref).toArray))).push (seqObj "list" (as.map Value.ref).toArray 0) }
 rw[hsz]
 have hold:∀b,b < s.heap.objs.size→(((s.heap.push (seqObj "list" #[] 0)).update s.heap.objs.size (Obj.mapSeq (· ++(as.map Value.ref).toArray))).push (seqObj "list" (as.map Value.ref).toArray 0)).get? b=s.heap.get? b:=fun b hb=>by
  rw[get?_push_ne _ _ _ (by rw[hsz];exact ne_of_lt (lt_succ_of_lt hb)),get?_update_ne _ _ _ _ (ne_of_lt hb),get?_push_ne _ _ _ (ne_of_lt hb)]
 have hs2:(((s.heap.push (seqObj "list" #[] 0)).update s.heap.objs.size (Obj.mapSeq (· ++(as.map Value.ref).toArray))).push (seqObj "list" (as.map Value.ref).toArray 0)).objs.size=s.heap.objs.size+2:=by rw[size_push',hsz]
 generalize ((s.heap.push (seqObj "list" #[] 0)).update s.heap.objs.size (Obj.mapSeq (· ++(as.map Value.ref).toArray))).push (seqObj "list" (as.map Value.ref).toArray 0)=h2 at hoL hold hs2
 have na:H (s.heap.objs.size+1)=none:=I.hok.fresh (le_succ _)
 have nk:H (h2.objs.size+1)=none:=I.hok.fresh (by rw[hs2];omega)
 have nfr:∀b,s.heap.objs.size≤b→b ∉ wR X.stack:=fun b hb hm=>by
  obtain⟨_,o,e,_⟩:=I.stack.mem hm
  exact absurd (lt_size e) (Nat.not_lt.mpr hb)
 refine wpAny_bind (wpAny_holding (wpAny_call_entry_kw slot_list_sort ⟨_,hoL,rfl⟩ entry_list_sort (TS.qc (rv:=rv) (R:=yW g)
  (G:=fun s'=>s'.os=s.os∧AllBare s'.gens∧Un (wR X.stack) [] H H s.heap s'.heap∧gF X.prog X.w H s'.heap) hoL (by rw[length_map];exact hz) ?g0 ?gu ?gc ?fin) (oI _ _ _)))
 case g0=>
  have k:∀b,b < s.heap.objs.size→(((h2.update (s.heap.objs.size+1) (Obj.mapSeq fun _=> #[])).push (seqObj "tuple" (as.map Value.ref).toArray 0)).push (seqObj "list" #[] 0)).get? b=s.heap.get? b:=fun b hb=>by
   rw[get?_push_ne _ _ _ (ne_of_lt (by rw[size_push',size_update,hs2];omega)),get?_push_ne _ _ _ (ne_of_lt (by rw[size_update,hs2];omega)),get?_update_ne _ _ _ _ (ne_of_lt (by omega)),hold b hb]
  exact⟨rfl,I.bare,Un.refl.over k,gF.over I.hok I.hok k⟩
 case gu=>
  rintro s' gg ⟨os,bare,un,hok⟩
  have k:∀b,b < s.heap.objs.size→(s'.heap.update (h2.objs.size+1) (Obj.mapSeq gg)).get? b=s'.heap.get? b:=fun b hb=>get?_update_ne _ _ _ _ (ne_of_lt (by rw[hs2];omega))
  exact⟨os,bare,un.over k,gF.over I.hok hok k⟩
 case gc=>
  rintro v hv s' ⟨os,bare,un,hok⟩
  obtain⟨a,ha,rfl⟩:=mem_map.mp hv
  have I':Inv X pins σ H s':=I.yj (ch:=[]) os un hok bare (fun b z=>by cases z)
  have hq':=hs a ha (fun v H'=>v=.int (g a)∧H'=H) ⟨rfl,rfl⟩
  have hl:([Value.ref a]++([]:List Value)).length=ps.length:=F.len _ _ _ _ hq'
  refine wpAny_call (codeAny_mono (F.run X.A.in1.in1 X.stack s' H ⟨[.ref a],[]⟩ [.ref a] [.ref a] _ E0 hr.in1.in1 I'.En.in1.in1 (hb s' [.ref a] I'.lV hl) (.cons rfl .nil) hq') fun rr s2 hh=>?_)
  cases rr with
  |error e=>exact False.elim hh
  |ok fl=>
   cases fl with
   |next=>exact False.elim hh
   |brk=>exact False.elim hh
   |cont=>exact False.elim hh
   |ret u=>
    obtain⟨v,H',os2,bare2,un2,hok2,rv2,rfl,rfl⟩:=hh
    obtain⟨t,rfl⟩:=rv2
    refine⟨⟨_,t,rfl,a,rfl,rfl⟩,⟨os2.trans os,bare2,un.trans un2,hok2⟩,fun b o hb hg=>?_⟩
    rcases hb with rfl|rfl
    ·exact un2.keep _ _ hg na (nfr _ (le_succ _)) (fun z=>by cases z)
    ·exact un2.keep _ _ hg nk (nfr _ (by rw[hs2];omega)) (fun z=>by cases z)
 case fin=>
  rintro s' ks arr ⟨os,bare,un,hok⟩ ⟨e1,hae⟩ kk ie stb
  refine⟨_,rfl,wpAny_pure ⟨_,rfl,?_⟩⟩
  have km:=wV kk
  have mz:∀p:Keyed,p∈(if rv=true then(ks.zip (as.map Value.ref)).reverse else ks.zip (as.map Value.ref))→p∈ks.zip (as.map Value.ref):=fun p hp=>by
   cases rv
   ·exact hp
   ·exact mem_reverse.mp hp
  have am:∀p∈arr.toList,TS.key TS.intKind p=g (dr p.2)∧p.2=.ref (dr p.2):=fun p hp=>km p (mz p (stb.mem.mp hp))
  have zs0:(ks.zip (as.map Value.ref)).map (fun p=>dr p.2)=as:=by
   have e1:(fun p:Keyed=>dr p.2)=dr ∘ Prod.snd:=rfl
   rw[e1,←map_map,List.map_snd_zip (by rw[kk.len];exact le_refl _),map_map]
   exact List.map_id _
  have zsnd:(if rv=true then(ks.zip (as.map Value.ref)).reverse else ks.zip (as.map Value.ref)).map (fun p=>dr p.2)=if rv=true then as.reverse else as:=by
   cases rv
   ·exact zs0
   ·exact List.map_reverse.trans (congrArg List.reverse zs0)
  have hzs:(if rv=true then(arr.map (·.2)).reverse else arr.map (·.2)).toList=(if rv=true then(arr.toList.map fun p=>dr p.2).reverse else arr.toList.map fun p=>dr p.2).map Value.ref:=by
   have e:(arr.map (·.2)).toList=(arr.toList.map fun p=>dr p.2).map Value.ref:=by
    rw[Array.toList_map,map_map]
    exact map_congr_left fun p hp=>(am p hp).2
   cases rv
   ·exact e
   ·exact toList_reverse.trans ((congrArg List.reverse e).trans List.map_reverse.symm)
  have perm:(arr.toList.map fun p=>dr p.2).Perm as:=by
   have:=stb.perm.map (fun p:Keyed=>dr p.2)
   rw[zsnd]at this
   cases rv
   ·exact this
   ·exact this.trans (List.reverse_perm as)
  have pw:(arr.toList.map fun p=>dr p.2).Pairwise (fun a b=>g a≤g b):=by
   rw[List.pairwise_map]
   refine List.Pairwise.imp_of_mem (fun {x y} hx hy hxy=>?_) ie
   have h':TS.intKind.blt (TS.key TS.intKind y) (TS.key TS.intKind x)=false:=hxy
   rw[(am x hx).1,(am y hy).1]at h'
   have h2':decide (g (dr y.2) < g (dr x.2))=false:=h'
   rw[decide_eq_false_iff_not]at h2'
   omega
  have flt:∀(l:List Keyed),(∀p∈l,TS.key TS.intKind p=g (dr p.2))→∀i:Int,(l.map fun p=>dr p.2).filter (fun a=>decide (g a=i))=(TS.fk TS.intKind i l).map fun p=>dr p.2:=fun l hl i=>by
   rw[filter_map]
   congr 1
   refine List.filter_congr fun p hp=>?_
   show decide (g (dr p.2)=i)=(!TS.intKind.blt (TS.key TS.intKind p) i && !TS.intKind.blt i (TS.key TS.intKind p))
   rw[hl p hp]
   show decide (g (dr p.2)=i)=(!decide (g (dr p.2) < i) && !decide (i < g (dr p.2)))
   rw[Bool.eq_iff_iff,and_eq_true,not_eq_true',not_eq_true',decide_eq_true_iff,decide_eq_false_iff_not,decide_eq_false_iff_not]
   omega
  have fl:∀i:Int,(arr.toList.map fun p=>dr p.2).filter (fun a=>decide (g a=i))=(if rv=true then as.reverse else as).filter (fun a=>decide (g a=i)):=fun i=>by
   have e2:=flt _ (fun p hp=>(km p (mz p hp)).1) i
   rw[zsnd]at e2
   rw[flt arr.toList (fun p hp=>(am p hp).1) i,e2,stb i]
  have hkne:s.heap.objs.size+1≠h2.objs.size+1:=ne_of_lt (by rw[hs2];omega)
  have hae2:(s'.heap.update (h2.objs.size+1) (Obj.mapSeq fun _=> #[])).get? (s.heap.objs.size+1)=some (seqObj "list" #[] e1):=(get?_update_ne _ _ _ _ hkne).trans hae
  have hend:=get?_update_seq hae2 (fun _=>if rv=true then(arr.map (·.2)).reverse else arr.map (·.2))
  have k:∀b,b < s.heap.objs.size→((s'.heap.update (h2.objs.size+1) (Obj.mapSeq fun _=> #[])).update (s.heap.objs.size+1) (Obj.mapSeq fun _=>if rv=true then(arr.map (·.2)).reverse else arr.map (·.2))).get? b=s'.heap.get? b:=fun b hb=>by
   rw[get?_update_ne _ _ _ _ (ne_of_lt (by omega)),get?_update_ne _ _ _ _ (ne_of_lt (by rw[hs2];omega))]
  refine⟨.ref (s.heap.objs.size+1),_,I.yj (ch:=[]) os ((un.over k).z0 (le_succ _) na) ((gF.over I.hok hok k).z0 na ?_) bare (fun b z=>by cases z),rfl,q _ _ na perm pw fl⟩
  have pl':=perm.length_eq
  have pl2:(if rv=true then(arr.toList.map fun p=>dr p.2).reverse else arr.toList.map fun p=>dr p.2).length=as.length:=by
   cases rv
   ·exact pl'
   ·exact length_reverse.trans pl'
  have hz2:(if rv=true then(arr.map (·.2)).reverse else arr.map (·.2))=((if rv=true then(arr.toList.map fun p=>dr p.2).reverse else arr.toList.map fun p=>dr p.2).map Value.ref).toArray:=by rw[←hzs]
  obtain⟨e3,he3⟩:∃e3,((s'.heap.update (h2.objs.size+1) (Obj.mapSeq fun _=> #[])).update (s.heap.objs.size+1) (Obj.mapSeq fun _=>if rv=true then(arr.map (·.2)).reverse else arr.map (·.2))).get? (s.heap.objs.size+1)=some (seqObj "list" (if rv=true then(arr.map (·.2)).reverse else arr.map (·.2)) e3):=⟨_,hend⟩
  refine⟨by rw[length_map,pl2];exact hz,_,e3,pe _,he3.trans ?_⟩
  rw[hz2]
theorem yq {x:Str}{sp:Sp}{e:Expr}{t:TA}{j:Nat}{p p2 p3 kpos kpos2 pos:Pos}(B:Bt X "sorted") (C:zM X x sp) (ha:PA X [e] t) (he:starEach [e] X.env=[(false,eval e X.env)]):
  PE X (.Call (.Name "sorted" p) [e] [⟨some "key",.Name x p2,kpos⟩,⟨some "reverse",.Constant (.bool true) j p3,kpos2⟩] pos) (fun σ H Q=>t σ H fun xs H1=>AZ X.K true sp xs H1 Q):=by
 intro pins s σ H Q I h
 obtain⟨k,f,fd,ps,F,hr,nm,hb⟩:=C.ex
 refine wpAny_Call_Name_kw (jG I B.gl B.nm gJ ?_ B.hn B.db)
 refine callWith_kw (cX (ha pos pins s σ H _ I h) fun us s1 hpat=>?_) (by rw[he];rfl) (by rw[he];rfl)
 obtain⟨vs,H1,I1,r,q⟩:=hpat
 refine kws_cons (ki I1 C.gl nm (kws_cons (cX (yv (b:=true) pins s1 σ H1 (fun v H'=>v=.bl true∧H'=H1) I1 ⟨rfl,rfl⟩) fun u s2 hp2=>?_)) C.db)
 obtain⟨v,H',I2,rv,rfl,rfl⟩:=hp2
 cases rv
 exact kws_nil (nF (rv:=true) F hr hb I2 r q)
theorem Eu{K:PySem.W.Frag}{sp:Sp}{xs:List V}{H:Hp}{Q:VK}(h:DB K sp xs H Q):AZ K false sp xs H Q:=by
 obtain⟨p,as,g,e,s,hs,q⟩:=h
 exact⟨p,as,g,e,s,hs,fun l ys h1 h2 h3 h4=>q l ys h1 h2 h3 h4⟩
theorem za {x:Str}{sp:Sp}{e:Expr}{t:TA}{p p2 kpos pos:Pos}(B:Bt X "sorted") (C:zM X x sp) (ha:PA X [e] t) (he:starEach [e] X.env=[(false,eval e X.env)]):
  PE X (.Call (.Name "sorted" p) [e] [⟨some "key",.Name x p2,kpos⟩] pos) (fun σ H Q=>t σ H fun xs H1=>DB X.K sp xs H1 Q):=by
 intro pins s σ H Q I h
 obtain⟨k,f,fd,ps,F,hr,nm,hb⟩:=C.ex
 refine wpAny_Call_Name_kw (jG I B.gl B.nm gJ ?_ B.hn B.db)
 refine callWith_kw (cX (ha pos pins s σ H _ I h) fun us s1 hpat=>?_) (by rw[he];rfl) (by rw[he];rfl)
 obtain⟨vs,H1,I1,r,q⟩:=hpat
 exact kws_cons (ki I1 C.gl nm (kws_nil (nF (rv:=false) F hr hb I1 r (Eu q))) C.db)
end
end L2
namespace J
open PySem PySem.Spec PyProof.Rows
open L2 (Cx V cF dq)
theorem EZ {X:Cx}{x:Str}{sp:L2.Sp}{e:Expr}{t:L2.TA}{j:Nat}{p p2 p3 kpos kpos2 pos:Pos}(B:L2.Bt X "sorted") (C:L2.zM X x sp) (ha:JA X [e] t) (h:L2.notStar e=true:=by rfl):
  JE X (.Call (.Name "sorted" p) [e] [⟨some "key",.Name x p2,kpos⟩,⟨some "reverse",.Constant (.bool true) j p3,kpos2⟩] pos) (fun σ H Q=>t σ H fun xs H1=>L2.AZ X.K true sp xs H1 Q):=⟨L2.yq B C ha.out (L2.cL h)⟩
theorem Gz {X:Cx}{o e:Expr}{apos cpos:Pos}{td ty:L2.TE}(hu:X.A.units+1 < cLine) (ho:JE X o td) (he:JE X e ty) (h:∀v,attributeBase o "get" X.env v=v:=by intro _;rfl) (h1:L2.notStar e=true:=by rfl) (hline:(apos.endLine == cpos.line)=true:=by rfl):JE X (.Call (.Attribute o "get" apos) [e] [] cpos) (L2.ud td ty):=
 ⟨L2.rZ hu ho.out he.out ⟨h _,DC h1,hline,by rw[L2.cL h1];rfl⟩⟩
theorem GI {X:Cx}{x:Str}{sp:L2.Sp}{e:Expr}{t:L2.TA}{p p2 kpos pos:Pos}(B:L2.Bt X "sorted") (C:L2.zM X x sp) (ha:JA X [e] t) (h:L2.notStar e=true:=by rfl):
  JE X (.Call (.Name "sorted" p) [e] [⟨some "key",.Name x p2,kpos⟩] pos) (fun σ H Q=>t σ H fun xs H1=>L2.DB X.K sp xs H1 Q):=⟨L2.za B C ha.out (L2.cL h)⟩
end J
namespace L2
open PySem PySem.Spec PyProof.Rows
def Gh(d:Addr)(o:Obj)(kvs:List (Key×V)):It:=⟨fun i H=>H d=some (.frz o (.dK kvs))∧i < kvs.length,fun i H x H'=>H'=H∧∃z y,kvs[i]? =some (Sum.inr z,y)∧x=.str z,fun i H=>H d=some (.frz o (.dK kvs))∧kvs.length≤i⟩
theorem lI{P:Program}{w:World}{h:Heap}{d:Addr}{o:Obj}{es:Array DictEntry}{ep:Nat}{vs:List (Key×Value)}(ho:h.get? d=some o)(hd:o.data=.dict es ep)(x:h.DictOf (cG P w) d vs):h.DictAt (cG P w) d vs ep:=by
 obtain⟨o',es',ep',h1,h2,h3,r⟩:=x
 rw[ho]at h1
 cases h1
 rw[hd]at h3
 cases h3
 exact⟨o,es,ho,h2,hd,r⟩
theorem xk{P:Program}{w:World}{K:PySem.W.Frag}{tg:Expr}(d it:Addr)(o:Obj)(es:Array DictEntry)(ep:Nat)(kvs:List (Key×V))(hd:o.data=.dict es ep)(sk:∀kv∈kvs,∃z,kv.1=Sum.inr z):Turn P w K tg (Gh d o kvs) [it] it (fun i h=>h.IsKeyIter it d i kvs.length ep) where
 mem:=by simp
 obj:=fun i h st b hb=>by
  have e:b=it:=by simpa using hb
  subst e
  obtain⟨o,e,c,d⟩:=st
  exact⟨o,e,fun v z=>by rw[d]at z;cases z⟩
 keep:=fun i h h' st k=>st.at fun o e=>k it (by simp) o e
 item:=by
  intro X hP hw hK hc i pins s σ H E I hf st hg
  subst hP hw hK
  obtain⟨hq,hi⟩:=hg
  obtain⟨ho,hz,hsm,vs,kv,dd⟩:=(show cV X.prog X.w H s.heap d (.frz o (.dK kvs)) from I.hok d _ hq)
  have at':=lI ho hd dd
  have kl:vs.length=kvs.length:=kv.length.symm
  obtain⟨⟨k,y⟩,hx⟩:∃p,vs[i]? =some p:=⟨_,getElem?_eq_getElem (by omega)⟩
  obtain⟨⟨k',y'⟩,hx'⟩:∃p,kvs[i]? =some p:=⟨_,getElem?_eq_getElem hi⟩
  have ek:k=k':=by
   have e1:(vs.map (·.1))[i]? =some k:=by rw[getElem?_map,hx];rfl
   rw[←kv.keys,getElem?_map,hx']at e1
   exact(Option.some.inj e1).symm
  obtain⟨z,hz'⟩:=sk _ (mem_of_getElem? hx')
  have hz'':k'=Sum.inr z:=hz'
  subst hz'' ek
  obtain⟨f0,f1,f2,f3,f4,f5⟩:=hf it (by simp)
  refine wpAny_pyNext_dict_item (by rw[kl];exact st) at' hx fun key h' hkey st' sb=>?_
  obtain⟨t,rfl⟩:=vU hkey
  rw[kl]at st'
  have I1:Inv X pins σ H { s with heap:=h' }:=I.turned (t':=s.toks) (fun b o hb e=>(sb.2 b hb).trans e) f0 f1 f3 f4 f5
  obtain⟨o,e,c,d⟩:=id st'
  exact⟨_,rfl,rb (s:={ s with heap:=h' }) e c d (by decide) ⟨.str z,H,I1,⟨t,rfl⟩,⟨rfl,z,y',hx',rfl⟩,st',fun b hb=>(hf b hb).1⟩⟩
 done:=by
  intro X hP hw hK hc i pins s σ H E I hf st hg
  subst hP hw hK
  obtain⟨hq,hi⟩:=hg
  obtain⟨ho,hz,hsm,vs,kv,dd⟩:=(show cV X.prog X.w H s.heap d (.frz o (.dK kvs)) from I.hok d _ hq)
  have at':=lI ho hd dd
  have kl:vs.length=kvs.length:=kv.length.symm
  obtain⟨f0,f1,f2,f3,f4,f5⟩:=hf it (by simp)
  exact wpAny_pyNext_dict_end (I.ok.hd hc) (by rw[kl];exact st) at' (List.getElem?_eq_none (by omega)) fun h' eb=>⟨rfl,I.turned (t':=s.toks) (fun b o hb e=>eb b o hb e) f0 f1 f3 f4 f5⟩
 self:=fun _ _ _ _ _ st h=>wpAny_pyIter_keyiter st h
inductive GZ(x:V)(H:Hp)(R:It→Hp→Prop):Prop
 |mk(d:Addr)(kvs:List (Key×V))(e:x=.ref d)(r:Rd H d (.dK kvs))(sk:∀kv∈kvs,∃z,kv.1=Sum.inr z)(q:∀(o:Obj)(H':Hp),(∀b,b≠d→H' b=H b)→H' d=some (.frz o (.dK kvs))→R (Gh d o kvs) H')
def Ge(tl:TE):TI:=fun σ H R=>tl σ H fun x H1=>GZ x H1 R
section
variable {X:Cx}{tg:Expr}
theorem mw{l:Expr}{tl:TE}(hl:PE X l tl):PI X tg l (Ge tl):=by
 intro pins s σ H R I h
 refine cX (hl pins s σ H _ I h) fun v s1 hpat=>?_
 obtain⟨x,H1,I1,r1,q1⟩:=hpat
 obtain⟨d,kvs,e,r,sk,q⟩:=q1
 subst e
 cases r1
 have fin:∀(o:Obj) (es:Array DictEntry) (ep:Nat) (H2:Hp) (vs:List (Key×Value)),o.data=.dict es ep→s1.heap.get? d=some o→KV kvs vs→(d == sysModules)=false→s1.heap.DictOf (cG X.prog X.w) d vs→Inv X pins σ H2 s1→(∀b,b≠d→H2 b=H1 b)→H2 d=some (.frz o (.dK kvs))→wpAny (model X.prog X.w) X.A (pyIter (.ref d)) (Hq X pins σ tg R) X.xe s1:=by
  intro o es ep H2 vs hd ho kv hsm dd I2 e1 e2
  refine wpAny_pyIter_dict hsm (lI ho hd dd) ?_
  refine⟨s1.heap.objs.size,[s1.heap.objs.size],_,_,H2,rfl,I2.kept (t':=s1.toks) fun b o e=>get?_push_of_some _ e,xk d _ o es ep kvs hd sk,⟨_,get?_push_size _ rfl,rfl,by rw[kv.length];rfl⟩,fun b hb=>?_,q o H2 e1 e2⟩
  have e:b=s1.heap.objs.size:=by simpa using hb
  subst e
  exact I2.vi (le_refl _) (I2.hok.fresh (le_refl _))
 rcases r with r|⟨o,r⟩
 ·obtain⟨hz,hsm,vs,kv,o,es,ep,ho,r3⟩:=(show cV X.prog X.w H1 s1.heap d (.dK kvs) from I1.hok d _ r)
  have dd:s1.heap.DictOf (cG X.prog X.w) d vs:=⟨o,es,ep,ho,r3⟩
  refine fin o es ep (upd H1 d (.frz o (.dK kvs))) vs r3.2.1 ho kv hsm dd (I1.write (t':=s1.toks) (by rw[r];trivial) (.inl rfl) (fun _ _ _ e=>e) ⟨o,ho⟩ ⟨ho,hz,hsm,vs,kv,dd⟩) (fun b hb=>cC hb) cy
 ·obtain⟨ho,hz,hsm,vs,kv,dd⟩:=(show cV X.prog X.w H1 s1.heap d (.frz o (.dK kvs)) from I1.hok d _ r)
  obtain⟨o',es,ep,ho',r3⟩:=id dd
  rw[ho]at ho'
  cases ho'
  exact fin o es ep H1 vs r3.2.1 ho kv hsm dd I1 (fun _ _=>rfl) r
end
theorem sN{d:Addr}{o:Obj}{kvs:List (Key×V)}{g:TG}{tb:TS}{D:Ends}{σ:St}{H:Hp}(Pv:Nat→St→Hp→Prop)(h0:Pv 0 σ H)(hl:∀i σ H,i≤kvs.length→Pv i σ H→H d=some (.frz o (.dK kvs)))
  (hs:∀i z y σ H,kvs[i]? =some (Sum.inr z,y)→Pv i σ H→g (.str z) σ H fun σ2 H2=>tb { D with nx:=Pv (i+1),ct:=Pv (i+1),bk:=D.nx } σ2 H2)(hd:∀σ H,Pv kvs.length σ H→D.nx σ H):
  ∃W:Nat→Nat→St→Hp→Prop,(∃m,W 0 m σ H)∧∀i m σ H,W i m σ H→
   ((Gh d o kvs).stop i H∧D.nx σ H)∨((Gh d o kvs).go i H∧∃N:St→Hp→Prop,(∀σ' H',N σ' H'→∃m',m' < m∧W (i+1) m' σ' H')∧∀x H',(Gh d o kvs).yld i H x H'→g x σ H' fun σ2 H2=>tb { D with nx:=N,ct:=N,bk:=D.nx } σ2 H2):=by
 refine⟨fun i m σ H=>m=kvs.length - i∧i≤kvs.length∧Pv i σ H,⟨kvs.length,by simp,zero_le _,h0⟩,?_⟩
 rintro i m σ H ⟨rfl,hi,p⟩
 have q:=hl i σ H hi p
 by_cases hlt:i < kvs.length
 ·refine .inr ⟨⟨q,hlt⟩,Pv (i+1),fun σ' H' p'=>⟨kvs.length - (i+1),by omega,rfl,hlt,p'⟩,fun x H' y=>?_⟩
  obtain⟨e,z,y,hz,rfl⟩:=y
  subst e
  exact hs i z y σ _ hz p
 ·have e:i=kvs.length:=by omega
  subst e
  exact .inl ⟨⟨q,le_refl _⟩,hd σ H p⟩
end L2
namespace J
open PySem PySem.Spec PyProof.Rows L2
section
variable {X:Cx}{tg e:Expr}{te:TE}
theorem mw(h:JE X e te):JI X tg e (L2.Ge te):=⟨L2.mw h.out⟩
end
end J
namespace L2
open PySem
theorem zV:0≤sizeLine:=by decide
theorem E4:1≤sizeLine:=by decide
theorem CK:2≤sizeLine:=by decide
theorem oG:3≤sizeLine:=by decide
theorem HN:4≤sizeLine:=by decide
theorem kI {K:PySem.W.Frag}{T n:String}(hT:T∈tys:=by decide) (hn:n∈["int", "bool", "str", "list", "tuple"]:=by decide):kitOne K (.type T) (.type n)=some (wM T n):=dv hT hn
theorem iP{c A B:Prop} [Decidable c] (h:A)(hc:c:=by decide+kernel):if c then A else B:=fc hc h
theorem iN{c A B:Prop} [Decidable c] (h:B)(hc:¬c:=by decide+kernel):if c then A else B:=ig hc h
end L2
namespace K34
open PySem L2
variable {P:Program}{w:World}{K:PySem.W.Frag}{mg:Str→Option Value}{base:Heap}{kw C:Addr}{f:Addr}{fd:FuncData}
def kept:List Str:=["person", "talk", "saw", "knew", "heard", "told", "not", "nobody", "never", "by", "from", "to"]
def sQ:V→Bool
 |.int i=>decide (0≤i) && decide (i≤10 ^ Int.toNat 18)
 |_=>false
def iQ:V→Bool
 |.str w=> !decide (w.cps.toList < ("a" :Str).cps.toList) && !decide (("z" :Str).cps.toList < w.cps.toList)
 |_=>false
def dH(z:Str):Bool:=decide (1≤(z.length:Int)) && (decide ((z.length:Int)≤12) && (((signs z).map iQ).all id && !ye (.str z) (kept.map V.str)))
def wb:V→Bool
 |.str z=>dH z
 |_=>false
def vL(K:PySem.W.Frag):Sp:=fun vs H Q _=>∃x T,vs=[x]∧fO K H x (.type T)∧T∈tys∧Q (.bl (T == "int")) H
def kN(K:PySem.W.Frag):Sp:=fun vs H Q _=>∃x T,vs=[x]∧fO K H x (.type T)∧T∈tys∧Q (.bl (sQ x)) H
def nK(K:PySem.W.Frag):Sp:=fun vs H Q _=>∃x T,vs=[x]∧fO K H x (.type T)∧T∈tys∧(∀z,x=.str z→z.length≤sizeLine)∧∀H',cA H H'→Q (.bl (wb x)) H'
def lets:Str:= "bcdfghijklmnpqrstuvwxz"
def uM(z:Str):Prop:=∀c∈z.cps.toList,c∈lets.cps.toList
theorem wq:∀c∈lets.cps.toList,iQ (.str ⟨#[c]⟩)=true:=by decide+kernel
theorem An:∀w∈kept,(w.cps.toList.any fun c=> !lets.cps.toList.contains c)=true:=by decide+kernel
theorem mM(a b:Str):(a++b).cps.toList=a.cps.toList++b.cps.toList:=by
 show(a.cps++b.cps).toList=_
 rw[toList_append]
theorem AH(a b:Str):(a++b).length=a.length+b.length:=Array.size_append
theorem kj(a:Str):a.cps.toList.length=a.length:=length_toList
theorem yE{z:Str}(h:uM z)(h1:1≤z.length)(h2:z.length≤12):dH z=true:=by
 unfold dH
 rw[decide_eq_true (by omega),decide_eq_true (by omega),Bool.true_and,Bool.true_and,and_eq_true]
 refine⟨?_,?_⟩
 ·rw[all_map,all_eq_true]
  intro v hv
  obtain⟨c,hc,rfl⟩:=mem_map.mp hv
  exact wq c (h c hc)
 ·cases e:ye (.str z) (kept.map V.str) with
  |false=>rfl
  |true=>
   have e':(kept.map V.str).any (fun y=>qV y (.str z))=true:=e
   rw[any_map,any_eq_true]at e'
   obtain⟨w,hw,e2⟩:=e'
   have e3:(w == z)=true:=e2
   have e4:w=z:=eq_of_beq e3
   have ko:=An w hw
   rw[any_eq_true]at ko
   obtain⟨c,hc,nc⟩:=ko
   rw[e4]at hc
   have:=h c hc
   rw[←List.contains_iff_mem]at this
   rw[this]at nc
   cases nc
def putIn(z:Str)(k:Int)(c:Nat):Str:=(C4 z none (some k)++(⟨#[c]⟩:Str))++C4 z (some k) none
theorem BV{a b:Str}(ha:uM a)(hb:uM b):uM (a++b):=by
 intro c hc
 rw[mM,mem_append]at hc
 exact hc.elim (ha c) (hb c)
def IH(f:Nat→Str)(more:Str):Nat→List Str
 |0=>[]
 |i+1=>IH f more i++[f i,f i++more]
structure Hy(us:List Str):Prop where
 len:us.length=24
 nd:us.Nodup
 nm:∀z∈us,dH z=true
def Ji(i:Int):Nat:=lets.cps.toList.getD i.toNat 0
def cO(h:Int):Prop:=0≤h∧h≤10 ^ Int.toNat 18
theorem gA{h:Int}(k:cO h):sQ (.int h)=true:=by
 show(decide (0≤h) && decide (h≤10 ^ Int.toNat 18))=true
 rw[decide_eq_true k.1,decide_eq_true k.2]
 rfl
theorem zH{z:Str}(h:dH z=true):z.length≤12:=by
 unfold dH at h
 rw[and_eq_true,and_eq_true,decide_eq_true_iff,decide_eq_true_iff]at h
 have:=h.2.1
 omega
theorem xY{z:Str}(h:dH z=true):z.length≤sizeLine:=by
 have h1:=zH h
 have:sizeLine=16777216:=sizeLine_eq
 omega
theorem lh{z:Str}(h:dH z=true):∀y,V.str z=V.str y→y.length≤sizeLine:=fun y e=>by
 cases e
 exact xY h
structure eV(ps:List Str):Prop where
 lo:1≤ps.length
 hi:ps.length≤24
 nd:ps.Nodup
 nm:∀z∈ps,dH z=true
inductive dS  (ps:List Str)(H:Hp)(v:V):Prop
 |mk(a:Addr)(z:Str)(h:Int)(ta:Addr)(ws:List Str)(h0:v=.ref a)(h1:H a=some (.tup [.str z,.int h,.ref ta]))(h2:z∈ps)(h3:cO h)(h4:H ta=some (.tup (ws.map V.str)))(h5:1≤ws.length)(h6:ws.length≤6)(h7:∀x∈ws,dH x=true)
inductive eN  (ps:List Str)(H:Hp)(v:V):Prop
 |mk (a:Addr) (h:Int) (p q w:Str) (h0:v=.ref a) (h1:H a=some (.tup [.int h,.str p,.str q,.str w])) (h2:cO h) (h3:p∈ps) (h4:q∈ps) (h5:p≠q) (h6:(w= "both" ∨w= "one"))
inductive fH  (ps:List Str)(H:Hp)(v:V):Prop
 |mk (a:Addr) (h0:v=.ref a) (h1:((∃(p:Str) (h:Int),H a=some (.tup [.str "knew",.str p,.int h])∧p∈ps∧cO h)∨    (∃(p:Str) (b:V),H a=some (.tup [.str "unheard",.str p,b])∧p∈ps∧(b=.non∨∃h:Int,b=.int h∧cO h))∨    (∃(p:Str) (h k:Int),H a=some (.tup [.str "silent",.str p,.int h,.int k])∧p∈ps∧cO h∧cO k∧h≤k)∨    (∃p q:Str,H a=some (.tup [.str "barred",.str p,.str q])∧p∈ps∧q∈ps∧p≠q)))
def Tk(H H':Hp):Prop:=∀b xs,H b=some (.tup xs)→H' b=some (.tup xs)
theorem Tk.of{H H':Hp}(s:cA H H'):Tk H H':=fun b _ e=>s b _ e
theorem Tk.trans{H H1 H2:Hp}(a:Tk H H1)(b:Tk H1 H2):Tk H H2:=fun c xs e=>b c xs (a c xs e)
theorem Tk.upd{H:Hp}{l:Addr}{xs ys:List V}(h:H l=some (.lst xs)):Tk H (upd H l (.lst ys)):=fun b zs e=>by
 rw[cC (n5 e h (by intro z;cases z))]
 exact e
theorem dS.mono{ps:List Str}{H H':Hp}{v:V}(s:Tk H H')(h:dS ps H v):dS ps H' v:=by
 obtain⟨a,z,h,ta,ws,e,ha,hz,hh,ht,r1,r2,r3⟩:=h
 exact⟨a,z,h,ta,ws,e,s _ _ ha,hz,hh,s _ _ ht,r1,r2,r3⟩
theorem eN.mono{ps:List Str}{H H':Hp}{v:V}(s:Tk H H')(h:eN ps H v):eN ps H' v:=by
 obtain⟨a,h,p,q,w,e,ha,r1,r2,r3,r4,r5⟩:=h
 exact⟨a,h,p,q,w,e,s _ _ ha,r1,r2,r3,r4,r5⟩
theorem fH.mono{ps:List Str}{H H':Hp}{v:V}(s:Tk H H')(h:fH ps H v):fH ps H' v:=by
 obtain⟨a,e,h⟩:=h
 refine⟨a,e,?_⟩
 rcases h with ⟨p,h,ha,r⟩|⟨p,b,ha,r⟩|⟨p,h,k,ha,r⟩|⟨p,q,ha,r⟩
 ·exact .inl ⟨p,h,s _ _ ha,r⟩
 ·exact .inr (.inl ⟨p,b,s _ _ ha,r⟩)
 ·exact .inr (.inr (.inl ⟨p,h,k,s _ _ ha,r⟩))
 ·exact .inr (.inr (.inr ⟨p,q,s _ _ ha,r⟩))
theorem yS{z:Str}{ps:List Str}(h:z∈ps):ye (.str z) (ps.map V.str)=true:=by
 show(ps.map V.str).any (fun y=>qV y (.str z))=true
 rw[any_map,any_eq_true]
 exact⟨z,h,by show(z == z)=true;exact beq_self_eq_true z⟩
theorem wX(ps:List Str):(ps.map V.str).all dj=true:=by
 rw[all_map,all_eq_true]
 intro z _
 rfl
theorem all_true{α:Type}{f:α→Bool}{xs:List α}(h:∀x∈xs,f x=true):(xs.map f).all id=true:=by
 rw[all_map,all_eq_true]
 exact fun x hx=>h x hx
theorem jE{xs:List V}{n:Nat}{m:Int}(h:xs.length=n)(hm:(n:Int)≠m):¬decide (V.int (xs.length:Nat)=V.int m)=true:=by
 rw[decide_eq_true_iff,h]
 intro e
 injection e with e
 exact hm e
theorem qD{xs:List V}{n:Nat}{m:Int}(h:xs.length=n)(hm:(n:Int)=m):decide (V.int (xs.length:Nat)=V.int m)=true:=by
 rw[decide_eq_true_iff,h,hm]
inductive wQ  (vs:List V)(H:Hp)(Q:VK):Prop
 |mk(p:Addr)(xs:List V)(m:Int)(h0:vs=[.ref p,.int m])(h1:H p=some (.lst xs))(h2:(xs.length:Int)≤m)(h3:Q (.bl true) H)
def gL  :Sp:=fun vs H Q _=>wQ  vs H Q
inductive Ar  (vs:List V)(H:Hp)(Q:VK):Prop
 |mk(p:Addr)(xs:List V)(m:Int)(h0:vs=[.ref p,.int m])(h1:H p=some (.tup xs))(h2:(xs.length:Int)=m)(h3:Q (.bl true) H)
def mX  :Sp:=fun vs H Q _=>Ar  vs H Q
inductive xE  (vs:List V)(H:Hp)(Q:VK):Prop
 |mk(p:Addr)(ps:List Str)(z:Str)(h0:vs=[.ref p,.str z])(h1:H p=some (.lst (ps.map V.str)))(h2:eV ps)(h3:z∈ps)(h4:∀H',cA H H'→Q (.bl true) H')
def gN  :Sp:=fun vs H Q _=>xE  vs H Q
inductive xP  (vs:List V)(H:Hp)(Q:VK):Prop
 |mk(p:Addr)(ps:List Str)(y z:Str)(h0:vs=[.ref p,.str y,.str z])(h1:H p=some (.lst (ps.map V.str)))(h2:eV ps)(h3:y∈ps)(h4:z∈ps)(h5:y≠z)(h6:∀H',cA H H'→Q (.bl true) H')
def jO  :Sp:=fun vs H Q _=>xP  vs H Q
inductive BP  (vs:List V)(H:Hp)(Q:VK):Prop
 |mk(t:Addr)(ws:List Str)(h0:vs=[.ref t])(h1:H t=some (.tup (ws.map V.str)))(h2:1≤ws.length)(h3:ws.length≤6)(h4:(∀x∈ws,dH x=true))(h5:∀H',cA H H'→Q (.bl true) H')
def uH  :Sp:=fun vs H Q _=>BP  vs H Q
inductive zU  (vs:List V)(H:Hp)(Q:VK):Prop
 |mk(p:Addr)(ps:List Str)(v:V)(h0:vs=[.ref p,v])(h1:H p=some (.lst (ps.map V.str)))(h2:eV ps)(h3:dS ps H v)(h4:∀H',cA H H'→Q (.bl true) H')
def p5  :Sp:=fun vs H Q _=>zU  vs H Q
inductive Dc  (vs:List V)(H:Hp)(Q:VK):Prop
 |mk (w:Str) (h0:vs=[.str w]) (h1:(w= "both" ∨w= "one")) (h2:∀H',cA H H'→Q (.bl true) H')
def yi  :Sp:=fun vs H Q _=>Dc  vs H Q
inductive AF  (vs:List V)(H:Hp)(Q:VK):Prop
 |mk(p:Addr)(ps:List Str)(v:V)(h0:vs=[.ref p,v])(h1:H p=some (.lst (ps.map V.str)))(h2:eV ps)(h3:eN ps H v)(h4:∀H',cA H H'→Q (.bl true) H')
def uf  :Sp:=fun vs H Q _=>AF  vs H Q
inductive AS  (vs:List V)(H:Hp)(Q:VK):Prop
 |mk(h k:Int)(h0:vs=[.int h,.int k])(h1:cO h)(h2:cO k)(h3:h≤k)(h4:Q (.bl true) H)
def uq  :Sp:=fun vs H Q _=>AS  vs H Q
inductive zr  (vs:List V)(H:Hp)(Q:VK):Prop
 |mk (p:Addr) (ps:List Str) (kd y:Str) (b:V) (h0:vs=[.ref p,.str kd,.str y,b]) (h1:H p=some (.lst (ps.map V.str))) (h2:eV ps) (h3:y∈ps) (h4:((kd= "barred" ∧∃z,b=.str z∧z∈ps∧y≠z)∨(kd= "unheard" ∧(b=.non∨∃h:Int,b=.int h∧cO h))∨(kd= "knew" ∧∃h:Int,b=.int h∧cO h))) (h5:∀H',cA H H'→Q (.bl true) H')
def qq  :Sp:=fun vs H Q _=>zr  vs H Q
inductive wZ  (vs:List V)(H:Hp)(Q:VK):Prop
 |mk(p:Addr)(ps:List Str)(v:V)(h0:vs=[.ref p,v])(h1:H p=some (.lst (ps.map V.str)))(h2:eV ps)(h3:fH ps H v)(h4:∀H',cA H H'→Q (.bl true) H')
def oq  :Sp:=fun vs H Q _=>wZ  vs H Q
inductive uX  (vs:List V)(H:Hp)(Q:VK):Prop
 |mk(p:Addr)(ps:List Str)(h0:vs=[.ref p])(h1:H p=some (.lst (ps.map V.str)))(h2:eV ps)(h3:∀H',cA H H'→Q (.bl true) H')
def kW  :Sp:=fun vs H Q _=>uX  vs H Q
inductive BS  (M:List Str→Hp→V→Prop)(n:Nat)(vs:List V)(H:Hp)(Q:VK):Prop
 |mk(p q:Addr)(ps:List Str)(xs:List V)(h0:vs=[.ref p,.ref q])(h1:H p=some (.lst (ps.map V.str)))(h2:eV ps)(h3:H q=some (.lst xs))(h4:xs.length≤n)(h5:(∀v∈xs,M ps H v))(h6:∀H',cA H H'→Q (.bl true) H')
def gT  (M:List Str→Hp→V→Prop)(n:Nat):Sp:=fun vs H Q _=>BS M n vs H Q
def l7(p s t y:Addr):List (Str×V):=eY "kept_sayings" (.ref y) (eY "kept_talks" (.ref t) (eY "kept_sights" (.ref s) (eY "kept_persons" (.ref p) [])))
theorem FE(p s t y:Addr):(l7 p s t y).lookup ("kept_persons" :Str)=some (.ref p):=by
 unfold l7
 rw[cJ,if_neg (by decide+kernel),cJ,if_neg (by decide+kernel),cJ,if_neg (by decide+kernel),cJ,if_pos rfl]
theorem Ft(p s t y:Addr):(l7 p s t y).lookup ("kept_sights" :Str)=some (.ref s):=by
 unfold l7
 rw[cJ,if_neg (by decide+kernel),cJ,if_neg (by decide+kernel),cJ,if_pos rfl]
theorem CM(p s t y:Addr):(l7 p s t y).lookup ("kept_talks" :Str)=some (.ref t):=by
 unfold l7
 rw[cJ,if_neg (by decide+kernel),cJ,if_pos rfl]
theorem Gj(p s t y:Addr):(l7 p s t y).lookup ("kept_sayings" :Str)=some (.ref y):=by
 unfold l7
 rw[cJ,if_pos rfl]
theorem fL (p s t y:Addr){m:Str}(h1:¬m= "kept_sayings") (h2:¬m= "kept_talks") (h3:¬m= "kept_sights") (h4:¬m= "kept_persons"):(l7 p s t y).lookup m=none:=by
 unfold l7
 rw[cJ,if_neg h1,cJ,if_neg h2,cJ,if_neg h3,cJ,if_neg h4]
 rfl
structure Parts(H:Hp)(ps:List Str)(ss ts ys:List V):Prop where
 ok:eV ps
 sl:ss.length≤24
 sg:∀v∈ss,dS ps H v
 tl:ts.length≤120
 tg:∀v∈ts,eN ps H v
 yl:ys.length≤60
 yg:∀v∈ys,fH ps H v
theorem Parts.mono{H H':Hp}{ps:List Str}{ss ts ys:List V}(s:Tk H H')(g:Parts H ps ss ts ys):Parts H' ps ss ts ys:=
 ⟨g.ok,g.sl,fun v h=>(g.sg v h).mono s,g.tl,fun v h=>(g.tg v h).mono s,g.yl,fun v h=>(g.yg v h).mono s⟩
structure Bk(C:Addr)(H:Hp)(x p s t y:Addr)(ps:List Str)(ss ts ys:List V):Prop where
 ob:∃dx,H x=some (.ins C dx (l7 p s t y))
 hp:H p=some (.lst (ps.map V.str))
 hs:H s=some (.lst ss)
 ht:H t=some (.lst ts)
 hy:H y=some (.lst ys)
theorem Bk.mono{C:Addr}{H H':Hp}{x p s t y:Addr}{ps:List Str}{ss ts ys:List V}(m:cA H H')(b:Bk C H x p s t y ps ss ts ys):Bk C H' x p s t y ps ss ts ys:=by
 obtain⟨⟨dx,e⟩,h1,h2,h3,h4⟩:=b
 exact⟨⟨dx,m _ _ e⟩,m _ _ h1,m _ _ h2,m _ _ h3,m _ _ h4⟩
inductive Cc  (C:Addr)(vs:List V)(H:Hp)(Q:VK):Prop
 |mk(x dx p a b c:Addr)(ps:List Str)(ss ts ys:List V)(h0:vs=[.ref x,.ref p,.ref a,.ref b,.ref c])(h1:H x=some (.ins C dx []))(h2:H p=some (.lst (ps.map V.str)))(h3:H a=some (.lst ss))(h4:H b=some (.lst ts))(h5:H c=some (.lst ys))(h6:Parts H ps ss ts ys)(h7:∀(p' s' t' y':Addr)(H':Hp),H p'=none→H s'=none→H t'=none→H y'=none→Bk C H' x p' s' t' y' ps ss ts ys→(∀d o,H d=some o→d≠x→H' d=some o)→Q .non H')
def uQ  (C:Addr):Sp:=fun vs H Q _=>Cc C vs H Q
structure Txt(K:PySem.W.Frag)(mg:Str→Option Value)(kw C:Addr):Prop where
 b_isinstance:mg "isinstance" =none
 b_int:mg "int" =none
 b_bool:mg "bool" =none
 b_str:mg "str" =none
 b_len:mg "len" =none
 b_all:mg "all" =none
 b_range:mg "range" =none
 b_list:mg "list" =none
 b_tuple:mg "tuple" =none
 b_set:mg "set" =none
 b_zip:mg "zip" =none
 b_enumerate:mg "enumerate" =none
 b_min:mg "min" =none
 b_max:mg "max" =none
 b_any:mg "any" =none
 b_sorted:mg "sorted" =none
 b_dict:mg "dict" =none
 b_sum:mg "sum" =none
 b_reversed:mg "reversed" =none
 kwm:mg "KEPT_WORDS" =some (.ref kw)
 kwt:∃(o:Obj) (its:Array Value) (n:Nat),K.lookup kw=some o∧o.cls=.type "tuple" ∧o.data=.seq its n∧its.size≤sizeLine∧Vals (kept.map V.str) its.toList
 g_MOST_PERSONS:∃u,mg "MOST_PERSONS" =some u∧RelV (.int 24) u
 g_MOST_SIGHTS:∃u,mg "MOST_SIGHTS" =some u∧RelV (.int 24) u
 g_MOST_TALKS:∃u,mg "MOST_TALKS" =some u∧RelV (.int 120) u
 g_MOST_SAYINGS:∃u,mg "MOST_SAYINGS" =some u∧RelV (.int 60) u
 g_MOST_WORDS:∃u,mg "MOST_WORDS" =some u∧RelV (.int 6) u
 cl:tI K C
 nP:fE K C "kept_persons"
 nS:fE K C "kept_sights"
 nT:fE K C "kept_talks"
 nY:fE K C "kept_sayings"
theorem KA:cD ["thing"] ["thing"] (cB gP):={}
theorem zJ (F:oY K "is_whole" "is_whole" gP f fd) (T:Txt K mg kw C):eD P w K mg base l9 1 f fd ["thing"] (vL K):=by
 refine F.ok KA (fun vs H Q E h=>?_) (fun cdv A outer s H vs Q E hr h=>?_)
 ·obtain⟨x,t,rfl,_⟩:=h
  rfl
 ·obtain⟨x,t,rfl,ty,ht,k⟩:=h
  refine⟨_,jR (nZ (qz (gz kg rfl T.b_isinstance cR (eP (pv 0) (eP (mF (v:=.ty "int") rfl T.b_int uL rfl) jk)))
   (pV (nV (gz kg rfl T.b_isinstance cR (eP (pv 0) (eP (mF (v:=.ty "bool") rfl T.b_bool AG rfl) jk))))))),?_⟩
  refine⟨_,rfl,_,_,_,_,rfl,ty,dv ht (by decide),_,rfl,?_⟩
  refine cW (fun h1=>?_) (fun h1=>?_)
  ·refine⟨_,rfl,_,_,_,_,rfl,ty,dv ht (by decide),_,rfl,?_⟩
   have e:(!wM t "bool")=(t == "int"):=by
    simp only[tys,mem_cons,not_mem_nil,or_false]at ht
    rcases ht with rfl|rfl|rfl|rfl|rfl|rfl|rfl<;>first|rfl| (exfalso;revert h1;decide)
   show Q (.bl (!wM t "bool")) H
   rw[e]
   exact k
  ·have e:(t == "int")=false:=by
    simp only[tys,mem_cons,not_mem_nil,or_false]at ht
    rcases ht with rfl|rfl|rfl|rfl|rfl|rfl|rfl<;>first|rfl| (exfalso;revert h1;decide)
   show Q (.bl false) H
   rw[←e]
   exact k
theorem KO:cD ["thing"] ["thing"] (cB k9):={}
theorem Bc {f fW:Addr}{fd fdW:FuncData}(F:oY K "is_hour" "is_hour" k9 f fd) (DW:Df K mg "is_whole" gP ["thing"] fW fdW) (T:Txt K mg kw C):eD P w K mg base l9 2 f fd ["thing"] (kN K):=by
 have GW:eD P w K mg base l9 1 fW fdW ["thing"] (vL K):=zJ DW.fn T
 refine F.ok KO (fun vs H Q E h=>?_) (fun cdv A outer s H vs Q E hr h=>?_)
 ·obtain⟨x,t,rfl,_⟩:=h
  rfl
 ·obtain⟨x,t,rfl,ty,ht,k⟩:=h
  refine⟨_,jR (nZ (qz (vz GW hr rfl DW.nm DW.fn.kp DW.bi .nil v8 (eP (pv 0) jk))
   (pV (gI rP rP lB (pv 0) (CS k8 lB lB))))),?_⟩
  refine⟨_,rfl,x,t,rfl,ty,ht,_,rfl,?_⟩
  refine cW (fun h1=>?_) (fun h1=>?_)
  ·have e:t= "int" :=eq_of_beq h1
   subst e
   obtain⟨i,rfl⟩:=ty_int ty
   ·refine⟨_,rfl,_,_,rfl,rfl,_,rfl,?_⟩
    refine cW (fun h2=>?_) (fun h2=>?_)
    ·refine⟨_,_,rfl,rfl,⟨by decide,by decide,by decide⟩,_,_,rfl,rfl,?_⟩
     have e2:sQ (.int i)=decide (i≤10 ^ Int.toNat 18):=by
      show(decide (0≤i) && decide (i≤10 ^ Int.toNat 18))=_
      rw[h2,Bool.true_and]
     rw[e2]at k
     exact k
    ·have e2:sQ (.int i)=false:=by
      show(decide (0≤i) && decide (i≤10 ^ Int.toNat 18))=_
      rw[eq_false_iff.mpr h2,Bool.false_and]
     rw[e2]at k
     exact k
  ·have e2:sQ x=false:=by
    cases x with
    |int i=>exact absurd (beq_iff_eq.mpr (wI ty)) h1
    |_=>rfl
   rw[e2]at k
   exact k
theorem Kn:cD ["thing"] ["thing"] (cB i9):={}
theorem BN (F:oY K "is_name" "is_name" i9 f fd) (T:Txt K mg kw C):eD P w K mg base l9 1 f fd ["thing"] (nK K):=by
 refine F.ok Kn (fun vs H Q E h=>?_) (fun cdv A outer s H vs Q E hr h=>?_)
 ·obtain⟨x,t,rfl,_⟩:=h
  rfl
 ·obtain⟨x,t,rfl,ty,ht,hz,k⟩:=h
  refine⟨_,sf (Cr (PW.pt (CG (tL (vd (gz kg rfl T.b_isinstance cR (eP (pv 0) (eP (mF (v:=.ty "str") rfl T.b_str tW rfl) jk)))))
    (y4 (tL (jK rP rP lB (gz pU rfl T.b_len dO (eP (pv 0) jk)) lB))))) (jR (nZ yv)) wk)
   (jR (nZ (qz (gz (pq rfl) rfl T.b_all lK (eP (zv (sc:=cB i9) (N:=["thing"]) (is:=[]) (ns:=[]) rfl (Dq (pv 0))
     {} (fun _ _ _ _ _=>gI pA pA tX (pv 0) tX)) jk))
    (pV (vx kq (pv 0) (mq (v:=.ref kw) rfl T.kwm rfl) (by with_unfolding_all rfl)))))),?_⟩
  refine⟨_,rfl,_,_,_,_,rfl,ty,dv ht (by decide),_,rfl,?_⟩
  by_cases hs:t= "str"
  ·subst hs
   obtain⟨z,rfl⟩:=ty_str ty
   ·have hz':=hz z rfl
    refine cN ?_
    refine⟨_,rfl,z,rfl,hz',_,_,rfl,rfl,_,rfl,?_⟩
    by_cases h1:1≤(z.length:Int)
    ·rw[decide_eq_true h1]
     refine c9 ⟨_,_,rfl,rfl,_,rfl,?_⟩
     by_cases h2:(z.length:Int)≤12
     ·rw[decide_eq_true h2]
      refine cN ?_
      refine⟨_,rfl,z,rfl,Ez (fun v=>.bl (iQ v)) hz' (fun v H2 Q' hv sm q'=>?_) fun D hD=>?_⟩
      ·obtain⟨c,_,rfl⟩:=mem_map.mp hv
       refine⟨_,rfl,_,_,rfl,rfl,_,rfl,cW (fun h=>⟨_,_,rfl,rfl,?_⟩) (fun h=>?_)⟩
       ·have e:iQ (.str ⟨#[c]⟩)= !decide (("z" :Str).cps.toList < (⟨#[c]⟩:Str).cps.toList):=by
         show(!decide ((⟨#[c]⟩:Str).cps.toList < ("a" :Str).cps.toList) && _)=_
         rw[h,Bool.true_and]
        rw[e]at q'
        exact q'
       ·have e:iQ (.str ⟨#[c]⟩)=false:=by
         show(!decide ((⟨#[c]⟩:Str).cps.toList < ("a" :Str).cps.toList) && _)=_
         rw[eq_false_iff.mpr h,Bool.false_and]
        rw[e]at q'
        exact q'
      ·refine⟨D,(signs z).map iQ,rfl,cF.of (cy.trans (by rw[map_map];rfl)),_,rfl,?_⟩
       have e:dH z=(((signs z).map iQ).all id && !ye (.str z) (kept.map V.str)):=by
        unfold dH
        rw[decide_eq_true h1,decide_eq_true h2,Bool.true_and,Bool.true_and]
       have k':=k _ (cA.upd (o:=.lst (((signs z).map fun v=>V.bl (iQ v)))) hD)
       have k2:Q (.bl (dH z)) _:=k'
       rw[e]at k2
       refine cW (fun h=>?_) (fun h=>?_)
       ·rw[h,Bool.true_and]at k2
        refine⟨_,rfl,kw,_,rfl,.inr (.inr T.kwt),rfl,?_,k2⟩
        decide+kernel
       ·rw[eq_false_iff.mpr h,Bool.false_and]at k2
        exact k2
     ·rw[decide_eq_false h2]
      refine c9 ?_
      have e:dH z=false:=by
       unfold dH
       rw[decide_eq_false h2,Bool.false_and,Bool.and_false]
      have k2:Q (.bl (dH z)) H:=k H (cA.refl H)
      rw[e]at k2
      exact k2
    ·rw[decide_eq_false h1]
     refine cN ⟨_,rfl,c9 ?_⟩
     have e:dH z=false:=by
      unfold dH
      rw[decide_eq_false h1,Bool.false_and]
     have k2:Q (.bl (dH z)) H:=k H (cA.refl H)
     rw[e]at k2
     exact k2
  ·have e:wM t "str" =false:=by
    unfold wM
    rw[beq_eq_false_iff_ne.mpr hs,Bool.false_or]
    exact Bool.and_false _
   rw[e]
   refine c9 (c9 ?_)
   have e2:wb x=false:=by
    cases x with
    |str z=>exact absurd (wW ty) hs
    |_=>rfl
   have k2:=k H (cA.refl H)
   rw[e2]at k2
   exact k2
theorem Cu{α:Type}{xs:List α}{i:Int}(h0:0≤i)(h1:i < xs.length):∃v,oH xs i=some v∧v∈xs:=by
 have hj:i.toNat < xs.length:=by omega
 have e:((i.toNat:Nat):Int)=i:=Int.toNat_of_nonneg h0
 refine⟨xs[i.toNat],?_,getElem_mem hj⟩
 have:=cQ (xs:=xs) (j:=i.toNat) (v:=xs[i.toNat]) (by simp[hj])
 rw[e]at this
 exact this
theorem lA:cD ["thing", "most"] ["thing", "most"] (cB eW):={}
theorem uT (D:Df K mg "is_list_up_to" eW ["thing", "most"] f fd) (T:Txt K mg kw C):Gd P w K mg base 1 "is_list_up_to" gL:=by
 refine aE D lA fun X H vs Q E hh h=>?_
 obtain⟨p,xs,m,rfl,hp,hm,k⟩:=h
 obtain⟨S0,S1,_⟩:=hh.dZ [0,1]
 have B_isinstance:=hh.b T.b_isinstance
 have B_len:=hh.b T.b_len
 have B_list:=hh.b T.b_list
 refine⟨_,(ah (aw (aX (aL B_isinstance bZ L2.cR (aD (aa S0) (J.ty B_list L2.dR))) (a7 (aZ bH (aL B_len bB L2.dO (aj (aa S0))) (aa S1) (L2.cE _)))))),?_⟩
 refine⟨_,rfl,_,_,_,_,rfl,.lst hp,dv (T:= "list") (by decide) (by decide),_,rfl,iP ?_⟩
 refine⟨_,rfl,p,xs,rfl,.inl (cF.of hp),_,rfl,_,_,rfl,rfl,?_⟩
 show Q (.bl (decide ((xs.length:Int)≤m))) H
 rw[decide_eq_true hm]
 exact k
theorem oA:cD ["thing", "length"] ["thing", "length"] (cB gq):={}
theorem wo (D:Df K mg "is_tuple_of" gq ["thing", "length"] f fd) (T:Txt K mg kw C):Gd P w K mg base 1 "is_tuple_of" mX:=by
 refine aE D oA fun X H vs Q E hh h=>?_
 obtain⟨p,xs,m,rfl,hp,hm,k⟩:=h
 obtain⟨S0,S1,_⟩:=hh.dZ [0,1]
 have B_isinstance:=hh.b T.b_isinstance
 have B_len:=hh.b T.b_len
 have B_tuple:=hh.b T.b_tuple
 refine⟨_,(ah (aw (aX (aL B_isinstance bZ L2.cR (aD (aa S0) (J.ty B_tuple L2.nQ))) (a7 (aZ aK (aL B_len bB L2.dO (aj (aa S0))) (aa S1) (L2.cE _)))))),?_⟩
 refine⟨_,rfl,_,_,_,_,rfl,.tup hp,dv (T:= "tuple") (by decide) (by decide),_,rfl,iP ?_⟩
 refine⟨_,rfl,p,xs,rfl,.inr (dq.of hp),_,rfl,rfl,?_⟩
 rw[hm,decide_eq_true rfl]
 exact k
theorem p8:cD ["persons", "thing"] ["persons", "thing"] (cB iF):={}
theorem xK (D:Df K mg "is_person" iF ["persons", "thing"] f fd) (G_is_name:Gd P w K mg base 1 "is_name" (nK K)):Gd P w K mg base 2 "is_person" gN:=by
 refine aE D p8 fun X H vs Q E hh h=>?_
 obtain⟨p,ps,z,rfl,hp,hP,hz,k⟩:=h
 obtain⟨S0,S1,_⟩:=hh.dZ [0,1]
 have C_is_name:=hh.c G_is_name
 have hn:=hP.nm z hz
 refine⟨_,(ah (aw (aX (ao C_is_name (aj (aa S1))) (a7 (aZ J.iV (aa S1) (aa S0) J.iA))))),?_⟩
 refine⟨_,rfl,.str z, "str",rfl,.str z,by decide,lh hn,fun H1 s1=>⟨_,rfl,fc hn ?_⟩⟩
 refine⟨_,rfl,_,rfl,p,_,rfl,.inl (cF.of (s1 _ _ hp)),rfl,wX ps,?_⟩
 show Q (.bl (ye (.str z) (ps.map V.str))) H1
 rw[yS hz]
 exact k H1 s1
theorem ir:cD ["persons", "one", "other"] ["persons", "one", "other"] (cB dQ):={}
theorem xn (D:Df K mg "are_unlike_persons" dQ ["persons", "one", "other"] f fd) (G_is_person:Gd P w K mg base 2 "is_person" gN):Gd P w K mg base 3 "are_unlike_persons" jO:=by
 refine aE D ir fun X H vs Q E hh h=>?_
 obtain⟨p,ps,y,z,rfl,hp,hP,hy,hz,hne,k⟩:=h
 obtain⟨S0,S1,S2,_⟩:=hh.dZ [0,1,2]
 have C_is_person:=hh.c G_is_person
 refine⟨_,(ah (aw (aX (ao C_is_person (aD (aa S0) (aa S1))) (aX (ao C_is_person (aD (aa S0) (aa S2))) (a7 (aZ cj (aa S1) (aa S2) (L2.cE _))))))),?_⟩
 refine⟨_,rfl,_,rfl,p,ps,y,rfl,hp,hP,hy,fun H1 s1=>⟨_,rfl,c9 ?_⟩⟩
 refine⟨_,rfl,_,rfl,p,ps,z,rfl,s1 _ _ hp,hP,hz,fun H2 s2=>⟨_,rfl,c9 ?_⟩⟩
 refine⟨_,rfl,_,rfl,rfl,?_⟩
 rw[decide_eq_false (by intro e;cases e;exact hne rfl)]
 exact k H2 (s1.trans s2)
theorem ux:cD ["thing"] ["thing"] (cB lC):={}
theorem AB (D:Df K mg "is_tale" lC ["thing"] f fd) (T:Txt K mg kw C) (G_is_name:Gd P w K mg base 1 "is_name" (nK K)):Gd P w K mg base 2 "is_tale" uH:=by
 refine aE D ux fun X H vs Q E hh h=>?_
 obtain⟨t,ws,rfl,ht,w1,w6,hw,k⟩:=h
 obtain⟨S0,_⟩:=hh.dZ [0]
 have B_all:=hh.b T.b_all
 have B_isinstance:=hh.b T.b_isinstance
 have B_len:=hh.b T.b_len
 have B_tuple:=hh.b T.b_tuple
 have g_MOST_WORDS:∀{p:Pos},J.JE X (.Name "MOST_WORDS" p) (L2.tC (.int 6)):=cn hh T.g_MOST_WORDS rfl (by decide)
 have CI_is_name:=hh.ci G_is_name
 have hl:(ws.map V.str).length=ws.length:=length_map ..
 have hz:(ws.map V.str).length≤sizeLine:=by
  have:sizeLine=16777216:=sizeLine_eq
  omega
 refine⟨_,(ag (aH (aY (bN (bu (a9 (aL B_isinstance bZ L2.cR (aD (aa S0) (J.ty B_tuple L2.nQ))))) (bO (bu (J.jK bH bH ae (aL B_len bB L2.dO (aj (aa S0))) g_MOST_WORDS L2.jB)))))
 (ah (aw a5))
 aJ)
 (ah (aw (aL B_all (b6 hh.calm) L2.lK (aj (bW (is:=[]) (ns:=[]) hh.calm (J.t6 (aa S0)) {} (fun _ _ _ _ _=>(ao (CI_is_name.lc rfl) (aj (b4 rfl (by decide) (by decide))))) hh.hsc hh.hN)))))),?_⟩
 refine⟨_,rfl,_,_,_,_,rfl,.tup ht,dv (T:= "tuple") (by decide) (by decide),_,rfl,iN ?_⟩
 refine⟨_,rfl,t,_,rfl,.inr (dq.of ht),_,_,rfl,rfl,_,rfl,fc (decide_eq_true (by omega)) ⟨_,_,rfl,rfl,_,rfl,?_⟩⟩
 rw[decide_eq_true (show((ws.map V.str).length:Int)≤6 by omega)]
 refine cN ?_
 refine⟨_,rfl,t,rfl,⟨_,dq.of ht⟩,AK (fun v=>.bl (wb v)) (dq.of ht) hz (fun v H2 Q' hv sm q'=>?_) (fun D' H' hD sm hl'=>?_)⟩
 ·obtain⟨x,hx,rfl⟩:=mem_map.mp hv
  exact⟨_,rfl,.str x, "str",rfl,.str x,by decide,lh (hw x hx),fun H3 s3=>q' H3 s3⟩
 ·refine⟨D',ws.map dH,rfl,cF.of (hl'.trans (by rw[map_map,map_map];rfl)),?_⟩
  rw[all_true hw]
  exact k H' sm
theorem qZ:cD ["persons", "thing"] ["persons", "thing"] (cB jq):={}
theorem yu (D:Df K mg "is_sight" jq ["persons", "thing"] f fd) (G_is_tuple_of:Gd P w K mg base 1 "is_tuple_of" mX) (G_is_person:Gd P w K mg base 2 "is_person" gN)
  (G_is_hour:Gd P w K mg base 2 "is_hour" (kN K)) (G_is_tale:Gd P w K mg base 2 "is_tale" uH):Gd P w K mg base 3 "is_sight" p5:=by
 refine aE D qZ fun X H vs Q E hh h=>?_
 obtain⟨p,ps,v,rfl,hp,hP,⟨a,z,hr,ta,ws,rfl,ha,hz,hho,hta,w1,w6,hw⟩,k⟩:=h
 obtain⟨S0,S1,_⟩:=hh.dZ [0,1]
 have C_is_hour:=hh.c G_is_hour
 have C_is_person:=hh.c G_is_person
 have C_is_tale:=hh.c G_is_tale
 have C_is_tuple_of:=hh.c G_is_tuple_of
 refine⟨_,(ag (aH (bu (a9 (ao C_is_tuple_of (aD (aa S1) ae))))
 (ah (aw a5))
 aJ)
 (ah (aw (aX (ao C_is_person (aD (aa S0) (af az (aa S1) ae ak))) (aX (ao C_is_hour (aj (af az (aa S1) ae ak))) (a7 (ao C_is_tale (aj (af az (aa S1) ae ak))))))))),?_⟩
 refine⟨_,rfl,a,_,3,rfl,ha,rfl,_,rfl,cN ?_⟩
 refine⟨_,rfl,_,rfl,xT ha rfl ⟨p,ps,z,rfl,hp,hP,hz,fun H1 s1=>⟨_,rfl,c9 ?_⟩⟩⟩
 refine⟨_,rfl,xT (s1 _ _ ha) rfl ⟨.int hr, "int",rfl,.int hr,by decide,_,rfl,fc (gA hho) ?_⟩⟩
 exact⟨_,rfl,xT (s1 _ _ ha) rfl ⟨ta,ws,rfl,s1 _ _ hta,w1,w6,hw,fun H2 s2=>k H2 (s1.trans s2)⟩⟩
theorem xi:cD ["thing"] ["thing"] (cB oF):={}
theorem D8 (D:Df K mg "is_way" oF ["thing"] f fd) (T:Txt K mg kw C):Gd P w K mg base 1 "is_way" yi:=by
 refine aE D xi fun X H vs Q E hh h=>?_
 obtain⟨z,rfl,hz,k⟩:=h
 obtain⟨S0,_⟩:=hh.dZ [0]
 have B_isinstance:=hh.b T.b_isinstance
 have B_str:=hh.b T.b_str
 refine⟨_,(ah (aw (aX (aL B_isinstance bZ L2.cR (aD (aa S0) (J.ty B_str L2.tW))) (a7 (aZ J.iV (aa S0) (aS (aD aP aP)) J.y8))))),?_⟩
 refine⟨_,rfl,_,_,_,_,rfl,.str z,dv (T:= "str") (by decide) (by decide),_,rfl,iP ?_⟩
 refine⟨_,rfl,CK,fun q hq=>⟨q,_,rfl,.inr (dq.of cy),rfl,by decide+kernel,?_⟩⟩
 show Q (.bl (ye (.str z) [.str "both",.str "one"])) _
 have e:ye (.str z) [.str "both",.str "one"]=true:=by
  rcases hz with rfl|rfl<;>decide+kernel
 rw[e]
 exact k _ (cA.upd hq)
theorem u6:cD ["persons", "thing"] ["persons", "thing"] (cB kP):={}
theorem BM (D:Df K mg "is_talk" kP ["persons", "thing"] f fd) (G_is_tuple_of:Gd P w K mg base 1 "is_tuple_of" mX) (G_are_unlike_persons:Gd P w K mg base 3 "are_unlike_persons" jO)
  (G_is_hour:Gd P w K mg base 2 "is_hour" (kN K)) (G_is_way:Gd P w K mg base 1 "is_way" yi):Gd P w K mg base 4 "is_talk" uf:=by
 refine aE D u6 fun X H vs Q E hh h=>?_
 obtain⟨p,ps,v,rfl,hp,hP,⟨a,hr,y,z,wy,rfl,ha,hho,hy,hz,hne,hw⟩,k⟩:=h
 obtain⟨S0,S1,_⟩:=hh.dZ [0,1]
 have C_are_unlike_persons:=hh.c G_are_unlike_persons
 have C_is_hour:=hh.c G_is_hour
 have C_is_tuple_of:=hh.c G_is_tuple_of
 have C_is_way:=hh.c G_is_way
 refine⟨_,(ag (aH (bu (a9 (ao C_is_tuple_of (aD (aa S1) ae))))
 (ah (aw a5))
 aJ)
 (ah (aw (aX (ao C_is_hour (aj (af az (aa S1) ae ak))) (aX (ao C_are_unlike_persons (aM (aa S0) (af az (aa S1) ae ak) (af az (aa S1) ae ak))) (a7 (ao C_is_way (aj (af az (aa S1) ae ak))))))))),?_⟩
 refine⟨_,rfl,a,_,4,rfl,ha,rfl,_,rfl,cN ?_⟩
 refine⟨_,rfl,xT ha rfl ⟨.int hr, "int",rfl,.int hr,by decide,_,rfl,fc (gA hho) ?_⟩⟩
 refine⟨_,rfl,_,rfl,xT ha rfl ⟨_,rfl,xT ha rfl ⟨p,ps,y,z,rfl,hp,hP,hy,hz,hne,fun H1 s1=>⟨_,rfl,c9 ?_⟩⟩⟩⟩
 exact⟨_,rfl,xT (s1 _ _ ha) rfl ⟨wy,rfl,hw,fun H2 s2=>k H2 (s1.trans s2)⟩⟩
theorem ui:cD ["begin", "end"] ["begin", "end"] (cB lu):={}
theorem AR (D:Df K mg "is_span" lu ["begin", "end"] f fd) (G_is_hour:Gd P w K mg base 2 "is_hour" (kN K)):Gd P w K mg base 3 "is_span" uq:=by
 refine aE D ui fun X H vs Q E hh h=>?_
 obtain⟨a,b,rfl,h1,h2,h3,k⟩:=h
 obtain⟨S0,S1,_⟩:=hh.dZ [0,1]
 have C_is_hour:=hh.c G_is_hour
 refine⟨_,(ah (aw (aX (ao C_is_hour (aj (aa S0))) (aX (ao C_is_hour (aj (aa S1))) (a7 (aZ bH (aa S0) (aa S1) (L2.cE _))))))),?_⟩
 refine⟨_,rfl,.int a, "int",rfl,.int a,by decide,_,rfl,fc (gA h1) ?_⟩
 refine⟨_,rfl,.int b, "int",rfl,.int b,by decide,_,rfl,fc (gA h2) ?_⟩
 refine⟨_,rfl,_,rfl,_,_,rfl,rfl,?_⟩
 show Q (.bl (decide (a≤b))) H
 rw[decide_eq_true h3]
 exact k
theorem jy:cD ["persons", "kind", "person", "behind"] ["persons", "kind", "person", "behind"] (cB ej):={}
theorem y3 (D:Df K mg "is_short_saying" ej ["persons", "kind", "person", "behind"] f fd) (G_are_unlike_persons:Gd P w K mg base 3 "are_unlike_persons" jO)
  (G_is_person:Gd P w K mg base 2 "is_person" gN) (G_is_hour:Gd P w K mg base 2 "is_hour" (kN K)):Gd P w K mg base 4 "is_short_saying" qq:=by
 refine aE D jy fun X H vs Q E hh h=>?_
 obtain⟨p,ps,kd,y,b,rfl,hp,hP,hy,hk,k⟩:=h
 obtain⟨S0,S1,S2,S3,_⟩:=hh.dZ [0,1,2,3]
 have C_are_unlike_persons:=hh.c G_are_unlike_persons
 have C_is_hour:=hh.c G_is_hour
 have C_is_person:=hh.c G_is_person
 refine⟨_,(ag (aH (aB aK (aa S1) aP (L2.cE _))
 (ah (aw (ao C_are_unlike_persons (aM (aa S0) (aa S2) (aa S3)))))
 aJ)
 (ag (aH (bu (a9 (ao C_is_person (aD (aa S0) (aa S2)))))
 (ah (aw a5))
 aJ)
 (ag (aH (aB aK (aa S1) aP (L2.cE _))
 (ah (aw (J.tq (aZ b5 (aa S3) bA (L2.cE _)) (a7 (ao C_is_hour (aj (aa S3)))))))
 aJ)
 (ah (aw (aX (aZ aK (aa S1) aP (L2.cE _)) (a7 (ao C_is_hour (aj (aa S3)))))))))),?_⟩
 refine⟨_,rfl,rfl,_,rfl,?_⟩
 rcases hk with ⟨rfl,z,rfl,hz,hne⟩|⟨rfl,hb⟩|⟨rfl,h,rfl,hho⟩
 ·refine fc (decide_eq_true rfl) ?_
  exact⟨_,rfl,_,rfl,_,rfl,p,ps,y,z,rfl,hp,hP,hy,hz,hne,k⟩
 ·refine iN ?_
  refine⟨_,rfl,_,rfl,p,ps,y,rfl,hp,hP,hy,fun H1 s1=>⟨_,rfl,cN ?_⟩⟩
  refine⟨_,rfl,rfl,_,rfl,fc (decide_eq_true rfl) ?_⟩
  rcases hb with rfl|⟨h,rfl,hho⟩
  ·exact⟨_,rfl,rfl,_,rfl,fc (decide_eq_true rfl) (k H1 s1)⟩
  ·refine⟨_,rfl,rfl,_,rfl,ig (by rw[decide_eq_true_iff];intro e;cases e) ?_⟩
   refine⟨_,rfl,.int h, "int",rfl,.int h,by decide,?_⟩
   rw[gA hho]
   exact k H1 s1
 ·refine iN ?_
  refine⟨_,rfl,_,rfl,p,ps,y,rfl,hp,hP,hy,fun H1 s1=>⟨_,rfl,cN ?_⟩⟩
  refine⟨_,rfl,rfl,_,rfl,iN ?_⟩
  refine⟨_,rfl,rfl,_,rfl,fc (decide_eq_true rfl) ?_⟩
  refine⟨_,rfl,.int h, "int",rfl,.int h,by decide,?_⟩
  rw[gA hho]
  exact k H1 s1
theorem qi:cD ["persons", "thing"] ["persons", "thing"] (cB iD):={}
theorem xq (D:Df K mg "is_saying" iD ["persons", "thing"] f fd) (T:Txt K mg kw C) (G_is_person:Gd P w K mg base 2 "is_person" gN) (G_is_span:Gd P w K mg base 3 "is_span" uq)
  (G_is_short_saying:Gd P w K mg base 4 "is_short_saying" qq):Gd P w K mg base 5 "is_saying" oq:=by
 refine aE D qi fun X H vs Q E hh h=>?_
 obtain⟨p,ps,v,rfl,hp,hP,⟨a,rfl,hk⟩,k⟩:=h
 obtain⟨S0,S1,_⟩:=hh.dZ [0,1]
 have B_isinstance:=hh.b T.b_isinstance
 have B_len:=hh.b T.b_len
 have B_str:=hh.b T.b_str
 have B_tuple:=hh.b T.b_tuple
 have C_is_person:=hh.c G_is_person
 have C_is_short_saying:=hh.c G_is_short_saying
 have C_is_span:=hh.c G_is_span
 refine⟨_,(ag (aH (aY (bN (bu (a9 (aL B_isinstance bZ L2.cR (aD (aa S1) (J.ty B_tuple L2.nQ))))) (bN (aB aK (aL B_len bB L2.dO (aj (aa S1))) ae (L2.cE _)) (bO (bu (a9 (aL B_isinstance bZ L2.cR (aD (af az (aa S1) ae ak) (J.ty B_str L2.tW)))))))))
 (ah (aw a5))
 aJ)
 (ag (aH (aB aK (aL B_len bB L2.dO (aj (aa S1))) ae (L2.cE _))
 (ah (aw (aX (aZ aK (af az (aa S1) ae ak) aP (L2.cE _)) (aX (ao C_is_person (aD (aa S0) (af az (aa S1) ae ak))) (a7 (ao C_is_span (aD (af az (aa S1) ae ak) (af az (aa S1) ae ak))))))))
 aJ)
 (ah (aw (aX (aZ aK (aL B_len bB L2.dO (aj (aa S1))) ae (L2.cE _)) (a7 (ao C_is_short_saying (bX (aa S0) (af az (aa S1) ae ak) (af az (aa S1) ae ak) (af az (aa S1) ae ak))))))))),?_⟩
 rcases hk with ⟨y,h,ha,hy,hho⟩|⟨y,b,ha,hy,hb⟩|⟨y,h,h2,ha,hy,hho,hho2,hle⟩|⟨y,z,ha,hy,hz,hne⟩
 ·refine⟨_,rfl,_,_,_,_,rfl,.tup ha,dv (T:= "tuple") (by decide) (by decide),_,rfl,iN ?_⟩
  refine⟨_,rfl,a,_,rfl,.inr (dq.of ha),rfl,_,rfl,ig (jE (n:=3) rfl (by decide)) ?_⟩
  refine⟨_,rfl,xT ha rfl ⟨_,_,_,_,rfl,.str _,dv (T:= "str") (by decide) (by decide),_,rfl,iN ?_⟩⟩
  refine⟨_,rfl,a,_,rfl,.inr (dq.of ha),rfl,_,rfl,ig (jE (n:=3) rfl (by decide)) ?_⟩
  refine⟨_,rfl,a,_,rfl,.inr (dq.of ha),rfl,_,rfl,fc (qD (n:=3) rfl (by decide)) ?_⟩
  exact⟨_,rfl,_,rfl,xT ha rfl ⟨_,rfl,xT ha rfl ⟨_,rfl,xT ha rfl ⟨p,ps,_,y,_,rfl,hp,hP,hy,.inr (.inr ⟨rfl,h,rfl,hho⟩),k⟩⟩⟩⟩
 ·refine⟨_,rfl,_,_,_,_,rfl,.tup ha,dv (T:= "tuple") (by decide) (by decide),_,rfl,iN ?_⟩
  refine⟨_,rfl,a,_,rfl,.inr (dq.of ha),rfl,_,rfl,ig (jE (n:=3) rfl (by decide)) ?_⟩
  refine⟨_,rfl,xT ha rfl ⟨_,_,_,_,rfl,.str _,dv (T:= "str") (by decide) (by decide),_,rfl,iN ?_⟩⟩
  refine⟨_,rfl,a,_,rfl,.inr (dq.of ha),rfl,_,rfl,ig (jE (n:=3) rfl (by decide)) ?_⟩
  refine⟨_,rfl,a,_,rfl,.inr (dq.of ha),rfl,_,rfl,fc (qD (n:=3) rfl (by decide)) ?_⟩
  exact⟨_,rfl,_,rfl,xT ha rfl ⟨_,rfl,xT ha rfl ⟨_,rfl,xT ha rfl ⟨p,ps,_,y,_,rfl,hp,hP,hy,.inr (.inl ⟨rfl,hb⟩),k⟩⟩⟩⟩
 ·refine⟨_,rfl,_,_,_,_,rfl,.tup ha,dv (T:= "tuple") (by decide) (by decide),_,rfl,iN ?_⟩
  refine⟨_,rfl,a,_,rfl,.inr (dq.of ha),rfl,_,rfl,ig (jE (n:=4) rfl (by decide)) ?_⟩
  refine⟨_,rfl,xT ha rfl ⟨_,_,_,_,rfl,.str _,dv (T:= "str") (by decide) (by decide),_,rfl,iN ?_⟩⟩
  refine⟨_,rfl,a,_,rfl,.inr (dq.of ha),rfl,_,rfl,fc (qD (n:=4) rfl (by decide)) ?_⟩
  refine⟨_,rfl,xT ha rfl ⟨rfl,_,rfl,iP ?_⟩⟩
  refine⟨_,rfl,_,rfl,xT ha rfl ⟨p,ps,y,rfl,hp,hP,hy,fun H1 s1=>⟨_,rfl,c9 ?_⟩⟩⟩
  exact⟨_,rfl,xT (s1 _ _ ha) rfl ⟨_,rfl,xT (s1 _ _ ha) rfl ⟨h,h2,rfl,hho,hho2,hle,k H1 s1⟩⟩⟩
 ·refine⟨_,rfl,_,_,_,_,rfl,.tup ha,dv (T:= "tuple") (by decide) (by decide),_,rfl,iN ?_⟩
  refine⟨_,rfl,a,_,rfl,.inr (dq.of ha),rfl,_,rfl,ig (jE (n:=3) rfl (by decide)) ?_⟩
  refine⟨_,rfl,xT ha rfl ⟨_,_,_,_,rfl,.str _,dv (T:= "str") (by decide) (by decide),_,rfl,iN ?_⟩⟩
  refine⟨_,rfl,a,_,rfl,.inr (dq.of ha),rfl,_,rfl,ig (jE (n:=3) rfl (by decide)) ?_⟩
  refine⟨_,rfl,a,_,rfl,.inr (dq.of ha),rfl,_,rfl,fc (qD (n:=3) rfl (by decide)) ?_⟩
  exact⟨_,rfl,_,rfl,xT ha rfl ⟨_,rfl,xT ha rfl ⟨_,rfl,xT ha rfl ⟨p,ps,_,y,_,rfl,hp,hP,hy,.inl ⟨rfl,z,rfl,hz,hne⟩,k⟩⟩⟩⟩
theorem nI:cD ["thing"] ["thing"] (cB fZ):={}
theorem uK (D:Df K mg "are_persons" fZ ["thing"] f fd) (T:Txt K mg kw C) (G_is_list_up_to:Gd P w K mg base 1 "is_list_up_to" gL) (G_is_name:Gd P w K mg base 1 "is_name" (nK K)):Gd P w K mg base 2 "are_persons" kW:=by
 refine aE D nI fun X H vs Q E hh h=>?_
 obtain⟨p,ps,rfl,hp,hP,k⟩:=h
 obtain⟨S0,_⟩:=hh.dZ [0]
 have B_all:=hh.b T.b_all
 have B_len:=hh.b T.b_len
 have B_set:=hh.b T.b_set
 have g_MOST_PERSONS:∀{p:Pos},J.JE X (.Name "MOST_PERSONS" p) (L2.tC (.int 24)):=cn hh T.g_MOST_PERSONS rfl (by decide)
 have C_is_list_up_to:=hh.c G_is_list_up_to
 have CI_is_name:=hh.ci G_is_name
 have hl:(ps.map V.str).length=ps.length:=length_map ..
 have h24:=hP.hi
 have h1:=hP.lo
 have hz:(ps.map V.str).length≤sizeLine:=by
  have:sizeLine=16777216:=sizeLine_eq
  omega
 refine⟨_,(ag (aH (aY (bN (bu (a9 (ao C_is_list_up_to (aD (aa S0) g_MOST_PERSONS)))) (bO (aB aK (aL B_len bB L2.dO (aj (aa S0))) ae (L2.cE _)))))
 (ah (aw a5))
 aJ)
 (ah (aw (aX (aL B_all (b6 hh.calm) L2.lK (aj (bW (is:=[]) (ns:=[]) hh.calm (aQ (aa S0)) {} (fun _ _ _ _ _=>(ao (CI_is_name.lc rfl) (aj (b4 rfl (by decide) (by decide))))) hh.hsc hh.hN))) (a7 (aZ aK (aL B_len J.gb L2.dO (aj (bw B_set (J.lE hh.calm) L2.D0 (aj (aa S0))))) (aL B_len bB L2.dO (aj (aa S0))) (L2.cE _))))))),?_⟩
 refine⟨_,rfl,p,_,24,rfl,hp,(by omega),_,rfl,cN ?_⟩
 refine⟨_,rfl,p,_,rfl,.inl (cF.of hp),rfl,_,rfl,ig ?_ ?_⟩
 ·rw[decide_eq_true_iff]
  intro e
  injection e with e
  omega
 ·refine⟨_,rfl,p,rfl,⟨_,cF.of hp⟩,jP (fun v=>.bl (wb v)) (cF.of hp) hz (fun v H2 Q' hv sm q'=>?_) (fun D' H' hD sm hl'=>?_)⟩
  ·obtain⟨x,hx,rfl⟩:=mem_map.mp hv
   exact⟨_,rfl,.str x, "str",rfl,.str x,by decide,lh (hP.nm x hx),fun H3 s3=>q' H3 s3⟩
  ·refine⟨D',ps.map dH,rfl,cF.of (hl'.trans (by rw[map_map,map_map];rfl)),_,rfl,fc (all_true hP.nm) ?_⟩
   refine⟨_,rfl,p,ps,rfl,cF.of (sm _ _ hp),hP.nd,by omega,fun q hq=>?_⟩
   refine⟨q,ps.length,rfl,cy,_,rfl,p,_,rfl,.inl (cF.of ((cA.upd hq) _ _ (sm _ _ hp))),rfl,?_⟩
   rw[hl,decide_eq_true rfl]
   exact k _ (sm.trans (cA.upd hq))
theorem oJ:cD ["persons", "thing"] ["persons", "thing"] (cB gX):={}
theorem oN (D:Df K mg "are_sights" gX ["persons", "thing"] f fd) (T:Txt K mg kw C) (G_is_list_up_to:Gd P w K mg base 1 "is_list_up_to" gL) (G_is_sight:Gd P w K mg base 3 "is_sight" p5):Gd P w K mg base 4 "are_sights" (gT dS 24):=by
 refine aE D oJ fun X H vs Q E hh h=>?_
 obtain⟨p,q,ps,xs,rfl,hp,hP,hq,hn,hg,k⟩:=h
 obtain⟨S0,S1,_⟩:=hh.dZ [0,1]
 have B_all:=hh.b T.b_all
 have g_MOST_SIGHTS:∀{p:Pos},J.JE X (.Name "MOST_SIGHTS" p) (L2.tC (.int 24)):=cn hh T.g_MOST_SIGHTS rfl (by decide)
 have C_is_list_up_to:=hh.c G_is_list_up_to
 have CI_is_sight:=hh.ci G_is_sight
 have hz:xs.length≤sizeLine:=by
  have:sizeLine=16777216:=sizeLine_eq
  omega
 refine⟨_,(ah (aw (aX (ao C_is_list_up_to (aD (aa S1) g_MOST_SIGHTS)) (a7 (aL B_all (b6 hh.calm) L2.lK (aj (bW (is:=[0]) (ns:=["persons"]) hh.calm (aQ (aa S1)) {} (fun _ _ _ _ _=>(ao (CI_is_sight.lc rfl) (aD (b8 (i:=0) rfl rfl (by decide) (by decide)) (b4 rfl (by decide) (by decide))))) hh.hsc hh.hN))))))),?_⟩
 refine⟨_,rfl,q,_,24,rfl,hq,(by omega),_,rfl,c9 ?_⟩
 refine⟨_,rfl,q,rfl,⟨_,cF.of hq⟩,jP (fun _=>.bl true) (cF.of hq) hz (fun v H2 Q' hv sm q'=>?_) (fun D' H' hD sm hl'=>?_)⟩
 ·exact⟨_,rfl,_,rfl,p,ps,v,rfl,sm _ _ hp,hP,(hg v hv).mono (Tk.of sm),fun H3 s3=>q' H3 s3⟩
 ·refine⟨D',xs.map fun _=>true,rfl,cF.of (hl'.trans (by rw[map_map];rfl)),?_⟩
  rw[all_true fun _ _=>rfl]
  exact k H' sm
theorem qg:cD ["persons", "thing"] ["persons", "thing"] (cB iw):={}
theorem qM (D:Df K mg "are_talks" iw ["persons", "thing"] f fd) (T:Txt K mg kw C) (G_is_list_up_to:Gd P w K mg base 1 "is_list_up_to" gL) (G_is_talk:Gd P w K mg base 4 "is_talk" uf):Gd P w K mg base 5 "are_talks" (gT eN 120):=by
 refine aE D qg fun X H vs Q E hh h=>?_
 obtain⟨p,q,ps,xs,rfl,hp,hP,hq,hn,hg,k⟩:=h
 obtain⟨S0,S1,_⟩:=hh.dZ [0,1]
 have B_all:=hh.b T.b_all
 have g_MOST_TALKS:∀{p:Pos},J.JE X (.Name "MOST_TALKS" p) (L2.tC (.int 120)):=cn hh T.g_MOST_TALKS rfl (by decide)
 have C_is_list_up_to:=hh.c G_is_list_up_to
 have CI_is_talk:=hh.ci G_is_talk
 have hz:xs.length≤sizeLine:=by
  have:sizeLine=16777216:=sizeLine_eq
  omega
 refine⟨_,(ah (aw (aX (ao C_is_list_up_to (aD (aa S1) g_MOST_TALKS)) (a7 (aL B_all (b6 hh.calm) L2.lK (aj (bW (is:=[0]) (ns:=["persons"]) hh.calm (aQ (aa S1)) {} (fun _ _ _ _ _=>(ao (CI_is_talk.lc rfl) (aD (b8 (i:=0) rfl rfl (by decide) (by decide)) (b4 rfl (by decide) (by decide))))) hh.hsc hh.hN))))))),?_⟩
 refine⟨_,rfl,q,_,120,rfl,hq,(by omega),_,rfl,c9 ?_⟩
 refine⟨_,rfl,q,rfl,⟨_,cF.of hq⟩,jP (fun _=>.bl true) (cF.of hq) hz (fun v H2 Q' hv sm q'=>?_) (fun D' H' hD sm hl'=>?_)⟩
 ·exact⟨_,rfl,_,rfl,p,ps,v,rfl,sm _ _ hp,hP,(hg v hv).mono (Tk.of sm),fun H3 s3=>q' H3 s3⟩
 ·refine⟨D',xs.map fun _=>true,rfl,cF.of (hl'.trans (by rw[map_map];rfl)),?_⟩
  rw[all_true fun _ _=>rfl]
  exact k H' sm
theorem oz:cD ["persons", "thing"] ["persons", "thing"] (cB f6):={}
theorem nB (D:Df K mg "are_sayings" f6 ["persons", "thing"] f fd) (T:Txt K mg kw C) (G_is_list_up_to:Gd P w K mg base 1 "is_list_up_to" gL) (G_is_saying:Gd P w K mg base 5 "is_saying" oq):Gd P w K mg base 6 "are_sayings" (gT fH 60):=by
 refine aE D oz fun X H vs Q E hh h=>?_
 obtain⟨p,q,ps,xs,rfl,hp,hP,hq,hn,hg,k⟩:=h
 obtain⟨S0,S1,_⟩:=hh.dZ [0,1]
 have B_all:=hh.b T.b_all
 have g_MOST_SAYINGS:∀{p:Pos},J.JE X (.Name "MOST_SAYINGS" p) (L2.tC (.int 60)):=cn hh T.g_MOST_SAYINGS rfl (by decide)
 have C_is_list_up_to:=hh.c G_is_list_up_to
 have CI_is_saying:=hh.ci G_is_saying
 have hz:xs.length≤sizeLine:=by
  have:sizeLine=16777216:=sizeLine_eq
  omega
 refine⟨_,(ah (aw (aX (ao C_is_list_up_to (aD (aa S1) g_MOST_SAYINGS)) (a7 (aL B_all (b6 hh.calm) L2.lK (aj (bW (is:=[0]) (ns:=["persons"]) hh.calm (aQ (aa S1)) {} (fun _ _ _ _ _=>(ao (CI_is_saying.lc rfl) (aD (b8 (i:=0) rfl rfl (by decide) (by decide)) (b4 rfl (by decide) (by decide))))) hh.hsc hh.hN))))))),?_⟩
 refine⟨_,rfl,q,_,60,rfl,hq,(by omega),_,rfl,c9 ?_⟩
 refine⟨_,rfl,q,rfl,⟨_,cF.of hq⟩,jP (fun _=>.bl true) (cF.of hq) hz (fun v H2 Q' hv sm q'=>?_) (fun D' H' hD sm hl'=>?_)⟩
 ·exact⟨_,rfl,_,rfl,p,ps,v,rfl,sm _ _ hp,hP,(hg v hv).mono (Tk.of sm),fun H3 s3=>q' H3 s3⟩
 ·refine⟨D',xs.map fun _=>true,rfl,cF.of (hl'.trans (by rw[map_map];rfl)),?_⟩
  rw[all_true fun _ _=>rfl]
  exact k H' sm
theorem xx:cD ["self", "persons", "sights", "talks", "sayings"] ["self", "persons", "sights", "talks", "sayings"] (cB gK):={}
theorem Bs (F:oY K "__init__" "Book.__init__" gK f fd) (mk:Mk K C f) (bi:Binds K fd ["self", "persons", "sights", "talks", "sayings"] []) (nm:mg "Book" =some (.ref C)) (T:Txt K mg kw C)
  (G_are_persons:Gd P w K mg base 2 "are_persons" kW) (G_are_sights:Gd P w K mg base 4 "are_sights" (gT dS 24)) (G_are_talks:Gd P w K mg base 5 "are_talks" (gT eN 120)) (G_are_sayings:Gd P w K mg base 6 "are_sayings" (gT fH 60)):
  Kd P w K mg base 7 "Book" C (uQ C):=by
 refine J.Bv F mk bi nm xx (fun vs H Q E h=>?_) (fun X H vs Q E hh h=>?_)
 ·obtain⟨x,dx,p,a,b,c,ps,ss,ts,ys,rfl,_⟩:=h
  rfl
 ·obtain⟨x,dx,p,a,b,c,ps,ss,ts,ys,rfl,hx,hp,ha,hb,hc,g,k⟩:=h
  obtain⟨S0,S1,S2,S3,S4,_⟩:=hh.dZ [0,1,2,3,4]
  have B_list:=hh.b T.b_list
  have C_are_persons:=hh.c G_are_persons
  have C_are_sayings:=hh.c G_are_sayings
  have C_are_sights:=hh.c G_are_sights
  have C_are_talks:=hh.c G_are_talks
  obtain⟨hP,sl,sg,tl,tg,yl,yg⟩:=id g
  obtain rfl:=hh.fK
  refine⟨_,(ag (aH (bu (a9 (ao C_are_persons (aj (aa S1)))))
 bY
 aJ)
 (ag (aH (bu (a9 (ao C_are_sights (aD (aa S1) (aa S2)))))
 bY
 aJ)
 (ag (aH (bu (a9 (ao C_are_talks (aD (aa S1) (aa S3)))))
 bY
 aJ)
 (ag (aH (bu (a9 (ao C_are_sayings (aD (aa S1) (aa S4)))))
 bY
 aJ)
 (ag (J.kQ (aa S0) (bw B_list bI L2.dR (aj (aa S1))))
 (ag (J.kQ (aa S0) (bw B_list bI L2.dR (aj (aa S2))))
 (ag (J.kQ (aa S0) (bw B_list bI L2.dR (aj (aa S3))))
 (ah (J.kQ (aa S0) (bw B_list bI L2.dR (aj (aa S4)))))))))))),?_⟩
  refine⟨_,rfl,p,ps,rfl,hp,hP,fun H1 s1=>⟨_,rfl,cN ?_⟩⟩
  refine⟨_,rfl,_,rfl,p,a,ps,ss,rfl,s1 _ _ hp,hP,s1 _ _ ha,sl,fun v hv=>(sg v hv).mono (Tk.of s1),fun H2 s2'=>⟨_,rfl,cN ?_⟩⟩
  have s2:=s1.trans s2'
  refine⟨_,rfl,_,rfl,p,b,ps,ts,rfl,s2 _ _ hp,hP,s2 _ _ hb,tl,fun v hv=>(tg v hv).mono (Tk.of s2),fun H3 s3'=>⟨_,rfl,cN ?_⟩⟩
  have s3:=s2.trans s3'
  refine⟨_,rfl,_,rfl,p,c,ps,ys,rfl,s3 _ _ hp,hP,s3 _ _ hc,yl,fun v hv=>(yg v hv).mono (Tk.of s3),fun H4 s4'=>⟨_,rfl,cN ?_⟩⟩
  have s4:=s3.trans s4'
  clear s1 s2' s2 s3' s3 s4'
  refine⟨_,rfl,p,_,rfl,.inl (cF.of (s4 _ _ hp)),fun p' np=>⟨_,rfl,x,C,dx,[],rfl,(by rw[cC (cz (s4 _ _ hx) np)];exact s4 _ _ hx),T.cl,T.nP,(by show 0 < 1000;decide),?_⟩⟩
  have xp:x≠p':=cz (s4 _ _ hx) np
  have k1:∀d o,H4 d=some o→d≠x→upd (upd H4 p' (.lst (ps.map V.str))) x (.ins C dx (eY "kept_persons" (.ref p') [])) d=some o:=fun d o e n=>by
   rw[cC n,cC (cz e np)]
   exact e
  have ax:a≠x:=n5 (s4 _ _ ha) (s4 _ _ hx) (by intro z;cases z)
  have bx:b≠x:=n5 (s4 _ _ hb) (s4 _ _ hx) (by intro z;cases z)
  have cx:c≠x:=n5 (s4 _ _ hc) (s4 _ _ hx) (by intro z;cases z)
  refine⟨_,rfl,a,_,rfl,.inl (cF.of (k1 _ _ (s4 _ _ ha) ax)),fun s' ns=>⟨_,rfl,x,C,dx,_,rfl,(by rw[cC (cz cy ns)];exact cy),T.cl,T.nS,(by show 1 < 1000;decide),?_⟩⟩
  have xs:x≠s':=cz cy ns
  have ps':p'≠s':=cz (by rw[cC xp.symm];exact cy) ns
  have ns4:H4 s'=none:=by
   rw[cC xs.symm,cC ps'.symm]at ns
   exact ns
  have k2:∀d o,H4 d=some o→d≠x→upd (upd (upd (upd H4 p' (.lst (ps.map V.str))) x (.ins C dx (eY "kept_persons" (.ref p') []))) s' (.lst ss)) x (.ins C dx (eY "kept_sights" (.ref s') (eY "kept_persons" (.ref p') []))) d=some o:=fun d o e n=>by
   rw[cC n,cC (cz e ns4)]
   exact k1 d o e n
  refine⟨_,rfl,b,_,rfl,.inl (cF.of (k2 _ _ (s4 _ _ hb) bx)),fun t' nt=>⟨_,rfl,x,C,dx,_,rfl,(by rw[cC (cz cy nt)];exact cy),T.cl,T.nT,(by show 2 < 1000;decide),?_⟩⟩
  have xt:x≠t':=cz cy nt
  have st':s'≠t':=cz (by rw[cC xs.symm];exact cy) nt
  have pt':p'≠t':=cz (by rw[cC xp.symm,cC ps',cC xp.symm];exact cy) nt
  have nt4:H4 t'=none:=by
   rw[cC xt.symm,cC st'.symm,cC xt.symm,cC pt'.symm]at nt
   exact nt
  refine⟨_,rfl,c,_,rfl,.inl (cF.of (by rw[cC cx,cC (cz (s4 _ _ hc) nt4)];exact k2 _ _ (s4 _ _ hc) cx)),fun y' ny=>⟨_,rfl,x,C,dx,_,rfl,(by rw[cC (cz cy ny)];exact cy),T.cl,T.nY,(by show 3 < 1000;decide),?_⟩⟩
  have xy:x≠y':=cz cy ny
  have ty':t'≠y':=cz (by rw[cC xt.symm];exact cy) ny
  have sy':s'≠y':=cz (by rw[cC xs.symm,cC st',cC xs.symm];exact cy) ny
  have py':p'≠y':=cz (by rw[cC xp.symm,cC pt',cC xp.symm,cC ps',cC xp.symm];exact cy) ny
  have ny4:H4 y'=none:=by
   rw[cC xy.symm,cC ty'.symm,cC xy.symm,cC sy'.symm,cC xy.symm,cC py'.symm]at ny
   exact ny
  refine k p' s' t' y' _ (s4.free np) (s4.free ns4) (s4.free nt4) (s4.free ny4) ⟨⟨dx,cy⟩,?_,?_,?_,?_⟩ fun d o e n=>?_
  ·rw[cC xp.symm,cC py',cC xp.symm,cC pt',cC xp.symm,cC ps',cC xp.symm]
   exact cy
  ·rw[cC xs.symm,cC sy',cC xs.symm,cC st',cC xs.symm]
   exact cy
  ·rw[cC xt.symm,cC ty',cC xt.symm]
   exact cy
  ·rw[cC xy.symm]
   exact cy
  ·rw[cC n,cC (cz (s4 _ _ e) ny4),cC n,cC (cz (s4 _ _ e) nt4)]
   exact k2 d o (s4 _ _ e) n
end K34
namespace K34
open PySem L2
variable {P:Program}{w:World}{K:PySem.W.Frag}{mg:Str→Option Value}{base:Heap}{kw C:Addr}{f:Addr}{fd:FuncData}
abbrev TD:=Str×Str×Str
def dM(k:Nat)(d:TD):List (Nat×Str×Str):=if d.2.2= "both" then [(k,d.1,d.2.1),(k,d.2.1,d.1)] else [(k,d.1,d.2.1)]
def fg(k:Nat):List TD→List (Nat×Str×Str)
 |[]=>[]
 |d::r=>dM k d++fg (k+1) r
theorem rh(d:TD):∀(l:List TD) (k:Nat),fg k (l++[d])=fg k l++dM (k+l.length) d
 |[],k=>by
  show dM k d++[]=[]++dM (k+0) d
  rw[append_nil,nil_append,Nat.add_zero]
 |e::r,k=>by
  show dM k e++fg (k+1) (r++[d])=(dM k e++fg (k+1) r)++dM (k+(r.length+1)) d
  rw[rh d r (k+1),append_assoc,show k+1+r.length=k+(r.length+1) by omega]
theorem u4(k:Nat)(d:TD):(dM k d).length≤2:=by
 unfold dM
 split
 ·exact le_refl 2
 ·exact le_succ 1
theorem iX:∀(l:List TD) (k:Nat),(fg k l).length≤2 * l.length
 |[],_=>le_refl 0
 |d::r,k=>by
  show(dM k d++fg (k+1) r).length≤2 * (r.length+1)
  rw[length_append]
  have:=u4 k d
  have:=iX r (k+1)
  omega
inductive GL  (H:Hp)(v:V)(d:TD):Prop
 |mk(a:Addr)(h:Int)(h0:v=.ref a)(h1:H a=some (.tup [.int h,.str d.1,.str d.2.1,.str d.2.2]))
def GO(H:Hp)(ts:List V)(td:List TD):Prop:=ts.length=td.length∧∀(i:Nat) v d,ts[i]? =some v→td[i]? =some d→GL H v d
theorem GO.mono{H H':Hp}{ts:List V}{td:List TD}(s:Tk H H')(h:GO H ts td):GO H' ts td:=⟨h.1,fun i v d hv hd=>by
 obtain⟨a,t,e,ha⟩:=h.2 i v d hv hd
 exact⟨a,t,e,s _ _ ha⟩⟩
inductive lX  (H:Hp)(v:V)(t:Nat×Str×Str):Prop
 |mk(a:Addr)(h0:v=.ref a)(h1:H a=some (.tup [.int t.1,.str t.2.1,.str t.2.2]))
def eI(H:Hp)(us:List V)(ks:List (Nat×Str×Str)):Prop:=us.length=ks.length∧∀(i:Nat) u t,us[i]? =some u→ks[i]? =some t→lX H u t
theorem lX.mono{H H':Hp}{v:V}{t:Nat×Str×Str}(s:Tk H H')(h:lX H v t):lX H' v t:=by
 obtain⟨a,e,ha⟩:=h
 exact⟨a,e,s _ _ ha⟩
theorem eI.mono{H H':Hp}{us:List V}{ks:List (Nat×Str×Str)}(s:Tk H H')(h:eI H us ks):eI H' us ks:=⟨h.1,fun i u t hu ht=>(h.2 i u t hu ht).mono s⟩
theorem eI.nil{H:Hp}:eI H [] []:=⟨rfl,fun i u t hu=>by cases hu⟩
theorem eI.snoc{H:Hp}{us:List V}{ks:List (Nat×Str×Str)}{u:V}{t:Nat×Str×Str}(h:eI H us ks)(hv:lX H u t):eI H (us++[u]) (ks++[t]):=by
 refine⟨by rw[length_append,length_append,h.1];rfl,fun i x e hu he=>?_⟩
 by_cases hi:i < us.length
 ·rw[getElem?_append_left hi]at hu
  rw[getElem?_append_left (by rw[←h.1];exact hi)]at he
  exact h.2 i x e hu he
 ·rw[getElem?_append_right (by omega)]at hu
  rw[getElem?_append_right (by rw[←h.1];omega),←h.1]at he
  cases hj:i - us.length with
  |zero=>
   rw[hj]at hu he
   cases hu
   cases he
   exact hv
  |succ j=>
   rw[hj]at hu
   cases hu
inductive rR  (C:Addr)(vs:List V)(H:Hp)(Q:VK):Prop
 |mk(x p s t y:Addr)(ps:List Str)(ss ts ys:List V)(td:List TD)(h0:vs=[.ref x])(h1:Bk C H x p s t y ps ss ts ys)(h2:GO H ts td)(h3:ts.length≤120)(h4:∀(l:Addr)(us:List V)(H':Hp),cA H H'→H l=none→H' l=some (.lst us)→eI H' us (fg 0 td)→Q (.ref l) H')
def jv  (C:Addr):Sp:=fun vs H Q _=>rR C vs H Q
inductive GX(x l:Addr)(H:Hp)(td:List TD)(i:Nat)(σ:St)(H2:Hp):Prop
 |mk(us:List V)(e1 e2:Option V)(e:σ=[some (.ref x),some (.ref l),e1,e2])(s:cA H H2)(hl:H2 l=some (.lst us))(tl:eI H2 us (fg 0 (td.take i)))
theorem mU{H:Hp}{us:List V}{td:List TD}{i:Nat}{d:TD}(hd:td[i]? =some d)(t:eI H us (fg 0 (td.take i))):
  (d.2.2= "both" →∀u v,lX H u (i,d.1,d.2.1)→lX H v (i,d.2.1,d.1)→eI H ((us++[u])++[v]) (fg 0 (td.take (i+1))))∧(d.2.2≠ "both" →∀u,lX H u (i,d.1,d.2.1)→eI H (us++[u]) (fg 0 (td.take (i+1)))):=by
 have hi:i < td.length:=(List.getElem?_eq_some_iff.mp hd).1
 have e:fg 0 (td.take (i+1))=fg 0 (td.take i)++dM i d:=by
  rw[take_add_one,hd]
  show fg 0 (td.take i++[d])=_
  rw[rh,length_take,zero_add,Nat.min_eq_left (le_of_lt hi)]
 rw[e]
 refine⟨fun hb u v hu hv=>?_,fun hb u hu=>?_⟩
 ·rw[show dM i d=[(i,d.1,d.2.1)]++[(i,d.2.1,d.1)] by unfold dM;rw[if_pos hb];rfl,←append_assoc]
  exact(t.snoc hu).snoc hv
 ·rw[show dM i d=[(i,d.1,d.2.1)] by unfold dM;rw[if_neg hb]]
  exact t.snoc hu
theorem oM:cD ["self", "told", "k", "talk"] ["self"] (cB dX):={}
theorem sG (F:oY K "tellings" "Book.tellings" dX f fd) (me:Meth K C "tellings" f) (bi:Binds K fd ["self"] []) (T:Txt K mg kw C):Md P w K mg base 1 C "tellings" (jv C):=by
 refine b9 F me bi T.cl oM (fun vs H Q E h=>?_) (fun X H vs Q E hh h=>?_)
 ·obtain⟨x,p,s,t,y,ps,ss,ts,ys,td,rfl,_⟩:=h
  rfl
 ·obtain⟨x,p,s,t,y,ps,ss,ts,ys,td,rfl,bk,tls,l120,k⟩:=h
  obtain⟨S0,S1,S2,S3,_⟩:=hh.dZ [0,1,2,3]
  have B_enumerate:=hh.b T.b_enumerate
  obtain rfl:=hh.fK
  have hsz:sizeLine=16777216:=sizeLine_eq
  obtain⟨⟨dx,hx⟩,_,_,ht,_⟩:=id bk
  refine⟨_,(ag (aA S1 hh.nd (bj bJ))
 (ag (a8 hh.own hh.calm (J.jW B_enumerate (aj (cw (aa S0)))) (bE hh.calm (aI (aF S2 hh.nd) (aI (aF S3 hh.nd) bp)))
 (ag (bG (bL plainAttrs_list PySem.F.slot_list_append PySem.F.type_list_append bK (aa S1) (aj (aS (aM (aa S2) (af az (aa S3) ae ak) (af az (aa S3) ae ak))))))
 (ah (aH (aB aK (af az (aa S3) ae ak) aP (L2.cE _))
 (ah (bG (bL plainAttrs_list PySem.F.slot_list_append PySem.F.type_list_append bK (aa S1) (aj (aS (aM (aa S2) (af az (aa S3) ae ak) (af az (aa S3) ae ak)))))))
 aJ))))
 (ah (aw (aa S1))))),?_⟩
  refine⟨zV,fun l hl=>?_⟩
  have s1:=cA.upd (o:=.lst []) hl
  refine⟨_,rfl,x,C,dx,_,_,rfl,s1 _ _ hx,T.cl,T.nT,CM _ _ _ _,t,rfl,⟨_,cF.of (s1 _ _ ht)⟩,zP (K:=X.K) (a:=t) (xs:=ts) (GX x l H td)
   ⟨[],none,none,rfl,s1,cy,eI.nil⟩ ?_ ?_ ?_⟩
  ·rintro i σ H2 ⟨_,_,_,_,s2,_⟩
   exact cF.of (s2 _ _ ht)
  ·rintro i v q σ H2 hv hq ⟨us,e1,e2,rfl,s2,hl2,tl⟩
   have hi:i < ts.length:=(List.getElem?_eq_some_iff.mp hv).1
   have hd:td[i]? =some (td[i]'(by rw[←tls.1];exact hi)):=getElem?_eq_getElem _
   generalize (td[i]'(by rw[←tls.1];exact hi))=d at hd
   obtain⟨a,h,rfl,ha⟩:=tls.2 i v d hv hd
   have ul:us.length≤240:=by
    have:=iX (td.take i) 0
    rw[length_take]at this
    have:=tl.1
    have:=tls.1
    omega
   refine⟨q,_,rfl,dq.of cy,rfl,_,_,rfl,_,_,rfl,rfl,?_⟩
   have s3:=cA.upd (o:=.tup [.int i,.ref a]) hq
   have ha3:=s3 _ _ (s2 _ _ ha)
   have hl3:=s3 _ _ hl2
   have tl3:=tl.mono (Tk.of s3)
   have s03:=s2.trans s3
   generalize upd H2 q (.tup [.int i,.ref a])=H3 at ha3 hl3 tl3 s03
   refine⟨_,rfl,.inl ⟨rfl,_,cF.of hl3⟩,_,rfl,_,rfl,xT ha3 rfl ⟨_,rfl,xT ha3 rfl ⟨oG,fun t1 ht1=>?_⟩⟩⟩
   have s4:=cA.upd (o:=.tup [.int i,.str d.1,.str d.2.1]) ht1
   refine⟨l,us,.ref t1,rfl,rfl,s4 _ _ hl3,by omega,?_⟩
   have al:a≠l:=n5 ha3 hl3 (by intro z;cases z)
   have t1l:t1≠l:=(cz hl3 ht1).symm
   have ha5:upd (upd H3 t1 (.tup [.int i,.str d.1,.str d.2.1])) l (.lst (us++[.ref t1])) a=some (.tup [.int h,.str d.1,.str d.2.1,.str d.2.2]):=by
    rw[cC al]
    exact s4 _ _ ha3
   have tv5:lX (upd (upd H3 t1 (.tup [.int i,.str d.1,.str d.2.1])) l (.lst (us++[.ref t1]))) (.ref t1) (i,d.1,d.2.1):=⟨t1,rfl,by rw[cC t1l];exact cy⟩
   have tk5:=(Tk.of s4).trans (Tk.upd (s4 _ _ hl3) (ys:=us++[.ref t1]))
   have tl5:=tl3.mono tk5
   have hl5:upd (upd H3 t1 (.tup [.int i,.str d.1,.str d.2.1])) l (.lst (us++[.ref t1])) l=some (.lst (us++[.ref t1])):=cy
   have s05:cA H (upd (upd H3 t1 (.tup [.int i,.str d.1,.str d.2.1])) l (.lst (us++[.ref t1]))):=fun b o e=>by
    rw[cC (cz e hl)]
    exact s4 _ _ (s03 _ _ e)
   generalize upd (upd H3 t1 (.tup [.int i,.str d.1,.str d.2.1])) l (.lst (us++[.ref t1]))=H5 at ha5 tv5 tl5 hl5 s05
   refine⟨_,rfl,xT ha5 rfl ⟨rfl,_,rfl,cW (fun hb=>?_) (fun hb=>?_)⟩⟩
   ·have hb':d.2.2= "both" :=V.str.inj (of_decide_eq_true hb)
    refine⟨_,rfl,.inl ⟨rfl,_,cF.of hl5⟩,_,rfl,_,rfl,xT ha5 rfl ⟨_,rfl,xT ha5 rfl ⟨oG,fun t2 ht2=>?_⟩⟩⟩
    have s6:=cA.upd (o:=.tup [.int i,.str d.2.1,.str d.1]) ht2
    refine⟨l,_,.ref t2,rfl,rfl,s6 _ _ hl5,by rw[length_append];show us.length+1 < _;omega,?_⟩
    have t2l:t2≠l:=(cz hl5 ht2).symm
    have tk7:=(Tk.of s6).trans (Tk.upd (s6 _ _ hl5) (ys:=(us++[.ref t1])++[.ref t2]))
    refine⟨_,_,_,rfl,fun b o e=>?_,cy,(mU hd (tl5.mono tk7)).1 hb' _ _ (tv5.mono tk7) ⟨t2,rfl,?_⟩⟩
    ·rw[cC (cz e hl)]
     exact s6 _ _ (s05 _ _ e)
    ·rw[cC t2l]
     exact cy
   ·have hb':d.2.2≠ "both" :=fun e=>hb (decide_eq_true (congrArg V.str e))
    exact⟨_,_,_,rfl,s05,hl5,(mU hd tl5).2 hb' _ tv5⟩
  ·rintro σ H2 ⟨us,e1,e2,rfl,s2,hl2,tl⟩
   rw[tls.1,take_length]at tl
   exact⟨_,rfl,k l us H2 s2 hl hl2 tl⟩
inductive SD where
 |knew (p:Str)(h:Int)
 |unh (p:Str)(h:Option Int)
 |sil (p:Str)(b e:Int)
 |bar (p q:Str)
def oV:Option Int→V
 |none=>.non
 |some h=>.int h
def SD.tup:SD→List V
 |.knew p h=>[.str "knew",.str p,.int h]
 |.unh p h=>[.str "unheard",.str p,oV h]
 |.sil p b e=>[.str "silent",.str p,.int b,.int e]
 |.bar p q=>[.str "barred",.str p,.str q]
def AA(ps:List Str):SD→Prop
 |.knew p h=>p∈ps∧cO h
 |.unh p h=>p∈ps∧∀i,h=some i→cO i
 |.sil p b e=>p∈ps∧cO b∧cO e∧b≤e
 |.bar p q=>p∈ps∧q∈ps∧p≠q
inductive vh  (H:Hp)(v:V)(d:SD):Prop
 |mk(a:Addr)(h0:v=.ref a)(h1:H a=some (.tup d.tup))
def Sys(H:Hp)(ys:List V)(sd:List SD):Prop:=ys.length=sd.length∧∀(i:Nat) v d,ys[i]? =some v→sd[i]? =some d→vh H v d
theorem Sys.mono{H H':Hp}{ys:List V}{sd:List SD}(s:Tk H H')(h:Sys H ys sd):Sys H' ys sd:=⟨h.1,fun i v d hv hd=>by
 obtain⟨a,e,ha⟩:=h.2 i v d hv hd
 exact⟨a,e,s _ _ ha⟩⟩
theorem Sys.nil{H:Hp}:Sys H [] []:=⟨rfl,fun i v d hv=>by cases hv⟩
theorem Sys.at{H:Hp}{ys:List V}{sd:List SD}{i:Nat}{v:V}(h:Sys H ys sd)(hv:ys[i]? =some v):∃d a,sd[i]? =some d∧v=.ref a∧H a=some (.tup d.tup):=by
 have hi:i < sd.length:=by
  rw[←h.1]
  exact(List.getElem?_eq_some_iff.mp hv).1
 obtain⟨a,e,ha⟩:=h.2 i v sd[i] hv (getElem?_eq_getElem hi)
 exact⟨sd[i],a,getElem?_eq_getElem hi,e,ha⟩
theorem tw{ps:List Str}{H:Hp}{v:V}(h:fH ps H v):∃d,vh H v d∧AA ps d:=by
 obtain⟨a,e,h⟩:=h
 rcases h with ⟨p,h,ha,h1,h2⟩|⟨p,b,ha,h1,h2⟩|⟨p,h,k,ha,h1,h2,h3,h4⟩|⟨p,q,ha,h1,h2,h3⟩
 ·exact⟨.knew p h,⟨a,e,ha⟩,h1,h2⟩
 ·rcases h2 with rfl|⟨h,rfl,h2⟩
  ·exact⟨.unh p none,⟨a,e,ha⟩,h1,fun i z=>by cases z⟩
  ·exact⟨.unh p (some h),⟨a,e,ha⟩,h1,fun i z=>by cases z;exact h2⟩
 ·exact⟨.sil p h k,⟨a,e,ha⟩,h1,h2,h3,h4⟩
 ·exact⟨.bar p q,⟨a,e,ha⟩,h1,h2,h3⟩
theorem kK{ps:List Str}{H:Hp}:∀{ys:List V},(∀v∈ys,fH ps H v)→∃sd,Sys H ys sd∧∀d∈sd,AA ps d
 |[],_=>⟨[],Sys.nil,fun d hd=>by cases hd⟩
 |v::r,h=>by
  obtain⟨sd,⟨l,g⟩,k⟩:=kK fun u hu=>h u (mem_cons_of_mem _ hu)
  obtain⟨d,hd,kd⟩:=tw (h v (mem_cons_self ..))
  refine⟨d::sd,⟨by rw[length_cons,length_cons,l],fun i u e hu he=>?_⟩,fun e he=>?_⟩
  ·cases i with
   |zero=>
    cases hu
    cases he
    exact hd
   |succ j=>exact g j u e hu he
  ·rcases mem_cons.mp he with rfl|he
   ·exact kd
   ·exact k e he
theorem dF{α:Type}{l:List α}{i:Nat}{d:α}(h:l[i]? =some d):l.drop i=d::l.drop (i+1):=by
 obtain⟨hi,rfl⟩:=List.getElem?_eq_some_iff.mp h
 exact List.drop_eq_getElem_cons hi
def gr{α:Type}(l:List α)(p:α→Bool)(i:Nat):Bool:=match l[i]? with
 |some d=>p d
 |none=>false
def mK{α:Type}(l:List α)(f:α→V)(i:Nat):V:=match l[i]? with
 |some d=>f d
 |none=>.non
theorem dC{α:Type}{l:List α}{p:α→Bool}{i:Nat}{d:α}(h:l[i]? =some d):gr l p i=p d:=by
 unfold gr
 rw[h]
theorem d6{α:Type}{l:List α}{f:α→V}{i:Nat}{d:α}(h:l[i]? =some d):mK l f i=f d:=by
 unfold mK
 rw[h]
theorem dw{α:Type}(p:α→Bool)(f:α→V):∀l:List α,((List.range l.length).filter (gr l p)).map (mK l f)=(l.filter p).map f
 |[]=>rfl
 |d::r=>by
  have ih:=dw p f r
  have e1:(gr (d::r) p ∘ Nat.succ)=gr r p:=rfl
  have e2:(mK (d::r) f ∘ Nat.succ)=mK r f:=rfl
  rw[length_cons,List.range_succ_eq_map,filter_cons,filter_map,e1]
  have e3:gr (d::r) p 0=p d:=rfl
  rw[e3,filter_cons]
  cases p d with
  |true=>
   rw[if_pos rfl,if_pos rfl,map_cons,map_cons,map_map,e2,ih]
   rfl
  |false=>
   rw[if_neg Bool.false_ne_true,if_neg Bool.false_ne_true,map_map,e2,ih]
def sh(z:Str):SD→Bool
 |.unh q _=>decide (q=z)
 |_=>false
def SD.hr:SD→Option Int
 |.unh _ h=>h
 |_=>none
def jV(z:Str)(sd:List SD):List (Option Int):=(sd.filter (sh z)).map SD.hr
def CN(acc:Int):List (Option Int)→Option Int
 |[]=>some acc
 |none::_=>none
 |some h::r=>CN (if h > acc then h else acc) r
def floorOf(z:Str)(sd:List SD):Option Int:=CN (-1) (jV z sd)
theorem fQ{z:Str}{d:SD}{r:List SD}(h:sh z d=false):jV z (d::r)=jV z r:=by
 unfold jV
 rw[filter_cons,if_neg (by rw[h];exact Bool.false_ne_true)]
theorem sE{z:Str}{h:Option Int}{r:List SD}:jV z (.unh z h::r)=h::jV z r:=by
 unfold jV
 rw[filter_cons,if_pos (show sh z (.unh z h)=true from decide_eq_true rfl)]
 rfl
theorem sW:∀{us:List (Option Int)}{acc:Int},none∈us→CN acc us=none
 |[],_,h=>by cases h
 |none::_,_,_=>rfl
 |some h::r,acc,m=>by
  show CN _ r=none
  exact sW (by rcases mem_cons.mp m with z|z;cases z;exact z)
theorem q0:∀(vs:List Int) (acc:Int),∃m,CN acc (vs.map some)=some m∧m∈acc::vs∧∀a∈acc::vs,a≤m
 |[],acc=>⟨acc,rfl,mem_cons_self ..,fun a h=>by
  rcases mem_cons.mp h with rfl|h
  ·exact Int.le_refl _
  ·cases h⟩
 |v::r,acc=>by
  obtain⟨m,e,hm,hx⟩:=q0 r (if v > acc then v else acc)
  refine⟨m,e,?_,fun a ha=>?_⟩
  ·rcases mem_cons.mp hm with z|z
   ·by_cases c:v > acc
    ·rw[if_pos c]at z
     rw[z]
     exact mem_cons_of_mem _ (mem_cons_self ..)
    ·rw[if_neg c]at z
     rw[z]
     exact mem_cons_self ..
   ·exact mem_cons_of_mem _ (mem_cons_of_mem _ z)
  ·have h0:=hx _ (mem_cons_self ..)
   rcases mem_cons.mp ha with rfl|ha
   ·split at h0<;>omega
   ·rcases mem_cons.mp ha with rfl|ha
    ·split at h0<;>omega
    ·exact hx a (mem_cons_of_mem _ ha)
inductive Ac  (C:Addr)(M:Addr→Addr→Addr→Addr→Addr)(vs:List V)(H:Hp)(Q:VK):Prop
 |mk(x p s t y:Addr)(xs:List V)(h0:vs=[.ref x])(h1:(∃dx,H x=some (.ins C dx (l7 p s t y))))(h2:H (M p s t y)=some (.lst xs))(h3:∀l,H l=none→Q (.ref l) (upd H l (.lst xs)))
def cZ  (C:Addr)(M:Addr→Addr→Addr→Addr→Addr):Sp:=fun vs H Q _=>Ac C M vs H Q
inductive EN(C:Addr)(vs:List V)(H:Hp)(Q:VK):Prop
 |mk(x p s t y:Addr)(ps:List Str)(ss ts ys:List V)(z:Str)(sd:List SD)(e:vs=[.ref x,.str z])(bk:Bk C H x p s t y ps ss ts ys)(sy:Sys H ys sd)(l:ys.length≤60)(k:∀H',cA H H'→Q (oV (floorOf z sd)) H')
def qQ(C:Addr):Sp:=fun vs H Q _=>EN C vs H Q
theorem qJ:cD ["self"] ["self"] (cB d9):={}
theorem qu (F:oY K "sayings" "Book.sayings" d9 f fd) (me:Meth K C "sayings" f) (bi:Binds K fd ["self"] []) (T:Txt K mg kw C):Md P w K mg base 1 C "sayings" (cZ C (fun _ _ _ y=>y)):=by
 refine b9 F me bi T.cl qJ (fun vs H Q E h=>?_) (fun X H vs Q E hh h=>?_)
 ·obtain⟨x,p,s,t,y,xs,rfl,_⟩:=h
  rfl
 ·obtain⟨x,p,s,t,y,xs,rfl,⟨dx,hx⟩,hl,k⟩:=h
  obtain⟨S0,_⟩:=hh.dZ [0]
  have B_list:=hh.b T.b_list
  obtain rfl:=hh.fK
  refine⟨_,(ah (aw (bw B_list bI L2.dR (aj (cw (aa S0)))))),?_⟩
  exact⟨_,rfl,x,C,dx,_,_,rfl,hx,T.cl,T.nY,Gj _ _ _ _,_,_,rfl,.inl (cF.of hl),k⟩
theorem tj:cD ["book", "person", "floor", "saying"] ["book", "person"] (cB jw):={}
theorem rS (D:Df K mg "floor_of" jw ["book", "person"] f fd) (T:Txt K mg kw C) (G_sayings:Md P w K mg base 1 C "sayings" (cZ C fun _ _ _ y=>y)):Gd P w K mg base 2 "floor_of" (qQ C):=by
 refine aE D tj fun X H vs Q E hh h=>?_
 obtain⟨x,p,s,t,y,ps,ss,ts,ys,z,sd,rfl,bk,sy,l60,k⟩:=h
 obtain⟨S0,S1,S2,S3,_⟩:=hh.dZ [0,1,2,3]
 have B_max:=hh.b T.b_max
 have M_sayings:=hh.met G_sayings (by decide)
 obtain⟨⟨dx,hx⟩,hp,hs,ht,hy⟩:=id bk
 refine⟨_,(ag (aA S2 hh.nd (J.yT J.uI ae))
 (ag (a8 hh.own hh.calm (aQ (bM M_sayings (aa S0) rfl)) (aF S3 hh.nd)
 (ah (aH (aY (bf (aB aK (af az (aa S3) ae ak) aP (L2.cE _)) (bC (aB aK (af az (aa S3) ae ak) (aa S1) (L2.cE _)))))
 (ag (aH (aB b5 (af az (aa S3) ae ak) bA (L2.cE _))
 (ah (aw bA))
 aJ)
 (ah (aA S2 hh.nd (aL B_max (J.gE hh.calm) L2.uc (aD (aa S2) (af az (aa S3) ae ak))))))
 aJ)))
 (ah (aw (aa S2))))),?_⟩
 refine⟨_,rfl,_,rfl,x,dx,_,rfl,hx,fL _ _ _ _ (by decide+kernel) (by decide+kernel) (by decide+kernel) (by decide+kernel),x,p,s,t,y,ys,rfl,⟨dx,hx⟩,hy,fun l hl=>?_⟩
 have s1:=cA.upd (o:=.lst ys) hl
 have hl1:upd H l (.lst ys) l=some (.lst ys):=cy
 generalize upd H l (.lst ys)=H1 at s1 hl1
 refine⟨l,rfl,⟨_,cF.of hl1⟩,dk (K:=X.K) (a:=l) (xs:=ys) (fun i σ H2=>∃(acc:Int) (e:Option V),σ=[some (.ref x),some (.str z),some (.int acc),e]∧cA H1 H2∧CN acc (jV z (sd.drop i))=floorOf z sd)
  ⟨_,none,rfl,cA.refl _,rfl⟩ ?_ ?_ ?_⟩
 ·rintro i σ H2 hi ⟨acc,e,rfl,s2,hf⟩
  exact cF.of (s2 _ _ hl1)
 ·rintro i v σ H2 hv ⟨acc,e,rfl,s2,hf⟩
  obtain⟨d,a,hd,rfl,ha⟩:=sy.at hv
  have ha2:=s2 _ _ (s1 _ _ ha)
  rw[dF hd]at hf
  cases d with
  |knew q h=>
   rw[fQ rfl]at hf
   exact⟨_,rfl,xT ha2 rfl ⟨rfl,_,rfl,iN (cN ⟨acc,_,rfl,s2,hf⟩)⟩⟩
  |sil q b e'=>
   rw[fQ rfl]at hf
   exact⟨_,rfl,xT ha2 rfl ⟨rfl,_,rfl,iN (cN ⟨acc,_,rfl,s2,hf⟩)⟩⟩
  |bar q q'=>
   rw[fQ rfl]at hf
   exact⟨_,rfl,xT ha2 rfl ⟨rfl,_,rfl,iN (cN ⟨acc,_,rfl,s2,hf⟩)⟩⟩
  |unh q h=>
   refine⟨_,rfl,xT ha2 rfl ⟨rfl,_,rfl,iP ⟨_,rfl,xT ha2 rfl ⟨_,rfl,rfl,_,rfl,cW (fun hq=>?_) (fun hq=>?_)⟩⟩⟩⟩
   ·have hq':q=z:=V.str.inj (of_decide_eq_true hq)
    subst hq'
    rw[sE]at hf
    cases h with
    |none=>
     refine⟨_,rfl,xT ha2 rfl ⟨rfl,_,rfl,fc (decide_eq_true rfl) ?_⟩⟩
     have hf':none=floorOf q sd:=hf
     have:=k H2 (s1.trans s2)
     rw[←hf']at this
     exact this
    |some h=>
     refine⟨_,rfl,xT ha2 rfl ⟨rfl,_,rfl,ig (by rw[decide_eq_true_iff];intro e;cases e) ?_⟩⟩
     exact⟨_,rfl,_,rfl,xT ha2 rfl ⟨acc,h,rfl,_,_,rfl,s2,hf⟩⟩
   ·have hq':sh z (.unh q h)=false:=decide_eq_false fun e=>hq (decide_eq_true (congrArg V.str e))
    rw[fQ hq']at hf
    exact⟨acc,_,rfl,s2,hf⟩
 ·rintro σ H2 ⟨acc,e,rfl,s2,hf⟩
  rw[sy.1,List.drop_length]at hf
  have hf':some acc=floorOf z sd:=hf
  have:=k H2 (s1.trans s2)
  rw[←hf']at this
  exact⟨_,rfl,this⟩
def f9(h:Int):Option Int→Bool
 |none=>false
 |some m=>decide (m < h)
inductive DQ(vs:List V)(H:Hp)(Q:VK):Prop
 |mk(h:Int)(f:Option Int)(e:vs=[.int h,oV f])(k:Q (.bl (f9 h f)) H)
def mT:Sp:=fun vs H Q _=>DQ vs H Q
def HB(H:Hp)(d:Addr)(ps:List Str)(sd:List SD):Prop:=∃kvs:List (Key×V),H d=some (.dK kvs)∧∀z∈ps,cS kvs (Sum.inr z)=some (oV (floorOf z sd))
theorem HB.mono{H H':Hp}{d:Addr}{ps:List Str}{sd:List SD}(s:cA H H')(h:HB H d ps sd):HB H' d ps sd:=by
 obtain⟨kvs,e,k⟩:=h
 exact⟨kvs,s _ _ e,k⟩
inductive BC(C:Addr)(vs:List V)(H:Hp)(Q:VK):Prop
 |mk(x p s t y:Addr)(ps:List Str)(ss ts ys:List V)(sd:List SD)(e:vs=[.ref x])(bk:Bk C H x p s t y ps ss ts ys)(pl:ps.length≤24)(sy:Sys H ys sd)(l:ys.length≤60)(k:∀d H',cA H H'→H d=none→HB H' d ps sd→Q (.ref d) H')
def jS(C:Addr):Sp:=fun vs H Q _=>BC C vs H Q
theorem qA:cD ["self"] ["self"] (cB d7):={}
theorem pW (F:oY K "persons" "Book.persons" d7 f fd) (me:Meth K C "persons" f) (bi:Binds K fd ["self"] []) (T:Txt K mg kw C):Md P w K mg base 1 C "persons" (cZ C (fun p _ _ _=>p)):=by
 refine b9 F me bi T.cl qA (fun vs H Q E h=>?_) (fun X H vs Q E hh h=>?_)
 ·obtain⟨x,p,s,t,y,xs,rfl,_⟩:=h
  rfl
 ·obtain⟨x,p,s,t,y,xs,rfl,⟨dx,hx⟩,hl,k⟩:=h
  obtain⟨S0,_⟩:=hh.dZ [0]
  have B_list:=hh.b T.b_list
  obtain rfl:=hh.fK
  refine⟨_,(ah (aw (bw B_list bI L2.dR (aj (cw (aa S0)))))),?_⟩
  exact⟨_,rfl,x,C,dx,_,_,rfl,hx,T.cl,T.nP,FE _ _ _ _,_,_,rfl,.inl (cF.of hl),k⟩
theorem tD:cD ["hour", "floor"] ["hour", "floor"] (cB jI):={}
theorem q9 (D:Df K mg "is_above" jI ["hour", "floor"] f fd):Gd P w K mg base 1 "is_above" mT:=by
 refine aE D tD fun X H vs Q E hh h=>?_
 obtain⟨h,f,rfl,k⟩:=h
 obtain⟨S0,S1,_⟩:=hh.dZ [0,1]
 refine⟨_,(ah (aw (aX (aZ cq (aa S1) bA (L2.cE _)) (a7 (aZ bP (aa S0) (aa S1) (L2.cE _)))))),?_⟩
 cases f with
 |none=>exact⟨_,rfl,rfl,_,rfl,iN k⟩
 |some m=>exact⟨_,rfl,rfl,_,rfl,fc (by rw[not_eq_true',decide_eq_false_iff_not];intro e;cases e) ⟨_,rfl,_,rfl,_,_,rfl,rfl,k⟩⟩
theorem kR:cD ["book", "floors", "person"] ["book"] (cB eS):={}
theorem xu (D:Df K mg "floors_of_all" eS ["book"] f fd) (T:Txt K mg kw C) (G_persons:Md P w K mg base 1 C "persons" (cZ C fun p _ _ _=>p)) (G_floor_of:Gd P w K mg base 2 "floor_of" (qQ C)):Gd P w K mg base 3 "floors_of_all" (jS C):=by
 refine aE D kR fun X H vs Q E hh h=>?_
 obtain⟨x,p,s,t,y,ps,ss,ts,ys,sd,rfl,bk,pl,sy,l60,k⟩:=h
 obtain⟨S0,S1,S2,_⟩:=hh.dZ [0,1,2]
 have C_floor_of:=hh.c G_floor_of
 have M_persons:=hh.met G_persons (by decide)
 have hu:=eG hh.room
 have hsz:sizeLine=16777216:=sizeLine_eq
 obtain⟨⟨dx,hx⟩,hp,hs,ht,hy⟩:=id bk
 refine⟨_,(ag (aA S1 hh.nd cv)
 (ag (a8 hh.own hh.calm (aQ (bM M_persons (aa S0) rfl)) (aF S2 hh.nd)
 (ah (bV hu (aa S1) (aa S2) (ao C_floor_of (aD (aa S0) (aa S2))))))
 (ah (aw (aa S1))))),?_⟩
 refine fun d hdn=>?_
 have s1:=cA.upd (o:=.dK []) hdn
 have hd1:upd H d (.dK []) d=some (.dK []):=cy
 refine⟨_,rfl,x,dx,_,rfl,s1 _ _ hx,fL _ _ _ _ (by decide+kernel) (by decide+kernel) (by decide+kernel) (by decide+kernel),x,p,s,t,y,_,rfl,⟨dx,s1 _ _ hx⟩,s1 _ _ hp,fun l hl=>?_⟩
 have s2:=cA.upd (o:=.lst (ps.map V.str)) hl
 have ld:l≠d:=(cz hd1 hl).symm
 refine⟨l,rfl,⟨_,cF.of cy⟩,dk (K:=X.K) (a:=l) (xs:=ps.map V.str) (fun i σ H2=>∃(kvs:List (Key×V)) (e:Option V),σ=[some (.ref x),some (.ref d),e]∧cA H H2∧H2 l=some (.lst (ps.map V.str))∧H2 d=some (.dK kvs)∧kvs.length≤i∧∀z∈ps.take i,cS kvs (Sum.inr z)=some (oV (floorOf z sd)))
  ⟨[],none,rfl,s1.trans s2,cy,s2 _ _ hd1,le_refl 0,fun z hz=>by cases hz⟩ ?_ ?_ ?_⟩
 ·rintro i σ H2 hi ⟨kvs,e,rfl,s2,hl2,_⟩
  exact cF.of hl2
 ·rintro i v σ H2 hv ⟨kvs,e,rfl,s3,hl2,hd2,kl,hk⟩
  rw[getElem?_map]at hv
  obtain⟨z,hz,rfl⟩:=map_eq_some_iff.mp hv
  have hi:i < ps.length:=(List.getElem?_eq_some_iff.mp hz).1
  refine⟨_,rfl,_,rfl,x,p,s,t,y,ps,ss,ts,ys,z,sd,rfl,bk.mono s3,sy.mono (Tk.of s3),l60,fun H5 s5=>?_⟩
  refine⟨_,rfl,_,rfl,d,_,rfl,kF.k (k:=Sum.inr z) (s5 _ _ hd2) (by omega),_,_,rfl,fun b o e=>?_,?_,cy,?_,fun z' hz'=>?_⟩
  ·rw[cC (cz e hdn)]
   exact s5 _ _ (s3 _ _ e)
  ·rw[cC ld]
   exact s5 _ _ hl2
  ·have:=d8 kvs (Sum.inr z:Key) (oV (floorOf z sd))
   omega
  ·rw[dY]
   by_cases c:(Sum.inr z':Key)=Sum.inr z
   ·rw[if_pos c]
    have c':z'=z:=Sum.inr.inj c
    rw[c']
   ·rw[if_neg c]
    rw[take_add_one,hz,mem_append]at hz'
    rcases hz' with hz'|hz'
    ·exact hk z' hz'
    ·exact absurd (congrArg Sum.inr (mem_singleton.mp hz')) c
 ·rintro σ H2 ⟨kvs,e,rfl,s3,hl2,hd2,kl,hk⟩
  rw[length_map,take_length]at hk
  exact⟨_,rfl,k d H2 s3 hdn ⟨kvs,hd2,hk⟩⟩
def Lz{α:Type}(R:Hp→V→α→Prop)(H:Hp)(xs:List V)(ds:List α):Prop:=xs.length=ds.length∧∀(i:Nat) v d,xs[i]? =some v→ds[i]? =some d→R H v d
theorem Lz.mono{α:Type}{R:Hp→V→α→Prop}{H H':Hp}{xs:List V}{ds:List α}(m:∀v d,R H v d→R H' v d)(h:Lz R H xs ds):Lz R H' xs ds:=⟨h.1,fun i v d hv hd=>m v d (h.2 i v d hv hd)⟩
theorem Lz.at{α:Type}{R:Hp→V→α→Prop}{H:Hp}{xs:List V}{ds:List α}{i:Nat}{v:V}(h:Lz R H xs ds)(hv:xs[i]? =some v):∃d,ds[i]? =some d∧R H v d:=by
 have hi:i < ds.length:=by
  rw[←h.1]
  exact(List.getElem?_eq_some_iff.mp hv).1
 exact⟨ds[i],getElem?_eq_getElem hi,h.2 i v ds[i] hv (getElem?_eq_getElem hi)⟩
theorem qm{α:Type}{R:Hp→V→α→Prop}{H:Hp}{Ok:α→Prop}:∀{xs:List V},(∀v∈xs,∃d,R H v d∧Ok d)→∃ds,Lz R H xs ds∧∀d∈ds,Ok d
 |[],_=>⟨[],⟨rfl,fun i v d hv=>by cases hv⟩,fun d hd=>by cases hd⟩
 |v::r,h=>by
  obtain⟨ds,⟨l,g⟩,k⟩:=qm fun u hu=>h u (mem_cons_of_mem _ hu)
  obtain⟨d,hd,kd⟩:=h v (mem_cons_self ..)
  refine⟨d::ds,⟨by rw[length_cons,length_cons,l],fun i u e hu he=>?_⟩,fun e he=>?_⟩
  ·cases i with
   |zero=>
    cases hu
    cases he
    exact hd
   |succ j=>exact g j u e hu he
  ·rcases mem_cons.mp he with rfl|he
   ·exact kd
   ·exact k e he
abbrev GD:=Str×Int
inductive c8  (H:Hp)(v:V)(d:GD):Prop
 |mk(a ta:Addr)(h0:v=.ref a)(h1:H a=some (.tup [.str d.1,.int d.2,.ref ta]))
theorem c8.mono{H H':Hp}(s:Tk H H')(v:V)(d:GD)(h:c8 H v d):c8 H' v d:=by
 obtain⟨a,ta,e,ha⟩:=h
 exact⟨a,ta,e,s _ _ ha⟩
theorem lO{ps:List Str}{H:Hp}{ss:List V}(h:∀v∈ss,dS ps H v):∃sg,Lz c8 H ss sg∧∀d∈sg,d.1∈ps∧cO d.2:=
 qm fun v hv=>by
  obtain⟨a,z,i,ta,ws,e,ha,hz,hi,_⟩:=h v hv
  exact⟨(z,i),⟨a,ta,e,ha⟩,hz,hi⟩
def dB(sd:List SD)(d:GD):Bool:=f9 d.2 (floorOf d.1 sd)
def hZ(sg:List GD)(sd:List SD)(n:Nat):List V:=((List.range n).filter (gr sg (dB sd))).map fun i=>V.int (i:Nat)
theorem uE(sg:List GD)(sd:List SD)(n:Nat):(hZ sg sd n).length≤n:=by
 unfold hZ
 rw[length_map]
 have:=length_filter_le (gr sg (dB sd)) (List.range n)
 rw[length_range]at this
 exact this
inductive Ef(C:Addr)(vs:List V)(H:Hp)(Q:VK):Prop
 |mk(x p s t y:Addr)(ps:List Str)(ss ts ys:List V)(sg:List GD)(sd:List SD)(e:vs=[.ref x])(bk:Bk C H x p s t y ps ss ts ys)(pl:ps.length≤24)(sl:ss.length≤24)(gs:Lz c8 H ss sg)(gp:∀d∈sg,d.1∈ps)(sy:Sys H ys sd)(l:ys.length≤60)
   (k:∀l H',cA H H'→H l=none→H' l=some (.lst (hZ sg sd sg.length))→Q (.ref l) H')
def pZ(C:Addr):Sp:=fun vs H Q _=>Ef C vs H Q
theorem sC:cD ["self"] ["self"] (cB eJ):={}
theorem sP (F:oY K "sights" "Book.sights" eJ f fd) (me:Meth K C "sights" f) (bi:Binds K fd ["self"] []) (T:Txt K mg kw C):Md P w K mg base 1 C "sights" (cZ C (fun _ s _ _=>s)):=by
 refine b9 F me bi T.cl sC (fun vs H Q E h=>?_) (fun X H vs Q E hh h=>?_)
 ·obtain⟨x,p,s,t,y,xs,rfl,_⟩:=h
  rfl
 ·obtain⟨x,p,s,t,y,xs,rfl,⟨dx,hx⟩,hl,k⟩:=h
  obtain⟨S0,_⟩:=hh.dZ [0]
  have B_list:=hh.b T.b_list
  obtain rfl:=hh.fK
  refine⟨_,(ah (aw (bw B_list bI L2.dR (aj (cw (aa S0)))))),?_⟩
  exact⟨_,rfl,x,C,dx,_,_,rfl,hx,T.cl,T.nS,Ft _ _ _ _,_,_,rfl,.inl (cF.of hl),k⟩
theorem oB:cD ["book", "floors"] ["book"] (cB fV):={}
theorem oe (D:Df K mg "open_sights" fV ["book"] f fd) (T:Txt K mg kw C) (G_sights:Md P w K mg base 1 C "sights" (cZ C fun _ s _ _=>s)) (G_floors_of_all:Gd P w K mg base 3 "floors_of_all" (jS C)) (G_is_above:Gd P w K mg base 1 "is_above" mT):Gd P w K mg base 4 "open_sights" (pZ C):=by
 refine aE D oB fun X H vs Q E hh h=>?_
 obtain⟨x,p,s,t,y,ps,ss,ts,ys,sg,sd,rfl,bk,pl,sl,gs,gp,sy,l60,k⟩:=h
 obtain⟨S0,S1,_⟩:=hh.dZ [0,1]
 have B_enumerate:=hh.b T.b_enumerate
 have C_floors_of_all:=hh.c G_floors_of_all
 have CI_is_above:=hh.ci G_is_above
 have M_sights:=hh.met G_sights (by decide)
 have hu:=eG hh.room
 have hsz:sizeLine=16777216:=sizeLine_eq
 refine⟨_,(ag (aA S1 hh.nd (ao C_floors_of_all (aj (aa S0))))
 (ah (aw (bF (is:=[1]) (xs:=["i", "sight"]) (ns:=["floors"]) hh.calm (J.jW B_enumerate (aj (bM M_sights (aa S0) rfl))) {} (fun _ _ _ _ _=>(J.mQ (n:=2) hh.calm (aI (aT (i:=0) (by decide+kernel) rfl rfl) (aI (aT (i:=1) (by decide+kernel) rfl rfl) bp)))) (fun _ _ _ _ _=>(bz (a9 (ao (CI_is_above.lg rfl) (aD (af bo (aG (i:=1) rfl rfl (by decide) (by decide)) ae ak) (bq hu (aU (i:=2) rfl rfl (by decide) (by decide)) (af bo (aG (i:=1) rfl rfl (by decide) (by decide)) ae ak) J.uJ)))))) (fun _ _ _ _ _=>(aG (i:=0) rfl rfl (by decide) (by decide))) hh.hsc hh.hN)))),?_⟩
 refine⟨_,rfl,x,p,s,t,y,ps,ss,ts,ys,sd,rfl,bk,pl,sy,l60,fun d H1 s1 dn fl=>?_⟩
 obtain⟨⟨dx,hx⟩,hp,hs,ht,hy⟩:=bk.mono s1
 refine⟨_,rfl,x,dx,_,rfl,hx,fL _ _ _ _ (by decide+kernel) (by decide+kernel) (by decide+kernel) (by decide+kernel),x,p,s,t,y,ss,rfl,⟨dx,hx⟩,hs,fun l hl=>?_⟩
 have s2:=cA.upd (o:=.lst ss) hl
 refine⟨l,rfl,⟨_,cF.of cy⟩,rp (xs:=ss) (gr sg (dB sd)) (fun i=>V.int (i:Nat)) (cF.of cy) (by omega) ?_ ?_⟩
 ·intro i os v q H2 K1 K2 hv hos s3 hq k1 k2
  match os,hos with
  |[o1,o2],_=>
   obtain⟨g,hg,a,ta,rfl,ha⟩:=gs.at hv
   rw[dC hg]at k1 k2
   have s4:=cA.upd (o:=.tup [.int i,.ref a]) hq
   have s14:=(s2.trans s3).trans s4
   have ha4:=s14 _ _ (s1 _ _ ha)
   obtain⟨kvs,hd4,hk⟩:=fl.mono s14
   have dg:ei (upd H2 q (.tup [.int i,.ref a])) d (.str g.1) (some (oV (floorOf g.1 sd))):=by
    rw[←hk g.1 (gp g (mem_of_getElem? hg))]
    exact ei.k (k:=Sum.inr g.1) hd4
   refine⟨q,_,rfl,dq.of cy,rfl,_,_,rfl,_,_,rfl,rfl,⟨[_,_],rfl,rfl⟩,?_⟩
   refine⟨_,rfl,xT ha4 rfl ⟨_,rfl,_,rfl,xT ha4 rfl ⟨d,_,rfl,dg,g.2,floorOf g.1 sd,rfl,_,rfl,cW (fun hb=>⟨_,rfl,k1 hb _ s4⟩) (fun hb=>k2 (eq_false_of_ne_true hb) _ s4)⟩⟩⟩
 ·intro D' H' hD' s' hd'
  have e:((List.range ss.length).filter (gr sg (dB sd))).map (fun i=>V.int (i:Nat))=hZ sg sd sg.length:=by
   rw[gs.1]
   rfl
  rw[e]at hd'
  exact k D' H' ((s1.trans s2).trans s') ((s1.trans s2).free hD') hd'
def jf(z:Str):SD→Bool
 |.sil q _ _=>decide (q=z)
 |_=>false
def lN(h:Int):SD→Bool
 |.sil _ b e=>if b≤h then decide (h≤e) else false
 |_=>false
def p9(z:Str)(h:Int)(d:SD):Bool:=jf z d && lN h d
def qY(he te:Str):SD→Bool
 |.bar p q=>decide (p=he) && decide (q=te)
 |_=>false
theorem rg{α β:Type}{f:α→Bool}{g:β→Bool}:∀{xs:List α}{ds:List β},xs.length=ds.length→(∀(i:Nat) v d,xs[i]? =some v→ds[i]? =some d→f v=g d)→xs.any f=ds.any g
 |[],[],_,_=>rfl
 |[],_::_,h,_=>by cases h
 |_::_,[],h,_=>by cases h
 |x::xs,d::ds,h,k=>by
  rw[any_cons,any_cons,k 0 x d rfl rfl,rg (Nat.succ.inj h) fun i v e hv he=>k (i+1) v e hv he]
theorem iW{α β:Type}:∀{xs:List α}{ds:List β}{i:Nat}{p:α×β},(xs.zip ds)[i]? =some p→xs[i]? =some p.1∧ds[i]? =some p.2
 |[],_,_,_,h=>by cases h
 |_::_,[],_,_,h=>by cases h
 |x::xs,d::ds,i,p,h=>by
  cases i with
  |zero=>
   cases h
   exact⟨rfl,rfl⟩
  |succ j=>
   have h':(xs.zip ds)[j]? =some p:=h
   exact iW (xs:=xs) (ds:=ds) (i:=j) h'
theorem fJ{α β:Type}:∀{xs:List α}{ds:List β}{i:Nat}{v:α}{d:β},xs[i]? =some v→ds[i]? =some d→(xs.zip ds)[i]? =some (v,d)
 |[],_,_,_,_,h,_=>by cases h
 |_::_,[],_,_,_,_,h=>by cases h
 |x::xs,e::ds,i,v,d,h,h'=>by
  cases i with
  |zero=>
   cases h
   cases h'
   rfl
  |succ j=>exact fJ (xs:=xs) (ds:=ds) (i:=j) h h'
theorem vT{α β:Type}(f:β→Bool):∀{xs:List α}{ds:List β},xs.length=ds.length→((xs.zip ds).any fun p=>f p.2)=ds.any f
 |[],[],_=>rfl
 |[],_::_,h=>by cases h
 |_::_,[],h=>by cases h
 |x::xs,d::ds,h=>by
  show(f d || (xs.zip ds).any fun p=>f p.2)=(f d || ds.any f)
  rw[vT f (Nat.succ.inj h)]
inductive IY(vs:List V)(H:Hp)(Q:VK):Prop
 |mk(y:Addr)(ys:List V)(z:Str)(h:Int)(sd:List SD)(e:vs=[.ref y,.str z,.int h])(hy:H y=some (.lst ys))(sy:Sys H ys sd)(l:ys.length≤60)(k:∀H',cA H H'→Q (.bl (sd.any (p9 z h))) H')
def vR:Sp:=fun vs H Q _=>IY vs H Q
inductive HF(vs:List V)(H:Hp)(Q:VK):Prop
 |mk(y:Addr)(ys:List V)(he te:Str)(sd:List SD)(e:vs=[.ref y,.str he,.str te])(hy:H y=some (.lst ys))(sy:Sys H ys sd)(k:∀H',cA H H'→Q (.bl (sd.any (qY he te))) H')
def vC:Sp:=fun vs H Q _=>HF vs H Q
theorem sX(d:SD):d.tup.all dj=true:=by
 cases d with
 |unh q h=>cases h<;>rfl
 |_=>rfl
theorem vt(he te:Str)(d:SD):yy d.tup [.str "barred",.str he,.str te]=qY he te d:=by
 cases d with
 |knew p h=>exact Bool.and_eq_false_imp.mpr (fun h=>absurd h (by
   rw[all_eq_true]
   intro k
   exact absurd (k 0 (mem_range.mpr (lt_min.mpr ⟨succ_pos _,succ_pos _⟩))) (by show ¬(("knew" :Str) == "barred")=true;decide+kernel)))
 |unh p h=>exact Bool.and_eq_false_imp.mpr (fun h=>absurd h (by
   rw[all_eq_true]
   intro k
   exact absurd (k 0 (mem_range.mpr (lt_min.mpr ⟨succ_pos _,succ_pos _⟩))) (by show ¬(("unheard" :Str) == "barred")=true;decide+kernel)))
 |sil p b e=>exact Bool.and_eq_false_imp.mpr (fun h=>absurd h (by
   rw[all_eq_true]
   intro k
   exact absurd (k 0 (mem_range.mpr (lt_min.mpr ⟨succ_pos _,succ_pos _⟩))) (by show ¬(("silent" :Str) == "barred")=true;decide+kernel)))
 |bar p q=>
  show((("barred" :Str) == "barred") && ((p == he) && ((q == te) && true)) && true)=(decide (p=he) && decide (q=te))
  rw[show(("barred" :Str) == "barred")=true from beq_self_eq_true _,Bool.true_and,Bool.and_true,Bool.and_true]
  congr 1<;>exact beq_eq_decide _ _
theorem B5{H:Hp}{v:V}{d:SD}{xs:List V}(h:vh H v d):EY H xs v=yy d.tup xs:=by
 obtain⟨a,rfl,ha⟩:=h
 show(match H a with|some (.tup zs)=>yy zs xs|_=>false)=_
 rw[ha]
theorem qf:cD ["sayings", "person", "hour", "own"] ["sayings", "person", "hour"] (cB iS):={}
theorem qw (D:Df K mg "is_silent" iS ["sayings", "person", "hour"] f fd) (T:Txt K mg kw C):Gd P w K mg base 1 "is_silent" vR:=by
 refine aE D qf fun X H vs Q E hh h=>?_
 obtain⟨y,ys,z,h,sd,rfl,hy,sy,l60,k⟩:=h
 obtain⟨S0,S1,S2,S3,_⟩:=hh.dZ [0,1,2,3]
 have B_any:=hh.b T.b_any
 have hsz:sizeLine=16777216:=sizeLine_eq
 refine⟨_,(ag (bQ (is:=[1]) (xs:=["saying"]) (ns:=["person"]) S3 hh.nd hh.calm (aQ (aa S0)) {} (fun _ _ _ _ _=>(aT (i:=0) (by decide+kernel) rfl rfl)) (fun _ _ _ _ _=>(bz (aY (bf (aB aK (af bo (aG (i:=0) rfl rfl (by decide) (by decide)) ae ak) aP (L2.cE _)) (bC (aB aK (af bo (aG (i:=0) rfl rfl (by decide) (by decide)) ae ak) (aU (i:=1) rfl rfl (by decide) (by decide)) (L2.cE _))))))) (fun _ _ _ _ _=>(aG (i:=0) rfl rfl (by decide) (by decide))) hh.hsc hh.hN (by decide+kernel))
 (ah (aw (aL B_any (J.gB hh.calm) L2.ug (aj (bF (is:=[2]) (xs:=["saying"]) (ns:=["hour"]) hh.calm (aQ (aa S3)) {} (fun _ _ _ _ _=>(aT (i:=0) (by decide+kernel) rfl rfl)) (fun _ _ _ _ _=>bT) (fun _ _ _ _ _=>(J.gI bH bH (af bo (aG (i:=0) rfl rfl (by decide) (by decide)) ae ak) (aU (i:=1) rfl rfl (by decide) (by decide)) (af bo (aG (i:=0) rfl rfl (by decide) (by decide)) ae ak) L2.jB)) hh.hsc hh.hN)))))),?_⟩
 have zl:(ys.zip sd).length=ys.length:=by
  rw[length_zip,←sy.1,min_self]
 refine⟨_,rfl,y,rfl,⟨_,cF.of hy⟩,dz (xs:=ys) (gr (ys.zip sd) fun p=>jf z p.2) (mK (ys.zip sd) fun p=>p.1) (cF.of hy) (by omega) ?_ ?_⟩
 ·intro i os v H2 K1 K2 hv hos s2 k1 k2
  match os,hos with
  |[o],_=>
   obtain⟨d,a,hd,rfl,ha⟩:=sy.at hv
   have ha2:=s2 _ _ ha
   rw[dC (fJ hv hd)]at k1 k2
   rw[d6 (fJ hv hd)]at k1
   refine⟨⟨[some (.ref a)],rfl,rfl⟩,?_⟩
   cases d with
   |knew q h=>exact⟨_,rfl,xT ha2 rfl ⟨rfl,_,rfl,iN (cN (k2 rfl H2 (cA.refl _)))⟩⟩
   |unh q h=>exact⟨_,rfl,xT ha2 rfl ⟨rfl,_,rfl,iN (cN (k2 rfl H2 (cA.refl _)))⟩⟩
   |bar q q'=>exact⟨_,rfl,xT ha2 rfl ⟨rfl,_,rfl,iN (cN (k2 rfl H2 (cA.refl _)))⟩⟩
   |sil q b e=>
    refine⟨_,rfl,xT ha2 rfl ⟨rfl,_,rfl,iP ⟨_,rfl,xT ha2 rfl ⟨_,rfl,rfl,_,rfl,cW (fun hq=>?_) (fun hq=>?_)⟩⟩⟩⟩
    ·have hq':q=z:=V.str.inj (of_decide_eq_true hq)
     exact⟨_,rfl,k1 (decide_eq_true hq') H2 (cA.refl _)⟩
    ·exact k2 (decide_eq_false fun e=>hq (decide_eq_true (congrArg V.str e))) H2 (cA.refl _)
 ·intro o H' ho s' hd'
  rw[←zl,dw (fun p=>jf z p.2) (fun p=>p.1) (ys.zip sd)]at hd'
  have om:∀p∈(ys.zip sd).filter fun p=>jf z p.2,vh H p.1 p.2∧jf z p.2=true:=fun p hp=>by
   obtain⟨hp1,hp2⟩:=mem_filter.mp hp
   obtain⟨i,hi⟩:=getElem?_of_mem hp1
   obtain⟨h1,h2⟩:=iW hi
   exact⟨sy.2 i _ _ h1 h2,hp2⟩
  have ol:((ys.zip sd).filter fun p=>jf z p.2).length≤60:=by
   have:=length_filter_le (fun p:V×SD=>jf z p.2) (ys.zip sd)
   omega
  have ev:(((ys.zip sd).filter fun p=>jf z p.2).any fun p=>lN h p.2)=sd.any (p9 z h):=by
   rw[List.any_filter]
   exact vT (fun d=>jf z d && lN h d) sy.1
  generalize (ys.zip sd).filter (fun p=>jf z p.2)=l at hd' om ol ev
  refine⟨_,rfl,o,rfl,⟨_,cF.of hd'⟩,dz (xs:=l.map fun p=>p.1) (gr l fun _=>true) (mK l fun p=>V.bl (lN h p.2)) (cF.of hd') (by rw[length_map];omega) ?_ ?_⟩
  ·intro i os v H2 K1 K2 hv hos s2 k1 k2
   match os,hos with
   |[o],_=>
    rw[getElem?_map]at hv
    obtain⟨p,hp,rfl⟩:=map_eq_some_iff.mp hv
    obtain⟨⟨a,ea,ha⟩,hz⟩:=om p (mem_of_getElem? hp)
    have ha2:=s2 _ _ (s' _ _ ha)
    rw[dC hp]at k1
    rw[d6 hp]at k1
    have kk:=k1 rfl
    clear k1 k2
    refine⟨⟨[some p.1],rfl,rfl⟩,c9 (B:=K2 H2) ?_⟩
    obtain⟨v,d⟩:=p
    dsimp only at ea ha2 kk hz
    subst ea
    cases d with
    |sil q b e=>
     refine⟨_,rfl,xT ha2 rfl ⟨_,rfl,_,_,rfl,rfl,_,rfl,?_⟩⟩
     have k2:K1 (V.bl (if b≤h then decide (h≤e) else false)) H2:=kk H2 (cA.refl _)
     refine cW (fun hb=>?_) (fun hb=>?_)
     ·rw[if_pos (of_decide_eq_true hb)]at k2
      exact⟨_,rfl,xT ha2 rfl ⟨_,_,rfl,rfl,k2⟩⟩
     ·rw[if_neg (fun e=>hb (decide_eq_true e))]at k2
      exact k2
    |knew q h=>exact absurd hz Bool.false_ne_true
    |unh q h=>exact absurd hz Bool.false_ne_true
    |bar q q'=>exact absurd hz Bool.false_ne_true
  ·intro D2 H3 hD2 s3 hd3
   have e2:((List.range (l.map fun p=>p.1).length).filter (gr l fun _=>true)).map (mK l fun p=>V.bl (lN h p.2))=(l.map fun p=>lN h p.2).map V.bl:=by
    rw[length_map,dw (fun _=>true) (fun p=>V.bl (lN h p.2)) l,List.filter_eq_self.mpr (fun _ _=>rfl),map_map]
    rfl
   rw[e2]at hd3
   refine⟨D2,_,rfl,cF.of hd3,?_⟩
   have e3:(l.map fun p=>lN h p.2).any id=sd.any (p9 z h):=by
    rw[any_map,←ev]
    rfl
   rw[e3]
   exact k H3 (s'.trans s3)
theorem ql:cD ["sayings", "hearer", "teller"] ["sayings", "hearer", "teller"] (cB iO):={}
theorem qL (D:Df K mg "is_barred" iO ["sayings", "hearer", "teller"] f fd):Gd P w K mg base 1 "is_barred" vC:=by
 refine aE D ql fun X H vs Q E hh h=>?_
 obtain⟨y,ys,he,te,sd,rfl,hy,sy,k⟩:=h
 obtain⟨S0,S1,S2,_⟩:=hh.dZ [0,1,2]
 have hu:=eG hh.room
 refine⟨_,(ah (aw (aZ (J.jh hu) (aS (aM aP (aa S1) (aa S2))) (aa S0) J.iA))),?_⟩
 refine⟨_,rfl,_,rfl,oG,fun q hq=>?_⟩
 have s1:=cA.upd (o:=.tup [.str "barred",.str he,.str te]) hq
 have sy1:=sy.mono (Tk.of s1)
 refine⟨_,rfl,q,y,_,ys,rfl,rfl,cy,cF.of (s1 _ _ hy),rfl,fun v hv=>?_,?_⟩
 ·obtain⟨i,hi⟩:=getElem?_of_mem hv
  obtain⟨d,a,_,e,ha⟩:=sy1.at hi
  exact⟨a,d.tup,e,ha,sX d⟩
 ·rw[rg (g:=qY he te) sy1.1 fun i v d hv hd=>(B5 (sy1.2 i v d hv hd)).trans (vt he te d)]
  exact k _ s1
abbrev QD:=Int×Str×Str×Str
inductive du  (H:Hp)(v:V)(d:QD):Prop
 |mk(a:Addr)(h0:v=.ref a)(h1:H a=some (.tup [.int d.1,.str d.2.1,.str d.2.2.1,.str d.2.2.2]))
theorem du.mono{H H':Hp}(s:Tk H H')(v:V)(d:QD)(h:du H v d):du H' v d:=by
 obtain⟨a,e,ha⟩:=h
 exact⟨a,e,s _ _ ha⟩
def lJ(ps:List Str)(d:QD):Prop:=cO d.1∧d.2.1∈ps∧d.2.2.1∈ps∧(d.2.2.2= "both" ∨d.2.2.2= "one")
theorem yz{ps:List Str}{H:Hp}{ts:List V}(h:∀v∈ts,eN ps H v):∃qd,Lz du H ts qd∧∀d∈qd,lJ ps d:=
 qm fun v hv=>by
  obtain⟨a,i,p,q,w,e,ha,hi,hp,hq,_,hw⟩:=h v hv
  exact⟨(i,p,q,w),⟨a,e,ha⟩,hi,hp,hq,hw⟩
def fM(qd:List QD):List TD:=qd.map fun d=>d.2
theorem Eg{H:Hp}{ts:List V}{qd:List QD}(h:Lz du H ts qd):GO H ts (fM qd):=by
 refine⟨by rw[h.1];exact(length_map ..).symm,fun i v d hv hd=>?_⟩
 unfold fM at hd
 rw[getElem?_map]at hd
 obtain⟨q,hq,rfl⟩:=map_eq_some_iff.mp hd
 obtain⟨a,e,ha⟩:=h.2 i v q hv hq
 exact⟨a,q.1,e,ha⟩
def cY(qd:List QD)(k:Nat):Int:=match qd[k]? with
 |some d=>d.1
 |none=>0
theorem fj{qd:List QD}{k:Nat}{d:QD}(h:qd[k]? =some d):cY qd k=d.1:=by
 unfold cY
 rw[h]
abbrev TK:=Nat×Str×Str
def cT(qd:List QD)(sd:List SD)(t:TK):Bool:=f9 (cY qd t.1) (floorOf t.2.2 sd) && !(sd.any (p9 t.2.1 (cY qd t.1)) || sd.any (qY t.2.2 t.2.1))
theorem pP{t:TK}:∀{l:List TD}{k:Nat},t∈fg k l→∃(j:Nat) (d:TD),l[j]? =some d∧t.1=k+j∧(t.2=(d.1,d.2.1)∨t.2=(d.2.1,d.1))
 |[],_,h=>by cases h
 |d::r,k,h=>by
  have h':t∈dM k d++fg (k+1) r:=h
  rcases mem_append.mp h' with h|h
  ·refine⟨0,d,rfl,?_⟩
   unfold dM at h
   split at h
   ·rcases mem_cons.mp h with rfl|h
    ·exact⟨rfl,.inl rfl⟩
    ·rw[mem_singleton]at h
     subst h
     exact⟨rfl,.inr rfl⟩
   ·rw[mem_singleton]at h
    subst h
    exact⟨rfl,.inl rfl⟩
  ·obtain⟨j,e,he,h1,h2⟩:=pP h
   exact⟨j+1,e,he,by omega,h2⟩
theorem Gk{ps:List Str}{qd:List QD}(ok:∀d∈qd,lJ ps d){t:TK}(h:t∈fg 0 (fM qd)):∃q,qd[t.1]? =some q∧t.2.2∈ps:=by
 obtain⟨j,d,hd,e1,e2⟩:=pP h
 unfold fM at hd
 rw[getElem?_map]at hd
 obtain⟨q,hq,rfl⟩:=map_eq_some_iff.mp hd
 rw[zero_add]at e1
 have:=ok q (mem_of_getElem? hq)
 refine⟨q,by rw[e1];exact hq,?_⟩
 rcases e2 with e2|e2
 ·rw[e2]
  exact this.2.2.1
 ·rw[e2]
  exact this.2.1
theorem Ci{ta tb:TE}{σ:St}{H:Hp}{Q:VK}(b1 b2:Bool)(h1:∀Q':VK,(∀H',cA H H'→Q' (.bl b1) H')→ta σ H Q')(h2:∀H1 (Q':VK),cA H H1→(∀H',cA H1 H'→Q' (.bl b2) H')→tb σ H1 Q')(q:∀H',cA H H'→Q (.bl (b1 || b2)) H'):BE ta tb σ H Q:=by
 refine h1 _ fun H1 s1=>⟨_,rfl,?_⟩
 cases b1 with
 |true=>exact c9 (q H1 s1)
 |false=>exact cN (h2 H1 _ s1 fun H' s'=>q H' (s1.trans s'))
theorem El{ta tb:TE}{i j:Nat}{v:V}{u:TS}{D:Ends}{σ:St}{H:Hp}(b1 b2:Bool)(h1:∀Q':VK,(∀H',cA H H'→Q' (.bl b1) H')→ta (σ.set i (some v)) H Q')(h2:∀H1 (Q':VK),cA H H1→(∀H',cA H1 H'→Q' (.bl b2) H')→tb (σ.set i (some v)) H1 Q')
  (q:∀H',cA H H'→u D ((σ.set i (some v)).set j (some (.bl (b1 || b2)))) H'):eA i v σ H (yc (sI (BE ta tb) (eA j)) u D):=Ci (ta:=ta) (tb:=tb) b1 b2 h1 h2 q
inductive Ek(C:Addr)(vs:List V)(H:Hp)(Q:VK):Prop
 |mk(x p s t y:Addr)(ps:List Str)(ss ts ys:List V)(qd:List QD)(sd:List SD)(e:vs=[.ref x])(bk:Bk C H x p s t y ps ss ts ys)(pl:ps.length≤24)(tl:ts.length≤120)(qs:Lz du H ts qd)(qk:∀d∈qd,lJ ps d)(sy:Sys H ys sd)(l:ys.length≤60)
   (k:∀l us H',cA H H'→H l=none→H' l=some (.lst us)→eI H' us ((fg 0 (fM qd)).filter (cT qd sd))→Q (.ref l) H')
inductive FR(x tb yb d fo:Addr)(H5:Hp)(tl:List TK)(op:TK→Bool)(i:Nat)(σ:St)(H6:Hp):Prop
 |mk(us:List V)(e1 e2 e3 e4 e5:Option V)(e:σ=[some (.ref x),some (.ref tb),some (.ref yb),some (.ref d),some (.ref fo),e1,e2,e3,e4,e5])(kp:∀b o,H5 b=some o→b≠fo→H6 b=some o)(hf:H6 fo=some (.lst us))(ul:us.length≤i)(tu:eI H6 us ((tl.take i).filter op))
def qH(C:Addr):Sp:=fun vs H Q _=>Ek C vs H Q
theorem tZ:cD ["self"] ["self"] (cB fq):={}
theorem vf (F:oY K "talks" "Book.talks" fq f fd) (me:Meth K C "talks" f) (bi:Binds K fd ["self"] []) (T:Txt K mg kw C):Md P w K mg base 1 C "talks" (cZ C (fun _ _ t _=>t)):=by
 refine b9 F me bi T.cl tZ (fun vs H Q E h=>?_) (fun X H vs Q E hh h=>?_)
 ·obtain⟨x,p,s,t,y,xs,rfl,_⟩:=h
  rfl
 ·obtain⟨x,p,s,t,y,xs,rfl,⟨dx,hx⟩,hl,k⟩:=h
  obtain⟨S0,_⟩:=hh.dZ [0]
  have B_list:=hh.b T.b_list
  obtain rfl:=hh.fK
  refine⟨_,(ah (aw (bw B_list bI L2.dR (aj (cw (aa S0)))))),?_⟩
  exact⟨_,rfl,x,C,dx,_,_,rfl,hx,T.cl,T.nT,CM _ _ _ _,_,_,rfl,.inl (cF.of hl),k⟩
theorem lp:cD ["book", "talks", "sayings", "floors", "found", "k", "teller", "hearer", "hour", "hushed"] ["book"] (cB eZ):={}
theorem lF (D:Df K mg "open_tellings" eZ ["book"] f fd) (T:Txt K mg kw C) (G_talks:Md P w K mg base 1 C "talks" (cZ C fun _ _ t _=>t)) (G_sayings:Md P w K mg base 1 C "sayings" (cZ C fun _ _ _ y=>y)) (G_tellings:Md P w K mg base 1 C "tellings" (jv C))
  (G_floors_of_all:Gd P w K mg base 3 "floors_of_all" (jS C)) (G_is_above:Gd P w K mg base 1 "is_above" mT) (G_is_silent:Gd P w K mg base 1 "is_silent" vR) (G_is_barred:Gd P w K mg base 1 "is_barred" vC):Gd P w K mg base 4 "open_tellings" (qH C):=by
 refine aE D lp fun X H vs Q E hh h=>?_
 obtain⟨x,p,s,t,y,ps,ss,ts,ys,qd,sd,rfl,bk,pl,tl,qs,qk,sy,l60,k⟩:=h
 obtain⟨S0,S1,S2,S3,S4,S5,S6,S7,S8,S9,_⟩:=hh.dZ [0,1,2,3,4,5,6,7,8,9]
 have C_floors_of_all:=hh.c G_floors_of_all
 have C_is_above:=hh.c G_is_above
 have C_is_barred:=hh.c G_is_barred
 have C_is_silent:=hh.c G_is_silent
 have M_sayings:=hh.met G_sayings (by decide)
 have M_talks:=hh.met G_talks (by decide)
 have M_tellings:=hh.met G_tellings (by decide)
 have hu:=eG hh.room
 have hsz:sizeLine=16777216:=sizeLine_eq
 obtain⟨⟨dx,hx⟩,hp,hs,ht,hy⟩:=id bk
 refine⟨_,(ag (aA S1 hh.nd (bM M_talks (aa S0) rfl))
 (ag (aA S2 hh.nd (bM M_sayings (aa S0) rfl))
 (ag (aA S3 hh.nd (ao C_floors_of_all (aj (aa S0))))
 (ag (aA S4 hh.nd (bj bJ))
 (ag (a8 hh.own hh.calm (aQ (bM M_tellings (aa S0) rfl)) (bE hh.calm (aI (aF S5 hh.nd) (aI (aF S6 hh.nd) (aI (aF S7 hh.nd) bp))))
 (ag (aA S8 hh.nd (af az (af aV (aa S1) (aa S5) aO) ae ak))
 (ag (aA S9 hh.nd (J.tq (ao C_is_silent (aM (aa S2) (aa S6) (aa S8))) (a7 (ao C_is_barred (aM (aa S2) (aa S7) (aa S6))))))
 (ah (aH (aY (bf (a9 (ao C_is_above (aD (aa S8) (bq hu (aa S3) (aa S7) aO)))) (bC (bu (J.vV (aa S9))))))
 (ah (bG (bL plainAttrs_list PySem.F.slot_list_append PySem.F.type_list_append bK (aa S4) (aj (aS (aM (aa S5) (aa S6) (aa S7)))))))
 aJ)))))
 (ah (aw (aa S4)))))))),?_⟩
 refine⟨_,rfl,x,dx,_,rfl,hx,fL _ _ _ _ (by decide+kernel) (by decide+kernel) (by decide+kernel) (by decide+kernel),x,p,s,t,y,ts,rfl,⟨dx,hx⟩,ht,fun tb htb=>?_⟩
 have s1:=cA.upd (o:=.lst ts) htb
 have htb1:upd H tb (.lst ts) tb=some (.lst ts):=cy
 generalize upd H tb (.lst ts)=H1 at s1 htb1
 refine⟨_,rfl,x,dx,_,rfl,s1 _ _ hx,fL _ _ _ _ (by decide+kernel) (by decide+kernel) (by decide+kernel) (by decide+kernel),x,p,s,t,y,ys,rfl,⟨dx,s1 _ _ hx⟩,s1 _ _ hy,fun yb hyb=>?_⟩
 have s2:=cA.upd (o:=.lst ys) hyb
 have hyb2:upd H1 yb (.lst ys) yb=some (.lst ys):=cy
 generalize upd H1 yb (.lst ys)=H2 at s2 hyb2
 have s02:=s1.trans s2
 refine⟨_,rfl,x,p,s,t,y,ps,ss,ts,ys,sd,rfl,bk.mono s02,pl,sy.mono (Tk.of s02),l60,fun d H3 s3 dn fl=>?_⟩
 have s03:=s02.trans s3
 refine⟨zV,fun fo hfo=>?_⟩
 have s4:=cA.upd (o:=.lst []) hfo
 have s04:=s03.trans s4
 have hfo4:upd H3 fo (.lst []) fo=some (.lst []):=cy
 have nfo:H fo=none:=s03.free hfo
 have fl4:=fl.mono s4
 have htb4:=s4 _ _ (s3 _ _ (s2 _ _ htb1))
 have hyb4:=s4 _ _ (s3 _ _ hyb2)
 have fotb:tb≠fo:=cz (s3 _ _ (s2 _ _ htb1)) hfo
 have foyb:yb≠fo:=cz (s3 _ _ hyb2) hfo
 have fod:d≠fo:=by
  obtain⟨kvs,e,_⟩:=fl
  exact cz e hfo
 generalize upd H3 fo (.lst [])=H4 at s4 s04 hfo4 fl4 htb4 hyb4
 clear s1 htb1 s2 hyb2 s02 s3 fl s03 hfo s4
 refine⟨_,rfl,x,dx,_,rfl,s04 _ _ hx,fL _ _ _ _ (by decide+kernel) (by decide+kernel) (by decide+kernel) (by decide+kernel),x,p,s,t,y,ps,ss,ts,ys,fM qd,rfl,bk.mono s04,(Eg qs).mono (Tk.of s04),tl,fun m vs H5 s5 mn hm tm=>?_⟩
 have fom:m≠fo:=(cz hfo4 mn).symm
 have ml:vs.length≤240:=by
  have:=iX (fM qd) 0
  have:=tm.1
  have:=(Eg qs).1
  omega
 refine⟨m,rfl,⟨_,cF.of hm⟩,dk (K:=X.K) (a:=m) (xs:=vs) (FR x tb yb d fo H5 (fg 0 (fM qd)) (cT qd sd))
  ⟨[],none,none,none,none,none,rfl,fun b o e _=>e,s5 _ _ hfo4,le_refl 0,eI.nil⟩ ?_ ?_ ?_⟩
 ·rintro i σ H6 hi ⟨us,e1,e2,e3,e4,e5,rfl,kp,_⟩
  exact cF.of (kp _ _ hm fom)
 ·rintro i v σ H6 hv ⟨us,e1,e2,e3,e4,e5,rfl,kp,hf6,ul,tu⟩
  have hi:i < vs.length:=(List.getElem?_eq_some_iff.mp hv).1
  obtain⟨tk,htk⟩:∃tk,(fg 0 (fM qd))[i]? =some tk:=⟨_,getElem?_eq_getElem (by rw[←tm.1];exact hi)⟩
  obtain⟨a,rfl,ha⟩:=tm.2 i v tk hv htk
  obtain⟨q,hq,hps⟩:=Gk qk (mem_of_getElem? htk)
  have kpT:∀b xs,H b=some (.tup xs)→H6 b=some (.tup xs):=fun b xs e=>kp b _ (s5 _ _ (s04 _ _ e)) (cz e nfo)
  have ha6:=kp _ _ ha (n5 ha (s5 _ _ hfo4) (by intro z;cases z))
  have htb6:=kp _ _ (s5 _ _ htb4) fotb
  have hyb6:=kp _ _ (s5 _ _ hyb4) foyb
  obtain⟨kvs,hd6,hk⟩:=fl4
  have hd6:=kp _ _ (s5 _ _ hd6) fod
  obtain⟨vq,hvq⟩:∃vq,ts[tk.1]? =some vq:=⟨_,getElem?_eq_getElem (by rw[qs.1];exact(List.getElem?_eq_some_iff.mp hq).1)⟩
  obtain⟨aq,rfl,haq⟩:=qs.2 _ _ _ hvq hq
  have haq6:=kpT _ _ haq
  have sy6:Sys H6 ys sd:=sy.mono kpT
  refine⟨a,_,rfl,dq.of ha6,rfl,_,_,rfl,_,_,rfl,_,_,rfl,rfl,?_⟩
  refine⟨_,rfl,_,rfl,xL htb6 (cQ hvq) (xT haq6 rfl ?_)⟩
  rw[←fj hq]
  refine El (i:=8) (j:=9) (ta:=rF vR [] E0 (dG (j5 2) (dG (j5 6) (dG (j5 8) nj)))) (tb:=rF vC [] E0 (dG (j5 2) (dG (j5 7) (dG (j5 6) nj)))) (sd.any (p9 tk.2.1 (cY qd tk.1))) (sd.any (qY tk.2.2 tk.2.1)) (fun Q' q'=>⟨_,rfl,_,rfl,_,rfl,yb,ys,tk.2.1,cY qd tk.1,sd,rfl,hyb6,sy6,l60,q'⟩) (fun H7 Q' s7 q'=>⟨_,rfl,_,rfl,_,rfl,yb,ys,tk.2.2,tk.2.1,sd,rfl,s7 _ _ hyb6,sy6.mono (Tk.of s7),q'⟩) (fun H7 s7=>?_)
  have dg:ei H7 d (.str tk.2.2) (some (oV (floorOf tk.2.2 sd))):=by
   rw[←hk _ hps]
   exact ei.k (k:=Sum.inr tk.2.2) (s7 _ _ hd6)
  have et:(fg 0 (fM qd)).take (i+1)=(fg 0 (fM qd)).take i++[tk]:=by
   rw[take_add_one,htk]
   rfl
  have hf7:=s7 _ _ hf6
  have kp7:∀b o,H5 b=some o→b≠fo→H7 b=some o:=fun b o e n=>s7 _ _ (kp b o e n)
  have tu7:=tu.mono (Tk.of s7)
  have no:cT qd sd tk=false→eI H7 us (((fg 0 (fM qd)).take (i+1)).filter (cT qd sd)):=fun h=>by
   rw[et,filter_append,filter_cons,if_neg (by rw[h];exact Bool.false_ne_true),filter_nil,append_nil]
   exact tu7
  refine⟨_,rfl,_,rfl,_,rfl,d,_,rfl,dg,cY qd tk.1,floorOf tk.2.2 sd,rfl,_,rfl,cW (fun hab=>⟨_,rfl,_,rfl,cW (fun hs=>?_) (fun hs=>?_)⟩) (fun hab=>cN ?_)⟩
  ·have ot:cT qd sd tk=true:=by
    unfold cT
    rw[hab,hs]
    rfl
   refine⟨_,rfl,.inl ⟨rfl,_,cF.of hf7⟩,_,rfl,_,rfl,_,rfl,oG,fun t1 ht1=>?_⟩
   have s8:=cA.upd (o:=.tup [.int tk.1,.str tk.2.1,.str tk.2.2]) ht1
   have t1f:t1≠fo:=(cz hf7 ht1).symm
   refine⟨fo,us,.ref t1,rfl,rfl,s8 _ _ hf7,by omega,us++[.ref t1],_,_,_,_,_,rfl,fun b o e n=>?_,cy,by rw[length_append];show us.length+1≤i+1;omega,?_⟩
   ·rw[cC n]
    exact s8 _ _ (kp7 b o e n)
   ·rw[et,filter_append,filter_cons,if_pos ot,filter_nil]
    refine(tu7.mono ((Tk.of s8).trans (Tk.upd (s8 _ _ hf7)))).snoc ⟨t1,rfl,?_⟩
    rw[cC t1f]
    exact cy
  ·refine⟨us,_,_,_,_,_,rfl,kp7,hf7,by omega,no ?_⟩
   unfold cT
   rw[eq_false_of_ne_true hs,Bool.and_false]
  ·refine⟨us,_,_,_,_,_,rfl,kp7,hf7,by omega,no ?_⟩
   unfold cT
   rw[eq_false_of_ne_true hab,Bool.false_and]
 ·rintro σ H6 ⟨us,e1,e2,e3,e4,e5,rfl,kp,hf6,ul,tu⟩
  rw[tm.1,take_length]at tu
  exact⟨_,rfl,k fo us H6 (fun b o e=>kp b o (s5 _ _ (s04 _ _ e)) (cz e nfo)) nfo hf6 tu⟩
end K34
namespace K34
open PySem L2
variable {P:Program}{w:World}{K:PySem.W.Frag}{mg:Str→Option Value}{base:Heap}{kw C:Addr}{f:Addr}{fd:FuncData}
inductive EE  (vs:List V)(H:Hp)(Q:VK):Prop
 |mk(c k:Int)(h0:vs=[.int c,.int k])(h1:0≤k)(h2:k≤1000)(h3:∀m:Int,0≤m→m < 2147483647→Q (.int m) H)
def rm  :Sp:=fun vs H Q _=>EE  vs H Q
structure mY(hs:List Int):Prop where
 len:hs.length=21
 ok:∀h∈hs,cO h
 mono:∀(i j:Nat) (a b:Int),i≤j→hs[i]? =some a→hs[j]? =some b→a≤b
inductive zE  (vs:List V)(H:Hp)(Q:VK):Prop
 |mk(c:Int)(h0:vs=[.int c])(h1:∀(l:Addr)(hs:List Int)(H':Hp),cA H H'→H l=none→H' l=some (.lst (hs.map V.int))→mY hs→Q (.ref l) H')
def qC  :Sp:=fun vs H Q _=>zE  vs H Q
def Jt(ps:List Str):SD→Prop
 |.knew p h=>p∈ps∧cO h
 |.unh p h=>p∈ps∧∀i,h=some i→cO i
 |.sil p b e=>p∈ps∧cO b∧cO e∧b≤e
 |.bar p q=>p∈ps∧q∈ps
inductive AN  (vs:List V)(H:Hp)(Q:VK):Prop
 |mk(n at_:Int)(p q:Str)(cl:Addr)(hs:List Int)(ps:List Str)(h0:vs=[.int n,.str p,.str q,.ref cl,.int at_])(h1:H cl=some (.lst (hs.map V.int)))(h2:mY hs)(h3:0≤at_)(h4:at_≤20)(h5:p∈ps)(h6:q∈ps)(h7:∀(v:V)(d:SD)(H':Hp),cA H H'→vh H' v d→Jt ps d→Q v H')
def uZ  :Sp:=fun vs H Q _=>AN  vs H Q
inductive Ba  (vs:List V)(H:Hp)(Q:VK):Prop
 |mk(n k m:Int)(h0:vs=[.int n,.int k,.int m])(h1:0≤n)(h2:0≤k)(h3:1≤m)(h4:∀(t:Addr)(a f st:Int)(H':Hp),cA H H'→H' t=some (.tup [.int a,.int f,.int st])→0≤a→a≤20→0≤f→f < m→0≤st→Q (.ref t) H')
def uj  :Sp:=fun vs H Q _=>Ba  vs H Q
theorem kf{hs:List Int}(ok:mY hs){i:Int}(h0:0≤i)(h1:i≤20):∃h:Int,oH (hs.map V.int) i=some (.int h)∧hs[i.toNat]? =some h∧cO h:=by
 have hi:i.toNat < hs.length:=by
  rw[ok.len]
  omega
 have e:((i.toNat:Nat):Int)=i:=Int.toNat_of_nonneg h0
 have:=cQ (xs:=hs.map V.int) (j:=i.toNat) (v:=V.int hs[i.toNat]) (by rw[getElem?_map,getElem?_eq_getElem hi];rfl)
 rw[e]at this
 exact⟨hs[i.toNat],this,getElem?_eq_getElem hi,ok.ok _ (getElem_mem hi)⟩
theorem both{G A:Prop}(g:G)(f:G→A):A:=f g
theorem cP(x:Int){m:Int}(h:0 < m):0≤x % m∧x % m < m:=⟨Int.emod_nonneg _ (Int.ne_of_gt h),Int.emod_lt_of_pos _ h⟩
theorem rY:cD ["_law_cell", "_law_k", "_law_some_here"] ["_law_cell", "_law_k"] (cB mV):={}
theorem D7 (D:Df K mg "_law_mix" mV ["_law_cell", "_law_k"] f fd):Gd P w K mg base 1 "_law_mix" rm:=by
 refine aE D rY fun X H vs Q E hh h=>?_
 obtain⟨c,k,rfl,k0,k1,q⟩:=h
 obtain⟨S0,S1,S2,_⟩:=hh.dZ [0,1,2]
 refine⟨_,(ag (aA S2 hh.nd (au bg (au bg (au aR (aa S0) ae) (au bD (au bD ae (aa S1)) (aa S1))) ae))
 (ah (aw (au aR (au bD (au aR (au bD (aa S2) (aa S2)) ae) (au bg (aa S1) ae)) ae)))),?_⟩
 refine⟨_,rfl,_,_,rfl,rfl,(by show(0:Int) < 1000000007;decide),_,rfl,_,_,rfl,rfl,.inl ⟨by decide,by decide⟩,_,rfl,_,_,rfl,rfl,.inr ⟨by omega,by omega⟩,_,_,rfl,rfl,_,_,rfl,rfl,?_⟩
 have a:=cP c (m:=1000000007) (by decide)
 have b:0≤31 * k * k∧31 * k * k≤31000000:=by
  have h1:31 * k * k=31 * (k * k):=Int.mul_assoc 31 k k
  have h2:0≤k * k:=Int.mul_nonneg k0 k0
  have h3:k * k≤1000 * 1000:=Int.mul_le_mul k1 k1 k0 (by decide)
  omega
 dsimp only
 have sb:0≤c % 1000000007+31 * k * k+1∧c % 1000000007+31 * k * k+1≤1100000000:=by omega
 generalize c % 1000000007+31 * k * k+1=S at sb
 clear a b
 have r:=cP (S * S % 2147483629 * (k+7)) (m:=2147483647) (by decide)
 exact⟨_,rfl,_,rfl,_,_,rfl,rfl,.inl ⟨by omega,by omega⟩,_,_,rfl,rfl,(by show(0:Int) < 2147483629;decide),_,rfl,_,_,rfl,rfl,_,_,rfl,rfl,.inr ⟨by omega,by omega⟩,_,_,rfl,rfl,(by show(0:Int) < 2147483647;decide),q _ r.1 r.2⟩
theorem u0:cD ["_law_cell", "_law_step", "_law_low"] ["_law_cell"] (cB k7):={}
theorem yJ (D:Df K mg "_law_clock" k7 ["_law_cell"] f fd) (T:Txt K mg kw C):Gd P w K mg base 1 "_law_clock" qC:=by
 refine aE D u0 fun X H vs Q E hh h=>?_
 obtain⟨c,rfl,q⟩:=h
 obtain⟨S0,S1,S2,_⟩:=hh.dZ [0,1,2]
 have B_range:=hh.b T.b_range
 have hsz:sizeLine=16777216:=sizeLine_eq
 have e16:(10:Int) ^ Int.toNat 16=10000000000000000:=by decide+kernel
 have e17:(10:Int) ^ Int.toNat 17=100000000000000000:=by decide+kernel
 have e18:(10:Int) ^ Int.toNat 18=1000000000000000000:=by decide+kernel
 refine⟨_,(ag (aA S1 hh.nd (af aV (bj (bX ae ae ae (au bD ae (au J.k8 ae ae)))) (au aR (aa S0) ae) cu))
 (ag (aA S2 hh.nd (af aV (bj (aM ae (au aR (au ba (aa S0) ae) (au J.k8 ae ae)) (au J.nR (au J.k8 ae ae) (au bD ae (aa S1))))) (au aR (au ba (aa S0) ae) ae) cu))
 (ah (aw (bW (is:=[1,2]) (ns:=["_law_step", "_law_low"]) hh.calm (bR B_range (aj ae)) {} (fun _ _ _ _ _=>(au bg (b8 (i:=1) rfl rfl (by decide) (by decide)) (au bD (b8 (i:=0) rfl rfl (by decide) (by decide)) (b4 rfl (by decide) (by decide))))) hh.hsc hh.hN))))),?_⟩
 refine⟨_,_,rfl,rfl,⟨by decide,by decide,by decide⟩,_,_,rfl,rfl,.inl ⟨by decide,by decide⟩,HN,fun l1 hl1=>?_⟩
 have s1:=cA.upd (o:=.lst [.int 1,.int 1,.int 7,.int (4 * 10 ^ Int.toNat 16)]) hl1
 have m4:=cP c (m:=4) (by decide)
 obtain⟨st,hst,st0⟩:∃st:Int,oH [V.int 1,.int 1,.int 7,.int (4 * 10 ^ Int.toNat 16)] (c % 4)=some (.int st)∧(st=1∨st=7∨st=40000000000000000):=by
  have:c % 4=0∨c % 4=1∨c % 4=2∨c % 4=3:=by omega
  rcases this with e|e|e|e<;>rw[e]
  ·exact⟨1,rfl,.inl rfl⟩
  ·exact⟨1,rfl,.inl rfl⟩
  ·exact⟨7,rfl,.inr (.inl rfl)⟩
  ·exact⟨_,rfl,.inr (.inr (by rw[e16];rfl))⟩
 refine⟨_,rfl,_,_,rfl,rfl,(by show(0:Int) < 4;decide),xL cy hst ?_⟩
 have m3:=cP (c / 4) (m:=3) (by decide)
 have m17:=cP (c / 4) (m:=10 ^ Int.toNat 17) (by rw[e17];decide)
 obtain⟨lw,hlw,lw0,lw1⟩:∃lw:Int,oH [V.int 0,.int (c / 4 % 10 ^ Int.toNat 17),.int (10 ^ Int.toNat 18 - 20 * st)] (c / 4 % 3)=some (.int lw)∧0≤lw∧lw+st * 20≤1000000000000000000:=by
  have:c / 4 % 3=0∨c / 4 % 3=1∨c / 4 % 3=2:=by omega
  rcases this with e|e|e<;>rw[e]
  ·exact⟨0,rfl,by decide,by rcases st0 with z|z|z<;>rw[z]<;>decide⟩
  ·exact⟨_,rfl,m17.1,by rw[e17]at *;rcases st0 with z|z|z<;>rw[z]<;>omega⟩
  ·exact⟨_,rfl,by rw[e18];rcases st0 with z|z|z<;>rw[z]<;>decide,by rw[e18];omega⟩
 refine⟨_,rfl,_,_,rfl,rfl,⟨by decide,by decide⟩,_,_,rfl,rfl,⟨by decide,by decide,by decide⟩,_,_,rfl,rfl,(by show(0:Int) < 10 ^ Int.toNat 17;rw[e17];decide),_,_,rfl,rfl,⟨by decide,by decide,by decide⟩,_,rfl,_,_,rfl,rfl,.inl ⟨by decide,by decide⟩,_,_,rfl,rfl,oG,fun l2 hl2=>?_⟩
 have s2:=s1.trans (cA.upd (o:=.lst [.int 0,.int (c / 4 % 10 ^ Int.toNat 17),.int (10 ^ Int.toNat 18 - 20 * st)]) hl2)
 refine⟨_,rfl,_,_,rfl,rfl,⟨by decide,by decide⟩,_,_,rfl,rfl,(by show(0:Int) < 3;decide),xL cy hlw ?_⟩
 refine⟨21,rfl,by decide,by decide,yN (lo:=0) (n:=21) (fun v=>match v with|.int i=>.int (lw+st * i)|_=>.non) (by omega) (fun i H2 Q' hi sm q'=>?_) (fun D' hD=>?_)⟩
 ·exact⟨_,rfl,_,rfl,_,rfl,_,_,rfl,rfl,.inr ⟨by omega,by omega⟩,_,_,rfl,rfl,q'⟩
 ·have s3:=s2.trans (cA.upd (o:=.lst ((List.range 21).map fun(i:Nat)=>V.int (lw+st * (0+(i:Int))))) hD)
  have stp:0 < st:=by rcases st0 with z|z|z<;>rw[z]<;>decide
  refine q D' ((List.range 21).map fun(i:Nat)=>lw+st * (0+(i:Int))) _ s3 (s2.free hD) ?_ ⟨by rw[length_map,length_range],fun h hm=>?_,fun i j a b hij ha hb=>?_⟩
  ·rw[cy,map_map]
   rfl
  ·obtain⟨i,hi,rfl⟩:=mem_map.mp hm
   have hi':=mem_range.mp hi
   have h1:st * (0+(i:Int))≤st * 20:=Int.mul_le_mul_of_nonneg_left (by omega) (by omega)
   have h2:0≤st * (0+(i:Int)):=Int.mul_nonneg (by omega) (by omega)
   exact⟨by omega,by rw[e18];omega⟩
  ·rw[getElem?_map]at ha hb
   obtain⟨i',hi',rfl⟩:=map_eq_some_iff.mp ha
   obtain⟨j',hj',rfl⟩:=map_eq_some_iff.mp hb
   obtain⟨h1,rfl⟩:=List.getElem?_eq_some_iff.mp hi'
   obtain⟨h2,rfl⟩:=List.getElem?_eq_some_iff.mp hj'
   rw[List.getElem_range,List.getElem_range]
   have h3:st * (0+(i:Int))≤st * (0+(j:Int)):=Int.mul_le_mul_of_nonneg_left (by omega) (by omega)
   omega
theorem r6:cD ["_law_number", "_law_one", "_law_other", "_law_clock_here", "_law_at", "_law_way", "_law_late"] ["_law_number", "_law_one", "_law_other", "_law_clock_here", "_law_at"] (cB jj):={}
theorem AQ (D:Df K mg "_law_saying" jj ["_law_number", "_law_one", "_law_other", "_law_clock_here", "_law_at"] f fd) (T:Txt K mg kw C):Gd P w K mg base 1 "_law_saying" uZ:=by
 refine aE D r6 fun X H vs Q E hh h=>?_
 obtain⟨n,at_,p,q,cl,hs,ps,rfl,hc,ok,a0,a1,hp,hq,k⟩:=h
 obtain⟨S0,S1,S2,S3,S4,S5,S6,_⟩:=hh.dZ [0,1,2,3,4,5,6]
 have B_max:=hh.b T.b_max
 have B_min:=hh.b T.b_min
 refine⟨_,(ag (aA S5 hh.nd (au aR (au ba (aa S0) ae) ae))
 (ag (aA S6 hh.nd (af aV (aa S3) (aL B_min (J.fu hh.calm) L2.pQ (aD ae (au bg (aa S4) (au aR (au ba (aa S0) ae) ae)))) J.qy))
 (ag (aH (aB bS (aa S5) ae (L2.cE _))
 (ah (aw (aS (aM aP (aa S1) (aa S6)))))
 aJ)
 (ag (aH (aY (bf (aB aK (aa S5) ae (L2.cE _)) (bC (aB aK (au aR (au ba (aa S0) ae) ae) ae (L2.cE _)))))
 (ah (aw (aS (aM aP (aa S1) bA))))
 aJ)
 (ag (aH (aB bS (aa S5) ae (L2.cE _))
 (ah (aw (aS (aM aP (aa S1) (af aV (aa S3) (aL B_max (J.gE hh.calm) L2.uc (aD ae (au J.nR (aa S4) (au aR (au ba (aa S0) ae) ae)))) J.qy)))))
 aJ)
 (ag (aH (aB bS (aa S5) ae (L2.cE _))
 (ah (aw (aS (bX aP (aa S1) (af aV (aa S3) (aa S4) aO) (aa S6)))))
 aJ)
 (ah (aw (aS (aM aP (aa S1) (aa S2))))))))))),?_⟩
 have x8:=cP (n / 131072) (m:=8) (by decide)
 have x6:=cP (n / 131072) (m:=6) (by decide)
 obtain⟨late,eL,iL,kL⟩:=kf ok (i:=if at_+n / 131072 % 8 < 20 then at_+n / 131072 % 8 else 20) (by split<;>omega) (by split<;>omega)
 obtain⟨here,eH,iH,kH⟩:=kf ok (i:=at_) a0 a1
 obtain⟨erl,eE,iE,kE⟩:=kf ok (i:=if at_ - n / 131072 % 6 > 0 then at_ - n / 131072 % 6 else 0) (by split<;>omega) (by split<;>omega)
 have le:here≤late:=ok.mono _ _ _ _ (by split<;>omega) iH iL
 refine⟨_,rfl,_,_,rfl,rfl,⟨by decide,by decide⟩,_,_,rfl,rfl,(by show(0:Int) < 8;decide),?_⟩
 refine⟨_,rfl,_,rfl,_,rfl,_,_,rfl,rfl,⟨by decide,by decide⟩,_,_,rfl,rfl,(by show(0:Int) < 8;decide),_,_,rfl,rfl,_,_,rfl,xL hc eL ?_⟩
 refine⟨_,rfl,_,_,rfl,rfl,_,rfl,cW (fun _=>?_) (fun _=>?_)⟩
 ·exact⟨_,rfl,_,rfl,oG,fun t ht=>k _ (.knew p late) _ (cA.upd ht) ⟨t,rfl,cy⟩ ⟨hp,kL⟩⟩
 refine both ?_ fun other=>⟨_,rfl,rfl,_,rfl,cW (fun _=>⟨_,rfl,_,_,rfl,rfl,⟨by decide,by decide⟩,_,_,rfl,rfl,(by show(0:Int) < 6;decide),rfl,_,rfl,cW (fun _=>?_) (fun _=>other)⟩) (fun _=>cN other)⟩
 ·refine⟨_,rfl,_,_,rfl,rfl,_,rfl,cW (fun _=>?_) (fun _=>?_)⟩
  ·exact⟨_,rfl,_,rfl,_,rfl,_,rfl,_,_,rfl,rfl,⟨by decide,by decide⟩,_,_,rfl,rfl,(by show(0:Int) < 6;decide),_,_,rfl,rfl,_,_,rfl,xL hc eE ⟨oG,fun t ht=>k _ (.unh p (some erl)) _ (cA.upd ht) ⟨t,rfl,cy⟩ ⟨hp,fun i e=>by cases e;exact kE⟩⟩⟩
  refine⟨_,rfl,_,_,rfl,rfl,_,rfl,cW (fun _=>?_) (fun _=>?_)⟩
  ·exact⟨_,rfl,_,rfl,_,rfl,xL hc eH ⟨_,rfl,HN,fun t ht=>k _ (.sil p here late) _ (cA.upd ht) ⟨t,rfl,cy⟩ ⟨hp,kH,kL,le⟩⟩⟩
  ·exact⟨_,rfl,_,rfl,oG,fun t ht=>k _ (.bar p q) _ (cA.upd ht) ⟨t,rfl,cy⟩ ⟨hp,hq⟩⟩
 ·exact⟨_,rfl,oG,fun t ht=>k _ (.unh p none) _ (cA.upd ht) ⟨t,rfl,cy⟩ ⟨hp,fun i e=>by cases e⟩⟩
theorem x4:cD ["_law_number", "_law_k", "_law_many", "_law_at"] ["_law_number", "_law_k", "_law_many"] (cB m6):={}
theorem Cm (D:Df K mg "_law_spot" m6 ["_law_number", "_law_k", "_law_many"] f fd) (T:Txt K mg kw C):Gd P w K mg base 1 "_law_spot" uj:=by
 refine aE D x4 fun X H vs Q E hh h=>?_
 obtain⟨n,k,m,rfl,n0,k0,m1,q⟩:=h
 obtain⟨S0,S1,S2,S3,_⟩:=hh.dZ [0,1,2,3]
 have B_max:=hh.b T.b_max
 have B_min:=hh.b T.b_min
 refine⟨_,(ag (aH (aB bP (aa S2) ae (L2.cE _))
 (ah (aw (aS (aM (aL B_min (J.fu hh.calm) L2.pQ (aD ae (au ba (au bg (aa S1) ae) ae))) (au aR (au ba (aa S1) ae) (aa S2)) ae))))
 aJ)
 (ag (aA S3 hh.nd (aL B_min (J.fu hh.calm) L2.pQ (aD ae (au bg (au ba (aa S1) ae) (au aR (au ba (aa S0) ae) ae)))))
 (ah (aw (aS (aM (aa S3) (au aR (au ba (aa S0) ae) (aa S2)) (au bg ae (au aR (au ba (aa S0) ae) (aL B_max (J.gE hh.calm) L2.uc (aD ae (au J.nR (aa S2) ae))))))))))),?_⟩
 refine⟨_,rfl,_,_,rfl,rfl,_,rfl,cW (fun _=>?_) (fun _=>?_)⟩
 ·have a:=cP (k / 3) (m:=m) (by omega)
  refine⟨_,rfl,_,_,rfl,rfl,_,_,rfl,rfl,⟨by decide,by decide⟩,_,_,rfl,_,rfl,_,_,rfl,rfl,⟨by decide,by decide⟩,_,rfl,_,_,rfl,rfl,(by omega),oG,fun t ht=>q t _ _ _ _ (cA.upd ht) cy ?_ ?_ a.1 a.2 (by decide)⟩
  ·split<;>omega
  ·split<;>omega
 ·have b:=cP (n / 8) (m:=6) (by decide)
  have c:=cP (n / 64) (m:=m) (by omega)
  refine⟨_,rfl,_,_,rfl,rfl,⟨by decide,by decide⟩,_,rfl,_,_,rfl,rfl,⟨by decide,by decide⟩,_,_,rfl,rfl,(by show(0:Int) < 6;decide),_,_,rfl,rfl,_,_,rfl,?_⟩
  refine⟨_,rfl,_,rfl,_,_,rfl,rfl,⟨by decide,by decide⟩,_,rfl,_,_,rfl,rfl,(by omega),_,rfl,_,_,rfl,rfl,⟨by decide,by decide⟩,_,rfl,_,_,rfl,rfl,_,_,rfl,_,_,rfl,rfl,(by split<;>omega),_,_,rfl,rfl,oG,fun t ht=>q t _ _ _ _ (cA.upd ht) cy ?_ ?_ c.1 c.2 ?_⟩
  ·split<;>omega
  ·split<;>omega
  ·have:=Int.emod_nonneg (n / 1024) (b:=if m - 1 > 1 then m - 1 else 1) (by split<;>omega)
   omega
def Cp(z:Str)(h:Int):SD→Bool
 |.unh q none=>decide (q=z)
 |.unh q (some i)=>decide (q=z) && decide (h≤i)
 |_=>false
def Hi(h:Int):Option Int→Bool
 |none=>false
 |some i=>decide (i < h)
theorem pK(h:Int):∀(us:List (Option Int)) (acc:Int),f9 h (CN acc us)=(decide (acc < h) && us.all (Hi h))
 |[],acc=>by
  show decide (acc < h)=(decide (acc < h) && true)
  rw[Bool.and_true]
 |none::r,acc=>by
  show false=(decide (acc < h) && (false && r.all (Hi h)))
  rw[Bool.false_and,Bool.and_false]
 |some i::r,acc=>by
  show f9 h (CN (if i > acc then i else acc) r)=(decide (acc < h) && (decide (i < h) && r.all (Hi h)))
  rw[pK h r,←Bool.and_assoc]
  congr 1
  rw[Bool.eq_iff_iff,and_eq_true,decide_eq_true_iff,decide_eq_true_iff,decide_eq_true_iff]
  split<;>omega
theorem tG(z:Str)(h:Int):∀sd:List SD,(jV z sd).all (Hi h)= !(sd.any (Cp z h))
 |[]=>rfl
 |d::r=>by
  have ih:=tG z h r
  rw[any_cons,Bool.not_or,←ih]
  cases d with
  |unh q o=>
   by_cases e:q=z
   ·subst e
    rw[sE,all_cons]
    congr 1
    cases o with
    |none=>
     show false= !(decide (q=q))
     rw[decide_eq_true rfl]
     rfl
    |some i=>
     show decide (i < h)= !(decide (q=q) && decide (h≤i))
     rw[decide_eq_true rfl,Bool.true_and]
     by_cases c:i < h
     ·rw[decide_eq_true c,decide_eq_false (by omega)]
      rfl
     ·rw[decide_eq_false c,decide_eq_true (by omega)]
      rfl
   ·rw[fQ (show sh z (.unh q o)=false from decide_eq_false e)]
    have:Cp z h (.unh q o)=false:=by
     cases o with
     |none=>exact decide_eq_false e
     |some i=>
      show(decide (q=z) && decide (h≤i))=false
      rw[decide_eq_false e,Bool.false_and]
    rw[this]
    rfl
  |knew q i=>
   rw[fQ rfl]
   rfl
  |sil q b e=>
   rw[fQ rfl]
   rfl
  |bar q q'=>
   rw[fQ rfl]
   rfl
theorem Cj{z:Str}{h:Int}{sd:List SD}(h0:0≤h):f9 h (floorOf z sd)= !(sd.any (Cp z h)):=by
 unfold floorOf
 rw[pK,tG,decide_eq_true (show(-1:Int) < h by omega),Bool.true_and]
inductive B8  (vs:List V)(H:Hp)(Q:VK):Prop
 |mk(y:Addr)(ys:List V)(z:Str)(h:Int)(sd:List SD)(h0:vs=[.ref y,.str z,.int h])(h1:H y=some (.lst ys))(h2:Sys H ys sd)(h3:0≤h)(h4:∀H',cA H H'→Q (.bl (f9 h (floorOf z sd))) H')
def pS  :Sp:=fun vs H Q _=>B8  vs H Q
inductive AX  (vs:List V)(H:Hp)(Q:VK):Prop
 |mk(t:Addr)(ts:List V)(qd:List QD)(h0:vs=[.ref t])(h1:H t=some (.lst ts))(h2:Lz du H ts qd)(h3:ts.length≤120)(h4:∀(l:Addr)(us:List V)(H':Hp),cA H H'→H l=none→H' l=some (.lst us)→eI H' us (fg 0 (fM qd))→Q (.ref l) H')
def tQ  :Sp:=fun vs H Q _=>AX  vs H Q
inductive xS  (vs:List V)(H:Hp)(Q:VK):Prop
 |mk(t y:Addr)(ts ys:List V)(v:V)(tk:TK)(qd:List QD)(sd:List SD)(q:QD)(h0:vs=[.ref t,.ref y,v])(h1:H t=some (.lst ts))(h2:H y=some (.lst ys))(h3:Lz du H ts qd)(h4:Sys H ys sd)(h5:lX H v tk)(h6:qd[tk.1]? =some q)(h7:cO q.1)(h8:∀H',cA H H'→Q (.bl (cT qd sd tk)) H')
def nU  :Sp:=fun vs H Q _=>xS  vs H Q
theorem tE{α:Type}{f:α→Bool}{l:List α}{i:Nat}{d:α}(h:l[i]? =some d)(h0:(l.take i).any f=false)(h1:f d=false):(l.take (i+1)).any f=false:=by
 rw[take_add_one,h,List.any_append,h0]
 show(false || (f d || false))=false
 rw[h1]
 rfl
theorem Ah{α:Type}(f g:α→Bool):∀l:List α,(l.any fun d=>f d || g d)=(l.any f || l.any g)
 |[]=>rfl
 |d::r=>by
  rw[any_cons,any_cons,any_cons,Ah f g r]
  cases f d<;>cases g d<;>cases r.any f<;>cases r.any g<;>rfl
theorem wK:cD ["_law_sayings", "_law_person", "_law_when", "_law_row"] ["_law_sayings", "_law_person", "_law_when"] (cB oj):={}
theorem Bn (D:Df K mg "_law_free" oj ["_law_sayings", "_law_person", "_law_when"] f fd):Gd P w K mg base 1 "_law_free" pS:=by
 refine aE D wK fun X H vs Q E hh h=>?_
 obtain⟨y,ys,z,h,sd,rfl,hy,sy,h0,k⟩:=h
 obtain⟨S0,S1,S2,S3,_⟩:=hh.dZ [0,1,2,3]
 rw[Cj h0]at k
 refine⟨_,(ag (a8 hh.own hh.calm (aQ (aa S0)) (aF S3 hh.nd)
 (ah (aH (aY (bf (aB aK (af az (aa S3) ae ak) aP (L2.cE _)) (bf (aB aK (af az (aa S3) ae ak) (aa S1) (L2.cE _)) (bC (aY (bN (aB b5 (af az (aa S3) ae ak) bA (L2.cE _)) (bO (aB bH (aa S2) (af az (aa S3) ae ak) (L2.cE _)))))))))
 (ah (aw a5))
 aJ)))
 (ah (aw a5))),?_⟩
 refine⟨_,rfl,y,rfl,⟨_,cF.of hy⟩,dk (K:=X.K) (a:=y) (xs:=ys) (fun i σ H2=>∃e:Option V,σ=[some (.ref y),some (.str z),some (.int h),e]∧cA H H2∧(sd.take i).any (Cp z h)=false)
  ⟨none,rfl,cA.refl _,rfl⟩ ?_ ?_ ?_⟩
 ·rintro i σ H2 hi ⟨e,rfl,s2,_⟩
  exact cF.of (s2 _ _ hy)
 ·rintro i v σ H2 hv ⟨e,rfl,s2,ha0⟩
  obtain⟨d,a,hd,rfl,ha⟩:=sy.at hv
  have ha2:=s2 _ _ ha
  have yes:Cp z h d=true→Q (.bl false) H2:=fun hk=>by
   have:=k H2 s2
   rw[show sd.any (Cp z h)=true from any_eq_true.mpr ⟨d,mem_of_getElem? hd,hk⟩]at this
   exact this
  have no:Cp z h d=false→(sd.take (i+1)).any (Cp z h)=false:=tE hd ha0
  cases d with
  |knew q i'=>exact⟨_,rfl,xT ha2 rfl ⟨rfl,_,rfl,iN (cN ⟨_,rfl,s2,no rfl⟩)⟩⟩
  |sil q b e'=>exact⟨_,rfl,xT ha2 rfl ⟨rfl,_,rfl,iN (cN ⟨_,rfl,s2,no rfl⟩)⟩⟩
  |bar q q'=>exact⟨_,rfl,xT ha2 rfl ⟨rfl,_,rfl,iN (cN ⟨_,rfl,s2,no rfl⟩)⟩⟩
  |unh q o=>
   refine⟨_,rfl,xT ha2 rfl ⟨rfl,_,rfl,iP ⟨_,rfl,xT ha2 rfl ⟨_,rfl,rfl,_,rfl,cW (fun hq=>?_) (fun hq=>cN ?_)⟩⟩⟩⟩
   ·have hq':q=z:=V.str.inj (of_decide_eq_true hq)
    cases o with
    |none=>exact⟨_,rfl,xT ha2 rfl ⟨rfl,_,rfl,fc (decide_eq_true rfl) (c9 (yes (decide_eq_true hq')))⟩⟩
    |some j=>
     refine⟨_,rfl,xT ha2 rfl ⟨rfl,_,rfl,ig (by rw[decide_eq_true_iff];intro e;cases e) ⟨_,rfl,_,rfl,xT ha2 rfl ⟨_,_,rfl,rfl,_,rfl,cW (fun hj=>yes ?_) (fun hj=>⟨_,rfl,s2,no ?_⟩)⟩⟩⟩⟩
     ·show(decide (q=z) && decide (h≤j))=true
      rw[decide_eq_true hq',hj]
      rfl
     ·show(decide (q=z) && decide (h≤j))=false
      rw[eq_false_of_ne_true hj,Bool.and_false]
   ·refine⟨_,rfl,s2,no ?_⟩
    have hq':¬q=z:=fun e=>hq (decide_eq_true (congrArg V.str e))
    cases o with
    |none=>exact decide_eq_false hq'
    |some j=>
     show(decide (q=z) && decide (h≤j))=false
     rw[decide_eq_false hq',Bool.false_and]
 ·rintro σ H2 ⟨e,rfl,s2,ha0⟩
  rw[sy.1,take_length]at ha0
  have:=k H2 s2
  rw[ha0]at this
  exact this
theorem oU:cD ["_law_talks", "_law_found", "_law_k"] ["_law_talks"] (cB gR):={}
theorem Cb (D:Df K mg "_law_tellings" gR ["_law_talks"] f fd) (T:Txt K mg kw C):Gd P w K mg base 1 "_law_tellings" tQ:=by
 refine aE D oU fun X H vs Q E hh h=>?_
 obtain⟨t,ts,qd,rfl,ht,qs,l120,k⟩:=h
 obtain⟨S0,S1,S2,_⟩:=hh.dZ [0,1,2]
 have B_len:=hh.b T.b_len
 have B_range:=hh.b T.b_range
 have hsz:sizeLine=16777216:=sizeLine_eq
 refine⟨_,(ag (aA S1 hh.nd (bj bJ))
 (ag (a8 hh.own hh.calm (bR B_range (aj (aL B_len bB L2.dO (aj (aa S0))))) (aF S2 hh.nd)
 (ag (bG (bL plainAttrs_list PySem.F.slot_list_append PySem.F.type_list_append bK (aa S1) (aj (aS (aM (aa S2) (af az (af aV (aa S0) (aa S2) aO) ae ak) (af az (af aV (aa S0) (aa S2) aO) ae ak))))))
 (ah (aH (aB aK (af az (af aV (aa S0) (aa S2) aO) ae ak) aP (L2.cE _))
 (ah (bG (bL plainAttrs_list PySem.F.slot_list_append PySem.F.type_list_append bK (aa S1) (aj (aS (aM (aa S2) (af az (af aV (aa S0) (aa S2) aO) ae ak) (af az (af aV (aa S0) (aa S2) aO) ae ak)))))))
 aJ))))
 (ah (aw (aa S1))))),?_⟩
 refine⟨zV,fun l hl=>?_⟩
 have s1:=cA.upd (o:=.lst []) hl
 refine⟨_,rfl,t,_,rfl,.inl (cF.of (s1 _ _ ht)),(ts.length:Int),rfl,by omega,by omega,gG (lo:=0) (n:=((ts.length:Nat):Int).toNat) (fun i σ H2=>∃(us:List V) (e1:Option V),σ=[some (.ref t),some (.ref l),e1]∧cA H H2∧H2 l=some (.lst us)∧us.length≤2 * i∧eI H2 us (fg 0 ((fM qd).take i)))
  ⟨[],none,rfl,s1,cy,le_refl 0,eI.nil⟩ ?_ ?_⟩
 ·rintro i σ H2 hi ⟨us,e1,rfl,s2,hl2,ul,tl⟩
  rw[Int.toNat_natCast]at hi
  have hv:ts[i]? =some ts[i]:=getElem?_eq_getElem hi
  generalize ts[i]=v at hv
  obtain⟨d,hd,a,rfl,ha⟩:=qs.at hv
  have hd':(fM qd)[i]? =some d.2:=by
   unfold fM
   rw[getElem?_map,hd]
   rfl
  have ha2:=s2 _ _ ha
  have ht2:=s2 _ _ ht
  have av:oH ts ((0:Int)+(i:Int))=some (.ref a):=by rw[Int.zero_add];exact cQ hv
  refine⟨_,rfl,.inl ⟨rfl,_,cF.of hl2⟩,_,rfl,_,rfl,_,rfl,xL ht2 av (xT ha2 rfl ⟨_,rfl,_,rfl,xL ht2 av (xT ha2 rfl ⟨oG,fun t1 ht1=>?_⟩)⟩)⟩
  rw[Int.zero_add]
  have s4:=cA.upd (o:=.tup [.int i,.str d.2.1,.str d.2.2.1]) ht1
  refine⟨l,us,.ref t1,rfl,rfl,s4 _ _ hl2,by omega,?_⟩
  have t1l:t1≠l:=(cz hl2 ht1).symm
  have tv5:lX (upd (upd H2 t1 (.tup [.int i,.str d.2.1,.str d.2.2.1])) l (.lst (us++[.ref t1]))) (.ref t1) (i,d.2.1,d.2.2.1):=⟨t1,rfl,by rw[cC t1l];exact cy⟩
  have tk5:=(Tk.of s4).trans (Tk.upd (s4 _ _ hl2) (ys:=us++[.ref t1]))
  have tl5:=tl.mono tk5
  have hl5:upd (upd H2 t1 (.tup [.int i,.str d.2.1,.str d.2.2.1])) l (.lst (us++[.ref t1])) l=some (.lst (us++[.ref t1])):=cy
  have s05:cA H (upd (upd H2 t1 (.tup [.int i,.str d.2.1,.str d.2.2.1])) l (.lst (us++[.ref t1]))):=fun b o e=>by
   rw[cC (cz e hl)]
   exact s4 _ _ (s2 _ _ e)
  generalize upd (upd H2 t1 (.tup [.int i,.str d.2.1,.str d.2.2.1])) l (.lst (us++[.ref t1]))=H5 at tv5 tl5 hl5 s05
  have ha5:=s05 _ _ ha
  have ht5:=s05 _ _ ht
  have av':oH ts (i:Int)=some (.ref a):=cQ hv
  refine⟨_,rfl,_,rfl,xL ht5 av' (xT ha5 rfl ⟨rfl,_,rfl,cW (fun hb=>?_) (fun hb=>?_)⟩)⟩
  ·have hb':d.2.2.2= "both" :=V.str.inj (of_decide_eq_true hb)
   refine⟨_,rfl,.inl ⟨rfl,_,cF.of hl5⟩,_,rfl,_,rfl,_,rfl,xL ht5 av' (xT ha5 rfl ⟨_,rfl,_,rfl,xL ht5 av' (xT ha5 rfl ⟨oG,fun t2 ht2'=>?_⟩)⟩)⟩
   have s6:=cA.upd (o:=.tup [.int i,.str d.2.2.1,.str d.2.1]) ht2'
   refine⟨l,_,.ref t2,rfl,rfl,s6 _ _ hl5,by rw[length_append];show us.length+1 < _;omega,?_⟩
   have t2l:t2≠l:=(cz hl5 ht2').symm
   have tk7:=(Tk.of s6).trans (Tk.upd (s6 _ _ hl5) (ys:=(us++[.ref t1])++[.ref t2]))
   refine⟨_,_,rfl,fun b o e=>?_,cy,?_,(mU hd' (tl5.mono tk7)).1 hb' _ _ (tv5.mono tk7) ⟨t2,rfl,?_⟩⟩
   ·rw[cC (cz e hl)]
    exact s6 _ _ (s05 _ _ e)
   ·rw[length_append,length_append]
    show us.length+1+1≤2 * (i+1)
    omega
   ·rw[cC t2l]
    exact cy
  ·have hb':d.2.2.2≠ "both" :=fun e=>hb (decide_eq_true (congrArg V.str e))
   exact⟨_,_,rfl,s05,hl5,by rw[length_append];show us.length+1≤2 * (i+1);omega,(mU hd' tl5).2 hb' _ tv5⟩
 ·rintro σ H2 ⟨us,e1,rfl,s2,hl2,ul,tl⟩
  rw[Int.toNat_natCast,qs.1,show qd.length=(fM qd).length from (length_map ..).symm,take_length]at tl
  exact⟨_,rfl,k l us H2 s2 hl hl2 tl⟩
theorem BB{i:Nat}{v:V}{tc:TT}{u t2:TS}{D:Ends}{σ:St}{H:Hp}(b:Bool)(hc:∀Q:Bool→Hp→Prop,Q b H→tc (σ.set i (some v)) H Q)(h1:b=true→u { D with nx:=t2 D } (σ.set i (some v)) H)(h2:b=false→t2 D (σ.set i (some v)) H):
  eA i v σ H (fun σ2 H2=>yc (yB tc u rG) t2 D σ2 H2):=by
 refine hc _ ?_
 cases b with
 |true=>exact c9 (h1 rfl)
 |false=>exact cN (h2 rfl)
def uu(te he:Str)(h:Int)(d:SD):Bool:=p9 te h d || qY he te d
theorem qa:cD ["_law_talks", "_law_sayings", "_law_telling", "_law_k", "_law_teller", "_law_hearer", "_law_when", "_law_row"] ["_law_talks", "_law_sayings", "_law_telling"] (cB iT):={}
theorem uU (D:Df K mg "_law_is_open" iT ["_law_talks", "_law_sayings", "_law_telling"] f fd) (T:Txt K mg kw C) (G__law_free:Gd P w K mg base 1 "_law_free" pS):Gd P w K mg base 2 "_law_is_open" nU:=by
 refine aE D qa fun X H vs Q E hh h=>?_
 obtain⟨t,y,ts,ys,v,tk,qd,sd,q,rfl,ht,hy,qs,sy,⟨a,rfl,ha⟩,hq,hk,k⟩:=h
 obtain⟨S0,S1,S2,S3,S4,S5,S6,S7,_⟩:=hh.dZ [0,1,2,3,4,5,6,7]
 have C__law_free:=hh.c G__law_free
 have hu:=eG hh.room
 obtain⟨vq,hvq⟩:∃vq,ts[tk.1]? =some vq:=⟨_,getElem?_eq_getElem (by rw[qs.1];exact(List.getElem?_eq_some_iff.mp hq).1)⟩
 obtain⟨aq,rfl,haq⟩:=qs.2 _ _ _ hvq hq
 have ok:∀H',cA H H'→Q (.bl (f9 q.1 (floorOf tk.2.2 sd) && !(sd.any (uu tk.2.1 tk.2.2 q.1)))) H':=fun H' s'=>by
  have:=k H' s'
  unfold cT at this
  rw[fj hq,←Ah]at this
  exact this
 refine⟨_,(ag (bU (aa S2) (bE hh.calm (aI (aF S3 hh.nd) (aI (aF S4 hh.nd) (aI (aF S5 hh.nd) bp)))))
 (ag (aA S6 hh.nd (af az (af aV (aa S0) (aa S3) aO) ae ak))
 (ag (a8 hh.own hh.calm (aQ (aa S1)) (aF S7 hh.nd)
 (ag (aH (aY (bf (aB aK (af az (aa S7) ae ak) aP (L2.cE _)) (bf (aB aK (af az (aa S7) ae ak) (aa S4) (L2.cE _)) (bf (aB bH (af az (aa S7) ae ak) (aa S6) (L2.cE _)) (bC (aB bH (aa S6) (af az (aa S7) ae ak) (L2.cE _)))))))
 (ah (aw a5))
 aJ)
 (ah (aH (aB (J.qS hu) (aa S7) (aS (aM aP (aa S5) (aa S4))) (L2.cE _))
 (ah (aw a5))
 aJ))))
 (ah (aw (ao C__law_free (aM (aa S1) (aa S5) (aa S6)))))))),?_⟩
 refine⟨_,rfl,a,_,rfl,dq.of ha,rfl,_,_,rfl,_,_,rfl,_,_,rfl,rfl,?_⟩
 refine⟨_,rfl,_,rfl,xL ht (cQ hvq) (xT haq rfl ?_)⟩
 refine⟨_,rfl,y,rfl,⟨_,cF.of hy⟩,dk (K:=X.K) (a:=y) (xs:=ys) (fun i σ H2=>∃e:Option V,σ=[some (.ref t),some (.ref y),some (.ref a),some (.int tk.1),some (.str tk.2.1),some (.str tk.2.2),some (.int q.1),e]∧cA H H2∧(sd.take i).any (uu tk.2.1 tk.2.2 q.1)=false)
  ⟨none,rfl,cA.refl _,rfl⟩ ?_ ?_ ?_⟩
 ·rintro i σ H2 hi ⟨e,rfl,s2,_⟩
  exact cF.of (s2 _ _ hy)
 ·rintro i v σ H2 hv ⟨e,rfl,s2,ha0⟩
  obtain⟨d,b,hd,rfl,hb⟩:=sy.at hv
  have hb2:=s2 _ _ hb
  have yes:uu tk.2.1 tk.2.2 q.1 d=true→∀H3,cA H2 H3→Q (.bl false) H3:=fun hk H3 s3=>by
   have:=ok H3 (s2.trans s3)
   rw[show sd.any (uu tk.2.1 tk.2.2 q.1)=true from any_eq_true.mpr ⟨d,mem_of_getElem? hd,hk⟩,Bool.not_true,Bool.and_false]at this
   exact this
  refine BB (p9 tk.2.1 q.1 d) (fun Q' q'=>?_) (fun e=>yes ?_ H2 (cA.refl _)) (fun e=>?_)
  ·cases d with
   |knew z i'=>exact⟨_,rfl,xT hb2 rfl ⟨rfl,_,rfl,iN q'⟩⟩
   |unh z i'=>exact⟨_,rfl,xT hb2 rfl ⟨rfl,_,rfl,iN q'⟩⟩
   |bar z z'=>exact⟨_,rfl,xT hb2 rfl ⟨rfl,_,rfl,iN q'⟩⟩
   |sil z c c'=>
    have q2:Q' (decide (z=tk.2.1) && (if c≤q.1 then decide (q.1≤c') else false)) H2:=q'
    refine⟨_,rfl,xT hb2 rfl ⟨rfl,_,rfl,iP ⟨_,rfl,xT hb2 rfl ⟨_,rfl,rfl,_,rfl,cW (fun hz=>⟨_,rfl,xT hb2 rfl ⟨_,rfl,_,_,rfl,rfl,_,rfl,cW (fun hc=>⟨_,rfl,_,rfl,xT hb2 rfl ⟨_,_,rfl,rfl,_,rfl,?_⟩⟩) (fun hc=>?_)⟩⟩) (fun hz=>?_)⟩⟩⟩⟩
    ·rw[if_pos (of_decide_eq_true hc),decide_eq_true (V.str.inj (of_decide_eq_true hz)),Bool.true_and]at q2
     exact q2
    ·rw[if_neg (fun e=>hc (decide_eq_true e)),Bool.and_false]at q2
     exact q2
    ·rw[decide_eq_false (fun e=>hz (decide_eq_true (congrArg V.str e))),Bool.false_and]at q2
     exact q2
  ·unfold uu
   rw[e]
   rfl
  ·refine⟨_,rfl,_,rfl,_,rfl,oG,fun c2 hc2=>?_⟩
   have s3:=cA.upd (o:=.tup [.str "barred",.str tk.2.2,.str tk.2.1]) hc2
   refine⟨b,c2,_,_,rfl,rfl,s3 _ _ hb2,cy,sX d,rfl,_,rfl,?_⟩
   have ek:uu tk.2.1 tk.2.2 q.1 d=yy d.tup [.str "barred",.str tk.2.2,.str tk.2.1]:=by
    unfold uu
    rw[e,Bool.false_or,vt]
   rw[←ek]
   exact cW (fun hk=>yes hk _ s3) (fun hk=>⟨_,rfl,s2.trans s3,tE hd ha0 (eq_false_of_ne_true hk)⟩)
 ·rintro σ H2 ⟨e,rfl,s2,ha0⟩
  rw[sy.1,take_length]at ha0
  refine⟨_,rfl,_,rfl,_,rfl,y,ys,tk.2.2,q.1,sd,rfl,s2 _ _ hy,sy.mono (Tk.of s2),hk.1,fun H3 s3=>?_⟩
  have:=ok H3 (s2.trans s3)
  rw[ha0,Bool.not_false,Bool.and_true]at this
  exact this
theorem rN{H:Hp}{us:List V}{ks:List TK}(p:TK→Bool)(h:eI H us ks):eI H (((us.zip ks).filter fun x=>p x.2).map fun x=>x.1) (ks.filter p):=by
 have e:ks.filter p=((us.zip ks).filter fun x=>p x.2).map (fun x=>x.2):=by
  have:(us.zip ks).map Prod.snd=ks:=List.map_snd_zip (by rw[h.1];exact le_refl _)
  have e2:ks.filter p=((us.zip ks).map Prod.snd).filter p:=by rw[this]
  rw[e2,filter_map]
  rfl
 rw[e]
 refine⟨by rw[length_map,length_map],fun i u t hu ht=>?_⟩
 rw[getElem?_map]at hu ht
 obtain⟨x,hx,rfl⟩:=map_eq_some_iff.mp hu
 rw[hx]at ht
 cases ht
 obtain⟨j,hj⟩:=getElem?_of_mem (mem_filter.mp (mem_of_getElem? hx)).1
 obtain⟨h1,h2⟩:=iW hj
 exact h.2 j _ _ h1 h2
inductive EF(vs:List V)(H:Hp)(Q:VK):Prop
 |mk(tt s t y:Addr)(ps:List Str)(ss ts ys:List V)(sg:List GD)(qd:List QD)(sd:List SD)(e:vs=[.ref tt])(htt:H tt=some (.tup [.ref s,.ref t,.ref y]))(hs:H s=some (.lst ss))(ht:H t=some (.lst ts))(hy:H y=some (.lst ys))(sl:ss.length≤24)(tl:ts.length≤120)
   (gs:Lz c8 H ss sg)(gh:∀d∈sg,cO d.2)(qs:Lz du H ts qd)(qk:∀d∈qd,lJ ps d)(sy:Sys H ys sd)
   (k:∀(r nl tl:Addr)(us:List V)(H':Hp),cA H H'→H r=none→H nl=none→H tl=none→H' r=some (.tup [.ref nl,.ref tl])→H' nl=some (.lst (hZ sg sd sg.length))→H' tl=some (.lst us)→eI H' us ((fg 0 (fM qd)).filter (cT qd sd))→Q (.ref r) H')
def mN:Sp:=fun vs H Q _=>EF vs H Q
theorem xR:cD ["_law_things_here", "_law_sights", "_law_talks", "_law_sayings", "_law_numbers"] ["_law_things_here"] (cB n8):={}
theorem BO (D:Df K mg "_law_open" n8 ["_law_things_here"] f fd) (T:Txt K mg kw C) (G__law_free:Gd P w K mg base 1 "_law_free" pS) (G__law_tellings:Gd P w K mg base 1 "_law_tellings" tQ) (G__law_is_open:Gd P w K mg base 2 "_law_is_open" nU):Gd P w K mg base 3 "_law_open" mN:=by
 refine aE D xR fun X H vs Q E hh h=>?_
 obtain⟨tt,s,t,y,ps,ss,ts,ys,sg,qd,sd,rfl,htt,hs,ht,hy,sl,tl,gs,gh,qs,qk,sy,k⟩:=h
 obtain⟨S0,S1,S2,S3,S4,_⟩:=hh.dZ [0,1,2,3,4]
 have B_len:=hh.b T.b_len
 have B_range:=hh.b T.b_range
 have C__law_tellings:=hh.c G__law_tellings
 have CI__law_free:=hh.ci G__law_free
 have CI__law_is_open:=hh.ci G__law_is_open
 have hsz:sizeLine=16777216:=sizeLine_eq
 refine⟨_,(ag (bU (aa S0) (bE hh.calm (aI (aF S1 hh.nd) (aI (aF S2 hh.nd) (aI (aF S3 hh.nd) bp)))))
 (ag (bQ (is:=[1,3]) (xs:=["_law_i"]) (ns:=["_law_sights", "_law_sayings"]) S4 hh.nd hh.calm (bR B_range (aj (aL B_len bB L2.dO (aj (aa S1))))) {} (fun _ _ _ _ _=>(aT (i:=0) (by decide+kernel) rfl rfl)) (fun _ _ _ _ _=>(bz (a9 (ao (CI__law_free.lg rfl) (aM (aU (i:=2) rfl rfl (by decide) (by decide)) (af bo (af b7 (aU (i:=1) rfl rfl (by decide) (by decide)) (aG (i:=0) rfl rfl (by decide) (by decide)) aO) ae ak) (af bo (af b7 (aU (i:=1) rfl rfl (by decide) (by decide)) (aG (i:=0) rfl rfl (by decide) (by decide)) aO) ae ak)))))) (fun _ _ _ _ _=>(aG (i:=0) rfl rfl (by decide) (by decide))) hh.hsc hh.hN (by decide+kernel))
 (ah (aw (aS (aD (aa S4) (bF (is:=[2,3]) (xs:=["_law_telling"]) (ns:=["_law_talks", "_law_sayings"]) hh.calm (aQ (ao C__law_tellings (aj (aa S2)))) {} (fun _ _ _ _ _=>(aT (i:=0) (by decide+kernel) rfl rfl)) (fun _ _ _ _ _=>(bz (a9 (ao (CI__law_is_open.lg rfl) (aM (aU (i:=1) rfl rfl (by decide) (by decide)) (aU (i:=2) rfl rfl (by decide) (by decide)) (aG (i:=0) rfl rfl (by decide) (by decide))))))) (fun _ _ _ _ _=>(aG (i:=0) rfl rfl (by decide) (by decide))) hh.hsc hh.hN))))))),?_⟩
 refine⟨_,rfl,tt,_,rfl,dq.of htt,rfl,_,_,rfl,_,_,rfl,_,_,rfl,rfl,?_⟩
 refine⟨_,rfl,s,_,rfl,.inl (cF.of hs),(ss.length:Int),rfl,by omega,by omega,pB (lo:=0) (N:=((ss.length:Nat):Int).toNat) (gr sg (dB sd)) (fun i=>V.int (0+(i:Int))) (by omega) ?_ ?_⟩
 ·intro i os H2 K1 K2 hi hos s2 k1 k2
  match os,hos with
  |[o],_=>
   rw[Int.toNat_natCast]at hi
   have hv:ss[i]? =some ss[i]:=getElem?_eq_getElem hi
   generalize ss[i]=v at hv
   obtain⟨g,hg,a,ta,rfl,ha⟩:=gs.at hv
   rw[dC hg]at k1 k2
   have ha2:=s2 _ _ ha
   have av:oH ss ((0:Int)+(i:Int))=some (.ref a):=by rw[Int.zero_add];exact cQ hv
   have g0:=gh g (mem_of_getElem? hg)
   exact⟨⟨[_],rfl,rfl⟩,_,rfl,_,rfl,_,rfl,xL (s2 _ _ hs) av (xT ha2 rfl ⟨_,rfl,_,rfl,xL (s2 _ _ hs) av (xT ha2 rfl ⟨y,ys,g.1,g.2,sd,rfl,s2 _ _ hy,sy.mono (Tk.of s2),g0.1,fun H3 s3=>⟨_,rfl,cW (fun hb=>⟨_,rfl,k1 hb H3 s3⟩) (fun hb=>k2 (eq_false_of_ne_true hb) H3 s3)⟩⟩)⟩)⟩
 ·intro nl H1 nln s1 hnl
  have e:((List.range ((ss.length:Nat):Int).toNat).filter (gr sg (dB sd))).map (fun(i:Nat)=>V.int (0+(i:Int)))=hZ sg sd sg.length:=by
   rw[Int.toNat_natCast,gs.1]
   unfold hZ
   exact map_congr_left fun i _=>by rw[Int.zero_add]
  rw[e]at hnl
  refine⟨_,rfl,_,rfl,t,ts,qd,rfl,s1 _ _ ht,qs.mono (du.mono (Tk.of s1)),tl,fun l us H2 s2 ln hl tus=>?_⟩
  have s12:=s1.trans s2
  have ul:us.length≤240:=by
   have:=iX (fM qd) 0
   have:=tus.1
   have:=(Eg qs).1
   omega
  refine⟨l,rfl,⟨_,cF.of hl⟩,dz (xs:=us) (gr (us.zip (fg 0 (fM qd))) fun x=>cT qd sd x.2) (mK (us.zip (fg 0 (fM qd))) fun x=>x.1) (cF.of hl) (by omega) ?_ ?_⟩
  ·intro i os v H3 K1 K2 hv hos s3 k1 k2
   match os,hos with
   |[o],_=>
    have hi:i < us.length:=(List.getElem?_eq_some_iff.mp hv).1
    obtain⟨tk,htk⟩:∃tk,(fg 0 (fM qd))[i]? =some tk:=⟨_,getElem?_eq_getElem (by rw[←tus.1];exact hi)⟩
    rw[dC (fJ hv htk)]at k1 k2
    rw[d6 (fJ hv htk)]at k1
    obtain⟨q,hq,_⟩:=Gk qk (mem_of_getElem? htk)
    have s13:=s12.trans s3
    exact⟨⟨[_],rfl,rfl⟩,_,rfl,_,rfl,_,rfl,t,y,ts,ys,v,tk,qd,sd,q,rfl,s13 _ _ ht,s13 _ _ hy,qs.mono (du.mono (Tk.of s13)),sy.mono (Tk.of s13),(tus.2 i v tk hv htk).mono (Tk.of s3),hq,(qk q (mem_of_getElem? hq)).1,fun H4 s4=>⟨_,rfl,cW (fun hb=>⟨_,rfl,k1 hb H4 s4⟩) (fun hb=>k2 (eq_false_of_ne_true hb) H4 s4)⟩⟩
  ·intro m H3 mn s3 hm
   have zl:(us.zip (fg 0 (fM qd))).length=us.length:=by
    rw[length_zip,←tus.1,min_self]
   rw[←zl,dw (fun x=>cT qd sd x.2) (fun x=>x.1) (us.zip (fg 0 (fM qd)))]at hm
   refine⟨CK,fun r hr=>?_⟩
   have s4:=cA.upd (o:=.tup [.ref nl,.ref m]) hr
   have s13:=s12.trans s3
   exact k r nl m _ _ (s13.trans s4) (s13.free hr) nln (s12.free mn) cy (s4 _ _ (s3 _ _ (s2 _ _ hnl))) (s4 _ _ hm) ((rN (cT qd sd) tus).mono (Tk.of (s3.trans s4)))
def oh:Str:= "bcdfghjklmnpqrstvwxz"
def p6(i:Int):Nat:=oh.cps.toList.getD i.toNat 0
theorem zt:∀i:Fin 20,oH oh.cps.toList ((i.val:Nat):Int)=some (p6 (i.val:Nat))∧p6 (i.val:Nat)∈lets.cps.toList:=by decide+kernel
theorem rH:∀i j:Fin 20,p6 (i.val:Nat)=p6 (j.val:Nat)→i=j:=by decide+kernel
theorem vX{i:Int}(h0:0≤i)(h1:i < 20):oH oh.cps.toList i=some (p6 i)∧p6 i∈lets.cps.toList:=by
 have e:((i.toNat:Nat):Int)=i:=Int.toNat_of_nonneg h0
 have:=zt ⟨i.toNat,by omega⟩
 rw[e]at this
 exact this
theorem zC{i j:Int}(h0:0≤i)(h1:i < 20)(g0:0≤j)(g1:j < 20)(h:p6 i=p6 j):i=j:=by
 have e:((i.toNat:Nat):Int)=i:=Int.toNat_of_nonneg h0
 have f:((j.toNat:Nat):Int)=j:=Int.toNat_of_nonneg g0
 have:=rH ⟨i.toNat,by omega⟩ ⟨j.toNat,by omega⟩ (by rw[e,f];exact h)
 have:=congrArg Fin.val this
 dsimp only at this
 omega
def lf(c a k:Int)(j:Nat):Nat:=p6 ((c+((j:Int) * j+3 * k * (if decide (V.int (j:Int)=V.int a)=true then 1 else 0))) % 20)
def wordOf(c a k:Int):Nat→Str
 |0=> ""
 |j+1=>wordOf c a k j++⟨#[lf c a k j]⟩
theorem fD(c a k:Int):∀n,(wordOf c a k n).cps.toList=(List.range n).map (lf c a k)
 |0=>rfl
 |n+1=>by
  show(wordOf c a k n++⟨#[lf c a k n]⟩).cps.toList=_
  rw[mM,fD c a k n,range_succ,map_append]
  rfl
theorem fB(c a k:Int)(n:Nat):(wordOf c a k n).length=n:=by
 rw[←kj,fD,length_map,length_range]
theorem Fz(c a k:Int)(j:Nat):lf c a k j∈lets.cps.toList:=(vX (cP _ (by decide)).1 (cP _ (by decide)).2).2
theorem va(c a k:Int)(n:Nat):uM (wordOf c a k n):=fun x hx=>by
 rw[fD]at hx
 obtain⟨j,_,rfl⟩:=mem_map.mp hx
 exact Fz c a k j
def Hx(n:Int):Str:=Txt.mul "m" n
def nameOf(c a:Int)(n:Nat)(k:Nat):Str:=wordOf c a k n++Hx ((k:Int) / 20)
theorem qG{k:Nat}(h:k < 24):((k:Int) / 20=0∨(k:Int) / 20=1)∧(Hx ((k:Int) / 20)).length=k / 20∧uM (Hx ((k:Int) / 20)):=by
 by_cases c:k < 20
 ·have e:(k:Int) / 20=0:=by omega
  rw[e]
  exact⟨.inl rfl,by rw[show k / 20=0 by omega];rfl,fun x hx=>by have:x∈([]:List Nat):=hx;cases this⟩
 ·have e:(k:Int) / 20=1:=by omega
  rw[e]
  refine⟨.inr rfl,by rw[show k / 20=1 by omega];decide+kernel,?_⟩
  show uM "m"
  intro x hx
  revert x
  decide+kernel
theorem BH{c a:Int}{n k:Nat}(n1:1≤n)(n2:n≤11)(hk:k < 24):dH (nameOf c a n k)=true:=by
 obtain⟨_,hl,hL⟩:=qG hk
 have e:(nameOf c a n k).length=n+k / 20:=by
  unfold nameOf
  rw[AH,fB,hl]
 exact yE (BV (va c a k n) hL) (by omega) (by omega)
theorem Bg{c a:Int}{n i j:Nat}(a0:0≤a)(an:a < n)(hij:i < j)(hj:j < 24):nameOf c a n i≠nameOf c a n j:=by
 intro e
 obtain⟨_,li,_⟩:=qG (k:=i) (by omega)
 obtain⟨_,lj,_⟩:=qG hj
 have e1:=congrArg (fun z:Str=>z.cps.toList) e
 unfold nameOf at e1
 rw[mM,mM]at e1
 have hl:(wordOf c a i n).cps.toList.length=(wordOf c a j n).cps.toList.length:=by rw[kj,kj,fB,fB]
 obtain⟨w,m⟩:=List.append_inj e1 hl
 have m2:=congrArg List.length m
 rw[kj,kj,li,lj]at m2
 rw[fD,fD]at w
 have aN:a.toNat < n:=by omega
 have w2:=congrArg (fun l:List Nat=>l[a.toNat]?) w
 rw[getElem?_map,getElem?_map,List.getElem?_range aN]at w2
 have w3:lf c a i a.toNat=lf c a j a.toNat:=Option.some.inj w2
 have ea:((a.toNat:Nat):Int)=a:=Int.toNat_of_nonneg a0
 unfold lf at w3
 rw[ea,decide_eq_true rfl]at w3
 have w4:=zC (cP _ (by decide)).1 (cP _ (by decide)).2 (cP _ (by decide)).1 (cP _ (by decide)).2 w3
 simp only[if_true,Int.mul_one]at w4
 generalize a * a=A at w4
 omega
theorem nodup_range{f:Nat→Str}{n:Nat}(h:∀i j,i < j→j < n→f i≠f j):((List.range n).map f).Nodup:=by
 unfold List.Nodup
 rw[List.pairwise_map]
 exact List.Pairwise.imp_of_mem (fun {a b} _ hb hab=>h a b hab (mem_range.mp hb)) List.pairwise_lt_range
inductive xM  (vs:List V)(H:Hp)(Q:VK):Prop
 |mk(c m:Int)(h0:vs=[.int c,.int m])(h1:0≤c)(h2:1≤m)(h3:m≤24)(h4:∀(l:Addr)(us:List Str)(H':Hp),cA H H'→H l=none→H' l=some (.lst (us.map V.str))→eV us→Q (.ref l) H')
def nM  :Sp:=fun vs H Q _=>xM  vs H Q
theorem tR:cD ["_law_cell", "_law_many", "_law_letters", "_law_size", "_law_at", "_law_names_here", "_law_k", "_law_word", "_law_j", "_law_step"] ["_law_cell", "_law_many"] (cB kT):={}
theorem xI (D:Df K mg "_law_names" kT ["_law_cell", "_law_many"] f fd) (T:Txt K mg kw C):Gd P w K mg base 1 "_law_names" nM:=by
 refine aE D tR fun X H vs Q E hh h=>?_
 obtain⟨c,m,rfl,c0,m1,m24,k⟩:=h
 obtain⟨S0,S1,S2,S3,S4,S5,S6,S7,S8,S9,_⟩:=hh.dZ [0,1,2,3,4,5,6,7,8,9]
 have B_int:=hh.b T.b_int
 have B_range:=hh.b T.b_range
 have hsz:sizeLine=16777216:=sizeLine_eq
 refine⟨_,(ag (aA S2 hh.nd aP)
 (ag (aA S3 hh.nd (au bg ae (au aR (aa S0) ae)))
 (ag (aA S4 hh.nd (au aR (au ba (aa S0) ae) (aa S3)))
 (ag (aA S5 hh.nd (bj bJ))
 (ag (a8 hh.own hh.calm (bR B_range (aj (aa S1))) (aF S6 hh.nd)
 (ag (aA S7 hh.nd aP)
 (ag (a8 hh.own hh.calm (bR B_range (aj (aa S3))) (aF S8 hh.nd)
 (ag (aA S9 hh.nd (au bg (au bD (aa S8) (aa S8)) (au bD (au bD ae (aa S6)) (bw B_int J.i8 L2.uL (aj (aZ aK (aa S8) (aa S4) (L2.cE _)))))))
 (ah (aA S7 hh.nd (au J.gZ (aa S7) (af J.u9 (aa S2) (au aR (au bg (au ba (aa S0) ae) (aa S9)) ae) cu))))))
 (ah (bG (bL plainAttrs_list PySem.F.slot_list_append PySem.F.type_list_append bK (aa S5) (aj (au J.gZ (aa S7) (au J.qR aP (au ba (aa S6) ae))))))))))
 (ah (aw (aa S5)))))))),?_⟩
 have m11:=cP c (m:=11) (by decide)
 refine⟨_,rfl,_,_,rfl,rfl,(by show(0:Int) < 11;decide),_,_,rfl,rfl,?_⟩
 dsimp only
 have sb:1≤1+c % 11∧1+c % 11≤11:=by omega
 generalize 1+c % 11=S at sb
 clear m11
 refine⟨_,rfl,_,_,rfl,rfl,⟨by decide,by decide⟩,_,rfl,_,_,rfl,rfl,(by omega),?_⟩
 have ab:=cP (c / 11) (m:=S) (by omega)
 dsimp only
 generalize c / 11 % S=A at ab
 refine⟨zV,fun l hl=>?_⟩
 refine⟨_,rfl,m,rfl,by omega,by omega,gG (lo:=0) (n:=m.toNat) (fun i σ H2=>∃e1 e2 e3 e4:Option V,σ=[some (.int c),some (.int m),some (.str oh),some (.int S),some (.int A),some (.ref l),e1,e2,e3,e4]∧cA H H2∧H2 l=some (.lst ((List.range i).map fun j=>V.str (nameOf (c / 121) A S.toNat j))))
  ⟨none,none,none,none,rfl,cA.upd hl,cy⟩ ?_ ?_⟩
 ·rintro i σ H2 hi ⟨e1,e2,e3,e4,rfl,s2,hl2⟩
  rw[Int.zero_add]
  refine⟨_,rfl,S,rfl,by omega,by omega,gG (lo:=0) (n:=S.toNat) (fun j σ H3=>∃e3 e4:Option V,σ=[some (.int c),some (.int m),some (.str oh),some (.int S),some (.int A),some (.ref l),some (.int i),some (.str (wordOf (c / 121) A i j)),e3,e4]∧H3=H2)
   ⟨_,_,rfl,rfl⟩ ?_ ?_⟩
  ·rintro j σ H3 hj ⟨e3,e4,rfl,rfl⟩
   rw[Int.zero_add]
   have jb:(j:Int) < S:=by omega
   refine⟨_,rfl,_,rfl,_,_,rfl,rfl,.inl ⟨by omega,by omega⟩,_,rfl,_,_,rfl,rfl,.inl ⟨by decide,by decide⟩,_,rfl,_,rfl,rfl,.inr ⟨_,rfl,_,_,rfl,rfl,.inl ⟨by omega,by omega⟩,_,_,rfl,rfl,?_⟩⟩
   have am:=cP (c / 121+((j:Int) * j+3 * (i:Int) * (if decide (V.int (j:Int)=V.int A)=true then 1 else 0))) (m:=20) (by decide)
   have wl:=fB (c / 121) A i j
   refine⟨_,rfl,_,rfl,_,rfl,_,_,rfl,rfl,⟨by decide,by decide⟩,_,rfl,_,_,rfl,rfl,_,_,rfl,rfl,(by show(0:Int) < 20;decide),oh,_,_,rfl,rfl,(by show oh.length≤sizeLine;decide+kernel),(vX am.1 am.2).1,_,_,rfl,rfl,(by show _+1≤_;omega),_,_,rfl,rfl⟩
  ·rintro σ H3 ⟨e3,e4,rfl,rfl⟩
   have wl:=fB (c / 121) A i S.toNat
   obtain⟨h01,el,_⟩:=qG (k:=i) (by omega)
   refine⟨_,rfl,.inl ⟨rfl,_,cF.of hl2⟩,_,rfl,_,rfl,_,_,rfl,rfl,⟨by decide,by decide⟩,_,_,rfl,rfl,h01,_,_,rfl,rfl,(by show _+(Hx _).length≤_;omega),l,_,_,rfl,rfl,hl2,(by rw[length_map,length_range];omega),_,_,_,_,rfl,fun b o e=>?_,?_⟩
   ·rw[cC (cz e hl)]
    exact s2 _ _ e
   ·rw[cy,range_succ,map_append]
    rfl
 ·rintro σ H2 ⟨e1,e2,e3,e4,rfl,s2,hl2⟩
  refine⟨_,rfl,k l ((List.range m.toNat).map fun j=>nameOf (c / 121) A S.toNat j) H2 s2 hl (by rw[map_map];exact hl2) ⟨by rw[length_map,length_range];omega,by rw[length_map,length_range];omega,nodup_range fun i j hij hj=>Bg ab.1 (by omega) hij (by omega),fun z hz=>?_⟩⟩
  obtain⟨j,hj,rfl⟩:=mem_map.mp hz
  have:=mem_range.mp hj
  exact BH (by omega) (by omega) (by omega)
theorem Es{ps:List Str}{H:Hp}{v:V}{d:SD}(h:vh H v d)(k:AA ps d):fH ps H v:=by
 obtain⟨a,e,ha⟩:=h
 refine⟨a,e,?_⟩
 cases d with
 |knew p h=>exact .inl ⟨p,h,ha,k.1,k.2⟩
 |unh p h=>
  refine .inr (.inl ⟨p,oV h,ha,k.1,?_⟩)
  cases h with
  |none=>exact .inl rfl
  |some i=>exact .inr ⟨i,rfl,k.2 i rfl⟩
 |sil p b e=>exact .inr (.inr (.inl ⟨p,b,e,ha,k.1,k.2.1,k.2.2.1,k.2.2.2⟩))
 |bar p q=>exact .inr (.inr (.inr ⟨p,q,ha,k.1,k.2.1,k.2.2⟩))
inductive CH(c nl cl tt S Tt Y:Addr)(H5:Hp)(ps:List Str)(i:Nat)(σ:St)(H':Hp):Prop
 |mk(ss ts ys:List V)(e1 e2 e3 e4 e5 e6 e7 e8 e9:Option V)(e:σ=[some (.ref c),some (.ref nl),some (.ref cl),some (.ref tt),e1,e2,e3,e4,e5,e6,e7,e8,e9])
   (hs:H' S=some (.lst ss))(ht:H' Tt=some (.lst ts))(hy:H' Y=some (.lst ys))(kp:∀b o,H5 b=some o→b≠S→b≠Tt→b≠Y→H' b=some o)
   (ls:ss.length≤24)(li:ss.length≤i)(lt:ts.length≤i)(ly:ys.length≤i)(gs:∀v∈ss,dS ps H' v)(gt:∀v∈ts,eN ps H' v)(gy:∀v∈ys,fH ps H' v)
inductive AO(vs:List V)(H:Hp)(Q:VK):Prop
 |mk(c nl cl:Addr)(ns:List Int)(ps:List Str)(hs:List Int)(e:vs=[.ref c,.ref nl,.ref cl])(hc:H c=some (.lst (ns.map V.int)))(n60:ns.length≤60)(hn:H nl=some (.lst (ps.map V.str)))(po:eV ps)(hcl:H cl=some (.lst (hs.map V.int)))(ck:mY hs)
   (k:∀(tt s t y:Addr)(ss ts ys:List V)(H':Hp),cA H H'→H tt=none→H s=none→H t=none→H y=none→[tt,s,t,y].Nodup→H' tt=some (.tup [.ref s,.ref t,.ref y])→H' s=some (.lst ss)→H' t=some (.lst ts)→H' y=some (.lst ys)→ss.length≤24→ts.length≤60→ys.length≤ns.length→
    (∀v∈ss,dS ps H' v)→(∀v∈ts,eN ps H' v)→(∀v∈ys,fH ps H' v)→Q (.ref tt) H')
def nO:Sp:=fun vs H Q _=>AO vs H Q
theorem vZ{ps:List Str}{i:Int}(h0:0≤i)(h1:i < ps.length):∃z,oH (ps.map V.str) i=some (.str z)∧z∈ps:=by
 have hi:i.toNat < ps.length:=by omega
 have e:((i.toNat:Nat):Int)=i:=Int.toNat_of_nonneg h0
 have:=cQ (xs:=ps.map V.str) (j:=i.toNat) (v:=V.str ps[i.toNat]) (by rw[getElem?_map,getElem?_eq_getElem hi];rfl)
 rw[e]at this
 exact⟨_,this,getElem_mem hi⟩
theorem E7{ps:List Str}{d:SD}(w:Jt ps d):∃v1 v2:V,oH d.tup 1=some v1∧oH d.tup 2=some v2∧DI v1 v2=true∧(v1≠v2→AA ps d):=by
 cases d with
 |knew p h=>exact⟨_,_,rfl,rfl,rfl,fun _=>w⟩
 |unh p h=>
  cases h with
  |none=>exact⟨_,_,rfl,rfl,rfl,fun _=>w⟩
  |some i=>exact⟨_,_,rfl,rfl,rfl,fun _=>w⟩
 |sil p b e=>exact⟨_,_,rfl,rfl,rfl,fun _=>w⟩
 |bar p q=>exact⟨_,_,rfl,rfl,rfl,fun n=>⟨w.1,w.2,fun e=>n (congrArg V.str e)⟩⟩
theorem Dk:dH "red" =true:=by decide+kernel
theorem rK:cD ["_law_cells", "_law_names_here", "_law_clock_here", "_law_things_here", "_law_k", "_law_number", "_law_at", "_law_first", "_law_steps", "_law_one", "_law_other", "_law_saying_here", "_law_way"] ["_law_cells", "_law_names_here", "_law_clock_here"] (cB ju):={}
theorem xm (D:Df K mg "_law_things" ju ["_law_cells", "_law_names_here", "_law_clock_here"] f fd) (T:Txt K mg kw C) (G__law_mix:Gd P w K mg base 1 "_law_mix" rm) (G__law_spot:Gd P w K mg base 1 "_law_spot" uj) (G__law_saying:Gd P w K mg base 1 "_law_saying" uZ):Gd P w K mg base 2 "_law_things" nO:=by
 refine aE D rK fun X H vs Q E hh h=>?_
 obtain⟨c,nl,cl,ns,ps,hs,rfl,hc,n60,hn,po,hcl,ck,k⟩:=h
 obtain⟨S0,S1,S2,S3,S4,S5,S6,S7,S8,S9,S10,S11,S12,_⟩:=hh.dZ [0,1,2,3,4,5,6,7,8,9,10,11,12]
 have B_len:=hh.b T.b_len
 have B_range:=hh.b T.b_range
 have C__law_mix:=hh.c G__law_mix
 have C__law_saying:=hh.c G__law_saying
 have C__law_spot:=hh.c G__law_spot
 have hsz:sizeLine=16777216:=sizeLine_eq
 have pl:(ps.map V.str).length=ps.length:=length_map ..
 have plo:=po.lo
 have nln:(ns.map V.int).length=ns.length:=length_map ..
 refine⟨_,(ag (aA S3 hh.nd (aS (aM (bj bJ) (bj bJ) (bj bJ))))
 (ag (a8 hh.own hh.calm (bR B_range (aj (aL B_len bB L2.dO (aj (aa S0))))) (aF S4 hh.nd)
 (ag (aA S5 hh.nd (ao C__law_mix (aD (af aV (aa S0) (aa S4) aO) (aa S4))))
 (ag (bU (ao C__law_spot (aM (aa S5) (aa S4) (aL B_len bB L2.dO (aj (aa S1))))) (bE hh.calm (aI (aF S6 hh.nd) (aI (aF S7 hh.nd) (aI (aF S8 hh.nd) bp)))))
 (ag (aA S9 hh.nd (af aV (aa S1) (aa S7) aO))
 (ag (aA S10 hh.nd (af aV (aa S1) (au aR (au bg (aa S7) (aa S8)) (aL B_len bB L2.dO (aj (aa S1)))) cu))
 (ah (aH (aY (bN (aB aK (aa S4) ae (L2.cE _)) (bO (aY (bf (aB aK (au aR (aa S5) ae) ae (L2.cE _)) (bC (aB bS (aL B_len bB L2.dO (aj (af az (aa S3) ae ak))) ae (L2.cE _))))))))
 (ah (bG (bL plainAttrs_list PySem.F.slot_list_append PySem.F.type_list_append bK (af az (aa S3) ae ak) (aj (aS (aM (aa S9) (af aV (aa S2) (aa S6) aO) (aS (aj aP))))))))
 (ah (aH (aY (bN (aB bS (au aR (aa S5) ae) ae (L2.cE _)) (bO (aB aK (aa S9) (aa S10) (L2.cE _)))))
 (ag (aA S11 hh.nd (ao C__law_saying (J.Kr (aa S5) (aa S9) (aa S10) (aa S2) (aa S6))))
 (ah (aH (aB cj (af az (aa S11) ae ak) (af az (aa S11) ae ak) (L2.cE _))
 (ah (bG (bL plainAttrs_list PySem.F.slot_list_append PySem.F.type_list_append bK (af az (aa S3) ae ak) (aj (aa S11)))))
 aJ)))
 (ag (aA S12 hh.nd (af aV (bj (aD aP aP)) (au aR (au ba (aa S5) ae) ae) cu))
 (ah (bG (bL plainAttrs_list PySem.F.slot_list_append PySem.F.type_list_append bK (af az (aa S3) ae ak) (aj (aS (bX (af aV (aa S2) (aa S6) aO) (aa S9) (aa S10) (aa S12)))))))))))))))))
 (ah (aw (aa S3))))),?_⟩
 refine⟨zV,fun S hSn=>⟨zV,fun Tt hTn=>⟨zV,fun Y hYn=>⟨oG,fun tt httn=>?_⟩⟩⟩⟩
 have sS:=cA.upd (o:=.lst []) hSn
 have sT:=cA.upd (o:=.lst []) hTn
 have sY:=cA.upd (o:=.lst []) hYn
 have sU:=cA.upd (o:=.tup [.ref S,.ref Tt,.ref Y]) httn
 have nST:S≠Tt:=cz cy hTn
 have nSY:S≠Y:=cz (sT _ _ cy) hYn
 have nTY:Tt≠Y:=cz cy hYn
 have nuS:tt≠S:=(cz (sY _ _ (sT _ _ cy)) httn).symm
 have nuT:tt≠Tt:=(cz (sY _ _ cy) httn).symm
 have nuY:tt≠Y:=(cz cy httn).symm
 have s05:=((sS.trans sT).trans sY).trans sU
 have fS:H S=none:=hSn
 have fT:H Tt=none:=sS.free hTn
 have fY:H Y=none:=(sS.trans sT).free hYn
 have fU:H tt=none:=((sS.trans sT).trans sY).free httn
 have hS5:=sU _ _ (sY _ _ (sT _ _ (show upd H S (.lst []) S=some (.lst []) from cy)))
 have hT5:=sU _ _ (sY _ _ (show upd (upd H S (.lst [])) Tt (.lst []) Tt=some (.lst []) from cy))
 have hY5:=sU _ _ (show upd (upd (upd H S (.lst [])) Tt (.lst [])) Y (.lst []) Y=some (.lst []) from cy)
 have hU5:upd (upd (upd (upd H S (.lst [])) Tt (.lst [])) Y (.lst [])) tt (.tup [.ref S,.ref Tt,.ref Y]) tt=some (.tup [.ref S,.ref Tt,.ref Y]):=cy
 generalize upd (upd (upd (upd H S (.lst [])) Tt (.lst [])) Y (.lst [])) tt (.tup [.ref S,.ref Tt,.ref Y])=H5 at s05 hS5 hT5 hY5 hU5
 have hc5:=s05 _ _ hc
 have hn5:=s05 _ _ hn
 have hcl5:=s05 _ _ hcl
 have keep:∀{b:Addr}{o:HO}{H6:Hp},(∀b o,H5 b=some o→b≠S→b≠Tt→b≠Y→H6 b=some o)→H b=some o→H6 b=some o:=fun kp e=>kp _ _ (s05 _ _ e) (cz e fS) (cz e fT) (cz e fY)
 clear sS sT sY sU hSn hTn hYn httn
 refine⟨_,rfl,c,_,rfl,.inl (cF.of hc5),(ns.length:Int),(by rw[nln]),by omega,by omega,gG (lo:=0) (n:=((ns.length:Nat):Int).toNat) (CH c nl cl tt S Tt Y H5 ps)
  ⟨[],[],[],none,none,none,none,none,none,none,none,none,rfl,hS5,hT5,hY5,fun b o e _ _ _=>e,by decide,le_refl 0,le_refl 0,le_refl 0,(fun v hv=>by cases hv),(fun v hv=>by cases hv),(fun v hv=>by cases hv)⟩ ?_ ?_⟩
 ·rintro i σ H6 hi ⟨ss,ts,ys,e1,e2,e3,e4,e5,e6,e7,e8,e9,rfl,hs6,ht6,hy6,kp,ls,li,lt,ly,gs,gt,gy⟩
  rw[Int.toNat_natCast]at hi
  have hc6:=keep kp hc
  have hn6:=keep kp hn
  have hcl6:=keep kp hcl
  have hu6:=kp _ _ hU5 nuS nuT nuY
  have av:oH (ns.map V.int) ((0:Int)+(i:Int))=some (.int ns[i]):=by
   rw[Int.zero_add]
   exact cQ (by rw[getElem?_map,getElem?_eq_getElem hi];rfl)
  refine⟨_,rfl,_,rfl,xL hc6 av ⟨_,rfl,_,_,rfl,by omega,by omega,fun N n0 n1=>?_⟩⟩
  refine⟨_,rfl,_,rfl,_,rfl,nl,_,rfl,.inl (cF.of hn6),_,_,_,rfl,n0,by omega,by rw[pl];omega,fun t a f st H7 s7 htp a0 a20 f0 fm st0=>?_⟩
  rw[pl]at fm
  obtain⟨y1,ay1,my1⟩:=vZ f0 fm
  have om:=cP (f+st) (m:=(ps.length:Int)) (by omega)
  obtain⟨y2,ay2,my2⟩:=vZ om.1 om.2
  have hn7:=s7 _ _ hn6
  have hcl7:=s7 _ _ hcl6
  have hu7:=s7 _ _ hu6
  have hs7:=s7 _ _ hs6
  have ht7:=s7 _ _ ht6
  have hy7:=s7 _ _ hy6
  have kp7:∀b o,H5 b=some o→b≠S→b≠Tt→b≠Y→H7 b=some o:=fun b o e n1 n2 n3=>s7 _ _ (kp b o e n1 n2 n3)
  have gs7:∀v∈ss,dS ps H7 v:=fun v hv=>(gs v hv).mono (Tk.of s7)
  have gt7:∀v∈ts,eN ps H7 v:=fun v hv=>(gt v hv).mono (Tk.of s7)
  have gy7:∀v∈ys,fH ps H7 v:=fun v hv=>(gy v hv).mono (Tk.of s7)
  refine⟨t,_,rfl,dq.of htp,rfl,_,_,rfl,_,_,rfl,_,_,rfl,rfl,?_⟩
  refine⟨_,rfl,_,rfl,xL hn7 ay1 ?_⟩
  refine⟨_,rfl,_,rfl,_,rfl,_,_,rfl,rfl,_,rfl,nl,_,rfl,.inl (cF.of hn7),_,_,rfl,rfl,(by rw[pl];omega),xL hn7 (by rw[pl];exact ay2) ?_⟩
  obtain⟨hr,eH,iH,kH⟩:=kf ck (i:=a) a0 a20
  clear htp s7 gs gt gy hs6 ht6 hy6 kp hu6 hn6 hcl6 hc6
  refine both (G:=ss.length < 24→_) ?_ fun put=>both (G:=_) ?_ fun other=>⟨_,rfl,rfl,_,rfl,cW (fun hk=>c9 (put ?_)) (fun _=>⟨_,rfl,_,_,rfl,rfl,(by show(0:Int) < 8;decide),rfl,_,rfl,cW (fun _=>⟨_,rfl,xT hu7 rfl ⟨S,_,rfl,.inl (cF.of hs7),_,_,rfl,rfl,_,rfl,cW (fun h24=>put ?_) (fun _=>other)⟩⟩) (fun _=>cN other)⟩)⟩
  ·intro h24
   refine⟨_,rfl,xT hu7 rfl ⟨.inl ⟨rfl,_,cF.of hs7⟩,_,rfl,_,rfl,_,rfl,xL hcl7 eH ⟨E4,fun ta hta=>⟨oG,fun tp htp=>?_⟩⟩⟩⟩
   have s8:=cA.upd (o:=.tup [.str "red"]) hta
   have s9:=s8.trans (cA.upd (o:=.tup [.str y1,.int hr,.ref ta]) htp)
   refine⟨S,ss,.ref tp,rfl,rfl,s9 _ _ hs7,by omega,?_⟩
   have tk:=(Tk.of s9).trans (Tk.upd (s9 _ _ hs7) (ys:=ss++[.ref tp]))
   have n1:tp≠S:=(cz (s8 _ _ hs7) htp).symm
   have n2:ta≠S:=(cz hs7 hta).symm
   refine⟨ss++[.ref tp],ts,ys,_,_,_,_,_,_,_,_,_,rfl,cy,(by rw[cC nST.symm];exact s9 _ _ ht7),(by rw[cC nSY.symm];exact s9 _ _ hy7),fun b o e n1 n2 n3=>(by rw[cC n1];exact s9 _ _ (kp7 b o e n1 n2 n3)),(by rw[length_append];show ss.length+1≤24;omega),(by rw[length_append];show ss.length+1≤i+1;omega),by omega,by omega,fun v hv=>?_,fun v hv=>(gt7 v hv).mono tk,fun v hv=>(gy7 v hv).mono tk⟩
   rw[mem_append,mem_singleton]at hv
   rcases hv with hv|rfl
   ·exact(gs7 v hv).mono tk
   ·exact⟨tp,y1,hr,ta,["red"],rfl,(by rw[cC n1];exact cy),my1,kH,(by rw[cC n2];exact(cA.upd htp) _ _ cy),by decide,by decide,fun x hx=>by rw[mem_singleton]at hx;rw[hx];exact Dk⟩
  ·refine both (G:=_) ?_ fun saying=>⟨_,rfl,_,_,rfl,rfl,(by show(0:Int) < 8;decide),_,_,rfl,rfl,_,rfl,cW (fun _=>c9 saying) (fun _=>⟨_,rfl,_,rfl,rfl,_,rfl,cW (fun _=>saying) (fun hne=>?_)⟩)⟩
   ·refine⟨_,rfl,_,rfl,_,rfl,_,rfl,_,rfl,N,a,y1,y2,cl,hs,ps,rfl,hcl7,ck,a0,a20,my1,my2,fun v d H8 s8 sd8 w8=>?_⟩
    obtain⟨b,rfl,hb⟩:=sd8
    have keep8:∀{b:Addr}{o:HO},H7 b=some o→H8 b=some o:=fun e=>s8 _ _ e
    have eF:CH c nl cl tt S Tt Y H5 ps (i+1) [some (.ref c),some (.ref nl),some (.ref cl),some (.ref tt),some (.int (0+(i:Int))),some (.int N),some (.int a),some (.int f),some (.int st),some (.str y1),some (.str y2),some (.ref b),e9] H8:=
     ⟨ss,ts,ys,_,_,_,_,_,_,_,_,_,rfl,s8 _ _ hs7,s8 _ _ ht7,s8 _ _ hy7,fun b o e n1 n2 n3=>s8 _ _ (kp7 b o e n1 n2 n3),ls,by omega,by omega,by omega,fun v hv=>(gs7 v hv).mono (Tk.of s8),fun v hv=>(gt7 v hv).mono (Tk.of s8),fun v hv=>(gy7 v hv).mono (Tk.of s8)⟩
    obtain⟨v1,v2,av1,av2,sc12,ok12⟩:=E7 w8
    refine⟨_,rfl,xT hb av1 ⟨_,rfl,xT hb av2 ⟨sc12,_,rfl,cW (fun hne=>?_) (fun _=>eF)⟩⟩⟩
    have ok:=ok12 fun e=>by rw[decide_eq_true e]at hne;cases hne
    have si:=Es ⟨b,rfl,hb⟩ ok
    refine⟨_,rfl,xT (s8 _ _ hu7) rfl ⟨.inl ⟨rfl,_,cF.of (s8 _ _ hy7)⟩,_,rfl,Y,ys,.ref b,rfl,rfl,s8 _ _ hy7,by omega,?_⟩⟩
    have tk:=(Tk.of s8).trans (Tk.upd (s8 _ _ hy7) (ys:=ys++[.ref b]))
    refine⟨ss,ts,ys++[.ref b],_,_,_,_,_,_,_,_,_,rfl,(by rw[cC nSY];exact s8 _ _ hs7),(by rw[cC nTY];exact s8 _ _ ht7),cy,fun b o e n1 n2 n3=>(by rw[cC n3];exact s8 _ _ (kp7 b o e n1 n2 n3)),ls,by omega,by omega,(by rw[length_append];show ys.length+1≤i+1;omega),fun v hv=>(gs7 v hv).mono tk,fun v hv=>(gt7 v hv).mono tk,fun v hv=>?_⟩
    rw[mem_append,mem_singleton]at hv
    rcases hv with hv|rfl
    ·exact(gy7 v hv).mono tk
    ·exact si.mono (Tk.upd (s8 _ _ hy7))
   ·obtain⟨wv,hw,hwm⟩:=Cu (xs:=[V.str "both",V.str "one"]) (i:=N / 8192 % 2) (Int.emod_nonneg _ (by decide)) (by
     have:N / 8192 % 2 < 2:=Int.emod_lt_of_pos _ (by decide)
     show _ < (2:Int)
     omega)
    have hwy:∃wy:Str,wv=.str wy∧(wy= "both" ∨wy= "one"):=by
     simp only[mem_cons,not_mem_nil,or_false]at hwm
     rcases hwm with rfl|rfl
     ·exact⟨_,rfl,.inl rfl⟩
     ·exact⟨_,rfl,.inr rfl⟩
    obtain⟨wy,rfl,hwy⟩:=hwy
    refine⟨CK,fun b3 hb3=>?_⟩
    have s8:=cA.upd (o:=.lst [.str "both",.str "one"]) hb3
    refine⟨_,rfl,_,_,rfl,rfl,⟨by decide,by decide⟩,_,_,rfl,rfl,(by show(0:Int) < 2;decide),xL cy hw ?_⟩
    refine⟨_,rfl,xT (s8 _ _ hu7) rfl ⟨.inl ⟨rfl,_,cF.of (s8 _ _ ht7)⟩,_,rfl,_,rfl,xL (s8 _ _ hcl7) eH ⟨_,rfl,_,rfl,_,rfl,HN,fun tp htp=>?_⟩⟩⟩
    have s9:=s8.trans (cA.upd (o:=.tup [.int hr,.str y1,.str y2,.str wy]) htp)
    refine⟨Tt,ts,.ref tp,rfl,rfl,s9 _ _ ht7,by omega,?_⟩
    have tk:=(Tk.of s9).trans (Tk.upd (s9 _ _ ht7) (ys:=ts++[.ref tp]))
    have n1:tp≠Tt:=(cz (s8 _ _ ht7) htp).symm
    refine⟨ss,ts++[.ref tp],ys,_,_,_,_,_,_,_,_,_,rfl,(by rw[cC nST];exact s9 _ _ hs7),cy,(by rw[cC nTY.symm];exact s9 _ _ hy7),fun b o e n1 n2 n3=>(by rw[cC n2];exact s9 _ _ (kp7 b o e n1 n2 n3)),ls,by omega,(by rw[length_append];show ts.length+1≤i+1;omega),by omega,fun v hv=>(gs7 v hv).mono tk,fun v hv=>?_,fun v hv=>(gy7 v hv).mono tk⟩
    rw[mem_append,mem_singleton]at hv
    rcases hv with hv|rfl
    ·exact(gt7 v hv).mono tk
    ·exact⟨tp,hr,y1,y2,wy,rfl,(by rw[cC n1];exact cy),kH,my1,my2,fun e=>hne (decide_eq_true (congrArg V.str e)),hwy⟩
  ·have:((0:Int)+(i:Int))=0:=by injection of_decide_eq_true hk
   omega
  ·rw[decide_eq_true_iff]at h24
   omega
 ·rintro σ H6 ⟨ss,ts,ys,e1,e2,e3,e4,e5,e6,e7,e8,e9,rfl,hs6,ht6,hy6,kp,ls,li,lt,ly,gs,gt,gy⟩
  rw[Int.toNat_natCast]at li lt ly
  refine⟨_,rfl,k tt S Tt Y ss ts ys H6 (fun b o e=>keep kp e) fU fS fT fY ?_ (kp _ _ hU5 nuS nuT nuY) hs6 ht6 hy6 ls (by omega) (by omega) gs gt gy⟩
  simp only[nodup_cons,mem_cons,not_mem_nil,or_false,not_or,nodup_nil,and_true,not_false_eq_true]
  exact⟨⟨nuS,nuT,nuY⟩,⟨nST,nSY⟩,nTY⟩
def SK(kvs:List (Key×V))(zs:List Str):Prop:=kvs.map (·.1)=zs.map Sum.inr
def Au(kvs:List (Key×V)):Prop:=∃zs,SK kvs zs∧zs.Nodup
theorem t9{kvs:List (Key×V)}{zs:List Str}{z:Str}(h:SK kvs zs):z∈zs↔(cS kvs (Sum.inr z)).isSome=true:=by
 rw[←fF,any_eq_true]
 constructor
 ·intro m
  have:Sum.inr z∈kvs.map (·.1):=by rw[show kvs.map (·.1)=zs.map Sum.inr from h];exact List.mem_map_of_mem m
  obtain⟨kv,m1,e⟩:=mem_map.mp this
  exact⟨kv,m1,decide_eq_true e⟩
 ·rintro⟨kv,m,e⟩
  have:(Sum.inr z:Key)∈zs.map Sum.inr:=by rw[←show kvs.map (·.1)=zs.map Sum.inr from h,←of_decide_eq_true e];exact List.mem_map_of_mem m
  obtain⟨y,m1,e1⟩:=mem_map.mp this
  cases e1
  exact m1
theorem u7{kvs:List (Key×V)}{z:Str}{v:V}(h:Au kvs):Au (putK kvs (Sum.inr z) v):=by
 obtain⟨zs,h,nd⟩:=h
 have e0:kvs.map (·.1)=zs.map Sum.inr:=h
 unfold putK
 rw[fF]
 cases c:(cS kvs (Sum.inr z)).isSome with
 |true=>
  rw[if_pos rfl]
  refine⟨zs,?_,nd⟩
  show(kvs.map _).map _=_
  rw[←e0,map_map]
  refine map_congr_left fun kv _=>?_
  show(if kv.1=_ then(kv.1,v) else kv).1=kv.1
  split<;>rfl
 |false=>
  rw[if_neg Bool.false_ne_true]
  refine⟨zs++[z],?_,List.nodup_append.mpr ⟨nd,nodup_cons.mpr ⟨not_mem_nil,nodup_nil⟩,fun a ha b hb e=>?_⟩⟩
  ·show(kvs++[_]).map _=_
   rw[map_append,map_append,e0]
   rfl
  ·rw[mem_singleton.mp hb]at e
   have:=(t9 h).mp (e ▸ ha)
   rw[c]at this
   cases this
theorem nH:∀{zs ps:List Str},zs.Nodup→(∀z∈zs,z∈ps)→zs.length≤ps.length
 |[],_,_,_=>zero_le _
 |z::r,ps,nd,m=>by
  obtain⟨n1,n2⟩:=nodup_cons.mp nd
  have mz:=m z mem_cons_self
  have:=nH (ps:=ps.erase z) n2 fun y hy=>(List.mem_erase_of_ne fun e=>n1 (by rw[←e];exact hy)).mpr (m y (mem_cons_of_mem _ hy))
  rw[List.length_erase_of_mem mz]at this
  have pl:=List.length_pos_of_mem mz
  show r.length+1≤_
  omega
def J3(kvs:List (Key×V)):Prop:=∀(z:Str) (v:V),cS kvs (Sum.inr z)=some v→∃i:Int,v=.int i
def mE(F:Str→Option Int):SD→Bool
 |.knew q h=>match F q with
  |none=>false
  |some i=>decide (i≤h)
 |_=>true
inductive wL  (vs:List V)(H:Hp)(Q:VK):Prop
 |mk(y d:Addr)(ys:List V)(sd:List SD)(kvs:List (Key×V))(F:Str→Option Int)(h0:vs=[.ref y,.ref d])(h1:H y=some (.lst ys))(h2:Sys H ys sd)(h3:H d=some (.dK kvs))(h4:(∀z,cS kvs (Sum.inr z)=(F z).map V.int))(h5:Q (.bl (sd.all (mE F))) H)
def j9  :Sp:=fun vs H Q _=>wL  vs H Q
theorem pY:cD ["_law_sayings", "_law_found", "_law_row"] ["_law_sayings", "_law_found"] (cB iM):={}
theorem tK (D:Df K mg "_law_knew_so" iM ["_law_sayings", "_law_found"] f fd):Gd P w K mg base 1 "_law_knew_so" j9:=by
 refine aE D pY fun X H vs Q E hh h=>?_
 obtain⟨y,m,ys,sd,kvs,F,rfl,hy,sy,hm,get,k⟩:=h
 obtain⟨S0,S1,S2,_⟩:=hh.dZ [0,1,2]
 have hu:=eG hh.room
 refine⟨_,(ag (a8 hh.own hh.calm (aQ (aa S0)) (aF S2 hh.nd)
 (ah (aH (aY (bf (aB aK (af az (aa S2) ae ak) aP (L2.cE _)) (bC (aY (bN (J.kB hu (af az (aa S2) ae ak) (aa S1)) (bO (aB bP (bq hu (aa S1) (af az (aa S2) ae ak) J.uJ) (af az (aa S2) ae ak) (L2.cE _))))))))
 (ah (aw a5))
 aJ)))
 (ah (aw a5))),?_⟩
 refine⟨_,rfl,y,rfl,⟨_,cF.of hy⟩,dk (K:=X.K) (a:=y) (xs:=ys) (fun i σ H2=>∃e:Option V,σ=[some (.ref y),some (.ref m),e]∧H2=H∧∀d∈sd.take i,mE F d=true)
  ⟨none,rfl,rfl,fun d hd=>by cases hd⟩ ?_ ?_ ?_⟩
 ·rintro i σ H2 hi ⟨e,rfl,rfl,al⟩
  exact cF.of hy
 ·rintro i v σ H2 hv ⟨e,rfl,rfl,al⟩
  obtain⟨d,a,hd,rfl,ha⟩:=sy.at hv
  have nx:mE F d=true→∃e:Option V,[some (V.ref y),some (.ref m),some (.ref a)]=[some (.ref y),some (.ref m),e]∧H2=H2∧∀d∈sd.take (i+1),mE F d=true:=fun o=>⟨_,rfl,rfl,fun d' hd'=>by
   rw[take_add_one,hd,mem_append]at hd'
   rcases hd' with h|h
   ·exact al d' h
   ·rw[mem_singleton.mp h]
    exact o⟩
  have no:mE F d=false→Q (.bl false) H2:=fun o=>by
   have e:sd.all (mE F)=false:=List.all_eq_false.mpr ⟨d,mem_of_getElem? hd,by rw[o];exact Bool.false_ne_true⟩
   rw[←e]
   exact k
  cases d with
  |unh q i'=>exact⟨_,rfl,xT ha rfl ⟨rfl,_,rfl,iN (cN (nx rfl))⟩⟩
  |sil q b e'=>exact⟨_,rfl,xT ha rfl ⟨rfl,_,rfl,iN (cN (nx rfl))⟩⟩
  |bar q q'=>exact⟨_,rfl,xT ha rfl ⟨rfl,_,rfl,iN (cN (nx rfl))⟩⟩
  |knew q h=>
   have dg:=ei.k (k:=Sum.inr q) hm
   rw[get]at dg
   have ke:mE F (.knew q h)=(match F q with|none=>false|some i=>decide (i≤h)):=rfl
   refine⟨_,rfl,xT ha rfl ⟨rfl,_,rfl,iP ⟨_,rfl,xT ha rfl ⟨_,rfl,m,_,rfl,dg,_,rfl,?_⟩⟩⟩⟩
   cases hF:F q with
   |none=>
    rw[hF]at ke
    exact fc rfl (c9 (no ke))
   |some j=>
    rw[hF]at ke dg
    refine ig Bool.false_ne_true ⟨_,rfl,_,rfl,xT ha rfl ⟨m,_,rfl,dg,_,rfl,xT ha rfl ⟨_,_,rfl,rfl,_,rfl,cW (fun e=>no ?_) (fun e=>nx ?_)⟩⟩⟩
    ·rw[ke]
     have:=of_decide_eq_true e
     exact decide_eq_false (by omega)
    ·rw[ke]
     have:¬j > h:=fun x=>e (decide_eq_true x)
     exact decide_eq_true (by omega)
 ·rintro σ H2 ⟨e,rfl,rfl,al⟩
  rw[sy.1,take_length]at al
  rw[all_eq_true.mpr al]at k
  exact k
abbrev FH:=Str→Option Int
def mv:Option Int→Nat
 |none=>1000000000000000002
 |some i=>i.toNat
def nv:Option Int→Nat
 |none=>1
 |some _=>0
def mu(g:Option Int→Nat)(F:FH):List Str→Nat
 |[]=>0
 |z::r=>g (F z)+mu g F r
def gU(F:FH)(z:Str)(h:Int):FH:=fun y=>if y=z then some h else F y
theorem dE{F:FH}{z:Str}{h:Int}:gU F z h z=some h:=if_pos rfl
theorem dI{F:FH}{z y:Str}{h:Int}(n:¬y=z):gU F z h y=F y:=if_neg n
theorem zw{g:Option Int→Nat}{F:FH}{z:Str}{h:Int}(l:g (some h)≤g (F z)):∀ps:List Str,mu g (gU F z h) ps≤mu g F ps
 |[]=>le_refl _
 |y::r=>by
  have ih:=zw l r
  show g (gU F z h y)+mu g (gU F z h) r≤g (F y)+mu g F r
  by_cases e:y=z
  ·subst e
   rw[dE]
   omega
  ·rw[dI e]
   omega
theorem yZ{g:Option Int→Nat}{F:FH}{z:Str}{h:Int}(l:g (some h) < g (F z)):∀ps:List Str,z∈ps→mu g (gU F z h) ps < mu g F ps
 |[],m=>by cases m
 |y::r,m=>by
  have ih:=zw (le_of_lt l) r
  show g (gU F z h y)+mu g (gU F z h) r < g (F y)+mu g F r
  by_cases e:y=z
  ·subst e
   rw[dE]
   omega
  ·rw[dI e]
   rcases mem_cons.mp m with e'|m'
   ·exact absurd e'.symm e
   ·have:=yZ l r m'
    omega
theorem vY:∀ps:List Str,mu nv (fun _=>none) ps=ps.length
 |[]=>rfl
 |z::r=>by
  show 1+mu nv (fun _=>none) r=r.length+1
  rw[vY r]
  omega
structure Ag(R:Str→Int→Prop)(ps:List Str)(kvs:List (Key×V))(F:FH):Prop where
 get:∀z,cS kvs (Sum.inr z)=(F z).map V.int
 ok:∀z i,F z=some i→cO i
 rc:∀z i,F z=some i→R z i
 len:kvs.length+mu nv F ps≤ps.length
 sk:Au kvs
theorem Ag.new{R:Str→Int→Prop}{ps:List Str}:Ag R ps [] (fun _=>none):=⟨fun _=>rfl,(fun _ _ e=>by cases e),(fun _ _ e=>by cases e),(by rw[vY];show 0+_≤_;omega),⟨[],rfl,nodup_nil⟩⟩
theorem Ag.put{R:Str→Int→Prop}{ps:List Str}{kvs:List (Key×V)}{F:FH}{z:Str}{h:Int}(d:Ag R ps kvs F)(hz:z∈ps)(hh:cO h)(hc:R z h):Ag R ps (putK kvs (Sum.inr z) (.int h)) (gU F z h):=by
 refine⟨fun y=>?_,fun y i e=>?_,fun y i e=>?_,?_,u7 d.sk⟩
 ·rw[dY]
  by_cases e:y=z
  ·subst e
   rw[if_pos rfl,dE]
   rfl
  ·rw[if_neg (fun q=>e (Sum.inr.inj q)),dI e]
   exact d.get y
 ·by_cases q:y=z
  ·subst q
   rw[dE]at e
   cases e
   exact hh
  ·rw[dI q]at e
   exact d.ok y i e
 ·by_cases q:y=z
  ·subst q
   rw[dE]at e
   cases e
   exact hc
  ·rw[dI q]at e
   exact d.rc y i e
 ·have dl:=d.len
  unfold putK
  rw[fF,d.get z]
  cases hF:F z with
  |none=>
   have:=yZ (g:=nv) (F:=F) (z:=z) (h:=h) (by rw[hF];exact Nat.zero_lt_one) ps hz
   show(kvs++[_]).length+_≤_
   rw[length_append]
   show kvs.length+1+_≤_
   omega
  |some j=>
   have:=zw (g:=nv) (F:=F) (z:=z) (h:=h) (zero_le _) ps
   show(kvs.map _).length+_≤_
   rw[length_map]
   omega
def Hl(F:FH)(g:GD):Prop:=∃j,F g.1=some j∧j≤g.2
def EU(qd:List QD)(F:FH)(t:TK):Prop:=∀a,F t.2.1=some a→a < cY qd t.1→∃b,F t.2.2=some b∧b≤cY qd t.1
theorem Hl.set{F:FH}{g:GD}{z:Str}{m:Int}(h:Hl F g)(l:∀j,F z=some j→m≤j):Hl (gU F z m) g:=by
 obtain⟨j,e,k⟩:=h
 by_cases q:g.1=z
 ·have:=l j (by rw[←q];exact e)
  exact⟨m,(by rw[q];exact dE),by omega⟩
 ·exact⟨j,(by rw[dI q];exact e),k⟩
def p0(sg:List GD)(F:FH)(ix:List Nat):Prop:=∀i∈ix,∀g,sg[i]? =some g→Hl F g
theorem p0.set{sg:List GD}{F:FH}{ix:List Nat}{z:Str}{m:Int}(h:p0 sg F ix)(l:∀j,F z=some j→m≤j):p0 sg (gU F z m) ix:=fun i hi g hg=>(h i hi g hg).set l
theorem pJ{α:Type}{l:List α}{i:Nat}{x y:α}(h:l[i]? =some x)(m:y∈l.take (i+1)):y∈l.take i∨y=x:=by
 rw[take_add_one,h,mem_append]at m
 rcases m with m|m
 ·exact .inl m
 ·exact .inr (mem_singleton.mp m)
inductive gS(sg:List GD)(qd:List QD)(ix:List Nat)(ks:List TK):Str→Int→Prop
 |saw {i:Nat}{g:GD}(m:i∈ix)(e:sg[i]? =some g):gS sg qd ix ks g.1 g.2
 |hrd {t:TK}{h':Int}(m:t∈ks)(r:gS sg qd ix ks t.2.1 h')(l:h' < cY qd t.1):gS sg qd ix ks t.2.2 (cY qd t.1)
inductive Ik(vs:List V)(H:Hp)(Q:VK):Prop
 |mk(th nb tl s t y:Addr)(ps:List Str)(ss ts us:List V)(sg:List GD)(qd:List QD)(ix:List Nat)(ks:List TK)(e:vs=[.ref th,.ref nb,.ref tl])(hth:H th=some (.tup [.ref s,.ref t,.ref y]))(hs:H s=some (.lst ss))(ht:H t=some (.lst ts))(hnb:H nb=some (.lst (ix.map fun i=>V.int (i:Nat))))(htl:H tl=some (.lst us))
   (gs:Lz c8 H ss sg)(gk:∀d∈sg,d.1∈ps∧cO d.2)(qs:Lz du H ts qd)(qk:∀d∈qd,cO d.1)(tu:eI H us ks)(kk:∀t∈ks,t.1 < qd.length∧t.2.2∈ps)(ik:∀i∈ix,i < sg.length)(pl:ps.length≤24)
   (k:∀(d:Addr)(kvs:List (Key×V))(F:FH)(H':Hp),cA H H'→H d=none→H' d=some (.dK kvs)→Ag (gS sg qd ix ks) ps kvs F→p0 sg F ix→(∀t∈ks,EU qd F t)→Q (.ref d) H')
def vD:Sp:=fun vs H Q _=>Ik vs H Q
inductive Jj(R:Str→Int→Prop)(th nb tl s t y d:Addr)(H1:Hp)(ps:List Str)(sg:List GD)(ix:List Nat)(i:Nat)(σ:St)(H2:Hp):Prop
 |mk(e1:Option V)(kvs:List (Key×V))(F:FH)(e:σ=[some (.ref th),some (.ref nb),some (.ref tl),some (.ref s),some (.ref t),some (.ref y),some (.ref d),e1,none,none,none,none,none])(kp:∀b o,H1 b=some o→b≠d→H2 b=some o)(hd:H2 d=some (.dK kvs))(hr:Ag R ps kvs F)(so:p0 sg F (ix.take i))
inductive Jn(R:Str→Int→Prop)(th nb tl s t y d:Addr)(H1:Hp)(ps:List Str)(sg:List GD)(qd:List QD)(ix:List Nat)(ks:List TK)(m:Nat)(σ:St)(H2:Hp):Prop
 |mk(b:Bool)(e1 e2 e3 e4 e5:Option V)(kvs:List (Key×V))(F:FH)(e:σ=[some (.ref th),some (.ref nb),some (.ref tl),some (.ref s),some (.ref t),some (.ref y),some (.ref d),e1,some (.bl b),e2,e3,e4,e5])(kp:∀b o,H1 b=some o→b≠d→H2 b=some o)(hd:H2 d=some (.dK kvs))(hr:Ag R ps kvs F)(so:p0 sg F ix)(to:b=false→∀t∈ks,EU qd F t)(me:m=2 * mu mv F ps+b.toNat)
inductive Ih(R:Str→Int→Prop)(th nb tl s t y d:Addr)(H1:Hp)(ps:List Str)(sg:List GD)(qd:List QD)(ix:List Nat)(ks:List TK)(F0:FH)(i:Nat)(σ:St)(H2:Hp):Prop
 |mk(b:Bool)(e1 e2 e3 e4 e5:Option V)(kvs:List (Key×V))(F:FH)(e:σ=[some (.ref th),some (.ref nb),some (.ref tl),some (.ref s),some (.ref t),some (.ref y),some (.ref d),e1,some (.bl b),e2,e3,e4,e5])(kp:∀b o,H1 b=some o→b≠d→H2 b=some o)(hd:H2 d=some (.dK kvs))(hr:Ag R ps kvs F)(so:p0 sg F ix)(to:b=false→F=F0∧∀t∈ks.take i,EU qd F t)(me:b=true→mu mv F ps < mu mv F0 ps)
theorem uS:cD ["_law_things_here", "_law_numbers", "_law_tellings_here", "_law_sights", "_law_talks", "_law_sayings", "_law_found", "_law_i", "_law_changing", "_law_k", "_law_teller", "_law_hearer", "_law_when"] ["_law_things_here", "_law_numbers", "_law_tellings_here"] (cB k6):={}
theorem ze (D:Df K mg "_law_hours" k6 ["_law_things_here", "_law_numbers", "_law_tellings_here"] f fd) (T:Txt K mg kw C):Gd P w K mg base 1 "_law_hours" vD:=by
 refine aE D uS fun X H vs Q E hh h=>?_
 obtain⟨th,nb,tl,s,t,y,ps,ss,ts,us,sg,qd,ix,ks,rfl,hth,hs,ht,hnb,htl,gs,gk,qs,qk,tu,kk,ik,pl,k⟩:=h
 obtain⟨S0,S1,S2,S3,S4,S5,S6,S7,S8,S9,S10,S11,S12,_⟩:=hh.dZ [0,1,2,3,4,5,6,7,8,9,10,11,12]
 have B_min:=hh.b T.b_min
 have hu:=eG hh.room
 have hsz:sizeLine=16777216:=sizeLine_eq
 have small:∀{kvs:List (Key×V)}{F:FH},Ag (gS sg qd ix ks) ps kvs F→kvs.length < sizeLine:=fun hr=>by
  have:=hr.len
  omega
 clear hsz
 refine⟨_,(ag (bU (aa S0) (bE hh.calm (aI (aF S3 hh.nd) (aI (aF S4 hh.nd) (aI (aF S5 hh.nd) bp)))))
 (ag (aA S6 hh.nd cv)
 (ag (a8 hh.own hh.calm (aQ (aa S1)) (aF S7 hh.nd)
 (ah (bV hu (aa S6) (af az (af aV (aa S3) (aa S7) aO) ae ak) (aL B_min (J.fu hh.calm) L2.pQ (aD (af az (af aV (aa S3) (aa S7) aO) ae ak) (J.FU hu (aa S6) (af az (af aV (aa S3) (aa S7) aO) ae ak) (af az (af aV (aa S3) (aa S7) aO) ae ak)))))))
 (ag (aA S8 hh.nd a5)
 (ag (J.IB hh.own (J.vV (aa S8))
 (ag (aA S8 hh.nd a5)
 (ah (a8 hh.own hh.calm (aQ (aa S2)) (bE hh.calm (aI (aF S9 hh.nd) (aI (aF S10 hh.nd) (aI (aF S11 hh.nd) bp))))
 (ag (aA S12 hh.nd (af az (af aV (aa S4) (aa S9) aO) ae ak))
 (ah (aH (aY (bf (J.qN hu (aa S10) (aa S6)) (bf (aB bS (bq hu (aa S6) (aa S10) aO) (aa S12) (L2.cE _)) (bC (aB bP (J.FU hu (aa S6) (aa S11) (au bg (aa S12) ae)) (aa S12) (L2.cE _))))))
 (ag (bV hu (aa S6) (aa S11) (aa S12))
 (ah (aA S8 hh.nd a5)))
 aJ)))))))
 (ah (aw (aa S6)))))))),?_⟩
 refine⟨_,rfl,th,_,rfl,dq.of hth,rfl,_,_,rfl,_,_,rfl,_,_,rfl,rfl,fun d hdn=>?_⟩
 have s1:=cA.upd (o:=.dK []) hdn
 have hd1:upd H d (.dK []) d=some (.dK []):=cy
 generalize upd H d (.dK [])=H1 at s1 hd1
 have keep:∀{b:Addr}{o:HO}{H2:Hp},(∀b o,H1 b=some o→b≠d→H2 b=some o)→H b=some o→H2 b=some o:=fun kp e=>kp _ _ (s1 _ _ e) (cz e hdn)
 refine⟨_,rfl,nb,rfl,⟨_,cF.of (s1 _ _ hnb)⟩,dk (K:=X.K) (a:=nb) (xs:=ix.map fun i=>V.int (i:Nat)) (Jj (gS sg qd ix ks) th nb tl s t y d H1 ps sg ix)
  ⟨none,[],_,rfl,fun b o e _=>e,hd1,Ag.new,(fun i hi=>by cases hi)⟩ ?_ ?_ ?_⟩
 ·rintro i σ H2 hi ⟨e1,kvs,F,rfl,kp,hd,hr,so⟩
  exact cF.of (keep kp hnb)
 ·rintro i v σ H2 hv ⟨e1,kvs,F,rfl,kp,hd,hr,so⟩
  rw[getElem?_map]at hv
  obtain⟨n,hn,rfl⟩:=map_eq_some_iff.mp hv
  have hnl:=ik n (mem_of_getElem? hn)
  obtain⟨g,hg⟩:∃g,sg[n]? =some g:=⟨_,getElem?_eq_getElem hnl⟩
  obtain⟨vg,hvg⟩:∃vg,ss[n]? =some vg:=⟨_,getElem?_eq_getElem (by rw[gs.1];exact hnl)⟩
  obtain⟨a,ta,rfl,ha⟩:=gs.2 _ _ _ hvg hg
  have gk':=gk g (mem_of_getElem? hg)
  have hs2:=keep kp hs
  have ha2:=keep kp ha
  have dg:=ei.k (k:=Sum.inr g.1) hd
  rw[hr.get]at dg
  have put:∀m:Int,cO m→gS sg qd ix ks g.1 m→m≤g.2→(∀j,F g.1=some j→m≤j)→Jj (gS sg qd ix ks) th nb tl s t y d H1 ps sg ix (i+1) [some (.ref th),some (.ref nb),some (.ref tl),some (.ref s),some (.ref t),some (.ref y),some (.ref d),some (.int (n:Nat)),none,none,none,none,none] (upd H2 d (.dK (putK kvs (Sum.inr g.1) (.int m)))):=fun m mo mc ml mj=>
   ⟨_,_,_,rfl,(fun b o e n'=>by rw[cC n'];exact kp b o e n'),cy,hr.put gk'.1 mo mc,fun q hq g' hg'=>by
    rcases pJ hn hq with hq|rfl
    ·exact(so q hq g' hg').set mj
    ·rw[hg]at hg'
     cases hg'
     exact⟨m,dE,ml⟩⟩
  have lk:kvs.length < sizeLine:=small hr
  cases hF:F g.1 with
  |none=>
   rw[hF]at dg
   exact⟨_,rfl,_,rfl,xL hs2 (cQ hvg) (xT ha2 rfl ⟨_,rfl,d,rfl,.inl ⟨_,.inl hd⟩,_,rfl,_,rfl,xL hs2 (cQ hvg) (xT ha2 rfl ⟨_,rfl,_,rfl,xL hs2 (cQ hvg) (xT ha2 rfl ⟨_,dg,g.2,g.2,rfl,_,rfl,_,rfl,_,rfl,xL hs2 (cQ hvg) (xT ha2 rfl ⟨d,_,rfl,kF.k (k:=Sum.inr g.1) hd lk,put _ (by split<;>exact gk'.2) (by split<;>exact .saw (mem_of_getElem? hn) hg) (by split<;>omega) (fun j e=>by rw[hF]at e;cases e)⟩)⟩)⟩)⟩)⟩
  |some j=>
   rw[hF]at dg
   have jo:=hr.ok _ _ hF
   exact⟨_,rfl,_,rfl,xL hs2 (cQ hvg) (xT ha2 rfl ⟨_,rfl,d,rfl,.inl ⟨_,.inl hd⟩,_,rfl,_,rfl,xL hs2 (cQ hvg) (xT ha2 rfl ⟨_,rfl,_,rfl,xL hs2 (cQ hvg) (xT ha2 rfl ⟨_,dg,g.2,j,rfl,_,rfl,_,rfl,_,rfl,xL hs2 (cQ hvg) (xT ha2 rfl ⟨d,_,rfl,kF.k (k:=Sum.inr g.1) hd lk,put _ (by split;exact jo;exact gk'.2) (by split;exact hr.rc _ _ hF;exact .saw (mem_of_getElem? hn) hg) (by split<;>omega) (fun j' e=>by rw[hF]at e;cases e;split<;>omega)⟩)⟩)⟩)⟩)⟩
 ·rintro σ H2 ⟨e1,kvs,F,rfl,kp,hd,hr,so⟩
  rw[length_map,take_length]at so
  refine⟨Jn (gS sg qd ix ks) th nb tl s t y d H1 ps sg qd ix ks,⟨_,true,_,_,_,_,_,_,_,rfl,kp,hd,hr,so,(fun e=>by cases e),rfl⟩,?_⟩
  clear kp hd hr so
  rintro m σ H3 ⟨b,e1,e2,e3,e4,e5,kvs,F,rfl,kp,hd,hr,so,to,me⟩
  refine⟨_,rfl,b,rfl,?_⟩
  cases b with
  |false=>exact cN ⟨_,rfl,k d kvs F H3 (fun b o e=>keep kp e) hdn hd hr so (to rfl)⟩
  |true=>
   refine c9 ⟨fun σ' H'=>∃m',m' < m∧Jn (gS sg qd ix ks) th nb tl s t y d H1 ps sg qd ix ks m' σ' H',fun _ _ h=>h,?_⟩
   refine⟨_,rfl,tl,rfl,⟨_,cF.of (keep kp htl)⟩,dk (K:=X.K) (a:=tl) (xs:=us) (Ih (gS sg qd ix ks) th nb tl s t y d H1 ps sg qd ix ks F)
    ⟨false,_,_,_,_,_,kvs,F,rfl,kp,hd,hr,so,(fun _=>⟨rfl,fun t ht=>by cases ht⟩),fun e=>by cases e⟩ ?_ ?_ ?_⟩
   ·rintro i σ H4 hi ⟨b,e1,e2,e3,e4,e5,kvs,F',rfl,kp,hd,hr,so,to,me'⟩
    exact cF.of (keep kp htl)
   ·rintro i v σ H4 hv ⟨b,f1,f2,f3,f4,f5,kvs',F',rfl,kp',hd',hr',so',to',me'⟩
    obtain⟨tk,htk⟩:∃tk,ks[i]? =some tk:=⟨_,getElem?_eq_getElem (by rw[←tu.1];exact(List.getElem?_eq_some_iff.mp hv).1)⟩
    obtain⟨a,rfl,ha⟩:=tu.2 _ _ _ hv htk
    have kt:=kk tk (mem_of_getElem? htk)
    obtain⟨q,hq⟩:∃q,qd[tk.1]? =some q:=⟨_,getElem?_eq_getElem kt.1⟩
    obtain⟨vq,hvq⟩:∃vq,ts[tk.1]? =some vq:=⟨_,getElem?_eq_getElem (by rw[qs.1];exact kt.1)⟩
    obtain⟨aq,rfl,haq⟩:=qs.2 _ _ _ hvq hq
    have qo:=qk q (mem_of_getElem? hq)
    have ha4:=keep kp' ha
    have haq4:=keep kp' haq
    have ht4:=keep kp' ht
    have dt:=ei.k (k:=Sum.inr tk.2.1) hd'
    have dh:=ei.k (k:=Sum.inr tk.2.2) hd'
    rw[hr'.get]at dt dh
    have lk:kvs'.length < sizeLine:=small hr'
    have eF:EU qd F' tk→Ih (gS sg qd ix ks) th nb tl s t y d H1 ps sg qd ix ks F (i+1) [some (.ref th),some (.ref nb),some (.ref tl),some (.ref s),some (.ref t),some (.ref y),some (.ref d),f1,some (.bl b),some (.int (tk.1:Nat)),some (.str tk.2.1),some (.str tk.2.2),some (.int q.1)] H4:=fun ok=>
     ⟨b,_,_,_,_,_,kvs',F',rfl,kp',hd',hr',so',(fun e=>⟨(to' e).1,fun t' ht'=>by
      rcases pJ htk ht' with ht'|rfl
      ·exact(to' e).2 t' ht'
      ·exact ok⟩),me'⟩
    have put:gS sg qd ix ks tk.2.2 q.1→mv (some q.1) < mv (F' tk.2.2)→(∀j,F' tk.2.2=some j→q.1≤j)→Ih (gS sg qd ix ks) th nb tl s t y d H1 ps sg qd ix ks F (i+1) [some (.ref th),some (.ref nb),some (.ref tl),some (.ref s),some (.ref t),some (.ref y),some (.ref d),f1,some (.bl true),some (.int (tk.1:Nat)),some (.str tk.2.1),some (.str tk.2.2),some (.int q.1)] (upd H4 d (.dK (putK kvs' (Sum.inr tk.2.2) (.int q.1)))):=fun rc lt mj=>
     ⟨true,_,_,_,_,_,_,_,rfl,(fun b o e n'=>by rw[cC n'];exact kp' b o e n'),cy,hr'.put kt.2 qo rc,so'.set mj,(fun e=>by cases e),fun _=>by
      have l1:=yZ lt ps kt.2
      cases b with
      |false=>
       rw[(to' rfl).1]at l1
       rw[(to' rfl).1]
       exact l1
      |true=>
       have:=me' rfl
       omega⟩
    have hh1:=fj hq
    refine⟨a,_,rfl,dq.of ha4,rfl,_,_,rfl,_,_,rfl,_,_,rfl,rfl,?_⟩
    refine⟨_,rfl,_,rfl,xL ht4 (cQ hvq) (xT haq4 rfl ?_)⟩
    refine⟨_,rfl,_,rfl,d,_,rfl,dt,_,rfl,?_⟩
    cases hT:F' tk.2.1 with
    |none=>exact ig Bool.false_ne_true (cN (eF fun x e=>by rw[hT]at e;cases e))
    |some x=>
     rw[hT]at dt
     refine fc rfl ⟨_,rfl,_,rfl,d,_,rfl,dt,_,rfl,_,_,rfl,rfl,_,rfl,cW (fun lt=>?_) (fun nlt=>cN (eF fun x' e l=>?_))⟩
     ·have rc:gS sg qd ix ks tk.2.2 q.1:=by
       have:=gS.hrd (mem_of_getElem? htk) (hr'.rc _ _ hT) (by rw[hh1];exact of_decide_eq_true lt)
       rwa [hh1]at this
      cases hF:F' tk.2.2 with
      |none=>
       rw[hF]at dh
       refine⟨_,rfl,d,rfl,.inl ⟨_,.inl hd'⟩,_,rfl,_,rfl,_,_,rfl,rfl,_,dh,_,rfl,q.1+1,q.1,rfl,rfl,_,rfl,fc (decide_eq_true (by omega)) ⟨_,rfl,_,rfl,_,rfl,d,_,rfl,kF.k (k:=Sum.inr tk.2.2) hd' lk,put rc ?_ (fun j e=>by rw[hF]at e;cases e)⟩⟩
       rw[hF]
       show q.1.toNat < 1000000000000000002
       have h18:(10:Int) ^ Int.toNat 18=1000000000000000000:=by decide
       have:=qo.2
       rw[h18]at this
       omega
      |some j=>
       rw[hF]at dh
       have jo:=hr'.ok _ _ hF
       refine⟨_,rfl,d,rfl,.inl ⟨_,.inl hd'⟩,_,rfl,_,rfl,_,_,rfl,rfl,_,dh,_,rfl,j,q.1,rfl,rfl,_,rfl,cW (fun gt=>⟨_,rfl,_,rfl,_,rfl,d,_,rfl,kF.k (k:=Sum.inr tk.2.2) hd' lk,put rc ?_ ?_⟩) (fun ngt=>eF fun x' e l=>?_)⟩
       ·rw[hF]
        rw[decide_eq_true_iff]at gt
        show q.1.toNat < j.toNat
        have:=qo.1
        omega
       ·intro j' e
        rw[hF]at e
        cases e
        rw[decide_eq_true_iff]at gt
        omega
       ·rw[decide_eq_true_iff]at ngt
        exact⟨j,hF,by rw[hh1];omega⟩
     ·rw[hT]at e
      cases e
      rw[hh1]at l
      exact absurd (decide_eq_true l) nlt
   ·rintro σ H4 ⟨b,f1,f2,f3,f4,f5,kvs',F',rfl,kp',hd',hr',so',to',me'⟩
    rw[tu.1,take_length]at to'
    refine⟨_,?_,b,_,_,_,_,_,kvs',F',rfl,kp',hd',hr',so',fun e=>(to' e).2,rfl⟩
    cases b with
    |false=>
     rw[(to' rfl).1,me]
     exact lt_succ_self _
    |true=>
     have:=me' rfl
     rw[me]
     show 2 * _+1 < 2 * _+1
     omega
theorem Iv{te:TE}{σ:St}{H:Hp}{K1:VK}{K2:Hp→Prop}(h:te σ H K1):sJ σ H fun b H5=>if b=true then te σ H5 K1 else K2 H5:=h
theorem AU{J:It}{n:Nat}{is:List Nat}{g:TG}{te:TE}{σ:St}{H:Hp}{Q:VK}{N:Nat}(R:Nat→Hp→V→Prop)(mono:∀j v H H',Tk H H'→R j H v→R j H' v)(hz:N≤sizeLine)(hgo:∀i H2,cA H H2→i < N→J.go i H2)(hstop:∀H2,cA H H2→J.stop N H2)
  (he:∀(i:Nat)(os:St) v H2 H3 (K1:VK),i < N→os.length=n→cA H H2→J.yld i H2 v H3→(∀y H6,cA H2 H6→R i H6 y→K1 y H6)→
   g v (os++d3 is σ) H3 fun σ' H4=>(∃os':St,os'.length=n∧σ'=os'++d3 is σ)∧te σ' H4 K1)
  (gm:∀v σ H (Q1 Q2:St→Hp→Prop),(∀σ' H',Q1 σ' H'→Q2 σ' H')→g v σ H Q1→g v σ H Q2)
  (q:∀D ys H',H D=none→cA H H'→H' D=some (.lst ys)→ys.length=N→(∀(j:Nat) v,ys[j]? =some v→R j H' v)→Q (.ref D) H'):eC J n is g sJ te σ H Q:=by
 intro D hDn
 refine⟨fun i m ys H2=>m=N - i∧i≤N∧cA H H2∧H2 D=some (.lst ys)∧ys.length=i∧∀(j:Nat) v,ys[j]? =some v→R j H2 v,⟨_,rfl,zero_le _,cA.upd hDn,cy,rfl,fun j v h=>by cases h⟩,?_⟩
 rintro i m ys H2 ⟨rfl,hi,sm,hd,rfl,ra⟩
 refine⟨hd,?_⟩
 by_cases hlt:ys.length < N
 ·refine .inr ⟨hgo _ H2 sm hlt,fun os v H3 hos y=>?_⟩
  refine gm _ _ _ _ _ (fun σ' H' h=>⟨h.1,c9 (B:=∃m',m' < N - ys.length∧m'=N - (ys.length+1)∧ys.length+1≤N∧cA H H'∧H' D=some (.lst ys)∧ys.length=ys.length+1∧∀(j:Nat) v,ys[j]? =some v→R j H' v) h.2⟩) (he _ os v H2 H3 _ hlt hos sm y fun z H6 s6 rz=>⟨s6 _ _ hd,by omega,N - (ys.length+1),by omega,rfl,hlt,fun b o e=>?_,cy,by rw[length_append];rfl,fun j u hu=>?_⟩)
  ·rw[cC (cz e hDn)]
   exact s6 _ _ (sm _ _ e)
  ·have tk:=Tk.upd (s6 _ _ hd) (ys:=ys++[z])
   by_cases hj:j < ys.length
   ·rw[getElem?_append_left hj]at hu
    exact mono _ _ _ _ ((Tk.of s6).trans tk) (ra j u hu)
   ·have e:j=ys.length:=by
     have:=(List.getElem?_eq_some_iff.mp hu).1
     rw[length_append]at this
     have:j < ys.length+1:=this
     omega
    subst e
    rw[getElem?_append_right (le_refl _),sub_self]at hu
    cases hu
    exact mono _ _ _ _ tk rz
 ·have e:ys.length=N:=by omega
  exact .inl ⟨by rw[e];exact hstop H2 sm,q D ys H2 hDn sm hd e ra⟩
theorem nC{K:PySem.W.Frag}{is:List Nat}{te:TE}{σ:St}{H:Hp}{Q:VK}{a:Addr}{xs:List V}(R:Nat→Hp→V→Prop)(mono:∀j v H H',Tk H H'→R j H v→R j H' v)(hq:cF K H a xs)(hz:xs.length≤sizeLine)
  (he:∀(i:Nat) v H2 (K1:VK),xs[i]? =some v→cA H H2→(∀y H6,cA H2 H6→R i H6 y→K1 y H6)→te ([some v]++d3 is σ) H2 K1)
  (q:∀D ys H',H D=none→cA H H'→H' D=some (.lst ys)→ys.length=xs.length→(∀(j:Nat) v,ys[j]? =some v→R j H' v)→Q (.ref D) H'):eC (Ax K a) 1 is (eA 0) sJ te σ H Q:=
 AU R mono hz (fun i H2 sm hi=>⟨xs,xs[i],sm.seq hq,by simp[hi]⟩) (fun H2 sm=>⟨xs,sm.seq hq,le_refl _⟩) (fun i os v H2 H3 K1 hi hos sm y k1=>by
  obtain⟨rfl,y⟩:=y
  match os,hos with
  |[o],_=>exact⟨⟨[some v],rfl,rfl⟩,he i v _ K1 (y xs (sm.seq hq)) sm k1⟩) (fun _ _ _ _ _ h k=>h _ _ k) q
theorem B6{i:Nat}{v:V}{tc:TT}{u t2:TS}{D:Ends}{σ:St}{H:Hp}(R:St→Hp→Prop)(hR:∀σ' H',R σ' H'→t2 D σ' H')(b:Bool)(hc:∀Q:Bool→Hp→Prop,Q b H→tc (σ.set i (some v)) H Q)(h1:b=true→(∀σ' H',R σ' H'→t2 D σ' H')→u { D with nx:=t2 D } (σ.set i (some v)) H)(h2:b=false→R (σ.set i (some v)) H):
  eA i v σ H (fun σ2 H2=>yc (yB tc u rG) t2 D σ2 H2):=by
 refine hc _ ?_
 cases b with
 |true=>exact c9 (h1 rfl hR)
 |false=>exact cN (hR _ _ (h2 rfl))
theorem Lz.snoc{α:Type}{R:Hp→V→α→Prop}{H:Hp}{xs:List V}{ds:List α}{v:V}{d:α}(h:Lz R H xs ds)(hv:R H v d):Lz R H (xs++[v]) (ds++[d]):=by
 refine⟨by rw[length_append,length_append,h.1];rfl,fun i u e hu he=>?_⟩
 by_cases hi:i < xs.length
 ·rw[getElem?_append_left hi]at hu
  rw[getElem?_append_left (by rw[←h.1];exact hi)]at he
  exact h.2 i u e hu he
 ·rw[getElem?_append_right (by omega)]at hu
  rw[getElem?_append_right (by rw[←h.1];omega),←h.1]at he
  obtain⟨h1,h2⟩:=List.getElem?_eq_some_iff.mp hu
  have h0:i - xs.length=0:=by
   have:i - xs.length < 1:=h1
   omega
  rw[h0]at hu he
  cases hu
  cases he
  exact hv
theorem lq{ps:List Str}{qd:List QD}(qk:∀d∈qd,lJ ps d){tk:TK}(h:tk∈fg 0 (fM qd)):∃q,qd[tk.1]? =some q∧tk.2.1∈ps∧tk.2.2∈ps:=by
 obtain⟨j,d',hj,e1,e2⟩:=pP h
 unfold fM at hj
 rw[getElem?_map]at hj
 obtain⟨q,hq,rfl⟩:=map_eq_some_iff.mp hj
 have qo:=qk q (mem_of_getElem? hq)
 rw[zero_add]at e1
 refine⟨q,(by rw[e1];exact hq),?_⟩
 rcases e2 with e2|e2
 ·rw[e2]
  exact⟨qo.2.1,qo.2.2.1⟩
 ·rw[e2]
  exact⟨qo.2.2.1,qo.2.1⟩
inductive Ip(C:Addr)(vs:List V)(H:Hp)(Q:VK):Prop
 |mk(nl th s t y:Addr)(ps:List Str)(ss ts ys:List V)(e:vs=[.ref nl,.ref th])(hn:H nl=some (.lst (ps.map V.str)))(hth:H th=some (.tup [.ref s,.ref t,.ref y]))(hs:H s=some (.lst ss))(ht:H t=some (.lst ts))(hy:H y=some (.lst ys))(pa:Parts H ps ss ts ys)
   (k:∀(x p' s' t' y':Addr)(H':Hp),cA H H'→H x=none→Bk C H' x p' s' t' y' ps ss ts ys→Q (.ref x) H')
def yw(C:Addr):Sp:=fun vs H Q _=>Ip C vs H Q
theorem wu:cD ["_law_names_here", "_law_things_here"] ["_law_names_here", "_law_things_here"] (cB nE):={}
theorem BA (D:Df K mg "_law_book" nE ["_law_names_here", "_law_things_here"] f fd) (T:Txt K mg kw C) (G_Book:Kd P w K mg base 7 "Book" C (uQ C)):Gd P w K mg base 9 "_law_book" (yw C):=by
 refine aE D wu fun X H vs Q E hh h=>?_
 obtain⟨nl,th,s,t,y,ps,ss,ts,ys,rfl,hn,hth,hs,ht,hy,pa,k⟩:=h
 obtain⟨S0,S1,_⟩:=hh.dZ [0,1]
 have B_list:=hh.b T.b_list
 have K_Book:=hh.HM G_Book rfl (by decide) (by decide)
 refine⟨_,(ah (aw (J.HM K_Book (bX (bw B_list bI L2.dR (aj (aa S0))) (bw B_list bI L2.dR (aj (af az (aa S1) ae ak))) (bw B_list bI L2.dR (aj (af az (aa S1) ae ak))) (bw B_list bI L2.dR (aj (af az (aa S1) ae ak))))))),?_⟩
 refine⟨_,rfl,nl,_,rfl,.inl (cF.of hn),fun l1 n1=>?_⟩
 have s1:=cA.upd (o:=.lst (ps.map V.str)) n1
 have k1:upd H l1 (.lst (ps.map V.str)) l1=some (.lst (ps.map V.str)):=cy
 generalize upd H l1 (.lst (ps.map V.str))=H1 at s1 k1
 refine⟨_,rfl,xT (s1 _ _ hth) rfl ⟨s,_,rfl,.inl (cF.of (s1 _ _ hs)),fun l2 n2=>?_⟩⟩
 have s2:=cA.upd (o:=.lst ss) n2
 have k2:upd H1 l2 (.lst ss) l2=some (.lst ss):=cy
 generalize upd H1 l2 (.lst ss)=H2 at s2 k2
 have t2:=s1.trans s2
 refine⟨_,rfl,xT (t2 _ _ hth) rfl ⟨t,_,rfl,.inl (cF.of (t2 _ _ ht)),fun l3 n3=>?_⟩⟩
 have s3:=cA.upd (o:=.lst ts) n3
 have k3:upd H2 l3 (.lst ts) l3=some (.lst ts):=cy
 generalize upd H2 l3 (.lst ts)=H3 at s3 k3
 have t3:=t2.trans s3
 refine⟨_,rfl,xT (t3 _ _ hth) rfl ⟨y,_,rfl,.inl (cF.of (t3 _ _ hy)),fun l4 n4=>?_⟩⟩
 have s4:=cA.upd (o:=.lst ys) n4
 have k4:upd H3 l4 (.lst ys) l4=some (.lst ys):=cy
 generalize upd H3 l4 (.lst ys)=H4 at s4 k4
 have t4:=t3.trans s4
 intro x dx nx ndx nex
 have s5:cA H4 (upd (upd H4 dx (.own x)) x (.ins C dx [])):=fun b o e=>by
  rw[cC (cz e nx),cC (cz e ndx)]
  exact e
 have t5:=t4.trans s5
 refine⟨x,dx,l1,l2,l3,l4,ps,ss,ts,ys,rfl,cy,s5 _ _ (s4 _ _ (s3 _ _ (s2 _ _ k1))),s5 _ _ (s4 _ _ (s3 _ _ k2)),s5 _ _ (s4 _ _ k3),s5 _ _ k4,pa.mono (Tk.of t5),fun p' s' t' y' H6 _ _ _ _ bk kp=>⟨rfl,?_⟩⟩
 exact k x p' s' t' y' H6 (fun b o e=>kp b o (t5 _ _ e) (cz e (t4.free nx))) (t4.free nx) bk
structure uR(ps:List Str)(H:Hp)(th s t y:Addr)(ss ts ys:List V):Prop where
 hth:H th=some (.tup [.ref s,.ref t,.ref y])
 hs:H s=some (.lst ss)
 ht:H t=some (.lst ts)
 hy:H y=some (.lst ys)
 ls:ss.length≤24
 lt:ts.length≤60
 ly:ys.length≤30
 gs:∀v∈ss,dS ps H v
 gt:∀v∈ts,eN ps H v
 gy:∀v∈ys,fH ps H v
theorem uR.mono{ps:List Str}{H H':Hp}{th s t y:Addr}{ss ts ys:List V}(sm:cA H H')(o:uR ps H th s t y ss ts ys):uR ps H' th s t y ss ts ys:=
 ⟨sm _ _ o.hth,sm _ _ o.hs,sm _ _ o.ht,sm _ _ o.hy,o.ls,o.lt,o.ly,fun v hv=>(o.gs v hv).mono (Tk.of sm),fun v hv=>(o.gt v hv).mono (Tk.of sm),fun v hv=>(o.gy v hv).mono (Tk.of sm)⟩
theorem xO(us:List Int)(lo hi:Option Int):fN (us.map V.int) lo hi=(((us.drop (HT.mB us.length 0 lo)).take (HT.mB us.length us.length hi - HT.mB us.length 0 lo))).map V.int:=by
 unfold fN
 rw[length_map,List.map_take,List.map_drop]
theorem rJ(us:List Int){k:Int}(h0:0≤k):∃vs:List Int,fN (us.map V.int) none (some k)=vs.map V.int∧vs.length≤k.toNat:=by
 refine⟨_,xO ..,?_⟩
 have e:HT.mB us.length us.length (some k)=min k.toNat us.length:=by
  show(if k < 0 then(k+(us.length:Int)).toNat else min k.toNat us.length)=_
  rw[if_neg (Int.not_lt.mpr h0)]
 rw[length_take,length_drop,HT.zQ,e]
 exact le_trans (Nat.min_le_left _ _) (le_trans (Nat.sub_le _ _) (Nat.min_le_left _ _))
theorem zR{K:PySem.W.Frag}{is:List Nat}{tc:TT}{te:TE}{σ:St}{H:Hp}{Q:VK}{a:Addr}{xs:List V}(hq:cF K H a xs)(hz:xs.length≤sizeLine)
  (he:∀(i:Nat) v H2 (K1:VK)(K2:Hp→Prop),xs[i]? =some v→cA H H2→(∀H6,cA H2 H6→K1 v H6)→(∀H5,cA H2 H5→K2 H5)→tc ([some v]++d3 is σ) H2 fun b H5=>if b=true then te ([some v]++d3 is σ) H5 K1 else K2 H5)
  (q:∀D ys H',H D=none→cA H H'→H' D=some (.lst ys)→ys.length≤xs.length→(∀v∈ys,v∈xs)→Q (.ref D) H'):eC (Ax K a) 1 is (eA 0) tc te σ H Q:=by
 intro D hDn
 refine⟨fun i m ys H2=>m=xs.length - i∧i≤xs.length∧cA H H2∧H2 D=some (.lst ys)∧ys.length≤i∧∀v∈ys,v∈xs,⟨_,rfl,zero_le _,cA.upd hDn,cy,le_refl 0,fun v h=>by cases h⟩,?_⟩
 rintro i m ys H2 ⟨rfl,hi,sm,hd,yl,ya⟩
 refine⟨hd,?_⟩
 by_cases hlt:i < xs.length
 ·refine .inr ⟨⟨xs,xs[i],sm.seq hq,by simp[hlt]⟩,fun os v H3 hos y=>?_⟩
  obtain⟨rfl,y⟩:=y
  have hv:=y xs (sm.seq hq)
  match os,hos with
  |[o],_=>
   refine⟨⟨[some v],rfl,rfl⟩,he i v _ _ _ hv sm (fun H6 s6=>⟨s6 _ _ hd,by omega,xs.length - (i+1),by omega,rfl,hlt,fun b o e=>?_,cy,?_,fun u hu=>?_⟩) (fun H5 s5=>⟨xs.length - (i+1),by omega,rfl,hlt,sm.trans s5,s5 _ _ hd,by omega,ya⟩)⟩
   ·rw[cC (cz e hDn)]
    exact s6 _ _ (sm _ _ e)
   ·rw[length_append]
    show ys.length+1≤i+1
    omega
   ·rcases mem_append.mp hu with hu|hu
    ·exact ya u hu
    ·rw[mem_singleton.mp hu]
     exact mem_of_getElem? hv
 ·have e:i=xs.length:=by omega
  subst e
  exact .inl ⟨⟨xs,sm.seq hq,le_refl _⟩,q D ys H2 hDn sm hd yl ya⟩
theorem By{tc:TT}{u t2:TS}{D:Ends}{σ:St}{H:Hp}(R:St→Hp→Prop)(hR:∀σ' H',R σ' H'→t2 D σ' H')(b:Bool)(hc:∀Q:Bool→Hp→Prop,Q b H→tc σ H Q)(h1:b=true→(∀σ' H',R σ' H'→t2 D σ' H')→u { D with nx:=t2 D } σ H)(h2:b=false→R σ H):
  yc (yB tc u rG) t2 D σ H:=by
 refine hc _ ?_
 cases b with
 |true=>exact c9 (h1 rfl hR)
 |false=>exact cN (hR _ _ (h2 rfl))
theorem Fh{H:Hp}{v:V}{d:SD}(h:vh H v d):Sys H [v] [d]:=⟨rfl,fun i u e hu he=>by
 cases i with
 |zero=>
  cases hu
  cases he
  exact h
 |succ i=>cases hu⟩
inductive IM(K:PySem.W.Frag)(vs:List V)(H:Hp)(Q:VK):Prop
 |mk(sc:Addr)(ns:List Int)(e:vs=[.ref sc,.int 30])(hsc:cF K H sc (ns.map V.int))(n63:ns.length≤63)
   (k:∀(r nl th s t y:Addr)(W:Int)(ps:List Str)(ss ts ys:List V)(H':Hp),cA H H'→H' r=some (.tup [.int W,.ref nl,.ref th])→0≤W→W < 2147483647→H' nl=some (.lst (ps.map V.str))→eV ps→uR ps H' th s t y ss ts ys→Q (.ref r) H')
def zI(K:PySem.W.Frag):Sp:=fun vs H Q _=>IM K vs H Q
theorem tS:cD ["_law_script", "_law_most", "_law_whole", "_law_names_here", "_law_things_here", "_law_numbers", "_law_tellings_here", "_law_found", "_law_kept"] ["_law_script", "_law_most"] (cB k5):={}
theorem zq (D:Df K mg "_law_drawn" k5 ["_law_script", "_law_most"] f fd) (T:Txt K mg kw C) (G__law_mix:Gd P w K mg base 1 "_law_mix" rm) (G__law_names:Gd P w K mg base 1 "_law_names" nM) (G__law_clock:Gd P w K mg base 1 "_law_clock" qC) (G__law_things:Gd P w K mg base 2 "_law_things" nO) (G__law_open:Gd P w K mg base 3 "_law_open" mN) (G__law_hours:Gd P w K mg base 1 "_law_hours" vD) (G__law_knew_so:Gd P w K mg base 1 "_law_knew_so" j9):Gd P w K mg base 4 "_law_drawn" (zI K):=by
 refine aE D tS fun X H vs Q E hh h=>?_
 obtain⟨sc,ns,rfl,hsc,n63,k⟩:=h
 rw[←hh.fK]at hsc
 obtain⟨S0,S1,S2,S3,S4,S5,S6,S7,S8,_⟩:=hh.dZ [0,1,2,3,4,5,6,7,8]
 have B_int:=hh.b T.b_int
 have B_sum:=hh.b T.b_sum
 have C__law_clock:=hh.c G__law_clock
 have C__law_hours:=hh.c G__law_hours
 have C__law_mix:=hh.c G__law_mix
 have C__law_names:=hh.c G__law_names
 have C__law_open:=hh.c G__law_open
 have C__law_things:=hh.c G__law_things
 have CI__law_knew_so:=hh.ci G__law_knew_so
 have hsz:sizeLine=16777216:=sizeLine_eq
 refine⟨_,(ag (aA S2 hh.nd (ao C__law_mix (aD (aL B_sum (J.i5 hh.calm) L2.yM (aj (J.gD J.i7 (aa S0) J.iY (J.iZ ae)))) ae)))
 (ag (aA S3 hh.nd (ao C__law_names (aD (aa S2) (af aV (bj (aD (au bg ae (au aR (au ba (aa S2) ae) ae)) (au bg ae (au aR (au ba (aa S2) ae) ae)))) (bw B_int J.i8 L2.uL (aj (aZ aK (au aR (au ba (aa S2) ae) ae) ae (L2.cE _)))) J.qy))))
 (ag (aA S4 hh.nd (ao C__law_things (aM (J.gD J.i7 (aa S0) J.iY (J.iZ (aa S1))) (aa S3) (ao C__law_clock (aj (ao C__law_mix (aD (aL B_sum (J.i5 hh.calm) L2.yM (aj (J.gD J.i7 (aa S0) J.iY (J.iZ ae)))) ae)))))))
 (ag (aH (aB aK (au aR (au ba (aa S2) ae) ae) ae (L2.cE _))
 (ah (bG (J.J2 plainAttrs_list PySem.F.slot_list_reverse PySem.F.type_list_reverse J.jr (af az (aa S4) ae ak))))
 aJ)
 (ag (aH (aB bP (au aR (au ba (aa S2) ae) ae) ae (L2.cE _))
 (ag (bU (ao C__law_open (aj (aa S4))) (bE hh.calm (aI (aF S5 hh.nd) (aI (aF S6 hh.nd) bp))))
 (ag (aA S7 hh.nd (ao C__law_hours (aM (aa S4) (aa S5) (aa S6))))
 (ag (bQ (is:=[7]) (xs:=["_law_row"]) (ns:=["_law_found"]) S8 hh.nd hh.calm (aQ (af az (aa S4) ae ak)) {} (fun _ _ _ _ _=>(aT (i:=0) (by decide+kernel) rfl rfl)) (fun _ _ _ _ _=>(bz (aY (bN (aB cj (af bo (aG (i:=0) rfl rfl (by decide) (by decide)) ae ak) aP (L2.cE _)) (bO (a9 (ao (CI__law_knew_so.lg rfl) (aD (bj (aj (aG (i:=0) rfl rfl (by decide) (by decide)))) (aU (i:=1) rfl rfl (by decide) (by decide)))))))))) (fun _ _ _ _ _=>(aG (i:=0) rfl rfl (by decide) (by decide))) hh.hsc hh.hN (by decide+kernel))
 (ah (aA S4 hh.nd (aS (aM (af az (aa S4) ae ak) (af az (aa S4) ae ak) (aa S8))))))))
 aJ)
 (ah (aw (aS (aM (aa S2) (aa S3) (aa S4)))))))))),?_⟩
 obtain⟨n1,c1,_⟩:=rJ ns (k:=63) (by decide)
 obtain⟨n2,c2,l2⟩:=rJ ns (k:=30) (by decide)
 refine⟨_,rfl,_,rfl,sc,_,rfl,hsc,fun p1 np1=>?_⟩
 have s1:=cA.upd (o:=.lst (fN (ns.map V.int) none (some 63))) np1
 refine⟨p1,n1,rfl,cF.of (by rw[←c1];exact cy),_,_,rfl,by decide,by decide,fun W W0 W1=>?_⟩
 generalize upd H p1 (.lst (fN (ns.map V.int) none (some 63)))=H1 at s1
 have a6:=cP (W / 7) (m:=6) (by decide)
 have a24:=cP (W / 42) (m:=24) (by decide)
 refine⟨_,rfl,_,rfl,_,_,rfl,rfl,⟨by decide,by decide⟩,_,_,rfl,rfl,(by show(0:Int) < 6;decide),_,_,rfl,rfl,_,rfl,_,_,rfl,rfl,⟨by decide,by decide⟩,_,_,rfl,rfl,(by show(0:Int) < 24;decide),_,_,rfl,rfl,CK,fun b1 nb1=>?_⟩
 obtain⟨bv,hb,hbm⟩:=Cu (xs:=[V.int (2+W / 7 % 6),V.int (1+W / 42 % 24)]) (i:=if decide (V.int (W / 1008 % 4)=V.int 0) then 1 else 0) (by split<;>decide) (by show _ < (2:Int);split<;>decide)
 have hbv:∃m:Int,bv=.int m∧1≤m∧m≤24:=by
  simp only[mem_cons,not_mem_nil,or_false]at hbm
  rcases hbm with rfl|rfl
  ·exact⟨_,rfl,by omega,by omega⟩
  ·exact⟨_,rfl,by omega,by omega⟩
 obtain⟨m,rfl,m1,m24⟩:=hbv
 clear hbm a6 a24
 have s2:=s1.trans (cA.upd (o:=.lst [V.int (2+W / 7 % 6),V.int (1+W / 42 % 24)]) nb1)
 refine⟨_,rfl,_,_,rfl,rfl,⟨by decide,by decide⟩,_,_,rfl,rfl,(by show(0:Int) < 4;decide),rfl,.inr ⟨_,rfl,xL cy hb ⟨W,m,rfl,W0,m1,m24,fun nl ps H3 s3 nln hnl po=>?_⟩⟩⟩
 have s03:=s2.trans s3
 clear s2 s3 hb nb1
 refine⟨_,rfl,_,rfl,_,rfl,sc,_,rfl,s03.seq hsc,fun p2 np2=>?_⟩
 have s4:=s03.trans (cA.upd (o:=.lst (fN (ns.map V.int) none (some 30))) np2)
 have hp2:upd H3 p2 (.lst (fN (ns.map V.int) none (some 30))) p2=some (.lst (n2.map V.int)):=by
  rw[←c2]
  exact cy
 have hnl4:=cA.upd (o:=.lst (fN (ns.map V.int) none (some 30))) np2 _ _ hnl
 generalize upd H3 p2 (.lst (fN (ns.map V.int) none (some 30)))=H4 at s4 hp2 hnl4
 refine⟨_,rfl,_,rfl,_,rfl,sc,_,rfl,s4.seq hsc,fun p3 np3=>?_⟩
 have s45:=cA.upd (o:=.lst (fN (ns.map V.int) none (some 63))) np3
 refine⟨p3,n1,rfl,cF.of (by rw[←c1];exact cy),_,_,rfl,by decide,by decide,fun Z Z0 Z1=>?_⟩
 refine⟨_,rfl,fun cl hs H6 s6 ncl hcl ck=>?_⟩
 have s46:=s45.trans s6
 refine⟨p2,nl,cl,n2,ps,hs,rfl,s46 _ _ hp2,(by omega),s46 _ _ hnl4,po,hcl,ck,fun tt s t y ss ts ys H7 s7 ntt ns' nt ny nd htt hs7 ht7 hy7 ls lt ly gs gt gy=>?_⟩
 have s07:=(s4.trans s46).trans s7
 have hnl7:=s7 _ _ (s46 _ _ hnl4)
 have ok7:uR ps H7 tt s t y ss ts ys:=⟨htt,hs7,ht7,hy7,ls,lt,(by omega),gs,gt,gy⟩
 have ntd:t≠nl∧t≠s∧t≠y:=by
  simp only[nodup_cons,mem_cons,not_mem_nil,or_false,not_or,nodup_nil,and_true,not_false_eq_true]at nd
  refine⟨fun e=>?_,fun e=>nd.2.1.1 e.symm,nd.2.2⟩
  rw[e,s46 _ _ hnl4]at nt
  cases nt
 have t0:H t=none:=(s4.trans s46).free nt
 clear s46 s6 s45 s4 hp2 hnl4 hcl ck ntt ns' nt ny nd htt hs7 ht7 hy7 gs gt gy ls lt ly np3 np2 s03 s7
 dsimp only
 refine B6 (fun σ' H'=>∃ts',σ'=[some (.ref sc),some (.int 30),some (.int W),some (.ref nl),some (.ref tt),none,none,none,none]∧cA H H'∧H' nl=some (.lst (ps.map V.str))∧uR ps H' tt s t y ss ts' ys) ?_ (decide (V.int (W / 5 % 3)=V.int 0)) (fun Q' q'=>?_) (fun _ hR=>?_) (fun _=>?_)
 ·rintro σ' H8 ⟨ts',rfl,s08,hnl8,ok8⟩
  clear ok7 hnl7 s07 ntd
  refine By (fun σ' H'=>∃(th s' t' y':Addr) (ss' ts' ys':List V) (e5 e6 e7 e8:Option V),σ'=[some (.ref sc),some (.int 30),some (.int W),some (.ref nl),some (.ref th),e5,e6,e7,e8]∧cA H H'∧H' nl=some (.lst (ps.map V.str))∧uR ps H' th s' t' y' ss' ts' ys') ?_ (decide (W / 3 % 3 > 0)) (fun Q' q'=>?_) (fun _ hR=>?_) (fun _=>?_)
  ·rintro σ' H9 ⟨th,s',t',y',ss',ts',ys',e5,e6,e7,e8,rfl,s9,hnl9,ok9⟩
   refine⟨_,rfl,_,rfl,_,rfl,oG,fun r nr=>?_⟩
   exact k r nl th s' t' y' W ps ss' ts' ys' _ (s9.trans (cA.upd nr)) cy W0 W1 (cA.upd nr _ _ hnl9) po (ok9.mono (cA.upd nr))
  ·exact⟨_,rfl,_,_,rfl,rfl,⟨by decide,by decide⟩,_,_,rfl,rfl,(by show(0:Int) < 3;decide),_,_,rfl,rfl,_,rfl,q'⟩
  ·obtain⟨sg,gs,gk⟩:=lO ok8.gs
   obtain⟨qd,qs,qk⟩:=yz ok8.gt
   obtain⟨sd,sy,sk⟩:=kK ok8.gy
   refine⟨_,rfl,tt,s,t,y,ps,ss,ts',ys,sg,qd,sd,rfl,ok8.hth,ok8.hs,ok8.ht,ok8.hy,ok8.ls,(by have:=ok8.lt;omega),gs,(fun d hd=>(gk d hd).2),qs,qk,sy,fun r nb tl us H9 s9 _ _ _ hr hnb htl tu=>?_⟩
   refine⟨r,_,rfl,dq.of hr,rfl,_,_,rfl,_,_,rfl,rfl,?_⟩
   have ok9:=ok8.mono s9
   refine⟨_,rfl,_,rfl,_,rfl,tt,nb,tl,s,t,y,ps,ss,ts',us,sg,qd,(List.range sg.length).filter (gr sg (dB sd)),(fg 0 (fM qd)).filter (cT qd sd),rfl,ok9.hth,ok9.hs,ok9.ht,hnb,htl,gs.mono (c8.mono (Tk.of s9)),gk,qs.mono (du.mono (Tk.of s9)),(fun d hd=>(qk d hd).1),tu,(fun tk hk=>?_),(fun i hi=>mem_range.mp (mem_filter.mp hi).1),po.hi,fun fo kvs F H10 s10 nfo hfo hrd _ _=>?_⟩
   ·obtain⟨q,hq,_,m2⟩:=lq qk (mem_filter.mp hk).1
    exact⟨(List.getElem?_eq_some_iff.mp hq).1,m2⟩
   ·have s810:=s9.trans s10
    have ok10:=ok9.mono s10
    refine⟨_,rfl,xT ok10.hth rfl ⟨y,rfl,⟨_,cF.of ok10.hy⟩,zR (cF.of ok10.hy) (by have:=ok10.ly;omega) ?_ ?_⟩⟩
    ·intro i v H11 K1 K2 hv s11 k1 k2
     obtain⟨e,⟨a,rfl,ha⟩,_⟩:=tw (ok10.gy v (mem_of_getElem? hv))
     have ha11:=s11 _ _ ha
     cases e with
     |unh q i'=>exact⟨_,rfl,xT ha11 rfl ⟨rfl,_,rfl,iP (c9 (B:=K2 H11) ⟨_,rfl,k1 H11 (cA.refl _)⟩)⟩⟩
     |sil q b e'=>exact⟨_,rfl,xT ha11 rfl ⟨rfl,_,rfl,iP (c9 (B:=K2 H11) ⟨_,rfl,k1 H11 (cA.refl _)⟩)⟩⟩
     |bar q q'=>exact⟨_,rfl,xT ha11 rfl ⟨rfl,_,rfl,iP (c9 (B:=K2 H11) ⟨_,rfl,k1 H11 (cA.refl _)⟩)⟩⟩
     |knew q h=>
      refine⟨_,rfl,xT ha11 rfl ⟨rfl,_,rfl,iN ⟨_,rfl,E4,fun l1 nl1=>?_⟩⟩⟩
      have s12:=cA.upd (o:=.lst [.ref a]) nl1
      exact⟨_,rfl,l1,fo,[.ref a],[SD.knew q h],kvs,F,rfl,cy,Fh ⟨a,rfl,s12 _ _ ha11⟩,s12 _ _ (s11 _ _ hfo),hrd.get,⟨_,rfl,cW (fun _=>⟨_,rfl,k1 _ s12⟩) (fun _=>k2 _ s12)⟩⟩
    ·intro ke zs H11 nke s11 hke zl zi
     have ok11:=ok10.mono s11
     refine⟨_,rfl,xT ok11.hth rfl ⟨_,rfl,xT ok11.hth rfl ⟨_,rfl,oG,fun t3 nt3=>?_⟩⟩⟩
     have s12:=cA.upd (o:=.tup [.ref s,.ref t,.ref ke]) nt3
     have s813:=(s810.trans s11).trans s12
     refine hR _ _ ⟨t3,s,t,ke,ss,ts',zs,_,_,_,_,rfl,s08.trans s813,s813 _ _ hnl8,cy,s12 _ _ ok11.hs,s12 _ _ ok11.ht,s12 _ _ hke,ok11.ls,ok11.lt,(by have:=ok11.ly;omega),?_,?_,?_⟩
     ·exact fun v hv=>(ok11.gs v hv).mono (Tk.of s12)
     ·exact fun v hv=>(ok11.gt v hv).mono (Tk.of s12)
     ·exact fun v hv=>(ok11.gy v (zi v hv)).mono (Tk.of s12)
  ·exact⟨tt,s,t,y,ss,ts',ys,none,none,none,none,rfl,s08,hnl8,ok8⟩
 ·exact⟨_,rfl,_,_,rfl,rfl,⟨by decide,by decide⟩,_,_,rfl,rfl,(by show(0:Int) < 3;decide),rfl,_,rfl,q'⟩
 ·refine⟨_,rfl,xT ok7.hth rfl ⟨.inl ⟨rfl,_,cF.of ok7.ht⟩,t,ts,rfl,rfl,ok7.ht,hR _ _ ⟨ts.reverse,rfl,fun b o e=>?_,?_,?_⟩⟩⟩
  ·rw[cC (cz e t0)]
   exact s07 _ _ e
  ·rw[cC ntd.1.symm]
   exact hnl7
  ·have tk:=Tk.upd ok7.ht (ys:=ts.reverse)
   exact⟨tk _ _ ok7.hth,(by rw[cC ntd.2.1.symm];exact ok7.hs),cy,(by rw[cC ntd.2.2.symm];exact ok7.hy),ok7.ls,(by rw[length_reverse];exact ok7.lt),ok7.ly,fun v hv=>(ok7.gs v hv).mono tk,fun v hv=>(ok7.gt v (mem_reverse.mp hv)).mono tk,fun v hv=>(ok7.gy v hv).mono tk⟩
 ·exact⟨ts,rfl,s07,hnl7,ok7⟩
inductive EW
 |saw (i:Nat)
 |hrd (k:Nat)(te:Str)
abbrev ED:=Str×Int×EW
def ro(H:Hp)(wa:Addr):EW→Prop
 |.saw i=>H wa=some (.tup [.str "saw",.int (i:Nat)])
 |.hrd k te=>H wa=some (.tup [.str "heard",.int (k:Nat),.str te])
def dJ(H:Hp)(a:Addr)(d:ED):Prop:=∃wa,H a=some (.tup [.str d.1,.int d.2.1,.ref wa])∧ro H wa d.2.2
theorem ro.mono{H H':Hp}(s:Tk H H'){wa:Addr}{w:EW}(h:ro H wa w):ro H' wa w:=by
 cases w with
 |saw i=>exact s _ _ h
 |hrd k te=>exact s _ _ h
theorem dJ.mono{H H':Hp}(s:Tk H H'){a:Addr}{d:ED}(h:dJ H a d):dJ H' a d:=by
 obtain⟨wa,h1,h2⟩:=h
 exact⟨wa,s _ _ h1,h2.mono s⟩
structure HJ(H:Hp)(kvs:List (Key×V))(F:FH):Prop where
 no:∀z,F z=none→cS kvs (Sum.inr z)=none
 yes:∀z h,F z=some h→∃a w,cS kvs (Sum.inr z)=some (.ref a)∧H a=some (.tup [.str z,.int h,w])
def lY(F:FH)(d:ED):Bool:=match d.2.2 with
 |.saw _=>true
 |.hrd _ te=>match F te with
  |none=>false
  |some a=>decide (a < d.2.1)
inductive Gv  (vs:List V)(H:Hp)(Q:VK):Prop
 |mk(a:Addr)(z:Str)(h:Int)(w:V)(h0:vs=[.ref a])(h1:H a=some (.tup [.str z,.int h,w]))(h2:Q (.int h) H)
def xQ  :Sp:=fun vs H Q _=>Gv  vs H Q
inductive FN  (vs:List V)(H:Hp)(Q:VK):Prop
 |mk(kn a:Addr)(kvs:List (Key×V))(F:FH)(d:ED)(h0:vs=[.ref kn,.ref a])(h1:H kn=some (.dK kvs))(h2:HJ H kvs F)(h3:dJ H a d)(h4:Q (.bl (lY F d)) H)
def Et  :Sp:=fun vs H Q _=>FN  vs H Q
theorem uP:cD ["entry"] ["entry"] (cB kO):={}
theorem Gb (D:Df K mg "hour_of" kO ["entry"] f fd):Gd P w K mg base 1 "hour_of" xQ:=by
 refine aE D uP fun X H vs Q E hh h=>?_
 obtain⟨a,z,h,w,rfl,ha,k⟩:=h
 obtain⟨S0,_⟩:=hh.dZ [0]
 exact⟨_,(ah (aw (af az (aa S0) ae ak))),_,rfl,xT ha rfl k⟩
theorem oQ:cD ["known", "entry", "way"] ["known", "entry"] (cB gY):={}
theorem G0 (D:Df K mg "can_follow" gY ["known", "entry"] f fd) (G_hour_of:Gd P w K mg base 1 "hour_of" xQ):Gd P w K mg base 2 "can_follow" Et:=by
 refine aE D oQ fun X H vs Q E hh h=>?_
 obtain⟨kn,a,kvs,F,d,rfl,hkn,kd,⟨wa,ha,hw⟩,k⟩:=h
 obtain⟨S0,S1,S2,_⟩:=hh.dZ [0,1,2]
 have C_hour_of:=hh.c G_hour_of
 have hu:=eG hh.room
 refine⟨_,(ag (aA S2 hh.nd (af az (aa S1) ae ak))
 (ag (aH (aB aK (af az (aa S2) ae ak) aP (L2.cE _))
 (ah (aw a5))
 aJ)
 (ah (aw (aX (J.qT hu (af az (aa S2) ae ak) (aa S0)) (a7 (aZ bS (ao C_hour_of (aj (bq hu (aa S0) (af az (aa S2) ae ak) J.uJ))) (ao C_hour_of (aj (aa S1))) (L2.cE _)))))))),?_⟩
 refine⟨_,rfl,xT ha rfl ?_⟩
 obtain⟨z,h,way⟩:=d
 cases way with
 |saw i=>exact⟨_,rfl,xT hw rfl ⟨rfl,_,rfl,iP k⟩⟩
 |hrd kk te=>
  refine⟨_,rfl,xT hw rfl ⟨rfl,_,rfl,iN ?_⟩⟩
  have dg:=ei.k (k:=Sum.inr te) hkn
  have k':Q (.bl (match F te with|none=>false|some a=>decide (a < h))) H:=k
  cases hF:F te with
  |none=>
   rw[hF]at k'
   rw[kd.no te hF]at dg
   exact⟨_,rfl,xT hw rfl ⟨_,rfl,kn,_,rfl,dg,_,rfl,cN k'⟩⟩
  |some b=>
   rw[hF]at k'
   obtain⟨ea,w2,e1,e2⟩:=kd.yes te b hF
   rw[e1]at dg
   exact⟨_,rfl,xT hw rfl ⟨_,rfl,kn,_,rfl,dg,_,rfl,c9 ⟨_,rfl,_,rfl,xT hw rfl ⟨kn,_,rfl,dg,ea,te,b,w2,rfl,e2,_,rfl,a,z,h,_,rfl,ha,_,_,rfl,rfl,k'⟩⟩⟩⟩
inductive jF(ds:List ED):Str→Int→Prop
 |saw {z:Str}{h:Int}{i:Nat}(m:(z,h,EW.saw i)∈ds):jF ds z h
 |hrd {z te:Str}{h h':Int}{k:Nat}(m:(z,h,EW.hrd k te)∈ds)(r:jF ds te h')(l:h' < h):jF ds z h
def uA(H:Hp)(a:Addr):Int:=match H a with
 |some (.tup [_,.int h,_])=>h
 |_=>0
theorem iu{H:Hp}{a:Addr}{d:ED}(h:dJ H a d):uA H a=d.2.1:=by
 obtain⟨wa,h1,_⟩:=h
 unfold uA
 rw[h1]
theorem BY{H:Hp}{wa:Addr}{w w':EW}(h:ro H wa w)(h':ro H wa w'):w=w':=by
 cases w with
 |saw i=>
  cases w' with
  |saw j=>
   have e:=(show H wa=_ from h).symm.trans (show H wa=_ from h')
   simp only[Option.some.injEq,HO.tup.injEq,List.cons.injEq,V.int.injEq,and_true,true_and]at e
   rw[show i=j by omega]
  |hrd k te=>
   have e:=(show H wa=_ from h).symm.trans (show H wa=_ from h')
   simp at e
 |hrd k te=>
  cases w' with
  |saw j=>
   have e:=(show H wa=_ from h).symm.trans (show H wa=_ from h')
   simp at e
  |hrd k' te'=>
   have e:=(show H wa=_ from h).symm.trans (show H wa=_ from h')
   simp only[Option.some.injEq,HO.tup.injEq,List.cons.injEq,V.int.injEq,V.str.injEq,and_true,true_and]at e
   rw[show k=k' by omega,e.2]
theorem jM{H:Hp}{a:Addr}{d d':ED}(h:dJ H a d)(h':dJ H a d'):d=d':=by
 obtain⟨wa,h1,h2⟩:=h
 obtain⟨wa',h1',h2'⟩:=h'
 have e:=h1.symm.trans h1'
 simp only[Option.some.injEq,HO.tup.injEq,List.cons.injEq,V.int.injEq,V.str.injEq,V.ref.injEq,and_true]at e
 obtain⟨e1,e2,rfl⟩:=e
 exact Prod.ext e1 (Prod.ext e2 (BY h2 h2'))
theorem zB{F:FH}{d e:ED}{z:Str}{h:Int}(h1:lY (gU F z h) e=true)(le:e.2.1≤h):lY F e=true:=by
 obtain⟨y,i,w⟩:=e
 cases w with
 |saw _=>rfl
 |hrd k te=>
  have h1':(match gU F z h te with|none=>false|some a=>decide (a < i))=true:=h1
  show(match F te with|none=>false|some a=>decide (a < i))=true
  by_cases c:te=z
  ·subst c
   rw[dE]at h1'
   have h2:decide (h < i)=true:=h1'
   rw[decide_eq_true_iff]at h2
   have:i≤h:=le
   omega
  ·rw[dI c]at h1'
   exact h1'
theorem wc{F:FH}{d:ED}{z:Str}{h:Int}(n:F z=none)(c:lY F d=true):lY (gU F z h) d=true:=by
 obtain⟨y,i,w⟩:=d
 cases w with
 |saw _=>rfl
 |hrd k te=>
  have c':(match F te with|none=>false|some a=>decide (a < i))=true:=c
  show(match gU F z h te with|none=>false|some a=>decide (a < i))=true
  rw[dI (fun e=>by rw[e,n]at c';cases c')]
  exact c'
def pE(F:FH)(z:Str)(h:Int)(d:ED):Bool:=decide (d.1=z) && (decide (d.2.1=h) && lY F d)
theorem CI{F:FH}{z:Str}{h:Int}{d:ED}(e:pE F z h d=true):d.1=z∧d.2.1=h∧lY F d=true:=by
 unfold pE at e
 rw[and_eq_true,and_eq_true]at e
 exact⟨of_decide_eq_true e.1,of_decide_eq_true e.2.1,e.2.2⟩
theorem vJ{α:Type}{p:α→Bool}:∀{l:List α}{j:Nat}{x:α},l[j]? =some x→(∀y∈l.take j,p y=false)→p x=true→l.find? p=some x
 |[],_,_,h,_,_=>by cases h
 |y::r,0,x,h,_,hx=>by
  cases h
  rw[List.find?_cons_of_pos hx]
 |y::r,j+1,x,h,hn,hx=>by
  rw[List.find?_cons_of_neg (by rw[hn y mem_cons_self];exact Bool.false_ne_true)]
  exact vJ (j:=j) h (fun u hu=>hn u (mem_cons_of_mem _ hu)) hx
theorem rQ{α β:Type}{p:α→Bool}{q:β→Bool}:∀{as:List α}{ds:List β}{a:α},as.length=ds.length→(∀(i:Nat) a d,as[i]? =some a→ds[i]? =some d→p a=q d)→as.find? p=some a→∃(d:β) (i:Nat),ds.find? q=some d∧as[i]? =some a∧ds[i]? =some d
 |[],_,_,_,_,h=>by cases h
 |_::_,[],_,l,_,_=>by cases l
 |b::as,d::ds,a,l,e,h=>by
  have e0:=e 0 b d rfl rfl
  cases c:p b with
  |true=>
   rw[List.find?_cons_of_pos c]at h
   cases h
   exact⟨d,0,by rw[List.find?_cons_of_pos (by rw[←e0];exact c)],rfl,rfl⟩
  |false=>
   rw[List.find?_cons_of_neg (by rw[c];exact Bool.false_ne_true)]at h
   obtain⟨d',i,h1,h2,h3⟩:=rQ (ds:=ds) (Nat.succ.inj l) (fun i a d h1 h2=>e (i+1) a d h1 h2) h
   exact⟨d',i+1,by rw[List.find?_cons_of_neg (by rw[←e0,c];exact Bool.false_ne_true)];exact h1,h2,h3⟩
theorem lS{α:Type}{l:List α}{j:Nat}{y:α}(h:y∈l.take j):∃i,i < j∧l[i]? =some y:=by
 obtain⟨i,hi⟩:=getElem?_of_mem h
 have il:=(List.getElem?_eq_some_iff.mp hi).1
 rw[length_take]at il
 rw[getElem?_take_of_lt (by omega)]at hi
 exact⟨i,by omega,hi⟩
open Classical in
theorem uO{H:Hp}{zs as:List Addr}{ds:List ED}{F:FH}{a:Addr}{d:ED}{j:Nat}(ll:as.length=ds.length)(le:∀(i:Nat) a d,as[i]? =some a→ds[i]? =some d→dJ H a d)(fl:∀i,zs.filter (fun a=>decide (uA H a=i))=as.filter (fun a=>decide (uA H a=i)))
  (hj:zs[j]? =some a)(ev:dJ H a d)(cf:lY F d=true)(no:∀j' a' d',j' < j→zs[j']? =some a'→dJ H a' d'→d'.1=d.1→lY F d'=false):ds.find? (pE F d.1 d.2.1)=some d:=by
 have pv:∀a' d',dJ H a' d'→decide (∃d2,dJ H a' d2∧pE F d.1 d.2.1 d2=true)=pE F d.1 d.2.1 d':=fun a' d' e=>by
  rw[Bool.eq_iff_iff,decide_eq_true_iff]
  exact⟨fun⟨d2,e2,h⟩=>jM e2 e ▸ h,fun h=>⟨d',e,h⟩⟩
 have pt:pE F d.1 d.2.1 d=true:=by
  unfold pE
  rw[cf,decide_eq_true rfl,decide_eq_true rfl]
  rfl
 have f1:zs.find? (fun a'=>decide (∃d2,dJ H a' d2∧pE F d.1 d.2.1 d2=true))=some a:=by
  refine vJ hj (fun y hy=>?_) (by rw[pv a d ev];exact pt)
  obtain⟨i,hi,e⟩:=lS hy
  refine decide_eq_false fun⟨d2,e2,h⟩=>?_
  obtain⟨h1,_,h3⟩:=CI h
  rw[no i y d2 hi e e2 h1]at h3
  cases h3
 have q:∀l:List Addr,l.find? (fun a'=>decide (∃d2,dJ H a' d2∧pE F d.1 d.2.1 d2=true))=(l.filter (fun a=>decide (uA H a=d.2.1))).find? (fun a'=>decide (∃d2,dJ H a' d2∧pE F d.1 d.2.1 d2=true)):=fun l=>by
  rw[List.find?_filter]
  congr 1
  funext a'
  rw[Bool.eq_iff_iff]
  refine⟨fun h=>decide_eq_true ⟨decide_eq_true ?_,h⟩,fun h=>(of_decide_eq_true h).2⟩
  obtain⟨d2,e2,h⟩:=of_decide_eq_true h
  rw[iu e2]
  exact(CI h).2.1
 have f2:=f1
 rw[q zs,fl,←q as]at f2
 obtain⟨d',i,h1,h2,h3⟩:=rQ ll (fun i a d e1 e2=>pv a d (le i a d e1 e2)) f2
 rw[h1,jM ev (le i a d' h2 h3)]
def IT(H:Hp)(zs:List Addr)(F:FH)(kvs:List (Key×V))(i:Nat):Prop:=∀z h,F z=some h→∃a d j,cS kvs (Sum.inr z)=some (.ref a)∧j < i∧zs[j]? =some a∧dJ H a d∧d.1=z∧d.2.1=h∧lY F d=true∧∀j' a' d',j' < j→zs[j']? =some a'→dJ H a' d'→d'.1=z→lY F d'=false
def IV(H:Hp)(ds:List ED)(F:FH)(kvs:List (Key×V)):Prop:=∀z h,F z=some h→∃a w,cS kvs (Sum.inr z)=some (.ref a)∧dJ H a (z,h,w)∧ds.find? (pE F z h)=some (z,h,w)
structure dy(ds:List ED)(F:FH):Prop where
 cl:∀d∈ds,lY F d=true→∃b,b≤d.2.1∧F d.1=some b
 so:∀z h,F z=some h→jF ds z h
inductive CQ(H:Hp)(en kn l:Addr)(zs:List Addr)(ds:List ED)(i:Nat)(σ:St)(H2:Hp):Prop
 |mk(e2:Option V)(kvs:List (Key×V))(F:FH)(e:σ=[some (.ref en),some (.ref kn),e2])(s:cA H H2)(hl:H2 l=some (.lst (zs.map V.ref)))(hk:H2 kn=some (.dK kvs))(kl:kvs.length≤i)(kd:HJ H2 kvs F)(c:∀j a d,j < i→zs[j]? =some a→dJ H a d→lY F d=true→∃b,b≤d.2.1∧F d.1=some b)(so:∀z h,F z=some h→jF ds z h)(m:∀z h,F z=some h→∀j a,i≤j→zs[j]? =some a→h≤uA H a)(sk:Au kvs)(ft:IT H zs F kvs i)
inductive Ky(vs:List V)(H:Hp)(Q:VK):Prop
 |mk(en:Addr)(as:List Addr)(ds:List ED)(e:vs=[.ref en])(he:H en=some (.lst (as.map V.ref)))(al:as.length≤500)(ll:as.length=ds.length)(le:∀(i:Nat) a d,as[i]? =some a→ds[i]? =some d→dJ H a d)
   (k:∀(kn:Addr)(kvs:List (Key×V))(F:FH)(H':Hp),cA H H'→H kn=none→H' kn=some (.dK kvs)→HJ H' kvs F→dy ds F→Au kvs→IV H' ds F kvs→Q (.ref kn) H')
def Br:Sp:=fun vs H Q _=>Ky vs H Q
theorem kZ:cD ["entries", "known", "entry"] ["entries"] (cB eX):={}
theorem F5 (D:Df K mg "first_entries" eX ["entries"] f fd) (T:Txt K mg kw C) (G_hour_of:Gd P w K mg base 1 "hour_of" xQ) (G_can_follow:Gd P w K mg base 2 "can_follow" Et):Gd P w K mg base 4 "first_entries" Br:=by
 refine aE D kZ fun X H vs Q E hh h=>?_
 obtain⟨en,as,ds,rfl,he,al,ll,le,k⟩:=h
 have ed:∀a∈as,∃d∈ds,dJ H a d:=fun a ha=>by
  obtain⟨i,hi⟩:=getElem?_of_mem ha
  obtain⟨d,hd⟩:∃d,ds[i]? =some d:=⟨_,getElem?_eq_getElem (by rw[←ll];exact(List.getElem?_eq_some_iff.mp hi).1)⟩
  exact⟨d,mem_of_getElem? hd,le i a d hi hd⟩
 have de:∀d∈ds,∃a∈as,dJ H a d:=fun d hd=>by
  obtain⟨i,hi⟩:=getElem?_of_mem hd
  obtain⟨a,ha⟩:∃a,as[i]? =some a:=⟨_,getElem?_eq_getElem (by rw[ll];exact(List.getElem?_eq_some_iff.mp hi).1)⟩
  exact⟨a,mem_of_getElem? ha,le i a d ha hi⟩
 obtain⟨S0,S1,S2,_⟩:=hh.dZ [0,1,2]
 have B_sorted:=hh.b T.b_sorted
 have C_can_follow:=hh.c G_can_follow
 have CS_hour_of:=hh.FG G_hour_of rfl (by first|decide|exact le_refl _) (by decide)
 have hu:=eG hh.room
 have hsz:sizeLine=16777216:=sizeLine_eq
 refine⟨_,(ag (aA S1 hh.nd cv)
 (ag (a8 hh.own hh.calm (aQ (J.GI B_sorted CS_hour_of (aj (aa S0)))) (aF S2 hh.nd)
 (ah (aH (aY (bf (J.kB hu (af az (aa S2) ae ak) (aa S1)) (bC (a9 (ao C_can_follow (aD (aa S1) (aa S2)))))))
 (ah (bV hu (aa S1) (af az (aa S2) ae ak) (aa S2)))
 aJ)))
 (ah (aw (aa S1))))),?_⟩
 intro kn nkn
 have s1:=cA.upd (o:=.dK []) nkn
 have hk1:upd H kn (.dK []) kn=some (.dK []):=cy
 generalize upd H kn (.dK [])=H1 at s1 hk1
 refine⟨_,rfl,en,as,uA H,rfl,cF.of (s1 _ _ he),fun a ha Q' q'=>?_,fun l zs nl pm pw fl=>?_⟩
 ·obtain⟨d,_,en'⟩:=ed a ha
  rw[iu en']at q'
  obtain⟨wa,h1,_⟩:=en'
  exact⟨a,_,_,_,rfl,s1 _ _ h1,q'⟩
 have s2:=s1.trans (cA.upd (o:=.lst (zs.map V.ref)) nl)
 have hl2:upd H1 l (.lst (zs.map V.ref)) l=some (.lst (zs.map V.ref)):=cy
 have hk2:=cA.upd (o:=.lst (zs.map V.ref)) nl _ _ hk1
 generalize upd H1 l (.lst (zs.map V.ref))=H2 at s2 hl2 hk2
 have zl:zs.length≤500:=by rw[pm.length_eq];exact al
 have ent:∀{i:Nat}{a:Addr},zs[i]? =some a→∃d∈ds,dJ H a d:=fun h=>ed _ (pm.mem_iff.mp (mem_of_getElem? h))
 have ie:∀{i j:Nat}{a b:Addr},i < j→zs[i]? =some a→zs[j]? =some b→uA H a≤uA H b:=fun {i j a b} ij ha hb=>by
  obtain⟨h1,e1⟩:=List.getElem?_eq_some_iff.mp ha
  obtain⟨h2,e2⟩:=List.getElem?_eq_some_iff.mp hb
  have:=List.pairwise_iff_getElem.mp pw i j h1 h2 ij
  rwa [e1,e2]at this
 refine⟨l,rfl,⟨_,cF.of hl2⟩,dk (K:=X.K) (a:=l) (xs:=zs.map V.ref) (CQ H en kn l zs ds) ⟨none,[],fun _=>none,rfl,s2,hl2,hk2,le_refl 0,⟨fun _ _=>rfl,fun _ _ e=>by cases e⟩,(fun j a d hj=>by omega),(fun _ _ e=>by cases e),(fun _ _ e=>by cases e),⟨[],rfl,nodup_nil⟩,(fun _ _ e=>by cases e)⟩ ?_ ?_ ?_⟩
 ·rintro i σ H3 hi ⟨e2,kvs,F,rfl,s3,hl3,hk3,kl,kd,c,so,m,sk,ft⟩
  exact cF.of hl3
 ·rintro i v σ H3 hv ⟨e2,kvs,F,rfl,s3,hl3,hk3,kl,kd,c,so,m,sk,ft⟩
  rw[getElem?_map]at hv
  obtain⟨a,ha,rfl⟩:=map_eq_some_iff.mp hv
  have il:=(List.getElem?_eq_some_iff.mp ha).1
  obtain⟨d,md,ev⟩:=ent ha
  have hra:=iu ev
  obtain⟨wa,h1,h2⟩:=id ev
  have h3:=s3 _ _ h1
  have dg:=ei.k (k:=Sum.inr d.1) hk3
  have eF:(lY F d=true→∃b,b≤d.2.1∧F d.1=some b)→CQ H en kn l zs ds (i+1) [some (.ref en),some (.ref kn),some (.ref a)] H3:=fun cd=>
   ⟨_,kvs,F,rfl,s3,hl3,hk3,by omega,kd,fun j a' d' hj ha' ev' cf=>by
    by_cases e:j=i
    ·subst e
     rw[ha]at ha'
     cases ha'
     rw[←jM ev ev']at cf ⊢
     exact cd cf
    ·exact c j a' d' (by omega) ha' ev' cf,so,fun z h e j a' hj ha'=>m z h e j a' (by omega) ha',sk,fun z h e=>by
     obtain⟨a0,d0,j0,q1,q2,q3⟩:=ft z h e
     exact⟨a0,d0,j0,q1,by omega,q3⟩⟩
  cases hF:F d.1 with
  |some b=>
   obtain⟨ea,w2,e1,_⟩:=kd.yes _ _ hF
   rw[e1]at dg
   exact⟨_,rfl,xT h3 rfl ⟨_,rfl,kn,_,rfl,dg,_,rfl,cN (cN (eF fun _=>⟨b,by rw[←hra];exact m _ _ hF i a (le_refl _) ha,hF⟩))⟩⟩
  |none=>
   rw[kd.no _ hF]at dg
   refine⟨_,rfl,xT h3 rfl ⟨_,rfl,kn,_,rfl,dg,_,rfl,c9 ⟨_,rfl,_,rfl,kn,a,kvs,F,d,rfl,hk3,kd,ev.mono (Tk.of s3),_,rfl,?_⟩⟩⟩
   cases hc:lY F d with
   |false=>exact cN (eF fun h=>by rw[hc]at h;cases h)
   |true=>
    refine c9 ⟨_,rfl,_,rfl,_,rfl,xT h3 rfl ⟨kn,_,rfl,kF.k (k:=Sum.inr d.1) hk3 (by omega),?_⟩⟩
    have nka:a≠kn:=fun e=>by rw[e,hk3]at h3;cases h3
    have nkl:l≠kn:=fun e=>by rw[e,hk3]at hl3;cases hl3
    have kp:∀b o,b≠kn→H3 b=some o→upd H3 kn (.dK (putK kvs (Sum.inr d.1) (.ref a))) b=some o:=fun b o n e=>by rw[cC n];exact e
    refine⟨_,putK kvs (Sum.inr d.1) (.ref a),gU F d.1 d.2.1,rfl,fun b o e=>kp b o (cz e nkn) (s3 _ _ e),kp _ _ nkl hl3,cy,le_trans (d8 _ _ _) (by omega),⟨fun z e=>?_,fun z h e=>?_⟩,fun j a' d' hj ha' ev' cf=>?_,fun z h e=>?_,fun z h e j a' hj ha'=>?_,u7 sk,fun z h e=>?_⟩
    ·by_cases c':z=d.1
     ·rw[c',dE]at e
      cases e
     ·rw[dI c']at e
      rw[dY,if_neg (fun x=>c' (Sum.inr.inj x))]
      exact kd.no z e
    ·by_cases c':z=d.1
     ·rw[c',dE]at e
      cases e
      exact⟨a,.ref wa,by rw[dY,if_pos (by rw[c'])],by rw[c'];exact kp _ _ nka h3⟩
     ·rw[dI c']at e
      obtain⟨ea,w2,e1,e2'⟩:=kd.yes z h e
      exact⟨ea,w2,by rw[dY,if_neg (fun x=>c' (Sum.inr.inj x))];exact e1,kp _ _ (fun x=>by rw[x,hk3]at e2';cases e2') e2'⟩
    ·by_cases e:j=i
     ·subst e
      rw[ha]at ha'
      cases ha'
      rw[←jM ev ev']
      exact⟨_,Int.le_refl _,dE⟩
     ·have le:d'.2.1≤d.2.1:=by
       rw[←iu ev',←hra]
       exact ie (by omega) ha' ha
      obtain⟨b,b1,b2⟩:=c j a' d' (by omega) ha' ev' (zB (d:=d) cf le)
      exact⟨b,b1,by rw[dI (fun x=>by rw[x,hF]at b2;cases b2)];exact b2⟩
    ·by_cases c':z=d.1
     ·rw[c',dE]at e
      cases e
      rw[c']
      obtain⟨y,i',w'⟩:=d
      cases w' with
      |saw _=>exact .saw md
      |hrd kk te=>
       have hc':(match F te with|none=>false|some a=>decide (a < i'))=true:=hc
       cases hT:F te with
       |none=>rw[hT]at hc';cases hc'
       |some x=>
        rw[hT]at hc'
        exact .hrd md (so _ _ hT) (of_decide_eq_true hc')
     ·rw[dI c']at e
      exact so z h e
    ·by_cases c':z=d.1
     ·rw[c',dE]at e
      cases e
      rw[←hra]
      exact ie (by omega) ha ha'
     ·rw[dI c']at e
      exact m z h e j a' (by omega) ha'
    ·have no:∀j' a' d',j' < i→zs[j']? =some a'→dJ H a' d'→lY (gU F d.1 d.2.1) d'=true→lY F d'=true:=fun j' a' d' hj ha' ev' cf=>zB (d:=d) cf (by
      rw[←iu ev',←hra]
      exact ie hj ha' ha)
     by_cases c':z=d.1
     ·rw[c',dE]at e
      cases e
      refine⟨a,d,i,by rw[c',dY,if_pos rfl],lt_succ_self i,ha,ev,c'.symm,rfl,wc hF hc,fun j' a' d' hj ha' ev' ed'=>?_⟩
      cases cc:lY (gU F d.1 d.2.1) d' with
      |false=>rfl
      |true=>
       obtain⟨b,_,b2⟩:=c j' a' d' hj ha' ev' (no j' a' d' hj ha' ev' cc)
       rw[ed',c',hF]at b2
       cases b2
     ·rw[dI c']at e
      obtain⟨a0,d0,j0,q1,q2,q3,q4,q5,q6,q7,q8⟩:=ft z h e
      refine⟨a0,d0,j0,by rw[dY,if_neg (fun x=>c' (Sum.inr.inj x))];exact q1,by omega,q3,q4,q5,q6,wc hF q7,fun j' a' d' hj ha' ev' ed'=>?_⟩
      cases cc:lY (gU F d.1 d.2.1) d' with
      |false=>rfl
      |true=>
       have:=q8 j' a' d' hj ha' ev' ed'
       rw[no j' a' d' (by omega) ha' ev' cc]at this
       cases this
 ·rintro σ H3 ⟨e2,kvs,F,rfl,s3,hl3,hk3,kl,kd,c,so,m,sk,ft⟩
  refine⟨_,rfl,k kn kvs F H3 s3 nkn hk3 kd ⟨fun d hd cf=>?_,so⟩ sk fun z h e=>?_⟩
  rotate_left
  ·obtain⟨a0,d0,j0,q1,q2,q3,q4,q5,q6,q7,q8⟩:=ft z h e
   have ff:=uO ll le fl q3 q4 q7 (by rw[q5];exact q8)
   obtain⟨y,i',w'⟩:=d0
   cases q5
   cases q6
   exact⟨a0,w',q1,q4.mono (Tk.of s3),ff⟩
  obtain⟨a,ha,ev⟩:=de d hd
  obtain⟨j,hj⟩:=getElem?_of_mem (pm.mem_iff.mpr ha)
  have jl:=(List.getElem?_eq_some_iff.mp hj).1
  exact c j a d (by rw[length_map];exact jl) hj ev cf
def fI(H:Hp)(v:V)(d:ED):Prop:=∃a,v=.ref a∧dJ H a d
theorem fI.mono{H H':Hp}(s:Tk H H')(v:V)(d:ED)(h:fI H v d):fI H' v d:=by
 obtain⟨a,e,h⟩:=h
 exact⟨a,e,h.mono s⟩
def tH(sg:List GD)(i:Nat):ED:=match sg[i]? with
 |some g=>(g.1,g.2,.saw i)
 |none=>("",0,.saw i)
def xG(qd:List QD)(t:TK):ED:=(t.2.2,cY qd t.1,.hrd t.1 t.2.1)
def eK(sg:List GD)(qd:List QD)(sd:List SD):List ED:=((List.range sg.length).filter (gr sg (dB sd))).map (tH sg)++((fg 0 (fM qd)).filter (cT qd sd)).map (xG qd)
inductive Gg(x sb tb l:Addr)(H5:Hp)(d0:List ED)(td:List ED)(i:Nat)(σ:St)(H6:Hp):Prop
 |mk(us:List V)(e4 e5 e6:Option V)(e:σ=[some (.ref x),some (.ref sb),some (.ref tb),some (.ref l),e4,e5,e6])(kp:∀b o,H5 b=some o→b≠l→H6 b=some o)(hl:H6 l=some (.lst us))(ul:us.length≤24+i)(lz:Lz fI H6 us (d0++td.take i))
inductive KJ(C:Addr)(vs:List V)(H:Hp)(Q:VK):Prop
 |mk(x p s t y:Addr)(ps:List Str)(ss ts ys:List V)(sg:List GD)(qd:List QD)(sd:List SD)(e:vs=[.ref x])(bk:Bk C H x p s t y ps ss ts ys)(pl:ps.length≤24)(sl:ss.length≤24)(tl:ts.length≤120)(gs:Lz c8 H ss sg)(gp:∀d∈sg,d.1∈ps)(qs:Lz du H ts qd)(qk:∀d∈qd,lJ ps d)(sy:Sys H ys sd)(l:ys.length≤60)
   (k:∀(l:Addr)(us:List V)(H':Hp),cA H H'→H l=none→H' l=some (.lst us)→Lz fI H' us (eK sg qd sd)→us.length≤400→Q (.ref l) H')
def yC(C:Addr):Sp:=fun vs H Q _=>KJ C vs H Q
theorem l6:cD ["book", "sights", "talks", "entries", "k", "teller", "hearer"] ["book"] (cB fA):={}
theorem Gs (D:Df K mg "open_entries" fA ["book"] f fd) (T:Txt K mg kw C) (G_sights:Md P w K mg base 1 C "sights" (cZ C fun _ s _ _=>s)) (G_talks:Md P w K mg base 1 C "talks" (cZ C fun _ _ t _=>t)) (G_open_sights:Gd P w K mg base 4 "open_sights" (pZ C)) (G_open_tellings:Gd P w K mg base 4 "open_tellings" (qH C)):Gd P w K mg base 5 "open_entries" (yC C):=by
 refine aE D l6 fun X H vs Q E hh h=>?_
 obtain⟨x,p,s,t,y,ps,ss,ts,ys,sg,qd,sd,rfl,bk,pl,sl,tl,gs,gp,qs,qk,sy,l60,k⟩:=h
 obtain⟨S0,S1,S2,S3,S4,S5,S6,_⟩:=hh.dZ [0,1,2,3,4,5,6]
 have C_open_sights:=hh.c G_open_sights
 have C_open_tellings:=hh.c G_open_tellings
 have M_sights:=hh.met G_sights (by decide)
 have M_talks:=hh.met G_talks (by decide)
 have hsz:sizeLine=16777216:=sizeLine_eq
 refine⟨_,(ag (aA S1 hh.nd (bM M_sights (aa S0) rfl))
 (ag (aA S2 hh.nd (bM M_talks (aa S0) rfl))
 (ag (bQ (is:=[1]) (xs:=["i"]) (ns:=["sights"]) S3 hh.nd hh.calm (aQ (ao C_open_sights (aj (aa S0)))) {} (fun _ _ _ _ _=>(aT (i:=0) (by decide+kernel) rfl rfl)) (fun _ _ _ _ _=>bT) (fun _ _ _ _ _=>(aS (aM (af bo (af b7 (aU (i:=1) rfl rfl (by decide) (by decide)) (aG (i:=0) rfl rfl (by decide) (by decide)) aO) ae ak) (af bo (af b7 (aU (i:=1) rfl rfl (by decide) (by decide)) (aG (i:=0) rfl rfl (by decide) (by decide)) aO) ae ak) (aS (aD aP (aG (i:=0) rfl rfl (by decide) (by decide))))))) hh.hsc hh.hN (by decide+kernel))
 (ag (a8 hh.own hh.calm (aQ (ao C_open_tellings (aj (aa S0)))) (bE hh.calm (aI (aF S4 hh.nd) (aI (aF S5 hh.nd) (aI (aF S6 hh.nd) bp))))
 (ah (bG (bL plainAttrs_list PySem.F.slot_list_append PySem.F.type_list_append bK (aa S3) (aj (aS (aM (aa S6) (af az (af aV (aa S2) (aa S4) aO) ae ak) (aS (aM aP (aa S4) (aa S5))))))))))
 (ah (aw (aa S3))))))),?_⟩
 obtain⟨⟨dx,hx⟩,hp,hs,ht,hy⟩:=id bk
 refine⟨_,rfl,x,dx,_,rfl,hx,fL _ _ _ _ (by decide+kernel) (by decide+kernel) (by decide+kernel) (by decide+kernel),x,p,s,t,y,ss,rfl,⟨dx,hx⟩,hs,fun sb nsb=>?_⟩
 have s1:=cA.upd (o:=.lst ss) nsb
 have hsb1:upd H sb (.lst ss) sb=some (.lst ss):=cy
 generalize upd H sb (.lst ss)=H1 at s1 hsb1
 refine⟨_,rfl,x,dx,_,rfl,s1 _ _ hx,fL _ _ _ _ (by decide+kernel) (by decide+kernel) (by decide+kernel) (by decide+kernel),x,p,s,t,y,ts,rfl,⟨dx,s1 _ _ hx⟩,s1 _ _ ht,fun tb ntb=>?_⟩
 have s2:=s1.trans (cA.upd (o:=.lst ts) ntb)
 have hsb2:=cA.upd (o:=.lst ts) ntb _ _ hsb1
 have htb2:upd H1 tb (.lst ts) tb=some (.lst ts):=cy
 generalize upd H1 tb (.lst ts)=H2 at s2 hsb2 htb2
 refine⟨_,rfl,x,p,s,t,y,ps,ss,ts,ys,sg,sd,rfl,bk.mono s2,pl,sl,gs.mono (c8.mono (Tk.of s2)),gp,sy.mono (Tk.of s2),l60,fun lo H3 s3 nlo hlo=>?_⟩
 have s03:=s2.trans s3
 have hsb3:=s3 _ _ hsb2
 have htb3:=s3 _ _ htb2
 have gl:=gs.1
 have ol:=uE sg sd sg.length
 refine⟨lo,rfl,⟨_,cF.of hlo⟩,nC (fun j H' v=>∃i,((List.range sg.length).filter (gr sg (dB sd)))[j]? =some i∧fI H' v (tH sg i)) (fun j v H H' tk ⟨i,e,h⟩=>⟨i,e,h.mono tk⟩) (cF.of hlo) (by omega) ?_ ?_⟩
 ·intro j v H4 K1 hv s4 k1
  unfold hZ at hv
  rw[getElem?_map]at hv
  obtain⟨i,hi,rfl⟩:=map_eq_some_iff.mp hv
  have il:i < sg.length:=mem_range.mp (mem_filter.mp (mem_of_getElem? hi)).1
  obtain⟨vg,hvg⟩:∃vg,ss[i]? =some vg:=⟨_,getElem?_eq_getElem (by omega)⟩
  have hg:sg[i]? =some sg[i]:=getElem?_eq_getElem il
  obtain⟨ga,tale,rfl,hga⟩:=gs.2 _ _ _ hvg hg
  have ga4:=s4 _ _ (s03 _ _ hga)
  have sb4:=s4 _ _ hsb3
  have sdE:tH sg i=(sg[i].1,sg[i].2,.saw i):=by
   unfold tH
   rw[hg]
  refine⟨_,rfl,_,rfl,xL sb4 (cQ hvg) (xT ga4 rfl ⟨_,rfl,_,rfl,xL sb4 (cQ hvg) (xT ga4 rfl ⟨_,rfl,CK,fun wa nwa=>⟨oG,fun ta nta=>?_⟩⟩)⟩)⟩
  refine k1 _ _ ((cA.upd nwa).trans (cA.upd nta)) ⟨i,hi,ta,rfl,?_⟩
  rw[sdE]
  exact⟨wa,cy,cA.upd nta _ _ cy⟩
 ·intro l us0 H4 nl s4 hl ul0 ur
  have s04:=s03.trans s4
  have lz0:Lz fI H4 us0 (((List.range sg.length).filter (gr sg (dB sd))).map (tH sg)):=by
   refine⟨by rw[ul0,length_map];unfold hZ;rw[length_map],fun j v d hv hd=>?_⟩
   obtain⟨i,hi,he⟩:=ur j v hv
   rw[getElem?_map,hi]at hd
   cases hd
   exact he
  have ul24:us0.length≤24:=by omega
  clear ur
  refine⟨_,rfl,x,p,s,t,y,ps,ss,ts,ys,qd,sd,rfl,bk.mono s04,pl,tl,qs.mono (du.mono (Tk.of s04)),qk,sy.mono (Tk.of s04),l60,fun m vs H5 s5 nm hm tu=>?_⟩
  have s05:=s04.trans s5
  have hl5:=s5 _ _ hl
  have htb5:=s5 _ _ (s4 _ _ htb3)
  have tll:=tu.1
  have tlen:=iX (fM qd) 0
  have qle:(fM qd).length=qd.length:=length_map _
  have qsl:=qs.1
  have fl:=length_filter_le (cT qd sd) (fg 0 (fM qd))
  have nml:m≠l:=fun e=>by rw[e,hl]at nm;cases nm
  have nlt:tb≠l:=fun e=>by rw[←e,htb3]at nl;cases nl
  refine⟨m,rfl,⟨_,cF.of hm⟩,dk (K:=X.K) (a:=m) (xs:=vs) (Gg x sb tb l H5 (((List.range sg.length).filter (gr sg (dB sd))).map (tH sg)) (((fg 0 (fM qd)).filter (cT qd sd)).map (xG qd))) ⟨us0,none,none,none,rfl,fun b o e _=>e,hl5,by omega,by rw[take_zero,append_nil];exact lz0.mono (fI.mono (Tk.of s5))⟩ ?_ ?_ ?_⟩
  ·rintro i σ H6 hi ⟨us,e4,e5,e6,rfl,kp,hl6,ul,lz⟩
   exact cF.of (kp _ _ hm nml)
  ·rintro i v σ H6 hv ⟨us,e4,e5,e6,rfl,kp,hl6,ul,lz⟩
   have il:=(List.getElem?_eq_some_iff.mp hv).1
   obtain⟨tk,htk⟩:∃tk,((fg 0 (fM qd)).filter (cT qd sd))[i]? =some tk:=⟨_,getElem?_eq_getElem (by rw[←tu.1];exact il)⟩
   obtain⟨a,rfl,ha⟩:=tu.2 _ _ _ hv htk
   obtain⟨q,hq,_⟩:=lq qk (mem_filter.mp (mem_of_getElem? htk)).1
   obtain⟨vq,hvq⟩:∃vq,ts[tk.1]? =some vq:=⟨_,getElem?_eq_getElem (by rw[qs.1];exact(List.getElem?_eq_some_iff.mp hq).1)⟩
   obtain⟨aq,rfl,haq⟩:=qs.2 _ _ _ hvq hq
   have ntup:∀{b:Addr}{zs:List V},H5 b=some (.tup zs)→b≠l:=fun h e=>by rw[e,hl5]at h;cases h
   have haq5:=s05 _ _ haq
   have ha6:=kp _ _ ha (ntup ha)
   have haq6:=kp _ _ haq5 (ntup haq5)
   have htb6:=kp _ _ htb5 nlt
   refine⟨a,_,rfl,dq.of ha6,rfl,_,_,rfl,_,_,rfl,_,_,rfl,rfl,?_⟩
   refine⟨_,rfl,.inl ⟨rfl,_,cF.of hl6⟩,_,rfl,_,rfl,_,rfl,xL htb6 (cQ hvq) (xT haq6 rfl ⟨_,rfl,_,rfl,oG,fun wa nwa=>⟨oG,fun ta nta=>?_⟩⟩)⟩
   have sA:=cA.upd (o:=.tup [.str "heard",.int (tk.1:Nat),.str tk.2.1]) nwa
   have sB:=cA.upd (o:=.tup [.str tk.2.2,.int q.1,.ref wa]) nta
   have sAB:=sA.trans sB
   have hl7:=sAB _ _ hl6
   refine⟨l,us,.ref ta,rfl,rfl,hl7,by omega,?_⟩
   have tkU:=Tk.upd hl7 (ys:=us++[.ref ta])
   have tdE:xG qd tk=(tk.2.2,q.1,.hrd tk.1 tk.2.1):=by
    unfold xG
    rw[fj hq]
   have tt:(((fg 0 (fM qd)).filter (cT qd sd)).map (xG qd)).take (i+1)=(((fg 0 (fM qd)).filter (cT qd sd)).map (xG qd)).take i++[xG qd tk]:=by
    rw[take_add_one,getElem?_map,htk]
    rfl
   refine⟨us++[.ref ta],_,_,_,rfl,fun b o e n=>by rw[cC n];exact sAB _ _ (kp b o e n),cy,by rw[length_append];show us.length+1≤_;omega,?_⟩
   rw[tt,←append_assoc]
   refine Lz.snoc ((lz.mono (fI.mono (Tk.of sAB))).mono (fI.mono tkU)) ⟨ta,rfl,?_⟩
   rw[tdE]
   exact dJ.mono tkU ⟨wa,cy,sB _ _ cy⟩
  ·rintro σ H6 ⟨us,e4,e5,e6,rfl,kp,hl6,ul,lz⟩
   refine⟨_,rfl,k l us H6 (fun b o e=>kp b o (s05 _ _ e) (cz e (s03.free nl))) (s03.free nl) hl6 ?_ (by omega)⟩
   rw[take_of_length_le (by rw[length_map];omega)]at lz
   exact lz
def DD(ds:List ED)(F:FH)(z:Str):ED:=(ds.find? (pE F z ((F z).getD 0))).getD (z,0,.saw 0)
theorem Dx{ds:List ED}{F:FH}{z:Str}{h:Int}{d:ED}(hF:F z=some h)(e:ds.find? (pE F z h)=some d):DD ds F z=d:=by
 unfold DD
 rw[hF]
 show(ds.find? (pE F z h)).getD _=d
 rw[e]
 rfl
structure qW(ds:List ED)(F:FH)(st:List ED):Prop where
 nd:(st.map (·.1)).Nodup
 so:PyProof.Rows.sortedS (st.map (·.1))=true
 me:∀z,z∈st.map (·.1)↔(F z).isSome=true
 fi:∀d∈st,F d.1=some d.2.1∧ds.find? (pE F d.1 d.2.1)=some d
theorem sD{ds:List ED}{z:Str}{h:Int}(r:jF ds z h):∃d∈ds,d.1=z:=by
 cases r with
 |saw m=>exact⟨_,m,rfl⟩
 |hrd m _ _=>exact⟨_,m,rfl⟩
inductive Kg(vs:List V)(H:Hp)(Q:VK):Prop
 |mk(en:Addr)(as:List Addr)(ds:List ED)(ps:List Str)(e:vs=[.ref en])(he:H en=some (.lst (as.map V.ref)))(al:as.length≤500)(ll:as.length=ds.length)(le:∀(i:Nat) a d,as[i]? =some a→ds[i]? =some d→dJ H a d)(pl:ps.length≤24)(pm:∀d∈ds,d.1∈ps)
   (k:∀(l:Addr)(us:List V)(F:FH)(st:List ED)(H':Hp),cA H H'→H l=none→H' l=some (.lst us)→Lz fI H' us st→dy ds F→qW ds F st→Q (.ref l) H')
def Dh:Sp:=fun vs H Q _=>Kg vs H Q
theorem nL:cD ["entries", "known"] ["entries"] (cB gn):={}
theorem GK (D:Df K mg "first_story" gn ["entries"] f fd) (T:Txt K mg kw C) (G_first_entries:Gd P w K mg base 4 "first_entries" Br):Gd P w K mg base 5 "first_story" Dh:=by
 refine aE D nL fun X H vs Q E hh h=>?_
 obtain⟨en,as,ds,ps,rfl,he,al,ll,le,pl,pmm,k⟩:=h
 obtain⟨S0,S1,_⟩:=hh.dZ [0,1]
 have B_sorted:=hh.b T.b_sorted
 have C_first_entries:=hh.c G_first_entries
 have hu:=eG hh.room
 have hsz:sizeLine=16777216:=sizeLine_eq
 refine⟨_,(ag (aA S1 hh.nd (ao C_first_entries (aj (aa S0))))
 (ah (aw (bF (is:=[1]) (xs:=["person"]) (ns:=["known"]) hh.calm (aQ (aL B_sorted (J.gQ hh.calm) L2.gJ (aj (aa S1)))) {} (fun _ _ _ _ _=>(aT (i:=0) (by decide+kernel) rfl rfl)) (fun _ _ _ _ _=>bT) (fun _ _ _ _ _=>(bq hu (aU (i:=1) rfl rfl (by decide) (by decide)) (aG (i:=0) rfl rfl (by decide) (by decide)) aO)) hh.hsc hh.hN)))),?_⟩
 refine⟨_,rfl,en,as,ds,rfl,he,al,ll,le,fun kn kvs F H1 s1 nkn hkn kd fo sk fst=>?_⟩
 obtain⟨zs,sk,nd⟩:=sk
 have zF:∀z,z∈zs↔(F z).isSome=true:=fun z=>by
  rw[t9 sk]
  cases hF:F z with
  |none=>
   rw[kd.no z hF]
   exact⟨fun h=>(by cases h),fun h=>(by cases h)⟩
  |some h=>
   obtain⟨a,w,e,_⟩:=kd.yes z h hF
   rw[e]
   exact⟨fun _=>rfl,fun _=>rfl⟩
 have zl:zs.length≤ps.length:=nH nd fun z hz=>by
  obtain⟨h,hF⟩:=isSome_iff_exists.mp ((zF z).mp hz)
  obtain⟨d,md,rfl⟩:=sD (fo.so z h hF)
  exact pmm d md
 refine⟨_,rfl,kn,kvs,zs,rfl,hkn,sk,by omega,fun l1 zs' nl1 _ pm so=>?_⟩
 have s2:=cA.upd (o:=.lst (zs'.map V.str)) nl1
 have hl1:upd H1 l1 (.lst (zs'.map V.str)) l1=some (.lst (zs'.map V.str)):=cy
 generalize upd H1 l1 (.lst (zs'.map V.str))=H2 at s2 hl1
 have nd':zs'.Nodup:=pm.symm.nodup nd
 have zF':∀z,z∈zs'↔(F z).isSome=true:=fun z=>(pm.mem_iff).trans (zF z)
 have zl':=pm.length_eq
 have ee:∀z∈zs',∃h a w,F z=some h∧DD ds F z=(z,h,w)∧cS kvs (Sum.inr z)=some (.ref a)∧dJ H1 a (z,h,w)∧ds.find? (pE F z h)=some (z,h,w):=fun z hz=>by
  obtain⟨h,hF⟩:=isSome_iff_exists.mp ((zF' z).mp hz)
  obtain⟨a,w,e1,e2,e3⟩:=fst z h hF
  exact⟨h,a,w,hF,Dx hF e3,e1,e2,e3⟩
 refine⟨l1,rfl,⟨_,cF.of hl1⟩,nC (fun j H v=>∃z,zs'[j]? =some z∧fI H v (DD ds F z)) (fun _ _ _ _ tk ⟨z,e,h⟩=>⟨z,e,h.mono tk⟩) (cF.of hl1) (by rw[length_map];omega) ?_ ?_⟩
 ·intro i v H5 K1 hv s5 k1
  rw[getElem?_map]at hv
  obtain⟨z,hz,rfl⟩:=map_eq_some_iff.mp hv
  obtain⟨h,a,w,hF,e0,e1,e2,_⟩:=ee z (mem_of_getElem? hz)
  have dg:=ei.k (k:=Sum.inr z) (s5 _ _ (s2 _ _ hkn))
  rw[e1]at dg
  exact⟨_,rfl,_,rfl,kn,_,rfl,dg,k1 _ _ (cA.refl _) ⟨z,hz,a,rfl,by rw[e0];exact e2.mono (Tk.of (s2.trans s5))⟩⟩
 ·intro rw' ws H5 nrw s5 hrw wl wr
  have e1:(zs'.map (DD ds F)).map (·.1)=zs':=by
   rw[map_map]
   refine(map_congr_left fun z hz=>?_).trans (List.map_id _)
   obtain⟨h,a,w,_,e0,_⟩:=ee z hz
   show(DD ds F z).1=z
   rw[e0]
  refine k rw' ws F (zs'.map (DD ds F)) H5 ((s1.trans s2).trans s5) ((s1.trans s2).free nrw) hrw ⟨by rw[wl,length_map,length_map],fun j v d hv hd=>?_⟩ fo ⟨by rw[e1];exact nd',by rw[e1];exact so,by rw[e1];exact zF',fun d hd=>?_⟩
  ·obtain⟨z,hz,h⟩:=wr j v hv
   rw[getElem?_map,hz]at hd
   cases hd
   exact h
  ·obtain⟨z,hz,rfl⟩:=mem_map.mp hd
   obtain⟨h,a,w,hF,e0,_,_,ff⟩:=ee z hz
   rw[e0]
   exact⟨hF,ff⟩
theorem vy:∀{us:List V},(∀v∈us,∃a,v=V.ref a)→∃as:List Addr,us=as.map V.ref
 |[],_=>⟨[],rfl⟩
 |v::r,h=>by
  obtain⟨a,rfl⟩:=h v mem_cons_self
  obtain⟨as,e⟩:=vy fun u hu=>h u (mem_cons_of_mem _ hu)
  exact⟨a::as,by rw[e];rfl⟩
theorem p7{H:Hp}{us:List V}{ds:List ED}(lz:Lz fI H us ds):∃as:List Addr,us=as.map V.ref∧as.length=ds.length∧∀(i:Nat) a d,as[i]? =some a→ds[i]? =some d→dJ H a d:=by
 obtain⟨as,rfl⟩:=vy (us:=us) fun v hv=>by
  obtain⟨i,hi⟩:=getElem?_of_mem hv
  obtain⟨d,_,a,e,_⟩:=lz.at hi
  exact⟨a,e⟩
 refine⟨as,rfl,by rw[←lz.1,length_map],fun i a d ha hd=>?_⟩
 obtain⟨a',e,h⟩:=lz.2 i _ d (by rw[getElem?_map,ha];rfl) hd
 cases e
 exact h
theorem mD{sg:List GD}{qd:List QD}{sd:List SD}{z:Str}{h:Int}{i:Nat}(m:(z,h,EW.saw i)∈eK sg qd sd):i∈(List.range sg.length).filter (gr sg (dB sd))∧sg[i]? =some (z,h):=by
 unfold eK at m
 rcases mem_append.mp m with m|m
 ·obtain⟨j,mj,e⟩:=mem_map.mp m
  have jl:=mem_range.mp (mem_filter.mp mj).1
  have hg:sg[j]? =some sg[j]:=getElem?_eq_getElem jl
  unfold tH at e
  rw[hg]at e
  have e':(sg[j].1,sg[j].2,EW.saw j)=(z,h,EW.saw i):=e
  cases e'
  exact⟨mj,hg⟩
 ·obtain⟨t,_,e⟩:=mem_map.mp m
  unfold xG at e
  cases e
theorem mR{sg:List GD}{qd:List QD}{sd:List SD}{z te:Str}{h:Int}{k:Nat}(m:(z,h,EW.hrd k te)∈eK sg qd sd):(k,te,z)∈(fg 0 (fM qd)).filter (cT qd sd)∧cY qd k=h:=by
 unfold eK at m
 rcases mem_append.mp m with m|m
 ·obtain⟨j,mj,e⟩:=mem_map.mp m
  unfold tH at e
  cases hg:sg[j]? with
  |none=>rw[hg]at e;cases e
  |some g=>rw[hg]at e;cases e
 ·obtain⟨t,mt,e⟩:=mem_map.mp m
  unfold xG at e
  cases e
  exact⟨mt,rfl⟩
def lU(st:List ED):List (Key×V):=st.map fun d=>(Sum.inr d.1,V.int d.2.1)
theorem zb{st:List ED}{i:Nat}{d:ED}(nd:(st.map (·.1)).Nodup)(hd:st[i]? =some d):putK (lU (st.take i)) (Sum.inr d.1) (.int d.2.1)=lU (st.take (i+1)):=by
 have no:((lU (st.take i)).any fun kv=>decide (kv.1=Sum.inr d.1))=false:=by
  rw[any_eq_false]
  intro kv hkv e
  obtain⟨d',hd',rfl⟩:=mem_map.mp hkv
  have e':d'.1=d.1:=Sum.inr.inj (of_decide_eq_true e)
  obtain⟨j,hj,hj'⟩:=lS hd'
  have h1:(st.map (·.1))[j]? =some d.1:=by rw[getElem?_map,hj'];exact congrArg some e'
  have h2:(st.map (·.1))[i]? =some d.1:=by rw[getElem?_map,hd];rfl
  have:=(List.getElem?_inj (by exact(List.getElem?_eq_some_iff.mp h1).1) nd).mp (h1.trans h2.symm)
  omega
 unfold putK
 rw[no,if_neg Bool.false_ne_true,take_add_one,hd]
 unfold lU
 rw[map_append]
 rfl
theorem m9{ds st:List ED}{F:FH}(so:qW ds F st)(z:Str):cS (lU st) (Sum.inr z)=(F z).map V.int:=by
 unfold cS lU
 rw[List.find?_map]
 cases h:st.find? ((fun kv:Key×V=>decide (kv.1=Sum.inr z)) ∘ fun d=>(Sum.inr d.1,V.int d.2.1)) with
 |none=>
  cases hF:F z with
  |none=>rfl
  |some i=>
   obtain⟨d,hd,e⟩:=mem_map.mp ((so.me z).mpr (by rw[hF];rfl))
   have:=List.find?_eq_none.mp h d hd
   exact absurd (decide_eq_true (congrArg Sum.inr e)) this
 |some d=>
  have e0:decide ((Sum.inr d.1:Key)=Sum.inr z)=true:=List.find?_some (p:=(fun kv:Key×V=>decide (kv.1=Sum.inr z)) ∘ fun d:ED=>(Sum.inr d.1,V.int d.2.1)) h
  have e:d.1=z:=Sum.inr.inj (of_decide_eq_true e0)
  have:=(so.fi d (List.mem_of_find?_eq_some h)).1
  rw[e]at this
  rw[this]
  rfl
abbrev RD:=Str×Option Int
def xj(H:Hp)(v:V)(d:RD):Prop:=∃a:Addr,v=.ref a∧H a=some (.tup [.str d.1,oV d.2])
theorem xj.mono{H H':Hp}(s:Tk H H')(v:V)(d:RD)(h:xj H v d):xj H' v d:=by
 obtain⟨a,e,ha⟩:=h
 exact⟨a,e,s _ _ ha⟩
def ie(ps:List Str):List Str:=ps.mergeSort fun a b=> !PySem.Spec.ltCps b.cps.toList a.cps.toList
theorem iR(ps:List Str):(ie ps).Perm ps:=List.mergeSort_perm ..
theorem tV(ps:List Str):PyProof.Rows.sortedS (ie ps)=true:=by
 refine PyProof.Rows.sortedS_of_pairwise _ ((List.pairwise_mergeSort (le:=fun a b=> !PySem.Spec.ltCps b.cps.toList a.cps.toList) (fun a b c h1 h2=>?_) (fun a b=>?_) ps).imp fun {a b} h=>?_)
 ·rw[not_eq_true']at *
  exact le_trans' h1 h2
 ·rw[Bool.or_eq_true,not_eq_true',not_eq_true',PyProof.Rows.ltCps_eq,PyProof.Rows.ltCps_eq,decide_eq_false_iff_not,decide_eq_false_iff_not,not_lt,not_lt]
  exact List.le_total _ _
 ·rw[not_eq_true']at h
  exact h
theorem Aj{zs ps:List Str}(h:zs.Perm ps)(s:PyProof.Rows.sortedS zs=true):zs=ie ps:=oE (h.trans (iR ps).symm) s (tV ps)
inductive HH(C:Addr)(vs:List V)(H:Hp)(Q:VK):Prop
 |mk(x p s t y:Addr)(ps:List Str)(ss ts ys:List V)(sg:List GD)(qd:List QD)(sd:List SD)(e:vs=[.ref x])(bk:Bk C H x p s t y ps ss ts ys)(pl:ps.length≤24)(sl:ss.length≤24)(tl:ts.length≤120)(gs:Lz c8 H ss sg)(gp:∀d∈sg,d.1∈ps)(qs:Lz du H ts qd)(qk:∀d∈qd,lJ ps d)(sy:Sys H ys sd)(l:ys.length≤60)
   (k:∀(l:Addr)(us:List V)(F:FH)(H':Hp),cA H H'→H l=none→H' l=some (.lst us)→Lz xj H' us ((ie ps).map fun z=>(z,F z))→dy (eK sg qd sd) F→Q (.ref l) H')
def yA(C:Addr):Sp:=fun vs H Q _=>HH C vs H Q
theorem rM:cD ["book", "known"] ["book"] (cB jA):={}
theorem Dz (D:Df K mg "earliest" jA ["book"] f fd) (T:Txt K mg kw C) (G_persons:Md P w K mg base 1 C "persons" (cZ C fun p _ _ _=>p)) (G_open_entries:Gd P w K mg base 5 "open_entries" (yC C)) (G_first_entries:Gd P w K mg base 4 "first_entries" Br) (G_hour_of:Gd P w K mg base 1 "hour_of" xQ):Gd P w K mg base 6 "earliest" (yA C):=by
 refine aE D rM fun X H vs Q E hh h=>?_
 obtain⟨x,p,s,t,y,ps,ss,ts,ys,sg,qd,sd,rfl,bk,pl,sl,tl,gs,gp,qs,qk,sy,l60,k⟩:=h
 obtain⟨S0,S1,_⟩:=hh.dZ [0,1]
 have B_sorted:=hh.b T.b_sorted
 have C_first_entries:=hh.c G_first_entries
 have C_open_entries:=hh.c G_open_entries
 have CI_hour_of:=hh.ci G_hour_of
 have M_persons:=hh.met G_persons (by decide)
 have hu:=eG hh.room
 have hsz:sizeLine=16777216:=sizeLine_eq
 refine⟨_,(ag (aA S1 hh.nd (ao C_first_entries (aj (ao C_open_entries (aj (aa S0))))))
 (ah (aw (bF (is:=[1]) (xs:=["person"]) (ns:=["known"]) hh.calm (aQ (aL B_sorted J.fh L2.gJ (aj (bM M_persons (aa S0) rfl)))) {} (fun _ _ _ _ _=>(aT (i:=0) (by decide+kernel) rfl rfl)) (fun _ _ _ _ _=>bT) (fun _ _ _ _ _=>(aS (aD (aG (i:=0) rfl rfl (by decide) (by decide)) (J.Cv (J.qN hu (aG (i:=0) rfl rfl (by decide) (by decide)) (aU (i:=1) rfl rfl (by decide) (by decide))) (ao (CI_hour_of.lg rfl) (aj (bq hu (aU (i:=1) rfl rfl (by decide) (by decide)) (aG (i:=0) rfl rfl (by decide) (by decide)) aO))) bA)))) hh.hsc hh.hN)))),?_⟩
 obtain⟨⟨dx,hx⟩,hp,hs,ht,hy⟩:=id bk
 refine⟨_,rfl,x,p,s,t,y,ps,ss,ts,ys,sg,qd,sd,rfl,bk,pl,sl,tl,gs,gp,qs,qk,sy,l60,fun en us H1 s1 nen hen lz ul=>?_⟩
 obtain⟨as,rfl,ll,le⟩:=p7 lz
 rw[length_map]at ul
 refine⟨en,as,eK sg qd sd,rfl,hen,(by omega),ll,le,fun kn kvs F H2 s2 nkn hkn kd fo _ _=>?_⟩
 have s02:=s1.trans s2
 refine⟨_,rfl,x,dx,_,rfl,s02 _ _ hx,fL _ _ _ _ (by decide+kernel) (by decide+kernel) (by decide+kernel) (by decide+kernel),x,p,s,t,y,ps.map V.str,rfl,⟨dx,s02 _ _ hx⟩,s02 _ _ hp,fun pb npb=>?_⟩
 have s3:=cA.upd (o:=.lst (ps.map V.str)) npb
 have hpb:upd H2 pb (.lst (ps.map V.str)) pb=some (.lst (ps.map V.str)):=cy
 generalize upd H2 pb (.lst (ps.map V.str))=H3 at s3 hpb
 refine⟨pb,ps,rfl,cF.of hpb,by omega,fun l1 zs nl1 pm zo=>?_⟩
 cases Aj pm zo
 have srl:(ie ps).length=ps.length:=(iR ps).length_eq
 have s4:=s3.trans (cA.upd (o:=.lst ((ie ps).map V.str)) nl1)
 have hl1:upd H3 l1 (.lst ((ie ps).map V.str)) l1=some (.lst ((ie ps).map V.str)):=cy
 generalize upd H3 l1 (.lst ((ie ps).map V.str))=H4 at s4 hl1
 refine⟨l1,rfl,⟨_,cF.of hl1⟩,nC (fun j H v=>∃z,(ie ps)[j]? =some z∧xj H v (z,F z)) (fun _ _ _ _ tk ⟨z,e,h⟩=>⟨z,e,h.mono tk⟩) (cF.of hl1) (by rw[length_map];omega) ?_ ?_⟩
 ·intro i v H5 K1 hv s5 k1
  rw[getElem?_map]at hv
  obtain⟨z,hz,rfl⟩:=map_eq_some_iff.mp hv
  have hkn5:=s5 _ _ (s4 _ _ hkn)
  have dg:=ei.k (k:=Sum.inr z) hkn5
  cases hF:F z with
  |none=>
   rw[kd.no z hF]at dg
   exact⟨_,rfl,_,rfl,_,rfl,kn,_,rfl,dg,_,rfl,cN ⟨CK,fun t2 nt2=>k1 _ _ (cA.upd nt2) ⟨z,hz,t2,rfl,by rw[hF];exact cy⟩⟩⟩
  |some h=>
   obtain⟨ea,w2,e1,e2⟩:=kd.yes z h hF
   rw[e1]at dg
   exact⟨_,rfl,_,rfl,_,rfl,kn,_,rfl,dg,_,rfl,c9 ⟨_,rfl,_,rfl,kn,_,rfl,dg,ea,z,h,w2,rfl,s5 _ _ (s4 _ _ e2),CK,fun t2 nt2=>k1 _ _ (cA.upd nt2) ⟨z,hz,t2,rfl,by rw[hF];exact cy⟩⟩⟩
 ·intro rw' ws H5 nrw s5 hrw wl wr
  refine k rw' ws F H5 ((s02.trans s4).trans s5) ((s02.trans s4).free nrw) hrw ⟨by rw[wl,length_map,length_map],fun j v d hv hd=>?_⟩ fo
  obtain⟨z,hz,h⟩:=wr j v hv
  rw[getElem?_map,hz]at hd
  cases hd
  exact h
theorem ve{sg:List GD}{qd:List QD}{sd:List SD}{F G:FH}(so:p0 sg F ((List.range sg.length).filter (gr sg (dB sd))))(to:∀t∈(fg 0 (fM qd)).filter (cT qd sd),EU qd F t)
  (rc:∀z i,F z=some i→gS sg qd ((List.range sg.length).filter (gr sg (dB sd))) ((fg 0 (fM qd)).filter (cT qd sd)) z i)(fo:dy (eK sg qd sd) G):∀z,F z=G z:=by
 have a1:∀{z:Str}{h:Int},gS sg qd ((List.range sg.length).filter (gr sg (dB sd))) ((fg 0 (fM qd)).filter (cT qd sd)) z h→∃b,b≤h∧G z=some b:=fun r=>by
  induction r with
  |saw m e=>
   rename_i i g
   have md:(g.1,g.2,EW.saw i)∈eK sg qd sd:=by
    unfold eK
    refine mem_append_left _ (mem_map.mpr ⟨i,m,?_⟩)
    unfold tH
    rw[e]
   exact fo.cl _ md rfl
  |hrd m r l ih=>
   rename_i t h'
   obtain⟨b,b1,b2⟩:=ih
   have md:xG qd t∈eK sg qd sd:=by
    unfold eK
    exact mem_append_right _ (mem_map.mpr ⟨t,m,rfl⟩)
   refine fo.cl _ md ?_
   show(match G t.2.1 with|none=>false|some a=>decide (a < cY qd t.1))=true
   rw[b2]
   exact decide_eq_true (by omega)
 have a2:∀{z:Str}{h:Int},jF (eK sg qd sd) z h→∃b,b≤h∧F z=some b:=fun r=>by
  induction r with
  |saw m=>
   obtain⟨mi,hg⟩:=mD m
   obtain⟨j,j1,j2⟩:=so _ mi _ hg
   exact⟨j,j2,j1⟩
  |hrd m r l ih=>
   obtain⟨b,b1,b2⟩:=ih
   obtain⟨mt,e3⟩:=mR m
   obtain⟨c,c1,c2⟩:=to _ mt b b2 (by rw[e3];omega)
   rw[e3]at c2
   exact⟨c,c2,c1⟩
 intro z
 cases hF:F z with
 |none=>
  cases hG:G z with
  |none=>rfl
  |some b=>
   obtain⟨c,_,e⟩:=a2 (fo.so z b hG)
   rw[hF]at e
   cases e
 |some a=>
  obtain⟨b,b1,b2⟩:=a1 (rc z a hF)
  obtain⟨c,c1,c2⟩:=a2 (fo.so z b b2)
  rw[hF]at c2
  cases c2
  rw[b2,show a=b by omega]
inductive Kv(vs:List V)(H:Hp)(Q:VK):Prop
 |mk(l:Addr)(us:List V)(st:List ED)(e:vs=[.ref l])(hl:H l=some (.lst us))(lz:Lz fI H us st)(nd:(st.map (·.1)).Nodup)(sl:st.length≤24)(k:∀d H',cA H H'→H' d=some (.dK (lU st))→Q (.ref d) H')
def Cd:Sp:=fun vs H Q _=>Kv vs H Q
def Ht(F:FH)(q:Str)(o:Option Int):Bool:=match F q with
 |none=>true
 |some i=>match o with
  |none=>false
  |some j=>decide (i > j)
inductive Kb(vs:List V)(H:Hp)(Q:VK):Prop
 |mk(d:Addr)(q:Str)(h:Int)(kvs:List (Key×V))(F:FH)(e:vs=[.ref d,.str q,.int h])(hd:H d=some (.dK kvs))(get:∀z,cS kvs (Sum.inr z)=(F z).map V.int)(k:Q (.bl (mE F (.knew q h))) H)
def Ej:Sp:=fun vs H Q _=>Kb vs H Q
inductive Kc(vs:List V)(H:Hp)(Q:VK):Prop
 |mk(d:Addr)(q:Str)(o:Option Int)(kvs:List (Key×V))(F:FH)(e:vs=[.ref d,.str q,oV o])(hd:H d=some (.dK kvs))(get:∀z,cS kvs (Sum.inr z)=(F z).map V.int)(k:Q (.bl (Ht F q o)) H)
def DN:Sp:=fun vs H Q _=>Kc vs H Q
def mS(q:Str)(d:ED):Bool:=match d.2.2 with
 |.saw _=>false
 |.hrd _ te=>decide (te=q)
inductive KH(vs:List V)(H:Hp)(Q:VK):Prop
 |mk(l:Addr)(us:List V)(st:List ED)(q:Str)(b e:Int)(ev:vs=[.ref l,.str q,.int b,.int e])(hl:H l=some (.lst us))(lz:Lz fI H us st)(sl:st.length≤24)(no:∀d∈st,mS q d=true→¬(b≤d.2.1∧d.2.1≤e))(k:∀H',cA H H'→Q (.bl true) H')
def EG:Sp:=fun vs H Q _=>KH vs H Q
inductive Kk(vs:List V)(H:Hp)(Q:VK):Prop
 |mk(l:Addr)(us:List V)(st:List ED)(p q:Str)(ev:vs=[.ref l,.str p,.str q])(hl:H l=some (.lst us))(lz:Lz fI H us st)(sl:st.length≤24)(no:∀d∈st,d.1=p→mS q d=false)(k:∀H',cA H H'→Q (.bl true) H')
def DY:Sp:=fun vs H Q _=>Kk vs H Q
def EC(p:Str)(d:ED):Bool:=decide (d.1=p) && (match d.2.2 with|.saw _=>false|.hrd _ _=>true)
theorem wm{H:Hp}:∀{us:List V}{st:List ED},Lz fI H us st→∃ws:List (Addr×ED),ws.map (·.2)=st∧∀(i:Nat) v pr,us[i]? =some v→ws[i]? =some pr→∃a,v=.ref a∧H a=some (.tup [.str pr.2.1,.int pr.2.2.1,.ref pr.1])∧ro H pr.1 pr.2.2.2
 |[],[],_=>⟨[],rfl,fun i v pr h=>by cases h⟩
 |[],_::_,lz=>by cases lz.1
 |_::_,[],lz=>by cases lz.1
 |u::us,d::st,lz=>by
  obtain⟨a,rfl,wa,ha,hw⟩:=lz.2 0 u d rfl rfl
  obtain⟨ws,e,h⟩:=wm (us:=us) (st:=st) ⟨Nat.succ.inj lz.1,fun i v d h1 h2=>lz.2 (i+1) v d h1 h2⟩
  refine⟨(wa,d)::ws,by rw[map_cons,e],fun i v pr h1 h2=>?_⟩
  cases i with
  |zero=>
   cases h1
   cases h2
   exact⟨a,rfl,ha,hw⟩
  |succ j=>exact h j v pr h1 h2
theorem any_none{bs:List Bool}(h:∀b∈bs,b=false):bs.any id=false:=by
 rw[any_eq_false]
 intro b hb
 rw[h b hb]
 exact Bool.false_ne_true
theorem tF:cD ["story", "hours", "person", "hour", "way"] ["story"] (cB jx):={}
theorem Fw (D:Df K mg "hours_in" jx ["story"] f fd):Gd P w K mg base 1 "hours_in" Cd:=by
 refine aE D tF fun X H vs Q E hh h=>?_
 obtain⟨l,us,st,rfl,hl,lz,nd,sl,k⟩:=h
 obtain⟨S0,S1,S2,S3,S4,_⟩:=hh.dZ [0,1,2,3,4]
 have hu:=eG hh.room
 have hsz:sizeLine=16777216:=sizeLine_eq
 refine⟨_,(ag (aA S1 hh.nd cv)
 (ag (a8 hh.own hh.calm (aQ (aa S0)) (bE hh.calm (aI (aF S2 hh.nd) (aI (aF S3 hh.nd) (aI (aF S4 hh.nd) bp))))
 (ah (bV hu (aa S1) (aa S2) (aa S3))))
 (ah (aw (aa S1))))),?_⟩
 intro kn nkn
 have s3:=cA.upd (o:=.dK []) nkn
 have hk3:upd H kn (.dK []) kn=some (.dK []):=cy
 generalize upd H kn (.dK [])=H3 at s3 hk3
 refine⟨_,rfl,l,rfl,⟨_,cF.of (s3 _ _ hl)⟩,dk (K:=X.K) (a:=l) (xs:=us) (fun i σ H4=>∃e2 e3 e4:Option V,σ=[some (.ref l),some (.ref kn),e2,e3,e4]∧cA H H4∧H4 kn=some (.dK (lU (st.take i)))) ⟨none,none,none,rfl,s3,hk3⟩ ?_ ?_ ?_⟩
 ·rintro i σ H4 hi ⟨e2,e3,e4,rfl,s4,hk4⟩
  exact cF.of (s4 _ _ hl)
 ·rintro i v σ H4 hv ⟨e2,e3,e4,rfl,s4,hk4⟩
  obtain⟨d,hd,a,rfl,wa,ha,hw⟩:=lz.at hv
  have il:=(List.getElem?_eq_some_iff.mp hd).1
  have kl:(lU (st.take i)).length < sizeLine:=by
   unfold lU
   rw[length_map,length_take]
   omega
  refine⟨a,_,rfl,dq.of (s4 _ _ ha),rfl,_,_,rfl,_,_,rfl,_,_,rfl,rfl,?_⟩
  refine⟨_,rfl,_,rfl,_,rfl,kn,_,rfl,kF.k (k:=Sum.inr d.1) hk4 kl,_,_,_,rfl,fun b o e=>?_,?_⟩
  ·rw[cC (cz e nkn)]
   exact s4 _ _ e
  ·rw[cy,zb nd hd]
 ·rintro σ H4 ⟨e2,e3,e4,rfl,s4,hk4⟩
  rw[lz.1,take_length]at hk4
  exact⟨_,rfl,k kn H4 s4 hk4⟩
theorem qp:cD ["hours", "person", "hour"] ["hours", "person", "hour"] (cB iB):={}
theorem E8 (D:Df K mg "fits_knew" iB ["hours", "person", "hour"] f fd):Gd P w K mg base 1 "fits_knew" Ej:=by
 refine aE D qp fun X H vs Q E hh h=>?_
 obtain⟨d,q,h,kvs,F,rfl,hd,get,k⟩:=h
 obtain⟨S0,S1,S2,_⟩:=hh.dZ [0,1,2]
 have hu:=eG hh.room
 refine⟨_,(ah (aw (aX (J.qT hu (aa S1) (aa S0)) (a7 (aZ bH (bq hu (aa S0) (aa S1) aO) (aa S2) (L2.cE _)))))),?_⟩
 have dg:=ei.k (k:=Sum.inr q) hd
 rw[get]at dg
 have k':Q (.bl (match F q with|none=>false|some i=>decide (i≤h))) H:=k
 cases hF:F q with
 |none=>
  rw[hF]at k' dg
  exact⟨_,rfl,_,rfl,d,_,rfl,dg,_,rfl,cN k'⟩
 |some i=>
  rw[hF]at k' dg
  exact⟨_,rfl,_,rfl,d,_,rfl,dg,_,rfl,c9 ⟨_,rfl,_,rfl,d,_,rfl,dg,_,rfl,_,_,rfl,rfl,k'⟩⟩
theorem l5:cD ["hours", "person", "hour"] ["hours", "person", "hour"] (cB fG):={}
theorem Fn (D:Df K mg "fits_unheard" fG ["hours", "person", "hour"] f fd):Gd P w K mg base 1 "fits_unheard" DN:=by
 refine aE D l5 fun X H vs Q E hh h=>?_
 obtain⟨d,q,o,kvs,F,rfl,hd,get,k⟩:=h
 obtain⟨S0,S1,S2,_⟩:=hh.dZ [0,1,2]
 have hu:=eG hh.room
 refine⟨_,(ah (aw (J.tq (J.lG hu (aa S1) (aa S0)) (a7 (aX (aZ cq (aa S2) bA (L2.cE _)) (a7 (aZ bP (bq hu (aa S0) (aa S1) aO) (aa S2) (L2.cE _)))))))),?_⟩
 have dg:=ei.k (k:=Sum.inr q) hd
 rw[get]at dg
 unfold Ht at k
 cases hF:F q with
 |none=>
  rw[hF]at k dg
  exact⟨_,rfl,_,rfl,d,_,rfl,dg,_,rfl,c9 k⟩
 |some i=>
  rw[hF]at k dg
  cases o with
  |none=>exact⟨_,rfl,_,rfl,d,_,rfl,dg,_,rfl,cN ⟨_,rfl,rfl,_,rfl,cN k⟩⟩
  |some j=>exact⟨_,rfl,_,rfl,d,_,rfl,dg,_,rfl,cN ⟨_,rfl,rfl,_,rfl,c9 ⟨_,rfl,_,rfl,d,_,rfl,dg,_,rfl,_,_,rfl,rfl,k⟩⟩⟩
theorem nX:cD ["story", "person", "begin", "end", "heard"] ["story", "person", "begin", "end"] (cB gj):={}
theorem Fu (D:Df K mg "fits_silent" gj ["story", "person", "begin", "end"] f fd) (T:Txt K mg kw C):Gd P w K mg base 1 "fits_silent" EG:=by
 refine aE D nX fun X H vs Q E hh h=>?_
 obtain⟨l,us,st,q,b,e,rfl,hl,lz,sl,no,k⟩:=h
 obtain⟨S0,S1,S2,S3,S4,_⟩:=hh.dZ [0,1,2,3,4]
 have B_any:=hh.b T.b_any
 have hsz:sizeLine=16777216:=sizeLine_eq
 have ul:=lz.1
 refine⟨_,(ag (bQ (is:=[1]) (xs:=["hearer", "hour", "way"]) (ns:=["person"]) S4 hh.nd hh.calm (aQ (aa S0)) {} (fun _ _ _ _ _=>(J.mQ (n:=3) hh.calm (aI (aT (i:=0) (by decide+kernel) rfl rfl) (aI (aT (i:=1) (by decide+kernel) rfl rfl) (aI (aT (i:=2) (by decide+kernel) rfl rfl) bp))))) (fun _ _ _ _ _=>(bz (aY (bf (aB aK (af bo (aG (i:=2) rfl rfl (by decide) (by decide)) ae ak) aP (L2.cE _)) (bC (aB aK (af bo (aG (i:=2) rfl rfl (by decide) (by decide)) ae ak) (aU (i:=3) rfl rfl (by decide) (by decide)) (L2.cE _))))))) (fun _ _ _ _ _=>(aG (i:=1) rfl rfl (by decide) (by decide))) hh.hsc hh.hN (by decide+kernel))
 (ah (aw (J.nV (aL B_any (J.gB hh.calm) L2.ug (aj (bF (is:=[2,3]) (xs:=["hour"]) (ns:=["begin", "end"]) hh.calm (aQ (aa S4)) {} (fun _ _ _ _ _=>(aT (i:=0) (by decide+kernel) rfl rfl)) (fun _ _ _ _ _=>bT) (fun _ _ _ _ _=>(J.gI bH bH (aU (i:=1) rfl rfl (by decide) (by decide)) (aG (i:=0) rfl rfl (by decide) (by decide)) (aU (i:=2) rfl rfl (by decide) (by decide)) L2.jB)) hh.hsc hh.hN))))))),?_⟩
 refine⟨_,rfl,l,rfl,⟨_,cF.of hl⟩,dz (xs:=us) (gr st (mS q)) (mK st fun d=>V.int d.2.1) (cF.of hl) (by omega) ?_ ?_⟩
 ·intro i os v H2 K1 K2 hv hos s2 k1 k2
  match os,hos with
  |[o1,o2,o3],_=>
   obtain⟨d,hd,a,rfl,wa,ha,hw⟩:=lz.at hv
   rw[dC hd]at k1 k2
   rw[d6 hd]at k1
   refine⟨a,_,rfl,dq.of (s2 _ _ ha),rfl,_,_,rfl,_,_,rfl,_,_,rfl,rfl,⟨[some (.str d.1),some (.int d.2.1),some (.ref wa)],rfl,rfl⟩,?_⟩
   obtain⟨z,h,w⟩:=d
   cases w with
   |saw i'=>exact⟨_,rfl,xT (s2 _ _ hw) rfl ⟨rfl,_,rfl,iN (cN (k2 rfl H2 (cA.refl _)))⟩⟩
   |hrd kk te=>
    refine⟨_,rfl,xT (s2 _ _ hw) rfl ⟨rfl,_,rfl,iP ⟨_,rfl,xT (s2 _ _ hw) rfl ⟨_,rfl,rfl,_,rfl,cW (fun hq=>⟨_,rfl,k1 ?_ H2 (cA.refl _)⟩) (fun hq=>k2 ?_ H2 (cA.refl _))⟩⟩⟩⟩
    ·exact decide_eq_true (V.str.inj (of_decide_eq_true hq))
    ·exact decide_eq_false fun e=>hq (decide_eq_true (congrArg V.str e))
 intro o H1 no1 s1 ho
 rw[ul,dw]at ho
 have fl:=length_filter_le (mS q) st
 refine⟨_,rfl,o,rfl,⟨_,cF.of ho⟩,dz (xs:=(st.filter (mS q)).map fun d=>V.int d.2.1) (gr (st.filter (mS q)) fun _=>true) (mK (st.filter (mS q)) fun _=>V.bl false) (cF.of ho) (by rw[length_map];omega) ?_ ?_⟩
 ·intro i os v H2 K1 K2 hv hos s2 k1 k2
  match os,hos with
  |[o1],_=>
   rw[getElem?_map]at hv
   obtain⟨d,hd,rfl⟩:=map_eq_some_iff.mp hv
   rw[dC hd]at k1
   rw[d6 hd]at k1
   obtain⟨md,mf⟩:=mem_filter.mp (mem_of_getElem? hd)
   have nd:=no d md mf
   refine⟨⟨[some (.int d.2.1)],rfl,rfl⟩,c9 (B:=K2 H2) ⟨_,rfl,_,rfl,_,_,rfl,rfl,_,rfl,cW (fun hb=>⟨_,rfl,_,_,rfl,rfl,?_⟩) (fun hb=>?_)⟩⟩
   ·rw[decide_eq_false fun x=>nd ⟨of_decide_eq_true hb,x⟩]
    exact k1 rfl H2 (cA.refl _)
   ·exact k1 rfl H2 (cA.refl _)
 ·intro D2 H3 hD2 s3 hd3
  rw[length_map,dw,List.filter_eq_self.mpr (fun _ _=>rfl)]at hd3
  have e2:((st.filter (mS q)).map fun _=>V.bl false)=((st.filter (mS q)).map fun _=>false).map V.bl:=by rw[map_map];rfl
  rw[e2]at hd3
  refine⟨D2,_,rfl,cF.of hd3,?_⟩
  rw[any_none fun b hb=>by obtain⟨_,_,rfl⟩:=mem_map.mp hb;rfl]
  exact⟨_,rfl,k _ (s1.trans s3)⟩
theorem ox:cD ["story", "person", "other", "ways"] ["story", "person", "other"] (cB gv):={}
theorem FL (D:Df K mg "fits_barred" gv ["story", "person", "other"] f fd) (T:Txt K mg kw C):Gd P w K mg base 1 "fits_barred" DY:=by
 refine aE D ox fun X H vs Q E hh h=>?_
 obtain⟨l,us,st,p,q,rfl,hl,lz,sl,no,k⟩:=h
 obtain⟨S0,S1,S2,S3,_⟩:=hh.dZ [0,1,2,3]
 have B_any:=hh.b T.b_any
 have hsz:sizeLine=16777216:=sizeLine_eq
 obtain⟨ws,we,wr⟩:=wm lz
 have ul:=lz.1
 have wl:ws.length=st.length:=by rw[←we,length_map]
 have wat:∀{i:Nat}{v:V},us[i]? =some v→∃pr,ws[i]? =some pr:=fun h=>⟨_,getElem?_eq_getElem (by rw[wl,←ul];exact(List.getElem?_eq_some_iff.mp h).1)⟩
 refine⟨_,(ag (bQ (is:=[1]) (xs:=["hearer", "hour", "way"]) (ns:=["person"]) S3 hh.nd hh.calm (aQ (aa S0)) {} (fun _ _ _ _ _=>(J.mQ (n:=3) hh.calm (aI (aT (i:=0) (by decide+kernel) rfl rfl) (aI (aT (i:=1) (by decide+kernel) rfl rfl) (aI (aT (i:=2) (by decide+kernel) rfl rfl) bp))))) (fun _ _ _ _ _=>(bz (aY (bf (aB aK (aG (i:=0) rfl rfl (by decide) (by decide)) (aU (i:=3) rfl rfl (by decide) (by decide)) (L2.cE _)) (bC (aB aK (af bo (aG (i:=2) rfl rfl (by decide) (by decide)) ae ak) aP (L2.cE _))))))) (fun _ _ _ _ _=>(aG (i:=2) rfl rfl (by decide) (by decide))) hh.hsc hh.hN (by decide+kernel))
 (ah (aw (J.nV (aL B_any (J.gB hh.calm) L2.ug (aj (bF (is:=[2]) (xs:=["way"]) (ns:=["other"]) hh.calm (aQ (aa S3)) {} (fun _ _ _ _ _=>(aT (i:=0) (by decide+kernel) rfl rfl)) (fun _ _ _ _ _=>bT) (fun _ _ _ _ _=>(aZ aK (af bo (aG (i:=0) rfl rfl (by decide) (by decide)) ae ak) (aU (i:=1) rfl rfl (by decide) (by decide)) (L2.cE _))) hh.hsc hh.hN))))))),?_⟩
 refine⟨_,rfl,l,rfl,⟨_,cF.of hl⟩,dz (xs:=us) (gr ws fun pr=>EC p pr.2) (mK ws fun pr=>V.ref pr.1) (cF.of hl) (by omega) ?_ ?_⟩
 ·intro i os v H2 K1 K2 hv hos s2 k1 k2
  match os,hos with
  |[o1,o2,o3],_=>
   obtain⟨⟨wa,d⟩,hpr⟩:=wat hv
   obtain⟨a,rfl,ha,hw⟩:=wr i _ _ hv hpr
   rw[dC hpr]at k1 k2
   rw[d6 hpr]at k1
   refine⟨a,_,rfl,dq.of (s2 _ _ ha),rfl,_,_,rfl,_,_,rfl,_,_,rfl,rfl,⟨[some (.str d.1),some (.int d.2.1),some (.ref wa)],rfl,rfl⟩,?_⟩
   obtain⟨z,h,w⟩:=d
   refine⟨_,rfl,_,rfl,rfl,_,rfl,cW (fun e1=>?_) (fun e1=>cN (k2 ?_ H2 (cA.refl _)))⟩
   ·have e1':z=p:=V.str.inj (of_decide_eq_true e1)
    cases w with
    |saw i'=>
     refine⟨_,rfl,xT (s2 _ _ hw) rfl ⟨rfl,_,rfl,iN (k2 ?_ H2 (cA.refl _))⟩⟩
     exact Bool.and_false _
    |hrd kk te=>
     refine⟨_,rfl,xT (s2 _ _ hw) rfl ⟨rfl,_,rfl,iP ⟨_,rfl,k1 ?_ H2 (cA.refl _)⟩⟩⟩
     show(decide (z=p) && true)=true
     rw[decide_eq_true e1']
     rfl
   ·show(decide (z=p) && _)=false
    rw[decide_eq_false fun e=>e1 (decide_eq_true (congrArg V.str e))]
    rfl
 intro o H1 no1 s1 ho
 rw[ul,←wl,dw]at ho
 have fl:=length_filter_le (fun pr:Addr×ED=>EC p pr.2) ws
 refine⟨_,rfl,o,rfl,⟨_,cF.of ho⟩,dz (xs:=(ws.filter fun pr=>EC p pr.2).map fun pr=>V.ref pr.1) (gr (ws.filter fun pr=>EC p pr.2) fun _=>true) (mK (ws.filter fun pr=>EC p pr.2) fun _=>V.bl false) (cF.of ho) (by rw[length_map];omega) ?_ ?_⟩
 ·intro i os v H2 K1 K2 hv hos s2 k1 k2
  match os,hos with
  |[o1],_=>
   rw[getElem?_map]at hv
   obtain⟨⟨wa,d⟩,hd,rfl⟩:=map_eq_some_iff.mp hv
   rw[dC hd]at k1
   rw[d6 hd]at k1
   obtain⟨md,mf⟩:=mem_filter.mp (mem_of_getElem? hd)
   obtain⟨j,hj⟩:=getElem?_of_mem md
   obtain⟨vj,hvj⟩:∃vj,us[j]? =some vj:=⟨_,getElem?_eq_getElem (by rw[ul,←wl];exact(List.getElem?_eq_some_iff.mp hj).1)⟩
   obtain⟨a,_,_,hw⟩:=wr j _ _ hvj hj
   have mst:d∈st:=by rw[←we];exact mem_map.mpr ⟨_,md,rfl⟩
   obtain⟨z,h,w⟩:=d
   cases w with
   |saw i'=>
    have mf':(decide (z=p) && false)=true:=mf
    rw[Bool.and_false]at mf'
    cases mf'
   |hrd kk te=>
    have mf':(decide (z=p) && true)=true:=mf
    rw[Bool.and_true]at mf'
    have nf:=no _ mst (of_decide_eq_true mf')
    have nf':decide (te=q)=false:=nf
    refine⟨⟨[some (.ref wa)],rfl,rfl⟩,c9 (B:=K2 H2) ⟨_,rfl,xT (s2 _ _ (s1 _ _ hw)) rfl ⟨_,rfl,rfl,?_⟩⟩⟩
    rw[show decide (V.str te=V.str q)=false from decide_eq_false fun e=>(of_decide_eq_false nf') (V.str.inj e)]
    exact k1 rfl H2 (cA.refl _)
 ·intro D2 H3 hD2 s3 hd3
  rw[length_map,dw,List.filter_eq_self.mpr (fun _ _=>rfl)]at hd3
  have e2:((ws.filter fun pr=>EC p pr.2).map fun _=>V.bl false)=((ws.filter fun pr=>EC p pr.2).map fun _=>false).map V.bl:=by rw[map_map];rfl
  rw[e2]at hd3
  refine⟨D2,_,rfl,cF.of hd3,?_⟩
  rw[any_none fun b hb=>by obtain⟨_,_,rfl⟩:=mem_map.mp hb;rfl]
  exact⟨_,rfl,k _ (s1.trans s3)⟩
theorem qE{sg:List GD}{qd:List QD}{sd:List SD}{F:FH}{ds st:List ED}{d:ED}(so:qW ds F st)(sub:∀d∈ds,d∈eK sg qd sd)(m:d∈st):f9 d.2.1 (floorOf d.1 sd)=true∧∀k te,d.2.2=.hrd k te→sd.any (p9 te d.2.1)=false∧sd.any (qY d.1 te)=false:=by
 have mo:=sub d (List.mem_of_find?_eq_some (so.fi d m).2)
 obtain⟨z,h,w⟩:=d
 cases w with
 |saw i=>
  obtain⟨mi,hg⟩:=mD mo
  have:=(mem_filter.mp mi).2
  rw[dC hg]at this
  exact⟨this,fun _ _ e=>by cases e⟩
 |hrd k te=>
  obtain⟨mt,eh⟩:=mR mo
  have:=(mem_filter.mp mt).2
  unfold cT at this
  rw[and_eq_true,not_eq_true',Bool.or_eq_false_iff]at this
  rw[show cY qd (k,te,z).1=h from eh]at this
  exact⟨this.1,fun k' te' e=>by cases e;exact this.2⟩
theorem CY:∀{l:List (Option Int)},none ∉ l→∃vs:List Int,l=vs.map some
 |[],_=>⟨[],rfl⟩
 |none::_,h=>absurd mem_cons_self h
 |some v::r,h=>by
  obtain⟨vs,e⟩:=CY fun m=>h (mem_cons_of_mem _ m)
  exact⟨v::vs,by rw[e];rfl⟩
theorem rE{h:Int}{q:Str}{o:Option Int}{sd:List SD}(ab:f9 h (floorOf q sd)=true)(m:SD.unh q o∈sd):∃j,o=some j∧j < h:=by
 have mo:o∈jV q sd:=mem_map.mpr ⟨.unh q o,mem_filter.mpr ⟨m,decide_eq_true rfl⟩,rfl⟩
 unfold floorOf at ab
 by_cases n:none∈jV q sd
 ·rw[sW n]at ab
  cases ab
 ·obtain⟨vs,e⟩:=CY n
  obtain⟨m',e',_,le⟩:=q0 vs (-1)
  rw[e]at mo ab
  rw[e']at ab
  obtain⟨j,mj,rfl⟩:=mem_map.mp mo
  have:=le j (mem_cons_of_mem _ mj)
  have ab':m' < h:=of_decide_eq_true ab
  exact⟨j,rfl,by omega⟩
theorem zk{sd:List SD}{f:SD→Bool}{d:SD}(h:sd.any f=false)(m:d∈sd):f d=false:=eq_false_iff.mpr (any_eq_false.mp h d m)
inductive JR(vs:List V)(H:Hp)(Q:VK):Prop
 |mk(l a:Addr)(us:List V)(sg:List GD)(qd:List QD)(sd:List SD)(F:FH)(ds st:List ED)(d:SD)(e:vs=[.ref l,.ref a])(hl:H l=some (.lst us))(lz:Lz fI H us st)(so:qW ds F st)(sub:∀d∈ds,d∈eK sg qd sd)(sl:st.length≤24)(ha:H a=some (.tup d.tup))(md:d∈sd)(k:∀H',cA H H'→Q (.bl (mE F d)) H')
def Ex:Sp:=fun vs H Q _=>JR vs H Q
def bx(F:FH)(sd:List SD):List Nat:=(List.range sd.length).filter (gr sd fun d=> !mE F d)
theorem Ec{F:FH}{sd:List SD}(h:bx F sd=[]):sd.all (mE F)=true:=by
 rw[all_eq_true]
 intro d hd
 obtain⟨i,hi⟩:=getElem?_of_mem hd
 have:=List.filter_eq_nil_iff.mp h i (mem_range.mpr (List.getElem?_eq_some_iff.mp hi).1)
 rw[dC hi]at this
 cases c:mE F d with
 |true=>rfl
 |false=>rw[c]at this;exact absurd rfl this
inductive Kx(C:Addr)(vs:List V)(H:Hp)(Q:VK):Prop
 |mk(x p s t y l:Addr)(ps:List Str)(ss ts ys us:List V)(sg:List GD)(qd:List QD)(sd:List SD)(F:FH)(ds st:List ED)(e:vs=[.ref x,.ref l])(bk:Bk C H x p s t y ps ss ts ys)(sy:Sys H ys sd)(l60:ys.length≤60)(hl:H l=some (.lst us))(lz:Lz fI H us st)(so:qW ds F st)(sub:∀d∈ds,d∈eK sg qd sd)(sl:st.length≤24)
   (k:∀o H',cA H H'→H' o=some (.lst ((bx F sd).map fun i=>V.int (i:Nat)))→Q (.ref o) H')
def EB(C:Addr):Sp:=fun vs H Q _=>Kx C vs H Q
inductive C7(C:Addr)(vs:List V)(H:Hp)(Q:VK):Prop
 |mk(x p s t y:Addr)(ps:List Str)(ss ts ys:List V)(sg:List GD)(qd:List QD)(sd:List SD)(e:vs=[.ref x])(bk:Bk C H x p s t y ps ss ts ys)(pl:ps.length≤24)(sl:ss.length≤24)(tl:ts.length≤120)(gs:Lz c8 H ss sg)(gp:∀d∈sg,d.1∈ps)(qs:Lz du H ts qd)(qk:∀d∈qd,lJ ps d)(sy:Sys H ys sd)(l:ys.length≤60)
   (k1:∀(r l:Addr) (us:List V) (F:FH) (st:List ED) (H':Hp),cA H H'→H' r=some (.tup [.str "story",.ref l])→H l=none→H' l=some (.lst us)→Lz fI H' us st→dy (eK sg qd sd) F→qW (eK sg qd sd) F st→st.length≤24→bx F sd=[]→Q (.ref r) H')
   (k2:∀(r l:Addr) (us:List V) (F G:FH) (n:Nat) (m:List Nat) (H':Hp),cA H H'→H' r=some (.tup [.str "paper",.ref l,.int (n:Nat)])→H l=none→H' l=some (.lst us)→Lz xj H' us ((ie ps).map fun z=>(z,G z))→dy (eK sg qd sd) F→dy (eK sg qd sd) G→bx F sd=n::m→Q (.ref r) H')
def Jo(C:Addr):Sp:=fun vs H Q _=>C7 C vs H Q
theorem C3{ds st:List ED}{F:FH}{ps:List Str}(so:qW ds F st)(fo:dy ds F)(pl:ps.length≤24)(pm:∀d∈ds,d.1∈ps):st.length≤24:=by
 have:=nH so.nd (ps:=ps) fun z hz=>by
  obtain⟨h,hF⟩:=isSome_iff_exists.mp ((so.me z).mp hz)
  obtain⟨d,md,rfl⟩:=sD (fo.so z h hF)
  exact pm d md
 rw[length_map]at this
 omega
theorem t8{sg:List GD}{qd:List QD}{sd:List SD}{ps:List Str}(gp:∀d∈sg,d.1∈ps)(qk:∀d∈qd,lJ ps d):∀d∈eK sg qd sd,d.1∈ps:=fun d hd=>by
 obtain⟨z,h,w⟩:=d
 cases w with
 |saw i=>exact gp _ (mem_of_getElem? (mD hd).2)
 |hrd kk te=>
  obtain⟨q,hq,m1,m2⟩:=lq qk (mem_filter.mp (mR hd).1).1
  exact m2
theorem BR:cD ["story", "saying"] ["story", "saying"] (cB uB):={}
theorem Ff (D:Df K mg "fits" uB ["story", "saying"] f fd) (G_hours_in:Gd P w K mg base 1 "hours_in" Cd) (G_fits_knew:Gd P w K mg base 1 "fits_knew" Ej) (G_fits_unheard:Gd P w K mg base 1 "fits_unheard" DN) (G_fits_silent:Gd P w K mg base 1 "fits_silent" EG) (G_fits_barred:Gd P w K mg base 1 "fits_barred" DY):Gd P w K mg base 2 "fits" Ex:=by
 refine aE D BR fun X H vs Q E hh h=>?_
 obtain⟨l,a,us,sg,qd,sd,F,ds,st,d,rfl,hl,lz,so,sub,sl,ha,md,k⟩:=h
 obtain⟨S0,S1,_⟩:=hh.dZ [0,1]
 have C_fits_barred:=hh.c G_fits_barred
 have C_fits_knew:=hh.c G_fits_knew
 have C_fits_silent:=hh.c G_fits_silent
 have C_fits_unheard:=hh.c G_fits_unheard
 have C_hours_in:=hh.c G_hours_in
 refine⟨_,(ag (aH (aB aK (af az (aa S1) ae ak) aP (L2.cE _))
 (ah (aw (ao C_fits_knew (aM (ao C_hours_in (aj (aa S0))) (af az (aa S1) ae ak) (af az (aa S1) ae ak)))))
 aJ)
 (ag (aH (aB aK (af az (aa S1) ae ak) aP (L2.cE _))
 (ah (aw (ao C_fits_unheard (aM (ao C_hours_in (aj (aa S0))) (af az (aa S1) ae ak) (af az (aa S1) ae ak)))))
 aJ)
 (ag (aH (aB aK (af az (aa S1) ae ak) aP (L2.cE _))
 (ah (aw (ao C_fits_silent (bX (aa S0) (af az (aa S1) ae ak) (af az (aa S1) ae ak) (af az (aa S1) ae ak)))))
 aJ)
 (ah (aw (ao C_fits_barred (aM (aa S0) (af az (aa S1) ae ak) (af az (aa S1) ae ak)))))))),?_⟩
 cases d with
 |knew q h=>
  refine⟨_,rfl,xT ha rfl ⟨rfl,_,rfl,iP ⟨_,rfl,l,us,st,rfl,hl,lz,so.nd,sl,fun kn H1 s1 hk=>?_⟩⟩⟩
  exact⟨_,rfl,xT (s1 _ _ ha) rfl ⟨_,rfl,xT (s1 _ _ ha) rfl ⟨kn,q,h,_,F,rfl,hk,m9 so,k _ s1⟩⟩⟩
 |unh q o=>
  refine⟨_,rfl,xT ha rfl ⟨rfl,_,rfl,iN ⟨_,rfl,xT ha rfl ⟨rfl,_,rfl,iP ⟨_,rfl,l,us,st,rfl,hl,lz,so.nd,sl,fun kn H1 s1 hk=>?_⟩⟩⟩⟩⟩
  refine⟨_,rfl,xT (s1 _ _ ha) rfl ⟨_,rfl,xT (s1 _ _ ha) rfl ⟨kn,q,o,_,F,rfl,hk,m9 so,?_⟩⟩⟩
  have e:Ht F q o=true:=by
   unfold Ht
   cases hF:F q with
   |none=>rfl
   |some h=>
    obtain⟨d,hd,rfl⟩:=mem_map.mp ((so.me q).mpr (by rw[hF];rfl))
    have fi:=(so.fi d hd).1
    rw[hF]at fi
    cases fi
    obtain⟨j,rfl,jl⟩:=rE (qE so sub hd).1 md
    exact decide_eq_true jl
  rw[e]
  exact k _ s1
 |sil q b e=>
  refine⟨_,rfl,xT ha rfl ⟨rfl,_,rfl,iN ⟨_,rfl,xT ha rfl ⟨rfl,_,rfl,iN ⟨_,rfl,xT ha rfl ⟨rfl,_,rfl,iP ?_⟩⟩⟩⟩⟩⟩
  refine⟨_,rfl,_,rfl,xT ha rfl ⟨_,rfl,xT ha rfl ⟨_,rfl,xT ha rfl ⟨l,us,st,q,b,e,rfl,hl,lz,sl,fun d hd fr le=>?_,k⟩⟩⟩⟩
  have op:=(qE so sub hd).2
  obtain⟨z,h,w⟩:=d
  cases w with
  |saw i=>exact absurd fr Bool.false_ne_true
  |hrd kk te=>
   have e1:te=q:=of_decide_eq_true fr
   subst e1
   have:=zk (op kk te rfl).1 md
   have t:p9 te h (.sil te b e)=true:=by
    show(decide (te=te) && (if b≤h then decide (h≤e) else false))=true
    rw[if_pos le.1,decide_eq_true rfl,decide_eq_true le.2]
    rfl
   rw[t]at this
   cases this
 |bar p o=>
  refine⟨_,rfl,xT ha rfl ⟨rfl,_,rfl,iN ⟨_,rfl,xT ha rfl ⟨rfl,_,rfl,iN ⟨_,rfl,xT ha rfl ⟨rfl,_,rfl,iN ?_⟩⟩⟩⟩⟩⟩
  refine⟨_,rfl,_,rfl,xT ha rfl ⟨_,rfl,xT ha rfl ⟨l,us,st,p,o,rfl,hl,lz,sl,fun d hd e=>?_,k⟩⟩⟩
  have op:=(qE so sub hd).2
  obtain⟨z,h,w⟩:=d
  cases w with
  |saw i=>rfl
  |hrd kk te=>
   have e1:z=p:=e
   subst e1
   have:=zk (op kk te rfl).2 md
   refine decide_eq_false fun e2=>?_
   subst e2
   have t:qY z te (.bar z te)=true:=by
    show(decide (z=z) && decide (te=te))=true
    rw[decide_eq_true rfl,decide_eq_true rfl]
    rfl
   rw[t]at this
   cases this
theorem r8:cD ["book", "story"] ["book", "story"] (cB ji):={}
theorem GR (D:Df K mg "unfitted" ji ["book", "story"] f fd) (T:Txt K mg kw C) (G_sayings:Md P w K mg base 1 C "sayings" (cZ C fun _ _ _ y=>y)) (G_fits:Gd P w K mg base 2 "fits" Ex):Gd P w K mg base 3 "unfitted" (EB C):=by
 refine aE D r8 fun X H vs Q E hh h=>?_
 obtain⟨x,p,s,t,y,l,ps,ss,ts,ys,us,sg,qd,sd,F,ds,st,rfl,bk,sy,l60,hl,lz,so,sub,sl,k⟩:=h
 obtain⟨S0,S1,_⟩:=hh.dZ [0,1]
 have B_enumerate:=hh.b T.b_enumerate
 have CI_fits:=hh.ci G_fits
 have M_sayings:=hh.met G_sayings (by decide)
 have hsz:sizeLine=16777216:=sizeLine_eq
 refine⟨_,(ah (aw (bF (is:=[1]) (xs:=["k", "saying"]) (ns:=["story"]) hh.calm (J.jW B_enumerate (aj (bM M_sayings (aa S0) rfl))) {} (fun _ _ _ _ _=>(J.mQ (n:=2) hh.calm (aI (aT (i:=0) (by decide+kernel) rfl rfl) (aI (aT (i:=1) (by decide+kernel) rfl rfl) bp)))) (fun _ _ _ _ _=>(bz (bu (a9 (ao (CI_fits.lg rfl) (aD (aU (i:=2) rfl rfl (by decide) (by decide)) (aG (i:=1) rfl rfl (by decide) (by decide)))))))) (fun _ _ _ _ _=>(aG (i:=0) rfl rfl (by decide) (by decide))) hh.hsc hh.hN))),?_⟩
 obtain⟨⟨dx,hx⟩,hp,hs,ht,hy⟩:=id bk
 refine⟨_,rfl,x,dx,_,rfl,hx,fL _ _ _ _ (by decide+kernel) (by decide+kernel) (by decide+kernel) (by decide+kernel),x,p,s,t,y,ys,rfl,⟨dx,hx⟩,hy,fun yl nyl=>?_⟩
 have s1:=cA.upd (o:=.lst ys) nyl
 have hyl:upd H yl (.lst ys) yl=some (.lst ys):=cy
 generalize upd H yl (.lst ys)=H1 at s1 hyl
 refine⟨yl,rfl,⟨_,cF.of hyl⟩,rp (xs:=ys) (gr sd fun d=> !mE F d) (fun i=>V.int (i:Nat)) (cF.of hyl) (by omega) ?_ ?_⟩
 ·intro i os v q H2 K1 K2 hv hos s3 hq k1 k2
  match os,hos with
  |[o1,o2],_=>
   obtain⟨d,a,hd,rfl,ha⟩:=sy.at hv
   rw[dC hd]at k1 k2
   have s4:=cA.upd (o:=.tup [.int i,.ref a]) hq
   have s14:=(s1.trans s3).trans s4
   refine⟨q,_,rfl,dq.of cy,rfl,_,_,rfl,_,_,rfl,rfl,⟨[_,_],rfl,rfl⟩,?_⟩
   refine⟨_,rfl,_,rfl,l,a,us,sg,qd,sd,F,ds,st,d,rfl,s14 _ _ hl,lz.mono (fI.mono (Tk.of s14)),so,sub,sl,s14 _ _ ha,mem_of_getElem? hd,fun H5 s5=>⟨_,rfl,cW (fun hb=>⟨_,rfl,k1 hb _ (s4.trans s5)⟩) (fun hb=>k2 (eq_false_of_ne_true hb) _ (s4.trans s5))⟩⟩
 ·intro D' H' hD' s' hd'
  rw[sy.1]at hd'
  exact k D' H' (s1.trans s') hd'
theorem zu{ds:List ED}{G:FH}(cl:∀d∈ds,lY G d=true→∃b,b≤d.2.1∧G d.1=some b){z:Str}{h:Int}(r:jF ds z h):∃b,b≤h∧G z=some b:=by
 induction r with
 |saw m=>exact cl _ m rfl
 |hrd m r l ih=>
  rename_i z te h h' k
  obtain⟨b,b1,b2⟩:=ih
  refine cl _ m ?_
  show(match G te with|none=>false|some a=>decide (a < h))=true
  rw[b2]
  exact decide_eq_true (by omega)
theorem gW{ds ds':List ED}{F G:FH}(f:dy ds F)(g:dy ds' G)(sub:∀d∈ds,d∈ds'){z:Str}{h:Int}(e:F z=some h):∃b,b≤h∧G z=some b:=zu (fun d hd=>g.cl d (sub d hd)) (f.so z h e)
theorem mP{ds:List ED}{F G:FH}(f:dy ds F)(g:dy ds G):F=G:=by
 funext z
 cases hF:F z with
 |none=>
  cases hG:G z with
  |none=>rfl
  |some b=>
   obtain⟨c,_,e⟩:=gW g f (fun _ h=>h) hG
   rw[hF]at e
   cases e
 |some a=>
  obtain⟨b,b1,b2⟩:=gW f g (fun _ h=>h) hF
  obtain⟨c,c1,c2⟩:=gW g f (fun _ h=>h) b2
  rw[hF]at c2
  cases c2
  rw[b2,show a=b by omega]
theorem hJ{ds:List ED}{F:FH}(f:dy ds F){z:Str}{h:Int}(e:F z=some h):∃d∈ds,d.1=z∧d.2.1=h∧lY F d=true:=by
 cases f.so z h e with
 |saw m=>exact⟨_,m,rfl,rfl,rfl⟩
 |hrd m r l=>
  rename_i te h' k
  obtain⟨b,b1,b2⟩:=zu f.cl r
  refine⟨_,m,rfl,rfl,?_⟩
  show(match F te with|none=>false|some a=>decide (a < h))=true
  rw[b2]
  exact decide_eq_true (by omega)
theorem jQ{ds D:List ED}{F:FH}{p:Str}(f:dy ds F)(nn:∀d∈ds,0≤d.2.1)(sub:∀d∈D,d∈ds)(ot:∀d∈ds,d.1≠p→d∈D)(pk:∀h,F p=some h→∃e∈D,e.1=p∧e.2.1=h∧lY F e=true):dy D F:=by
 refine⟨fun d hd=>f.cl d (sub d hd),?_⟩
 have key:∀n:Nat,∀z h,h.toNat < n→F z=some h→jF D z h:=by
  intro n
  induction n with
  |zero=>intro z h hn;exact absurd hn (Nat.not_lt_zero _)
  |succ n ih=>
   intro z h hn e
   obtain⟨d,md,e1,e2,cf⟩:∃d∈D,d.1=z∧d.2.1=h∧lY F d=true:=by
    by_cases c:z=p
    ·rw[c]at e ⊢
     exact pk h e
    ·obtain⟨d,md,e1,e2,cf⟩:=hJ f e
     exact⟨d,ot d md (by rw[e1];exact c),e1,e2,cf⟩
   obtain⟨z',h',w⟩:=d
   cases e1
   cases e2
   cases w with
   |saw i=>exact .saw md
   |hrd k te=>
    have cf':(match F te with|none=>false|some a=>decide (a < h'))=true:=cf
    cases hT:F te with
    |none=>rw[hT]at cf';cases cf'
    |some b=>
     rw[hT]at cf'
     have bl:b < h':=of_decide_eq_true cf'
     obtain⟨d',md',_,e2',_⟩:=hJ f hT
     have b0:=nn d' md'
     rw[e2']at b0
     have hn':h'.toNat < n+1:=hn
     exact .hrd md (ih te b (by omega) hT) bl
 exact fun z h e=>key (h.toNat+1) z h (lt_succ_self _) e
theorem Af{F:FH}{sd:List SD}(h:sd.all (mE F)=true):bx F sd=[]:=List.filter_eq_nil_iff.mpr fun i hi=>by
 have hd:sd[i]? =some (sd[i]'(mem_range.mp hi)):=getElem?_eq_getElem (mem_range.mp hi)
 rw[dC hd,all_eq_true.mp h _ (mem_of_getElem? hd)]
 decide
theorem pN{F G:FH}{sd:List SD}(le:∀z h,F z=some h→∃b,b≤h∧G z=some b)(h:bx F sd=[]):bx G sd=[]:=by
 have al:=all_eq_true.mp (Ec h)
 refine Af (all_eq_true.mpr fun d hd=>?_)
 have k:=al d hd
 cases d with
 |knew q t=>
  have k':(match F q with|none=>false|some i=>decide (i≤t))=true:=k
  cases hF:F q with
  |none=>rw[hF]at k';cases k'
  |some a=>
   rw[hF]at k'
   obtain⟨b,b1,b2⟩:=le q a hF
   have:a≤t:=of_decide_eq_true k'
   show(match G q with|none=>false|some i=>decide (i≤t))=true
   rw[b2]
   exact decide_eq_true (by omega)
 |unh q o=>rfl
 |sil q b e=>rfl
 |bar q o=>rfl
inductive Ic(C:Addr)(vs:List V)(H:Hp)(Q:VK):Prop
 |mk(x p s t y en:Addr)(as:List Addr)(ds:List ED)(ps:List Str)(ss ts ys:List V)(sg:List GD)(qd:List QD)(sd:List SD)(e:vs=[.ref x,.ref en])(bk:Bk C H x p s t y ps ss ts ys)(sy:Sys H ys sd)(l60:ys.length≤60)(he:H en=some (.lst (as.map V.ref)))(al:as.length≤500)(ll:as.length=ds.length)(le:∀(i:Nat) a d,as[i]? =some a→ds[i]? =some d→dJ H a d)(pl:ps.length≤24)(pm:∀d∈ds,d.1∈ps)(sub:∀d∈ds,d∈eK sg qd sd)
   (k1:∀(l:Addr)(us:List V)(F:FH)(st:List ED)(H':Hp),cA H H'→H l=none→H' l=some (.lst us)→Lz fI H' us st→dy ds F→qW ds F st→st.length≤24→bx F sd=[]→Q (.ref l) H')(k2:∀F H',cA H H'→dy ds F→bx F sd≠[]→Q .non H')
def v5(C:Addr):Sp:=fun vs H Q _=>Ic C vs H Q
theorem lx:cD ["book", "entries", "story"] ["book", "entries"] (cB eT):={}
theorem EL (D:Df K mg "fitting_story" eT ["book", "entries"] f fd) (G_first_story:Gd P w K mg base 5 "first_story" Dh) (G_unfitted:Gd P w K mg base 3 "unfitted" (EB C)):Gd P w K mg base 6 "fitting_story" (v5 C):=by
 refine aE D lx fun X H vs Q E hh h=>?_
 obtain⟨x,p,s,t,y,en,as,ds,ps,ss,ts,ys,sg,qd,sd,rfl,bk,sy,l60,he,al,ll,le,pl,pm,sub,k1,k2⟩:=h
 obtain⟨S0,S1,S2,_⟩:=hh.dZ [0,1,2]
 have C_first_story:=hh.c G_first_story
 have C_unfitted:=hh.c G_unfitted
 have hu:=eG hh.room
 refine⟨_,(ag (aA S2 hh.nd (ao C_first_story (aj (aa S1))))
 (ah (aw (J.Cv (aB (J.qO hu) (ao C_unfitted (aD (aa S0) (aa S2))) (bj bJ) (L2.cE _)) (aa S2) bA)))),?_⟩
 refine⟨_,rfl,en,as,ds,ps,rfl,he,al,ll,le,pl,pm,fun l us F st H1 s1 nl hl lz fo so=>?_⟩
 have stl:=C3 so fo pl pm
 refine⟨_,rfl,_,rfl,x,p,s,t,y,l,ps,ss,ts,ys,us,sg,qd,sd,F,ds,st,rfl,bk.mono s1,sy.mono (Tk.of s1),l60,hl,lz,so,sub,stl,fun o H2 s2 ho=>?_⟩
 refine⟨zV,fun e0 ne0=>?_⟩
 have s3:=cA.upd (o:=.lst []) ne0
 have he0:upd H2 e0 (.lst []) e0=some (.lst []):=cy
 generalize upd H2 e0 (.lst [])=H3 at s3 he0
 have s23:=s2.trans s3
 cases hb:bx F sd with
 |nil=>
  rw[hb]at ho
  exact .same o e0 [] [] [] rfl rfl (cF.of (s3 _ _ ho)) (cF.of he0) rfl rfl (fun i u v c h=>by cases h) ⟨_,rfl,c9 ⟨_,rfl,k1 l us F st H3 (s1.trans s23) nl (s23 _ _ hl) (lz.mono (fI.mono (Tk.of s23))) fo so stl hb⟩⟩
 |cons n m=>
  rw[hb]at ho
  exact .other o e0 _ [] rfl rfl (cF.of (s3 _ _ ho)) (cF.of he0) (fun e=>by cases e) ⟨_,rfl,cN (k2 F H3 (s1.trans s23) fo (by rw[hb];exact List.cons_ne_nil _ _))⟩
structure vn(E:List ED)(sd:List SD)(p:Str)(L:Option Int):Prop where
 no:L=none→∃F,dy (E.filter fun d=>decide (d.1≠p)) F∧bx F sd=[]
 un:∀h,L=some h→∀F,dy (E.filter fun d=>decide (d.1≠p)) F→bx F sd≠[]
 at':∀h,L=some h→∃e∈E,e.1=p∧e.2.1=h∧∃F,dy ((E.filter fun d=>decide (d.1≠p))++[e]) F∧bx F sd=[]∧F p=some h
 up:∀h,L=some h→∀e∈E,e.1=p→h < e.2.1→∀F,dy ((E.filter fun d=>decide (d.1≠p))++[e]) F→bx F sd≠[]
inductive HG(C:Addr)(vs:List V)(H:Hp)(Q:VK):Prop
 |mk(x p s t y:Addr)(z:Str)(ps:List Str)(ss ts ys:List V)(sg:List GD)(qd:List QD)(sd:List SD)(F0:FH)(e:vs=[.ref x,.str z])(bk:Bk C H x p s t y ps ss ts ys)(pl:ps.length≤24)(sl:ss.length≤24)(tl:ts.length≤120)(gs:Lz c8 H ss sg)(gp:∀d∈sg,d.1∈ps)(qs:Lz du H ts qd)(qk:∀d∈qd,lJ ps d)(sy:Sys H ys sd)(l:ys.length≤60)(nn:∀d∈eK sg qd sd,0≤d.2.1)(f0:dy (eK sg qd sd) F0)(b0:bx F0 sd=[])
   (k:∀(r:Addr)(L:Option Int)(sv:V)(H':Hp),cA H H'→H' r=some (.tup [oV L,sv])→vn (eK sg qd sd) sd z L→Q (.ref r) H')
def zW(C:Addr):Sp:=fun vs H Q _=>HG C vs H Q
theorem rX{α β:Type}:∀{as:List α}{ds:List β},as.length=ds.length→(as.zip ds).map (·.2)=ds
 |[],[],_=>rfl
 |[],_::_,h=>by cases h
 |_::_,[],h=>by cases h
 |a::as,d::ds,h=>by rw[List.zip_cons_cons,map_cons,rX (Nat.succ.inj h)]
theorem CW{as:List Addr}{E:List ED}(f:ED→Bool)(h:as.length=E.length):((as.zip E).filter fun q=>f q.2).map (·.2)=E.filter f:=by
 have e:=filter_map (f:=Prod.snd) (p:=f) (l:=as.zip E)
 have e1:(as.zip E).map Prod.snd=E:=rX h
 rw[e1]at e
 exact e.symm
theorem yQ{K:PySem.W.Frag}{is:List Nat}{te:TE}{σ:St}{H:Hp}{Q:VK}{a:Addr}{xs:List V}(hq:cF K H a xs)(hz:xs.length≤sizeLine)
  (he:∀(i:Nat) v H2 (K1:VK),xs[i]? =some v→cA H H2→(∀b,H2 b=none→K1 (.ref b) (upd H2 b (.lst [v])))→te ([some v]++d3 is σ) H2 K1)
  (q:∀D (bs:List Addr) H',H D=none→cA H H'→H' D=some (.lst (bs.map V.ref))→bs.length=xs.length→(∀(j:Nat) b,bs[j]? =some b→∃v,xs[j]? =some v∧H' b=some (.lst [v]))→Q (.ref D) H'):eC (Ax K a) 1 is (eA 0) sJ te σ H Q:=by
 intro D hDn
 refine⟨fun i m ys H2=>m=xs.length - i∧i≤xs.length∧cA H H2∧∃bs:List Addr,ys=bs.map V.ref∧H2 D=some (.lst ys)∧bs.length=i∧∀(j:Nat) b,bs[j]? =some b→b≠D∧∃v,xs[j]? =some v∧H2 b=some (.lst [v]),⟨_,rfl,zero_le _,cA.upd hDn,[],rfl,cy,rfl,fun j b h=>by cases h⟩,?_⟩
 rintro i m ys H2 ⟨rfl,hi,sm,bs,rfl,hd,rfl,ra⟩
 refine⟨hd,?_⟩
 by_cases hlt:bs.length < xs.length
 ·refine .inr ⟨⟨xs,xs[bs.length],sm.seq hq,by simp[hlt]⟩,fun os v H3 hos y=>?_⟩
  obtain⟨rfl,y⟩:=y
  have hv:=y xs (sm.seq hq)
  match os,hos with
  |[o],_=>
   refine⟨⟨[some v],rfl,rfl⟩,Iv (he _ v _ _ hv sm fun b nb=>?_)⟩
   have nD:b≠D:=fun e=>by rw[e,hd]at nb;cases nb
   refine⟨cA.upd nb _ _ hd,by rw[length_map];omega,xs.length - (bs.length+1),by omega,rfl,hlt,fun c o e=>?_,bs++[b],by rw[map_append];rfl,cy,by rw[length_append];rfl,fun j c hc=>?_⟩
   ·rw[cC (cz e hDn)]
    exact cA.upd nb _ _ (sm _ _ e)
   ·by_cases hj:j < bs.length
    ·rw[getElem?_append_left hj]at hc
     obtain⟨n1,u,h1,h2⟩:=ra j c hc
     exact⟨n1,u,h1,by rw[cC n1];exact cA.upd nb _ _ h2⟩
    ·have e:j=bs.length:=by
      have:=(List.getElem?_eq_some_iff.mp hc).1
      rw[length_append]at this
      have:j < bs.length+1:=this
      omega
     subst e
     rw[getElem?_append_right (le_refl _),sub_self]at hc
     cases hc
     exact⟨nD,v,hv,by rw[cC nD];exact cy⟩
 ·have e:bs.length=xs.length:=by omega
  exact .inl ⟨⟨xs,sm.seq hq,by rw[e];exact le_refl _⟩,q D bs H2 hDn sm hd e fun j b h=>(ra j b h).2⟩
theorem xf:cD ["book", "person", "entries", "others", "own", "chosen", "story"] ["book", "person"] (cB ni):={}
theorem EO (D:Df K mg "latest" ni ["book", "person"] f fd) (T:Txt K mg kw C) (G_open_entries:Gd P w K mg base 5 "open_entries" (yC C)) (G_hour_of:Gd P w K mg base 1 "hour_of" xQ) (G_fitting_story:Gd P w K mg base 6 "fitting_story" (v5 C)) (G_hours_in:Gd P w K mg base 1 "hours_in" Cd):Gd P w K mg base 7 "latest" (zW C):=by
 refine aE D xf fun X H vs Q E hh h=>?_
 obtain⟨x,p,s,t,y,z,ps,ss,ts,ys,sg,qd,sd,F0,rfl,bk,pl,sl,tl,gs,gp,qs,qk,sy,l60,nn,f0,b0,k⟩:=h
 obtain⟨S0,S1,S2,S3,S4,S5,S6,_⟩:=hh.dZ [0,1,2,3,4,5,6]
 have B_sorted:=hh.b T.b_sorted
 have C_fitting_story:=hh.c G_fitting_story
 have C_hours_in:=hh.c G_hours_in
 have C_open_entries:=hh.c G_open_entries
 have CS_hour_of:=hh.FG G_hour_of rfl (by first|decide|exact le_refl _) (by decide)
 have hu:=eG hh.room
 have hsz:sizeLine=16777216:=sizeLine_eq
 refine⟨_,(ag (aA S2 hh.nd (ao C_open_entries (aj (aa S0))))
 (ag (bQ (is:=[1]) (xs:=["entry"]) (ns:=["person"]) S3 hh.nd hh.calm (aQ (aa S2)) {} (fun _ _ _ _ _=>(aT (i:=0) (by decide+kernel) rfl rfl)) (fun _ _ _ _ _=>(bz (aB cj (af bo (aG (i:=0) rfl rfl (by decide) (by decide)) ae ak) (aU (i:=1) rfl rfl (by decide) (by decide)) (L2.cE _)))) (fun _ _ _ _ _=>(aG (i:=0) rfl rfl (by decide) (by decide))) hh.hsc hh.hN (by decide+kernel))
 (ag (bQ (is:=[1]) (xs:=["entry"]) (ns:=["person"]) S4 hh.nd hh.calm (aQ (aa S2)) {} (fun _ _ _ _ _=>(aT (i:=0) (by decide+kernel) rfl rfl)) (fun _ _ _ _ _=>(bz (aB aK (af bo (aG (i:=0) rfl rfl (by decide) (by decide)) ae ak) (aU (i:=1) rfl rfl (by decide) (by decide)) (L2.cE _)))) (fun _ _ _ _ _=>(aG (i:=0) rfl rfl (by decide) (by decide))) hh.hsc hh.hN (by decide+kernel))
 (ag (a8 hh.own hh.calm (aQ (au J.mG (bj (aj (bj bJ))) (bF (is:=[]) (xs:=["entry"]) (ns:=[]) hh.calm (aQ (J.EZ B_sorted CS_hour_of (aj (aa S4)))) {} (fun _ _ _ _ _=>(aT (i:=0) (by decide+kernel) rfl rfl)) (fun _ _ _ _ _=>bT) (fun _ _ _ _ _=>(bj (aj (aG (i:=0) rfl rfl (by decide) (by decide))))) hh.hsc hh.hN))) (aF S5 hh.nd)
 (ag (aA S6 hh.nd (ao C_fitting_story (aD (aa S0) (au J.mG (aa S3) (aa S5)))))
 (ah (aH (aB cq (aa S6) bA (L2.cE _))
 (ah (aw (aS (aD (J.Gz hu (ao C_hours_in (aj (aa S6))) (aa S1)) (aa S6)))))
 aJ))))
 bY)))),?_⟩
 refine⟨_,rfl,x,p,s,t,y,ps,ss,ts,ys,sg,qd,sd,rfl,bk,pl,sl,tl,gs,gp,qs,qk,sy,l60,fun en us H1 s1 nen hen lz ul=>?_⟩
 obtain⟨as,rfl,ll,le⟩:=p7 lz
 rw[length_map]at ul
 have oin:=t8 (sd:=sd) gp qk
 generalize hE:eK sg qd sd=E at ll le nn f0 oin k lz
 have zl:(as.zip E).length=as.length:=by rw[length_zip,ll,min_self]
 have zat:∀{i:Nat}{v:V},(as.map V.ref)[i]? =some v→∃q,(as.zip E)[i]? =some q∧v=.ref q.1∧dJ H1 q.1 q.2:=fun {i v} hv=>by
  rw[getElem?_map]at hv
  obtain⟨a,ha,rfl⟩:=map_eq_some_iff.mp hv
  obtain⟨d,hd⟩:∃d,E[i]? =some d:=⟨_,getElem?_eq_getElem (by rw[←ll];exact(List.getElem?_eq_some_iff.mp ha).1)⟩
  exact⟨(a,d),fJ ha hd,rfl,le i a d ha hd⟩
 have zmem:∀q∈as.zip E,dJ H1 q.1 q.2∧q.2∈E:=fun q hq=>by
  obtain⟨i,hi⟩:=getElem?_of_mem hq
  obtain⟨h1,h2⟩:=iW hi
  exact⟨le i _ _ h1 h2,mem_of_getElem? h2⟩
 refine⟨_,rfl,en,rfl,⟨_,cF.of hen⟩,dz (xs:=as.map V.ref) (gr (as.zip E) fun q=>decide (q.2.1≠z)) (mK (as.zip E) fun q=>V.ref q.1) (cF.of hen) (by rw[length_map];omega) ?_ ?_⟩
 ·intro i os v H2 K1 K2 hv hos s2 k1 k2
  match os,hos with
  |[o],_=>
   obtain⟨⟨a,d⟩,hq,rfl,wa,ha,_⟩:=zat hv
   rw[dC hq]at k1 k2
   rw[d6 hq]at k1
   refine⟨⟨[some (.ref a)],rfl,rfl⟩,⟨_,rfl,xT (s2 _ _ ha) rfl ⟨_,rfl,rfl,_,rfl,cW (fun e=>⟨_,rfl,k1 ?_ H2 (cA.refl _)⟩) (fun e=>k2 ?_ H2 (cA.refl _))⟩⟩⟩
   ·refine decide_eq_true fun e2=>?_
    rw[show decide (V.str d.1=V.str z)=true from decide_eq_true (congrArg V.str e2)]at e
    cases e
   ·refine decide_eq_false fun e2=>e ?_
    rw[show decide (V.str d.1=V.str z)=false from decide_eq_false fun x=>e2 (V.str.inj x)]
    rfl
 intro ot H2 not' s2 hot
 rw[length_map,←zl,dw]at hot
 have s12:=s1.trans s2
 refine⟨_,rfl,en,rfl,⟨_,cF.of (s2 _ _ hen)⟩,dz (xs:=as.map V.ref) (gr (as.zip E) fun q=>decide (q.2.1=z)) (mK (as.zip E) fun q=>V.ref q.1) (cF.of (s2 _ _ hen)) (by rw[length_map];omega) ?_ ?_⟩
 ·intro i os v H3 K1 K2 hv hos s3 k1 k2
  match os,hos with
  |[o],_=>
   obtain⟨⟨a,d⟩,hq,rfl,wa,ha,_⟩:=zat hv
   rw[dC hq]at k1 k2
   rw[d6 hq]at k1
   refine⟨⟨[some (.ref a)],rfl,rfl⟩,⟨_,rfl,xT (s3 _ _ (s2 _ _ ha)) rfl ⟨_,rfl,rfl,_,rfl,cW (fun e=>⟨_,rfl,k1 ?_ H3 (cA.refl _)⟩) (fun e=>k2 ?_ H3 (cA.refl _))⟩⟩⟩
   ·exact decide_eq_true (V.str.inj (of_decide_eq_true e))
   ·exact decide_eq_false fun e2=>e (decide_eq_true (congrArg V.str e2))
 intro ow H3 now' s3 how
 rw[length_map,←zl,dw]at how
 have eO:=CW (fun d=>decide (d.1≠z)) ll
 have mA1:∀q∈(as.zip E).filter (fun q=>decide (q.2.1≠z)),dJ H1 q.1 q.2∧q.2∈E:=fun q hq=>zmem q (mem_filter.mp hq).1
 have mA2:∀q∈(as.zip E).filter (fun q=>decide (q.2.1=z)),dJ H1 q.1 q.2∧q.2∈E∧q.2.1=z:=fun q hq=>⟨(zmem q (mem_filter.mp hq).1).1,(zmem q (mem_filter.mp hq).1).2,of_decide_eq_true (mem_filter.mp hq).2⟩
 have ownE:∀e∈E,e.1=z→∃q∈(as.zip E).filter (fun q=>decide (q.2.1=z)),q.2=e:=fun e he e1=>by
  obtain⟨i,hi⟩:=getElem?_of_mem he
  obtain⟨a,ha⟩:∃a,as[i]? =some a:=⟨_,getElem?_eq_getElem (by rw[ll];exact(List.getElem?_eq_some_iff.mp hi).1)⟩
  exact⟨(a,e),mem_filter.mpr ⟨mem_of_getElem? (fJ ha hi),decide_eq_true e1⟩,rfl⟩
 have l1:=length_filter_le (fun q:Addr×ED=>decide (q.2.1≠z)) (as.zip E)
 have l2:=length_filter_le (fun q:Addr×ED=>decide (q.2.1=z)) (as.zip E)
 generalize (as.zip E).filter (fun q=>decide (q.2.1≠z))=A1 at hot eO mA1 l1
 generalize (as.zip E).filter (fun q=>decide (q.2.1=z))=A2 at how mA2 ownE l2
 have s13:=s2.trans s3
 have hot3:=s3 _ _ hot
 have eO':A1.map (·.2)=E.filter fun d=>decide (d.1≠z):=eO
 generalize hO:(E.filter fun d=>decide (d.1≠z))=O at eO'
 have mO:∀d∈O,d∈E∧d.1≠z:=fun d hd=>by
  rw[←hO]at hd
  exact⟨(mem_filter.mp hd).1,of_decide_eq_true (mem_filter.mp hd).2⟩
 have Om:∀d∈E,d.1≠z→d∈O:=fun d hd n=>by
  rw[←hO]
  exact mem_filter.mpr ⟨hd,decide_eq_true n⟩
 refine⟨zV,fun e0 ne0=>⟨E4,fun e1 ne1=>?_⟩⟩
 have s4:=cA.upd (o:=.lst []) ne0
 have s5:=cA.upd (o:=.lst [V.ref e0]) ne1
 have he0:=s5 _ _ (show upd H3 e0 (.lst []) e0=some (.lst []) from cy)
 have he1:upd (upd H3 e0 (.lst [])) e1 (.lst [V.ref e0]) e1=some (.lst [V.ref e0]):=cy
 have s35:=s4.trans s5
 generalize upd (upd H3 e0 (.lst [])) e1 (.lst [V.ref e0])=H5 at s35 he0 he1
 clear s4 s5 ne0 ne1
 have s15:=s13.trans s35
 refine⟨_,rfl,ow,A2.map (·.1),uA H1,rfl,by rw[map_map];exact cF.of (s35 _ _ how),fun a ha Q' q'=>?_,fun l zy nl pm pw _=>?_⟩
 ·obtain⟨q,hq,rfl⟩:=mem_map.mp ha
  have ev:=(mA2 q hq).1
  rw[iu ev]at q'
  obtain⟨wa,h1,_⟩:=ev
  exact⟨q.1,_,_,_,rfl,s15 _ _ h1,q'⟩
 rw[if_pos rfl]
 have zpm:zy.reverse.Perm (A2.map (·.1)):=(List.reverse_perm zy).trans pm
 have zpw:∀{i j:Nat}{a b:Addr},i < j→zy.reverse[i]? =some a→zy.reverse[j]? =some b→uA H1 b≤uA H1 a:=fun {i j a b} ij ha hb=>by
  have pr:zy.reverse.Pairwise fun a b=>uA H1 b≤uA H1 a:=List.pairwise_reverse.mpr pw
  obtain⟨h1,e1⟩:=List.getElem?_eq_some_iff.mp ha
  obtain⟨h2,e2⟩:=List.getElem?_eq_some_iff.mp hb
  have:=List.pairwise_iff_getElem.mp pr i j h1 h2 ij
  rwa [e1,e2]at this
 generalize zy.reverse=zs at zpm zpw
 have zlen:zs.length=A2.length:=by rw[zpm.length_eq,length_map]
 have s6:=cA.upd (o:=.lst (zs.map V.ref)) nl
 have hl6:upd H5 l (.lst (zs.map V.ref)) l=some (.lst (zs.map V.ref)):=cy
 generalize upd H5 l (.lst (zs.map V.ref))=H6 at s6 hl6
 have zent:∀{j:Nat}{a:Addr},zs[j]? =some a→∃d,(a,d)∈A2:=fun {j a} h=>by
  obtain⟨q,hq,e⟩:=mem_map.mp (zpm.mem_iff.mp (mem_of_getElem? h))
  exact⟨q.2,by rw[←e];exact hq⟩
 have entz:∀q∈A2,∃j,zs[j]? =some q.1:=fun q hq=>getElem?_of_mem (zpm.mem_iff.mpr (mem_map.mpr ⟨q,hq,rfl⟩))
 refine⟨l,rfl,⟨_,cF.of hl6⟩,yQ (cF.of hl6) (by rw[length_map];omega) (fun i v H7 K1 hv s7 k1=>⟨_,rfl,E4,fun b nb=>k1 b nb⟩) fun cm bs H7 ncm s7 hcm bl br=>?_⟩
 rw[length_map]at bl
 have s57:=s6.trans s7
 refine⟨e1,cm,_,_,rfl,rfl,cF.of (s57 _ _ he1),cF.of hcm,by rw[length_map];show 0+1+_≤_;omega,fun tr ntr=>?_⟩
 have s8:=cA.upd (o:=.lst ([V.ref e0]++bs.map V.ref)) ntr
 have htr:upd H7 tr (.lst ([V.ref e0]++bs.map V.ref)) tr=some (.lst ([V.ref e0]++bs.map V.ref)):=cy
 generalize upd H7 tr (.lst ([V.ref e0]++bs.map V.ref))=H8 at s8 htr
 have s58:=s57.trans s8
 have s38:=s35.trans s58
 have s18:=s13.trans s38
 have he8:=s58 _ _ he0
 have hot8:=s38 _ _ hot3
 have s08:=s1.trans s18
 have cho:∀{i:Nat}{v:V},([V.ref e0]++bs.map V.ref)[i]? =some v→∃(c:Addr) (cp:List (Addr×ED)),v=.ref c∧H8 c=some (.lst (cp.map fun q=>V.ref q.1))∧(∀q∈cp,q∈A2)∧((i=0∧cp=[])∨∃j a d,i=j+1∧zs[j]? =some a∧(a,d)∈A2∧cp=[(a,d)]):=fun {i v} hv=>by
  cases i with
  |zero=>
   cases hv
   exact⟨e0,[],rfl,he8,(fun q hq=>by cases hq),.inl ⟨rfl,rfl⟩⟩
  |succ j=>
   have hv':(bs.map V.ref)[j]? =some v:=hv
   rw[getElem?_map]at hv'
   obtain⟨b,hb,rfl⟩:=map_eq_some_iff.mp hv'
   obtain⟨u,hu,hbl⟩:=br j b hb
   rw[getElem?_map]at hu
   obtain⟨a,ha,rfl⟩:=map_eq_some_iff.mp hu
   obtain⟨d,hd⟩:=zent ha
   exact⟨b,[(a,d)],rfl,s8 _ _ hbl,(fun q hq=>by cases mem_singleton.mp hq;exact hd),.inr ⟨j,a,d,rfl,ha,hd,rfl⟩⟩
 refine⟨tr,rfl,⟨_,cF.of htr⟩,dk (K:=X.K) (a:=tr) (xs:=[V.ref e0]++bs.map V.ref) (fun i σ H9=>∃e5 e6:Option V,σ=[some (.ref x),some (.str z),some (.ref en),some (.ref ot),some (.ref ow),e5,e6]∧cA H8 H9∧(0 < i→∀F,dy O F→bx F sd≠[])∧∀j a d,j+1 < i→zs[j]? =some a→(a,d)∈A2→∀F,dy (O++[d]) F→bx F sd≠[]) ⟨none,none,rfl,cA.refl _,(fun h=>absurd h (lt_irrefl 0)),fun j a d h=>absurd h (Nat.not_lt_zero _)⟩ ?_ ?_ ?_⟩
 ·rintro i σ H9 hi ⟨e5,e6,rfl,s9,nf1,nf2⟩
  exact cF.of (s9 _ _ htr)
 ·rintro i v σ H9 hv ⟨e5,e6,rfl,s9,nf1,nf2⟩
  obtain⟨c,cp,rfl,hc,mcp,cas⟩:=cho hv
  have s89:=s08.trans s9
  have cl:cp.length≤1:=by
   rcases cas with ⟨_,rfl⟩|⟨j,a,d,_,_,_,rfl⟩
   ·exact zero_le _
   ·exact le_refl _
  refine⟨_,rfl,_,rfl,_,rfl,ot,c,_,_,rfl,rfl,cF.of (s9 _ _ hot8),cF.of (s9 _ _ hc),by rw[length_map,length_map];omega,fun q nq=>?_⟩
  have s10:=cA.upd (o:=.lst ((A1.map fun q=>V.ref q.1)++cp.map fun q=>V.ref q.1)) nq
  have hq:upd H9 q (.lst ((A1.map fun q=>V.ref q.1)++cp.map fun q=>V.ref q.1)) q=some (.lst (((A1++cp).map (·.1)).map V.ref)):=by
   rw[cy,map_map,map_append]
   rfl
  generalize upd H9 q (.lst ((A1.map fun q=>V.ref q.1)++cp.map fun q=>V.ref q.1))=H10 at s10 hq
  have s010:=s89.trans s10
  have s110:=(s18.trans s9).trans s10
  have mPL:∀r∈A1++cp,dJ H1 r.1 r.2∧r.2∈E:=fun r hr=>by
   rcases mem_append.mp hr with h|h
   ·exact mA1 r h
   ·exact⟨(mA2 r (mcp r h)).1,(mA2 r (mcp r h)).2.1⟩
  have dsE:(A1++cp).map (·.2)=O++cp.map (·.2):=by rw[map_append,eO']
  refine⟨x,p,s,t,y,q,(A1++cp).map (·.1),(A1++cp).map (·.2),ps,ss,ts,ys,sg,qd,sd,rfl,bk.mono s010,sy.mono (Tk.of s010),l60,hq,by rw[length_map,length_append];omega,by rw[length_map,length_map],fun i a d ha hd=>?_,pl,fun d hd=>?_,fun d hd=>?_,fun l us F st H11 s11 nl hl lz fo so stl hb=>?_,fun F H11 s11 fo hb=>?_⟩
  ·rw[getElem?_map]at ha hd
   obtain⟨r,hr,rfl⟩:=map_eq_some_iff.mp ha
   rw[hr]at hd
   cases hd
   exact(mPL r (mem_of_getElem? hr)).1.mono (Tk.of s110)
  ·obtain⟨r,hr,rfl⟩:=mem_map.mp hd
   exact oin _ (mPL r hr).2
  ·obtain⟨r,hr,rfl⟩:=mem_map.mp hd
   rw[hE]
   exact(mPL r hr).2
  ·rw[dsE]at fo so
   refine⟨_,rfl,rfl,_,rfl,c9 ⟨_,rfl,l,us,st,rfl,hl,lz,so.nd,stl,fun kn H12 s12 hk=>?_⟩⟩
   refine⟨kn,rfl,.inl ⟨_,.inl hk⟩,_,rfl,_,ei.k (k:=Sum.inr z) hk,_,rfl,CK,fun r nr=>?_⟩
   have ov:(cS (lU st) (Sum.inr z)).getD .non=oV (F z):=by
    rw[m9 so]
    cases F z<;>rfl
   have s13':=cA.upd (o:=.tup [(cS (lU st) (Sum.inr z)).getD .non,V.ref l]) nr
   refine k r (F z) (.ref l) _ (((s010.trans s11).trans s12).trans s13') (by rw[←ov];exact cy) ?_
   rcases cas with ⟨rfl,rfl⟩|⟨j,a,d,rfl,hz,hd,rfl⟩
   ·rw[map_nil,append_nil]at fo
    have nz:F z=none:=by
     cases hF:F z with
     |none=>rfl
     |some h=>
      obtain⟨d,md,e1,_⟩:=hJ fo hF
      exact absurd e1 (mO d md).2
    rw[nz]
    exact⟨fun _=>⟨F,by rw[hO];exact fo,hb⟩,(fun h e=>by cases e),(fun h e=>by cases e),(fun h e=>by cases e)⟩
   ·have fo':dy (O++[d]) F:=fo
    have md:=mA2 _ hd
    have nf0:=nf1 (succ_pos _)
    cases hF:F z with
    |none=>
     refine absurd hb (nf0 F (jQ (p:=z) fo' (fun d' hd'=>?_) (fun d' hd'=>mem_append_left _ hd') (fun d' hd' n=>?_) fun h e=>by rw[hF]at e;cases e))
     ·rcases mem_append.mp hd' with h'|h'
      ·exact nn d' (mO d' h').1
      ·rw[mem_singleton.mp h']
       exact nn d md.2.1
     ·rcases mem_append.mp hd' with h'|h'
      ·exact h'
      ·rw[mem_singleton.mp h']at n
       exact absurd md.2.2 n
    |some h=>
     obtain⟨d',md',e1,e2,_⟩:=hJ fo' hF
     have ed:d'=d:=by
      rcases mem_append.mp md' with h'|h'
      ·exact absurd e1 (mO d' h').2
      ·exact mem_singleton.mp h'
     subst ed
     refine⟨(fun e=>by cases e),fun h2 e=>by rw[hO];exact nf0,fun h2 e=>?_,fun h2 e e' he' e1' lt F' fo2=>?_⟩
     ·cases e
      exact⟨d',md.2.1,e1,e2,F,by rw[hO];exact fo',hb,hF⟩
     ·cases e
      rw[hO]at fo2
      obtain⟨q',hq',rfl⟩:=ownE e' he' e1'
      obtain⟨j',hj'⟩:=entz q' hq'
      refine nf2 j' q'.1 q'.2 ?_ hj' hq' F' fo2
      have c1:=iu (mA2 q' hq').1
      have c2:uA H1 a=d'.2.1:=iu md.1
      have c3:¬j < j':=fun lt'=>by
       have:=zpw lt' hz hj'
       rw[c1,c2]at this
       have e2':d'.2.1=h:=e2
       omega
      have c4:j'≠j:=fun e=>by
       rw[e,hz]at hj'
       cases hj'
       have e2':d'.2.1=h:=e2
       have c5:=c1.symm.trans c2
       have c6:q'.2.2.1=d'.2.1:=c5
       omega
      omega
  ·rw[dsE]at fo
   refine⟨_,rfl,rfl,_,rfl,cN ⟨_,_,rfl,(s9.trans s10).trans s11,fun _ F' fo'=>?_,fun j a d hj hz hd F' fo'=>?_⟩⟩
   ·rcases cas with ⟨rfl,rfl⟩|⟨j,a,d,rfl,hz,hd,rfl⟩
    ·rw[map_nil,append_nil]at fo
     rw[mP fo' fo]
     exact hb
    ·exact nf1 (succ_pos _) F' fo'
   ·rcases cas with ⟨rfl,rfl⟩|⟨j',a',d',rfl,hz',hd',rfl⟩
    ·omega
    ·by_cases e:j=j'
     ·subst e
      rw[hz]at hz'
      cases hz'
      have e2:=jM (mA2 _ hd).1 (mA2 _ hd').1
      have e2':d=d':=e2
      subst e2'
      rw[mP fo' (show dy (O++[d]) F from fo)]
      exact hb
     ·exact nf2 j a d (by omega) hz hd F' fo'
 ·rintro σ H9 ⟨e5,e6,rfl,s9,nf1,nf2⟩
  rw[length_append,length_map,bl]at nf1 nf2
  have one:([V.ref e0]:List V).length=1:=rfl
  rw[one]at nf1 nf2
  exfalso
  cases hF:F0 z with
  |none=>exact nf1 (by omega) F0 (jQ f0 nn (fun d hd=>(mO d hd).1) Om fun h e=>by rw[hF]at e;cases e) b0
  |some h=>
   obtain⟨e0',me0,e1',e2',cf⟩:=hJ f0 hF
   obtain⟨q',hq',rfl⟩:=ownE e0' me0 e1'
   obtain⟨j',hj'⟩:=entz q' hq'
   refine nf2 j' q'.1 q'.2 (by have:=(List.getElem?_eq_some_iff.mp hj').1;omega) hj' hq' F0 (jQ (p:=z) f0 nn (fun d hd=>?_) (fun d hd n=>mem_append_left _ (Om d hd n)) fun h' e=>?_) b0
   ·rcases mem_append.mp hd with h'|h'
    ·exact(mO d h').1
    ·rw[mem_singleton.mp h']
     exact me0
   ·rw[hF]at e
    cases e
    exact⟨q'.2,mem_append_right _ (mem_singleton_self _),e1',e2',cf⟩
inductive KP(vs:List V)(H:Hp)(Q:VK):Prop
 |mk (wa:Addr) (z:Str) (w:EW) (e:vs=[.ref wa,.str z]) (hw:ro H wa w) (k:Q (.bl (mS z ("",0,w))) H)
def Ds:Sp:=fun vs H Q _=>KP vs H Q
inductive J1(C:Addr)(vs:List V)(H:Hp)(Q:VK):Prop
 |mk(x p s t y:Addr)(z:Str)(ps:List Str)(ss ts ys:List V)(sg:List GD)(qd:List QD)(sd:List SD)(F0:FH)(e:vs=[.ref x,.str z])(bk:Bk C H x p s t y ps ss ts ys)(pl:ps.length≤24)(sl:ss.length≤24)(tl:ts.length≤120)(gs:Lz c8 H ss sg)(gp:∀d∈sg,d.1∈ps)(qs:Lz du H ts qd)(qk:∀d∈qd,lJ ps d)(sy:Sys H ys sd)(l:ys.length≤60)(f0:dy (eK sg qd sd) F0)(b0:bx F0 sd=[])
   (k1:∀(l:Addr)(F:FH)(H':Hp),cA H H'→dy ((eK sg qd sd).filter fun d=> !mS z d) F→bx F sd=[]→Q (.ref l) H')(k2:∀(F:FH)(H':Hp),cA H H'→dy ((eK sg qd sd).filter fun d=> !mS z d) F→bx F sd≠[]→Q .non H')
def Eo(C:Addr):Sp:=fun vs H Q _=>J1 C vs H Q
open Classical in
noncomputable def Av (E:List ED)(sd:List SD)(z:Str):Bool:=decide (∃F,dy (E.filter fun d=> !mS z d) F∧bx F sd≠[])
open Classical in
theorem yR{E:List ED}{sd:List SD}{z:Str}{F:FH}(fo:dy (E.filter fun d=> !mS z d) F)(hb:bx F sd=[]):Av E sd z=false:=decide_eq_false fun⟨G,g,n⟩=>n (by rw[mP g fo];exact hb)
open Classical in
theorem AY{E:List ED}{sd:List SD}{z:Str}{F:FH}(fo:dy (E.filter fun d=> !mS z d) F)(hb:bx F sd≠[]):Av E sd z=true:=decide_eq_true ⟨F,fo,hb⟩
inductive Kp(C:Addr)(vs:List V)(H:Hp)(Q:VK):Prop
 |mk(x p s t y:Addr)(ps:List Str)(ss ts ys:List V)(sg:List GD)(qd:List QD)(sd:List SD)(F0:FH)(e:vs=[.ref x])(bk:Bk C H x p s t y ps ss ts ys)(pl:ps.length≤24)(sl:ss.length≤24)(tl:ts.length≤120)(gs:Lz c8 H ss sg)(gp:∀d∈sg,d.1∈ps)(qs:Lz du H ts qd)(qk:∀d∈qd,lJ ps d)(sy:Sys H ys sd)(l:ys.length≤60)(f0:dy (eK sg qd sd) F0)(b0:bx F0 sd=[])
   (k:∀(l:Addr)(H':Hp),cA H H'→H' l=some (.lst (((ie ps).filter (Av (eK sg qd sd) sd)).map V.str))→Q (.ref l) H')
def DL(C:Addr):Sp:=fun vs H Q _=>Kp C vs H Q
inductive Ke(C:Addr)(vs:List V)(H:Hp)(Q:VK):Prop
 |mk(x p s t y:Addr)(ps:List Str)(ss ts ys:List V)(v:V)(e:vs=[.ref x,v])(bk:Bk C H x p s t y ps ss ts ys)(g:Parts H ps ss ts (ys++[v]))(k:∀(x' p' s' t' y':Addr)(H':Hp),cA H H'→Bk C H' x' p' s' t' y' ps ss ts (ys++[v])→Q (.ref x') H')
def JY(C:Addr):Sp:=fun vs H Q _=>Ke C vs H Q
theorem kC:cD ["way", "person"] ["way", "person"] (cB eU):={}
theorem E6 (D:Df K mg "is_heard_from" eU ["way", "person"] f fd):Gd P w K mg base 1 "is_heard_from" Ds:=by
 refine aE D kC fun X H vs Q E hh h=>?_
 obtain⟨wa,z,w,rfl,hw,k⟩:=h
 obtain⟨S0,S1,_⟩:=hh.dZ [0,1]
 refine⟨_,(ah (aw (aX (aZ aK (af az (aa S0) ae ak) aP (L2.cE _)) (a7 (aZ aK (af az (aa S0) ae ak) (aa S1) (L2.cE _)))))),?_⟩
 cases w with
 |saw i=>exact⟨_,rfl,xT hw rfl ⟨rfl,_,rfl,iN k⟩⟩
 |hrd kk te=>
  refine⟨_,rfl,xT hw rfl ⟨rfl,_,rfl,iP ⟨_,rfl,xT hw rfl ⟨_,rfl,rfl,?_⟩⟩⟩⟩
  have e:decide (V.str te=V.str z)=decide (te=z):=by
   rw[Bool.eq_iff_iff,decide_eq_true_iff,decide_eq_true_iff,V.str.injEq]
  rw[e]
  exact k
theorem kU:cD ["book", "person", "entries"] ["book", "person"] (cB fb):={}
theorem GA (D:Df K mg "story_without" fb ["book", "person"] f fd) (G_open_entries:Gd P w K mg base 5 "open_entries" (yC C)) (G_fitting_story:Gd P w K mg base 6 "fitting_story" (v5 C)) (G_is_heard_from:Gd P w K mg base 1 "is_heard_from" Ds):Gd P w K mg base 7 "story_without" (Eo C):=by
 refine aE D kU fun X H vs Q E hh h=>?_
 obtain⟨x,p,s,t,y,z,ps,ss,ts,ys,sg,qd,sd,F0,rfl,bk,pl,sl,tl,gs,gp,qs,qk,sy,l60,f0,b0,k1,k2⟩:=h
 obtain⟨S0,S1,S2,_⟩:=hh.dZ [0,1,2]
 have C_fitting_story:=hh.c G_fitting_story
 have C_open_entries:=hh.c G_open_entries
 have CI_is_heard_from:=hh.ci G_is_heard_from
 have hsz:sizeLine=16777216:=sizeLine_eq
 refine⟨_,(ag (aA S2 hh.nd (ao C_open_entries (aj (aa S0))))
 (ag (aH (aB b5 (ao C_fitting_story (aD (aa S0) (aa S2))) bA (L2.cE _))
 bY
 aJ)
 (ah (aw (ao C_fitting_story (aD (aa S0) (bF (is:=[1]) (xs:=["entry"]) (ns:=["person"]) hh.calm (aQ (aa S2)) {} (fun _ _ _ _ _=>(aT (i:=0) (by decide+kernel) rfl rfl)) (fun _ _ _ _ _=>(bz (bu (a9 (ao (CI_is_heard_from.lg rfl) (aD (af bo (aG (i:=0) rfl rfl (by decide) (by decide)) ae ak) (aU (i:=1) rfl rfl (by decide) (by decide)))))))) (fun _ _ _ _ _=>(aG (i:=0) rfl rfl (by decide) (by decide))) hh.hsc hh.hN))))))),?_⟩
 refine⟨_,rfl,x,p,s,t,y,ps,ss,ts,ys,sg,qd,sd,rfl,bk,pl,sl,tl,gs,gp,qs,qk,sy,l60,fun en us H1 s1 nen hen lz ul=>?_⟩
 obtain⟨as,rfl,ll,le⟩:=p7 lz
 rw[length_map]at ul
 have oin:=t8 (sd:=sd) gp qk
 refine⟨_,rfl,_,rfl,x,p,s,t,y,en,as,eK sg qd sd,ps,ss,ts,ys,sg,qd,sd,rfl,bk.mono s1,sy.mono (Tk.of s1),l60,hen,by omega,ll,le,pl,oin,(fun _ h=>h),fun l us F st H2 s2 nl hl lz2 fo so stl hb=>?_,fun F H2 s2 fo hb=>absurd b0 (by rw[mP f0 fo];exact hb)⟩
 refine⟨rfl,_,rfl,cN ?_⟩
 have s12:=s1.trans s2
 have zl:(as.zip (eK sg qd sd)).length=as.length:=by rw[length_zip,ll,min_self]
 have fl2:=CW (fun d=> !mS z d) ll
 have zmem:∀q∈as.zip (eK sg qd sd),dJ H1 q.1 q.2∧q.2∈eK sg qd sd:=fun q hq=>by
  obtain⟨i,hi⟩:=getElem?_of_mem hq
  obtain⟨h1,h2⟩:=iW hi
  exact⟨le i _ _ h1 h2,mem_of_getElem? h2⟩
 refine⟨_,rfl,_,rfl,en,rfl,⟨_,cF.of (s2 _ _ hen)⟩,dz (xs:=as.map V.ref) (gr (as.zip (eK sg qd sd)) fun q=> !mS z q.2) (mK (as.zip (eK sg qd sd)) fun q=>V.ref q.1) (cF.of (s2 _ _ hen)) (by rw[length_map];omega) ?_ ?_⟩
 ·intro i os v H3 K1 K2 hv hos s3 k1' k2'
  match os,hos with
  |[o],_=>
   rw[getElem?_map]at hv
   obtain⟨a,ha,rfl⟩:=map_eq_some_iff.mp hv
   obtain⟨d,hd⟩:∃d,(eK sg qd sd)[i]? =some d:=⟨_,getElem?_eq_getElem (by rw[←ll];exact(List.getElem?_eq_some_iff.mp ha).1)⟩
   obtain⟨wa,hea,hw⟩:=le i a d ha hd
   rw[dC (fJ ha hd)]at k1' k2'
   rw[d6 (fJ ha hd)]at k1'
   have s23:=s2.trans s3
   exact⟨⟨[some (.ref a)],rfl,rfl⟩,⟨_,rfl,xT (s23 _ _ hea) rfl ⟨_,rfl,wa,z,d.2.2,rfl,hw.mono (Tk.of s23),_,rfl,cW (fun e=>⟨_,rfl,k1' e H3 (cA.refl _)⟩) (fun e=>k2' (eq_false_iff.mpr e) H3 (cA.refl _))⟩⟩⟩
 intro fe H3 nfe s3 hfe
 rw[length_map,←zl,dw]at hfe
 have s13:=s2.trans s3
 have s03:=s1.trans s13
 have lf:=length_filter_le (fun q:Addr×ED=> !mS z q.2) (as.zip (eK sg qd sd))
 refine⟨x,p,s,t,y,fe,((as.zip (eK sg qd sd)).filter fun q=> !mS z q.2).map (·.1),((as.zip (eK sg qd sd)).filter fun q=> !mS z q.2).map (·.2),ps,ss,ts,ys,sg,qd,sd,rfl,bk.mono s03,sy.mono (Tk.of s03),l60,by rw[map_map];exact hfe,by rw[length_map];omega,by rw[length_map,length_map],fun i a d ha hd=>?_,pl,fun d hd=>?_,fun d hd=>?_,fun l us F st H4 s4 nl hl lz2 fo so stl hb=>?_,fun F H4 s4 fo hb=>?_⟩
 ·rw[getElem?_map]at ha hd
  obtain⟨r,hr,rfl⟩:=map_eq_some_iff.mp ha
  rw[hr]at hd
  cases hd
  exact(zmem r (mem_filter.mp (mem_of_getElem? hr)).1).1.mono (Tk.of s13)
 ·obtain⟨r,hr,rfl⟩:=mem_map.mp hd
  exact oin _ (zmem r (mem_filter.mp hr).1).2
 ·obtain⟨r,hr,rfl⟩:=mem_map.mp hd
  exact(zmem r (mem_filter.mp hr).1).2
 ·rw[fl2]at fo
  exact k1 l F H4 (s03.trans s4) fo hb
 ·rw[fl2]at fo
  exact k2 F H4 (s03.trans s4) fo hb
theorem xV:cD ["book"] ["book"] (cB n9):={}
theorem Gw (D:Df K mg "needed" n9 ["book"] f fd) (T:Txt K mg kw C) (G_persons:Md P w K mg base 1 C "persons" (cZ C fun p _ _ _=>p)) (G_story_without:Gd P w K mg base 7 "story_without" (Eo C)):Gd P w K mg base 8 "needed" (DL C):=by
 refine aE D xV fun X H vs Q E hh h=>?_
 obtain⟨x,p,s,t,y,ps,ss,ts,ys,sg,qd,sd,F0,rfl,bk,pl,sl,tl,gs,gp,qs,qk,sy,l60,f0,b0,k⟩:=h
 obtain⟨S0,_⟩:=hh.dZ [0]
 have B_sorted:=hh.b T.b_sorted
 have CI_story_without:=hh.ci G_story_without
 have M_persons:=hh.met G_persons (by decide)
 have hsz:sizeLine=16777216:=sizeLine_eq
 refine⟨_,(ah (aw (bF (is:=[0]) (xs:=["person"]) (ns:=["book"]) hh.calm (aQ (aL B_sorted J.fh L2.gJ (aj (bM M_persons (aa S0) rfl)))) {} (fun _ _ _ _ _=>(aT (i:=0) (by decide+kernel) rfl rfl)) (fun _ _ _ _ _=>(bz (aB b5 (ao (CI_story_without.lg rfl) (aD (aU (i:=1) rfl rfl (by decide) (by decide)) (aG (i:=0) rfl rfl (by decide) (by decide)))) bA (L2.cE _)))) (fun _ _ _ _ _=>(aG (i:=0) rfl rfl (by decide) (by decide))) hh.hsc hh.hN))),?_⟩
 obtain⟨⟨dx,hx⟩,hp,hs,ht,hy⟩:=id bk
 refine⟨_,rfl,x,dx,_,rfl,hx,fL _ _ _ _ (by decide+kernel) (by decide+kernel) (by decide+kernel) (by decide+kernel),x,p,s,t,y,ps.map V.str,rfl,⟨dx,hx⟩,hp,fun pb npb=>?_⟩
 have s3:=cA.upd (o:=.lst (ps.map V.str)) npb
 have hpb:upd H pb (.lst (ps.map V.str)) pb=some (.lst (ps.map V.str)):=cy
 generalize upd H pb (.lst (ps.map V.str))=H3 at s3 hpb
 refine⟨pb,ps,rfl,cF.of hpb,by omega,fun l1 zs nl1 pm zo=>?_⟩
 cases Aj pm zo
 have srl:(ie ps).length=ps.length:=(iR ps).length_eq
 have s4:=s3.trans (cA.upd (o:=.lst ((ie ps).map V.str)) nl1)
 have hl1:upd H3 l1 (.lst ((ie ps).map V.str)) l1=some (.lst ((ie ps).map V.str)):=cy
 generalize upd H3 l1 (.lst ((ie ps).map V.str))=H4 at s4 hl1
 refine⟨l1,rfl,⟨_,cF.of hl1⟩,dz (xs:=(ie ps).map V.str) (gr (ie ps) (Av (eK sg qd sd) sd)) (mK (ie ps) V.str) (cF.of hl1) (by rw[length_map];omega) ?_ ?_⟩
 ·intro i os v H5 K1 K2 hv hos s5 k1 k2
  match os,hos with
  |[o],_=>
   rw[getElem?_map]at hv
   obtain⟨z,hz,rfl⟩:=map_eq_some_iff.mp hv
   rw[dC hz]at k1 k2
   rw[d6 hz]at k1
   have s45:=s4.trans s5
   have tk:=Tk.of s45
   refine⟨⟨[some (.str z)],rfl,rfl⟩,⟨_,rfl,_,rfl,x,p,s,t,y,z,ps,ss,ts,ys,sg,qd,sd,F0,rfl,bk.mono s45,pl,sl,tl,gs.mono (c8.mono tk),gp,qs.mono (du.mono tk),qk,sy.mono tk,l60,f0,b0,fun l F H6 s6 fo hb=>?_,fun F H6 s6 fo hb=>?_⟩⟩
   ·exact⟨rfl,_,rfl,cN (k2 (yR fo hb) H6 s6)⟩
   ·exact⟨rfl,_,rfl,c9 ⟨_,rfl,k1 (AY fo hb) H6 s6⟩⟩
 ·intro D' H' hD' s' hd'
  rw[length_map,dw]at hd'
  exact k D' H' (s4.trans s') hd'
theorem Bx{P:Nat→Prop}{n:Nat}(hn:P n):∃m,P m∧∀k,P k→m≤k:=by
 induction n using Nat.strongRecOn with
 |_ n ih=>
  by_cases c:∃k,k < n∧P k
  ·obtain⟨k,kl,pk⟩:=c
   exact ih k kl pk
  ·exact⟨n,hn,fun k pk=>Nat.le_of_not_lt fun l=>c ⟨k,l,pk⟩⟩
theorem zm{ds:List ED}(nn:∀d∈ds,0≤d.2.1){z:Str}{h:Int}(r:jF ds z h):0≤h:=by
 cases r with
 |saw m=>exact nn _ m
 |hrd m _ _=>exact nn _ m
theorem zK{ds:List ED}(nn:∀d∈ds,0≤d.2.1):∃F,dy ds F:=by
 have key:∀z,∃o:Option Int,(∀h,o=some h→jF ds z h)∧∀h,jF ds z h→∃b,b≤h∧o=some b:=fun z=>by
  by_cases c:∃n:Nat,jF ds z n
  ·obtain⟨n,hn⟩:=c
   obtain⟨m,hm,mn⟩:=Bx (P:=fun n=>jF ds z n) hn
   refine⟨some m,fun h e=>by cases e;exact hm,fun h r=>⟨m,?_,rfl⟩⟩
   have h0:=zm nn r
   have:=mn h.toNat (by rw[Int.toNat_of_nonneg h0];exact r)
   omega
  ·refine⟨none,(fun h e=>by cases e),fun h r=>absurd ⟨h.toNat,?_⟩ c⟩
   rw[Int.toNat_of_nonneg (zm nn r)]
   exact r
 refine⟨fun z=>Classical.choose (key z),fun d hd cf=>?_,fun z h e=>(Classical.choose_spec (key z)).1 h e⟩
 obtain⟨z,h,w⟩:=d
 refine(Classical.choose_spec (key z)).2 h ?_
 cases w with
 |saw i=>exact .saw hd
 |hrd k te=>
  have cf':(match Classical.choose (key te) with|none=>false|some a=>decide (a < h))=true:=cf
  cases hT:Classical.choose (key te) with
  |none=>rw[hT]at cf';cases cf'
  |some b=>
   rw[hT]at cf'
   exact .hrd hd ((Classical.choose_spec (key te)).1 b hT) (of_decide_eq_true cf')
theorem zD{sg:List GD}{qd:List QD}{ix:List Nat}{ks:List TK}{F:FH}(ik:∀i∈ix,i < sg.length)(so:p0 sg F ix)(to:∀t∈ks,EU qd F t)(rc:∀z i,F z=some i→gS sg qd ix ks z i):dy (ix.map (tH sg)++ks.map (xG qd)) F:=by
 refine⟨fun d hd cf=>?_,fun z h e=>?_⟩
 ·rcases mem_append.mp hd with hd|hd
  ·obtain⟨i,mi,rfl⟩:=mem_map.mp hd
   obtain⟨g,hg⟩:∃g,sg[i]? =some g:=⟨_,getElem?_eq_getElem (ik i mi)⟩
   have e:tH sg i=(g.1,g.2,.saw i):=by
    unfold tH
    rw[hg]
   rw[e]
   obtain⟨j,j1,j2⟩:=so i mi g hg
   exact⟨j,j2,j1⟩
  ·obtain⟨t,mt,rfl⟩:=mem_map.mp hd
   have cf':(match F t.2.1 with|none=>false|some a=>decide (a < cY qd t.1))=true:=cf
   cases hT:F t.2.1 with
   |none=>rw[hT]at cf';cases cf'
   |some a=>
    rw[hT]at cf'
    obtain⟨b,b1,b2⟩:=to t mt a hT (of_decide_eq_true cf')
    exact⟨b,b2,b1⟩
 ·have r:=rc z h e
  clear e
  induction r with
  |saw m e=>
   rename_i i g
   refine .saw (i:=i) (mem_append_left _ (mem_map.mpr ⟨i,m,?_⟩))
   unfold tH
   rw[e]
  |hrd m r l ih=>exact .hrd (mem_append_right _ (mem_map.mpr ⟨_,m,rfl⟩)) ih l
theorem Aa{ds D:List ED}{F:FH}(f:dy ds F)(nn:∀d∈ds,0≤d.2.1)(sub:∀d∈D,d∈ds)(pk:∀y h,F y=some h→∃e∈D,e.1=y∧e.2.1=h∧lY F e=true):dy D F:=by
 refine⟨fun d hd=>f.cl d (sub d hd),?_⟩
 have key:∀n:Nat,∀z h,h.toNat < n→F z=some h→jF D z h:=by
  intro n
  induction n with
  |zero=>intro z h hn;exact absurd hn (Nat.not_lt_zero _)
  |succ n ih=>
   intro z h hn e
   obtain⟨d,md,e1,e2,cf⟩:=pk z h e
   obtain⟨z',h',w⟩:=d
   cases e1
   cases e2
   cases w with
   |saw i=>exact .saw md
   |hrd k te=>
    have cf':(match F te with|none=>false|some a=>decide (a < h'))=true:=cf
    cases hT:F te with
    |none=>rw[hT]at cf';cases cf'
    |some b=>
     rw[hT]at cf'
     have bl:b < h':=of_decide_eq_true cf'
     obtain⟨d',md',_,e2',_⟩:=hJ f hT
     have b0:=nn d' md'
     rw[e2']at b0
     have hn':h'.toNat < n+1:=hn
     exact .hrd md (ih te b (by omega) hT) bl
 exact fun z h e=>key (h.toNat+1) z h (lt_succ_self _) e
section
variable {E E':List ED}{sd:List SD}{z:Str}{G:FH}(nn:∀d∈E,0≤d.2.1)(sub:∀d∈E',d∈E)(fz:dy E' G)(hb:bx G sd=[])
include nn sub fz hb
theorem yp{l h:Int}(la:vn E sd z (some l))(e:G z=some h):h≤l:=by
 refine Int.not_lt.mp fun lt=>?_
 obtain⟨d,md,e1,e2,cf⟩:=hJ fz e
 have nn':∀d∈E',0≤d.2.1:=fun d hd=>nn d (sub d hd)
 have f2:dy ((E'.filter fun d=>decide (d.1≠z))++[d]) G:=jQ (p:=z) fz nn' (fun d' hd'=>by
  rcases mem_append.mp hd' with h'|h'
  ·exact(mem_filter.mp h').1
  ·rw[mem_singleton.mp h']
   exact md) (fun d' hd' n=>mem_append_left _ (mem_filter.mpr ⟨hd',decide_eq_true n⟩)) fun h' e'=>by
   rw[e]at e'
   cases e'
   exact⟨d,mem_append_right _ (mem_singleton_self _),e1,e2,cf⟩
 obtain⟨G2,g2⟩:=zK (ds:=(E.filter fun d=>decide (d.1≠z))++[d]) (fun d' hd'=>by
  rcases mem_append.mp hd' with h'|h'
  ·exact nn _ (mem_filter.mp h').1
  ·rw[mem_singleton.mp h']
   exact nn' _ md)
 refine la.up l rfl d (sub d md) e1 (by omega) G2 g2 (pN (fun z' h' e'=>gW f2 g2 (fun d' hd'=>?_) e') hb)
 rcases mem_append.mp hd' with h'|h'
 ·exact mem_append_left _ (mem_filter.mpr ⟨sub _ (mem_filter.mp h').1,(mem_filter.mp h').2⟩)
 ·exact mem_append_right _ h'
theorem Bf{l:Int}(la:vn E sd z (some l)):(G z).isSome=true:=by
 cases e:G z with
 |some h=>rfl
 |none=>
  have nn':∀d∈E',0≤d.2.1:=fun d hd=>nn d (sub d hd)
  have f2:dy (E'.filter fun d=>decide (d.1≠z)) G:=jQ (p:=z) fz nn' (fun d' hd'=>(mem_filter.mp hd').1) (fun d' hd' n=>mem_filter.mpr ⟨hd',decide_eq_true n⟩) fun h' e'=>by
   rw[e]at e'
   cases e'
  obtain⟨G2,g2⟩:=zK (ds:=E.filter fun d=>decide (d.1≠z)) (fun d' hd'=>nn _ (mem_filter.mp hd').1)
  exact absurd (pN (fun z' h' e'=>gW f2 g2 (fun d' hd'=>mem_filter.mpr ⟨sub _ (mem_filter.mp hd').1,(mem_filter.mp hd').2⟩) e') hb) (la.un l rfl G2 g2)
theorem GY(nd:Av E sd z=true):∃d∈E',mS z d=true∧G d.1=some d.2.1∧lY G d=true:=by
 refine Classical.byContradiction fun no=>?_
 have nn':∀d∈E',0≤d.2.1:=fun d hd=>nn d (sub d hd)
 have f2:dy (E'.filter fun d=> !mS z d) G:=Aa fz nn' (fun d' hd'=>(mem_filter.mp hd').1) fun y h e=>by
  obtain⟨d,md,e1,e2,cf⟩:=hJ fz e
  refine⟨d,mem_filter.mpr ⟨md,?_⟩,e1,e2,cf⟩
  cases c:mS z d with
  |false=>rfl
  |true=>exact absurd ⟨d,md,c,by rw[e1,e2];exact e,cf⟩ no
 obtain⟨G2,g2⟩:=zK (ds:=E.filter fun d=> !mS z d) (fun d' hd'=>nn _ (mem_filter.mp hd').1)
 have h0:bx G2 sd=[]:=pN (fun z' h' e'=>gW f2 g2 (fun d' hd'=>mem_filter.mpr ⟨sub _ (mem_filter.mp hd').1,(mem_filter.mp hd').2⟩) e') hb
 rw[yR g2 h0]at nd
 cases nd
end
def BX(c k:Int):Int:=(c % 1000000007+31 * k * k+1) * (c % 1000000007+31 * k * k+1) % 2147483629 * (k+7) % 2147483647
inductive Fg(vs:List V)(H:Hp)(Q:VK):Prop
 |mk(c k:Int)(e:vs=[.int c,.int k])(k0:0≤k)(k1:k≤1000)(q:Q (.int (BX c k)) H)
def ue:Sp:=fun vs H Q _=>Fg vs H Q
inductive HP(vs:List V)(H:Hp)(Q:VK):Prop
 |mk(l:Addr)(n:Int)(xs:List V)(e:vs=[.ref l,.int n])(hl:H l=some (.lst xs))(xl:xs.length≤1000)(k:∀(r:Addr)(js:List Nat)(H':Hp),cA H H'→(∀j∈js,j < xs.length)→js.length≤xs.length→H' r=some (.lst (js.map (mK xs id)))→Q (.ref r) H')
def yL:Sp:=fun vs H Q _=>HP vs H Q
def qU(qd:List QD)(F:FH)(t:TK):Bool:=match F t.2.2 with
 |none=>false
 |some a=>decide (a=cY qd t.1) && match F t.2.1 with
  |none=>false
  |some b=>decide (b < cY qd t.1)
inductive IX(vs:List V)(H:Hp)(Q:VK):Prop
 |mk(th s t y tl d:Addr)(ts us:List V)(qd:List QD)(ks:List TK)(kvs:List (Key×V))(F:FH)(e:vs=[.ref th,.ref tl,.ref d])(hth:H th=some (.tup [.ref s,.ref t,.ref y]))(ht:H t=some (.lst ts))(qs:Lz du H ts qd)(htl:H tl=some (.lst us))(tu:eI H us ks)(kk:∀t∈ks,t.1 < qd.length)(ul:us.length≤1000)(hd:Rd H d (.dK kvs))(get:∀z,cS kvs (Sum.inr z)=(F z).map V.int)
   (k:∀(r:Addr)(H':Hp),cA H H'→H' r=some (.lst ((ks.filter (qU qd F)).map fun t=>V.str t.2.1))→Q (.ref r) H')
def yK:Sp:=fun vs H Q _=>IX vs H Q
inductive Ij(vs:List V)(H:Hp)(Q:VK):Prop
 |mk(d fd ld:Addr)(kvs kvf kvl:List (Key×V))(ps:List Str)(F G:FH)(Lt:Str→Option (Option Int))(e:vs=[.ref d,.ref fd,.ref ld])(hd:Rd H d (.dK kvs))(hf:H fd=some (.dK kvf))(hl:Rd H ld (.dK kvl))(nf:fd≠d)(nl:fd≠ld)(nd:d≠ld)(sk:Au kvs)(sl:Au kvl)(gd:∀z,cS kvs (Sum.inr z)=(G z).map V.int)(gf:∀z∈ps,cS kvf (Sum.inr z)=some (oV (F z)))(gl:∀z,cS kvl (Sum.inr z)=(Lt z).map oV)
   (ca:∀z h,G z=some h→z∈ps∧∃b,b≤h∧F z=some b)(cb:∀z h l,G z=some h→Lt z=some (some l)→h≤l)(cc:∀z l,Lt z=some (some l)→(G z).isSome=true)
   (k:∀H':Hp,(∀b o,H b=some o→b≠d→b≠ld→H' b=some o)→Rd H' d (.dK kvs)→Rd H' ld (.dK kvl)→Q (.bl true) H')
def zT:Sp:=fun vs H Q _=>Ij vs H Q
theorem jC{H:Hp}{a:Addr}{kvs:List (Key×V)}{z:Str}{r:Option V}(h:Rd H a (.dK kvs))(e:cS kvs (Sum.inr z)=r):ei H a (.str z) r:=.inl ⟨kvs,Sum.inr z,h,rfl,e.symm⟩
theorem vS{kvs:List (Key×V)}(s:Au kvs){i:Nat}{z:Str}{y:V}(h:kvs[i]? =some (Sum.inr z,y)):(cS kvs (Sum.inr z)).isSome=true:=by
 obtain⟨zs,e,nd⟩:=s
 rw[←t9 e]
 have h1:(kvs.map (·.1))[i]? =some (Sum.inr z):=by
  rw[getElem?_map,h]
  rfl
 rw[e,getElem?_map]at h1
 obtain⟨z',h2,h3⟩:=map_eq_some_iff.mp h1
 cases h3
 exact mem_of_getElem? h2
theorem vv{kvs:List (Key×V)}(s:Au kvs):∀kv∈kvs,∃z,kv.1=Sum.inr z:=fun kv hm=>by
 obtain⟨zs,e,_⟩:=s
 have:kv.1∈zs.map Sum.inr:=by
  rw[←e]
  exact mem_map.mpr ⟨kv,hm,rfl⟩
 obtain⟨z,_,hz⟩:=mem_map.mp this
 exact⟨z,hz.symm⟩
theorem mC{H H':Hp}{a:Addr}{u:HO}(s:cA H H')(h:Rd H a u):Rd H' a u:=h.imp (s _ _) fun⟨o,e⟩=>⟨o,s _ _ e⟩
theorem Cg (D:Df K mg "_law_mix" mV ["_law_cell", "_law_k"] f fd):Gd P w K mg base 1 "_law_mix" ue:=by
 refine aE D rY fun X H vs Q E hh h=>?_
 obtain⟨c,k,rfl,k0,k1,q⟩:=h
 obtain⟨S0,S1,S2,_⟩:=hh.dZ [0,1,2]
 refine⟨_,(ag (aA S2 hh.nd (au bg (au bg (au aR (aa S0) ae) (au bD (au bD ae (aa S1)) (aa S1))) ae))
 (ah (aw (au aR (au bD (au aR (au bD (aa S2) (aa S2)) ae) (au bg (aa S1) ae)) ae)))),?_⟩
 refine⟨_,rfl,_,_,rfl,rfl,(by show(0:Int) < 1000000007;decide),_,rfl,_,_,rfl,rfl,.inl ⟨by decide,by decide⟩,_,rfl,_,_,rfl,rfl,.inr ⟨by omega,by omega⟩,_,_,rfl,rfl,_,_,rfl,rfl,?_⟩
 have a:=cP c (m:=1000000007) (by decide)
 have b:0≤31 * k * k∧31 * k * k≤31000000:=by
  have h1:31 * k * k=31 * (k * k):=Int.mul_assoc 31 k k
  have h2:0≤k * k:=Int.mul_nonneg k0 k0
  have h3:k * k≤1000 * 1000:=Int.mul_le_mul k1 k1 k0 (by decide)
  omega
 dsimp only
 have sb:0≤c % 1000000007+31 * k * k+1∧c % 1000000007+31 * k * k+1≤1100000000:=by omega
 unfold BX at q
 generalize c % 1000000007+31 * k * k+1=S at sb q
 clear a b
 exact⟨_,rfl,_,rfl,_,_,rfl,rfl,.inl ⟨by omega,by omega⟩,_,_,rfl,rfl,(by show(0:Int) < 2147483629;decide),_,rfl,_,_,rfl,rfl,_,_,rfl,rfl,.inr ⟨by omega,by omega⟩,_,_,rfl,rfl,(by show(0:Int) < 2147483647;decide),q⟩
theorem wJ:cD ["_law_rows", "_law_number"] ["_law_rows", "_law_number"] (cB m7):={}
theorem Dt (D:Df K mg "_law_some" m7 ["_law_rows", "_law_number"] f fd) (T:Txt K mg kw C) (G__law_mix:Gd P w K mg base 1 "_law_mix" ue):Gd P w K mg base 2 "_law_some" yL:=by
 refine aE D wJ fun X H vs Q E hh h=>?_
 obtain⟨l,n,xs,rfl,hl,xl,k⟩:=h
 obtain⟨S0,S1,_⟩:=hh.dZ [0,1]
 have B_len:=hh.b T.b_len
 have B_range:=hh.b T.b_range
 have CI__law_mix:=hh.ci G__law_mix
 have hsz:sizeLine=16777216:=sizeLine_eq
 refine⟨_,(ah (aw (bF (is:=[0,1]) (xs:=["_law_k"]) (ns:=["_law_rows", "_law_number"]) hh.calm (bR B_range (aj (aL B_len bB L2.dO (aj (aa S0))))) {} (fun _ _ _ _ _=>(aT (i:=0) (by decide+kernel) rfl rfl)) (fun _ _ _ _ _=>(bz (aB bP (au aR (ao (CI__law_mix.lg rfl) (aD (aU (i:=2) rfl rfl (by decide) (by decide)) (aG (i:=0) rfl rfl (by decide) (by decide)))) ae) ae (L2.cE _)))) (fun _ _ _ _ _=>(af b7 (aU (i:=1) rfl rfl (by decide) (by decide)) (aG (i:=0) rfl rfl (by decide) (by decide)) aO)) hh.hsc hh.hN))),?_⟩
 refine⟨_,rfl,l,_,rfl,.inl (cF.of hl),(xs.length:Int),rfl,by omega,by omega,pB (lo:=0) (N:=((xs.length:Nat):Int).toNat) (fun j=>decide (BX n (0+(j:Int)) % 4 > 0)) (mK xs id) (by omega) ?_ ?_⟩
 ·intro i os H2 K1 K2 hi hos s2 k1 k2
  match os,hos with
  |[o],_=>
   rw[Int.toNat_natCast]at hi
   have hv:xs[i]? =some xs[i]:=getElem?_eq_getElem hi
   rw[d6 hv]at k1
   generalize xs[i]=v at hv k1
   have av:oH xs ((0:Int)+(i:Int))=some v:=by rw[Int.zero_add];exact cQ hv
   refine⟨⟨[some (.int (0+(i:Int)))],rfl,rfl⟩,?_⟩
   refine⟨_,rfl,_,rfl,n,0+(i:Int),rfl,by omega,by omega,_,_,rfl,rfl,(by show(0:Int) < 4;decide),_,_,rfl,rfl,_,rfl,cW (fun e=>?_) (fun e=>k2 (eq_false_iff.mpr e) H2 (cA.refl _))⟩
   exact⟨_,rfl,_,rfl,xL (s2 _ _ hl) av (k1 e H2 (cA.refl _))⟩
 ·intro D' H' hD' s' hd'
  rw[Int.toNat_natCast]at hd'
  refine k D' _ H' s' (fun j hj=>mem_range.mp (mem_filter.mp hj).1) ?_ hd'
  have:=length_filter_le (fun j:Nat=>decide (BX n (0+(j:Int)) % 4 > 0)) (List.range xs.length)
  rwa [length_range]at this
theorem qe:cD ["_law_things_here", "_law_tellings_here", "_law_found", "_law_known", "_law_k", "_law_teller", "_law_hearer", "_law_when"] ["_law_things_here", "_law_tellings_here", "_law_found"] (cB iI):={}
theorem DO (D:Df K mg "_law_tellers" iI ["_law_things_here", "_law_tellings_here", "_law_found"] f fd):Gd P w K mg base 1 "_law_tellers" yK:=by
 refine aE D qe fun X H vs Q E hh h=>?_
 obtain⟨th,s,t,y,tl,d,ts,us,qd,ks,kvs,F,rfl,hth,ht,qs,htl,tu,kk,ul,hd,get,k⟩:=h
 obtain⟨S0,S1,S2,S3,S4,S5,S6,S7,_⟩:=hh.dZ [0,1,2,3,4,5,6,7]
 have hu:=eG hh.room
 have hsz:sizeLine=16777216:=sizeLine_eq
 refine⟨_,(ag (aA S3 hh.nd (bj bJ))
 (ag (a8 hh.own hh.calm (aQ (aa S1)) (bE hh.calm (aI (aF S4 hh.nd) (aI (aF S5 hh.nd) (aI (aF S6 hh.nd) bp))))
 (ag (aA S7 hh.nd (af az (af aV (af az (aa S0) ae ak) (aa S4) aO) ae ak))
 (ah (aH (aY (bf (J.qN hu (aa S6) (aa S2)) (bf (aB aK (bq hu (aa S2) (aa S6) aO) (aa S7) (L2.cE _)) (bf (J.qN hu (aa S5) (aa S2)) (bC (aB bS (bq hu (aa S2) (aa S5) aO) (aa S7) (L2.cE _)))))))
 (ah (bG (bL plainAttrs_list PySem.F.slot_list_append PySem.F.type_list_append bK (aa S3) (aj (aa S5)))))
 aJ))))
 (ah (aw (aa S3))))),?_⟩
 refine⟨zV,fun l hl=>?_⟩
 have s1:=cA.upd (o:=.lst []) hl
 have hl1:upd H l (.lst []) l=some (.lst []):=cy
 generalize upd H l (.lst [])=H1 at s1 hl1
 refine⟨_,rfl,tl,rfl,⟨_,cF.of (s1 _ _ htl)⟩,dk (K:=X.K) (a:=tl) (xs:=us) (fun i σ H2=>∃e4 e5 e6 e7:Option V,σ=[some (.ref th),some (.ref tl),some (.ref d),some (.ref l),e4,e5,e6,e7]∧cA H H2∧H2 l=some (.lst (((ks.take i).filter (qU qd F)).map fun t=>V.str t.2.1)))
  ⟨none,none,none,none,rfl,s1,hl1⟩ ?_ ?_ ?_⟩
 ·rintro i σ H2 hi ⟨e4,e5,e6,e7,rfl,s2,hl2⟩
  exact cF.of (s2 _ _ htl)
 ·rintro i v σ H2 hv ⟨e4,e5,e6,e7,rfl,s2,hl2⟩
  have il:i < us.length:=(List.getElem?_eq_some_iff.mp hv).1
  obtain⟨tk,htk⟩:∃tk,ks[i]? =some tk:=⟨_,getElem?_eq_getElem (by rw[←tu.1];exact il)⟩
  obtain⟨a,rfl,ha⟩:=tu.2 _ _ _ hv htk
  have kt:=kk tk (mem_of_getElem? htk)
  obtain⟨q,hq⟩:∃q,qd[tk.1]? =some q:=⟨_,getElem?_eq_getElem kt⟩
  obtain⟨vq,hvq⟩:∃vq,ts[tk.1]? =some vq:=⟨_,getElem?_eq_getElem (by rw[qs.1];exact kt)⟩
  obtain⟨aq,rfl,haq⟩:=qs.2 _ _ _ hvq hq
  have hh1:=fj hq
  have dt:=jC (mC s2 hd) (get tk.2.1)
  have dh:=jC (mC s2 hd) (get tk.2.2)
  have ul2:((ks.take i).filter (qU qd F)).length≤1000:=by
   have h1:=length_filter_le (qU qd F) (ks.take i)
   rw[length_take]at h1
   have:=tu.1
   omega
  have eF:qU qd F tk=false→H2 l=some (.lst (((ks.take (i+1)).filter (qU qd F)).map fun t=>V.str t.2.1)):=fun e=>by
   rw[take_add_one,htk,filter_append]
   show H2 l=some (.lst ((_++List.filter (qU qd F) [tk]).map _))
   rw[filter_cons,e,if_neg Bool.false_ne_true,filter_nil,append_nil]
   exact hl2
  refine⟨a,_,rfl,dq.of (s2 _ _ ha),rfl,_,_,rfl,_,_,rfl,_,_,rfl,rfl,?_⟩
  refine⟨_,rfl,xT (s2 _ _ hth) rfl ⟨_,rfl,xL (s2 _ _ ht) (cQ hvq) (xT (s2 _ _ haq) rfl ?_)⟩⟩
  refine⟨_,rfl,_,rfl,d,_,rfl,dh,_,rfl,?_⟩
  cases hF:F tk.2.2 with
  |none=>exact ig Bool.false_ne_true (cN ⟨_,_,_,_,rfl,s2,eF (by unfold qU;rw[hF])⟩)
  |some x=>
   rw[hF]at dh
   refine fc rfl ⟨_,rfl,_,rfl,d,_,rfl,dh,_,rfl,rfl,_,rfl,cW (fun eq=>?_) (fun neq=>cN ⟨_,_,_,_,rfl,s2,eF ?_⟩)⟩
   ·have eq':x=q.1:=V.int.inj (of_decide_eq_true eq)
    refine⟨_,rfl,_,rfl,d,_,rfl,dt,_,rfl,?_⟩
    cases hT:F tk.2.1 with
    |none=>
     refine ig Bool.false_ne_true (cN ⟨_,_,_,_,rfl,s2,eF ?_⟩)
     unfold qU
     rw[hF,hT]
     exact Bool.and_false _
    |some b=>
     rw[hT]at dt
     have tb:qU qd F tk=decide (b < q.1):=by
      unfold qU
      rw[hF,hT,hh1]
      show(decide (x=q.1) && decide (b < q.1))=_
      rw[decide_eq_true eq',Bool.true_and]
     refine fc rfl ⟨_,rfl,_,rfl,d,_,rfl,dt,_,rfl,_,_,rfl,rfl,_,rfl,cW (fun lt=>?_) (fun nlt=>⟨_,_,_,_,rfl,s2,eF (by rw[tb];exact eq_false_iff.mpr nlt)⟩)⟩
     refine⟨_,rfl,.inl ⟨rfl,_,cF.of hl2⟩,_,rfl,l,_,.str tk.2.1,rfl,rfl,hl2,by rw[length_map];omega,_,_,_,_,rfl,fun b o e=>?_,?_⟩
     ·rw[cC (cz e hl)]
      exact s2 _ _ e
     ·rw[take_add_one,htk,filter_append]
      show upd _ _ _ l=some (.lst ((_++List.filter (qU qd F) [tk]).map _))
      rw[filter_cons,tb,if_pos lt,filter_nil,map_append]
      exact cy
   ·unfold qU
    rw[hF]
    show(decide (x=cY qd tk.1) && _)=false
    rw[hh1,decide_eq_false (fun e=>neq (decide_eq_true (congrArg V.int e))),Bool.false_and]
 ·rintro σ H2 ⟨e4,e5,e6,e7,rfl,s2,hl2⟩
  rw[tu.1,take_length]at hl2
  exact⟨_,rfl,k l H2 s2 hl2⟩
theorem qF:cD ["_law_found", "_law_first", "_law_late", "_law_person"] ["_law_found", "_law_first", "_law_late"] (cB iJ):={}
theorem Dp (D:Df K mg "_law_between" iJ ["_law_found", "_law_first", "_law_late"] f fd):Gd P w K mg base 1 "_law_between" zT:=by
 refine aE D qF fun X H vs Q E hh h=>?_
 obtain⟨d,fd,ld,kvs,kvf,kvl,ps,F,G,Lt,rfl,hd,hf,hl,nf,nl,nd,sk,sl,gd,gf,gl,ca,cb,cc,k⟩:=h
 obtain⟨S0,S1,S2,S3,_⟩:=hh.dZ [0,1,2,3]
 have hu:=eG hh.room
 refine⟨_,(ag (a8 hh.own hh.calm (J.mw (aa S0)) (aF S3 hh.nd)
 (ag (aH (aY (bN (aB b5 (bq hu (aa S1) (aa S3) aO) bA (L2.cE _)) (bO (aB bP (bq hu (aa S1) (aa S3) aO) (bq hu (aa S0) (aa S3) aO) (L2.cE _)))))
 (ah (aw a5))
 aJ)
 (ah (aH (aY (bf (aB cq (J.IS hu (aa S2) (aa S3)) bA (L2.cE _)) (bC (aB bP (bq hu (aa S0) (aa S3) aO) (bq hu (aa S2) (aa S3) aO) (L2.cE _)))))
 (ah (aw a5))
 aJ))))
 (ag (a8 hh.own hh.calm (J.mw (aa S2)) (aF S3 hh.nd)
 (ah (aH (aY (bf (aB cq (bq hu (aa S2) (aa S3) aO) bA (L2.cE _)) (bC (J.kB hu (aa S3) (aa S0)))))
 (ah (aw a5))
 aJ)))
 (ah (aw a5)))),?_⟩
 refine⟨_,rfl,d,kvs,rfl,hd,vv sk,fun o H1 e1 e2=>sN (fun i σ H2=>∃e3:Option V,σ=[some (.ref d),some (.ref fd),some (.ref ld),e3]∧H2=H1) ⟨none,rfl,rfl⟩ ?_ ?_ ?_⟩
 ·rintro i σ H2 hi ⟨e3,rfl,rfl⟩
  exact e2
 ·rintro i z y σ H2 hz ⟨e3,rfl,rfl⟩
  have vs:=vS sk hz
  rw[gd,isSome_map]at vs
  obtain⟨h,hG⟩:=isSome_iff_exists.mp vs
  obtain⟨mz,b,bh,hF⟩:=ca z h hG
  have df:=jC (H:=H2) (.inl (by rw[e1 fd nf];exact hf)) (gf z mz)
  have dd:=jC (H:=H2) (.inr ⟨o,e2⟩) (gd z)
  have rl:Rd H2 ld (.dK kvl):=by
   unfold Rd
   rw[e1 ld nd.symm]
   exact hl
  have dl:=jC rl (gl z)
  rw[hF]at df
  rw[hG]at dd
  refine⟨_,rfl,_,rfl,fd,_,rfl,df,rfl,_,rfl,cN ⟨_,rfl,_,rfl,fd,_,rfl,df,_,rfl,_,rfl,d,_,rfl,dd,b,h,rfl,rfl,_,rfl,ig (fun e=>?_) ?_⟩⟩
  ·have:b > h:=of_decide_eq_true e
   omega
  refine⟨_,rfl,ld,rfl,.inl ⟨_,rl⟩,_,rfl,_,dl,rfl,_,rfl,?_⟩
  cases hL:Lt z with
  |none=>exact cN (cN ⟨_,rfl,rfl⟩)
  |some L=>
   cases L with
   |none=>exact cN (cN ⟨_,rfl,rfl⟩)
   |some l=>
    rw[hL]at dl
    have hl':=cb z h l hG hL
    refine c9 ⟨_,rfl,_,rfl,d,_,rfl,dd,_,rfl,_,rfl,ld,_,rfl,dl,h,l,rfl,rfl,_,rfl,ig (fun e=>?_) ⟨_,rfl,rfl⟩⟩
    have:h > l:=of_decide_eq_true e
    omega
 ·rintro σ H2 ⟨e3,rfl,rfl⟩
  have rl:Rd H2 ld (.dK kvl):=by
   unfold Rd
   rw[e1 ld nd.symm]
   exact hl
  refine⟨_,rfl,ld,kvl,rfl,rl,vv sl,fun o' H3 f1 f2=>sN (fun i σ H4=>∃e3:Option V,σ=[some (.ref d),some (.ref fd),some (.ref ld),e3]∧H4=H3) ⟨_,rfl,rfl⟩ ?_ ?_ ?_⟩
  ·rintro i σ H4 hi ⟨e3,rfl,rfl⟩
   exact f2
  ·rintro i z y σ H4 hz ⟨e3,rfl,rfl⟩
   have vs:=vS sl hz
   rw[gl,isSome_map]at vs
   obtain⟨L,hL⟩:=isSome_iff_exists.mp vs
   have dl:=jC (H:=H4) (.inr ⟨o',f2⟩) (gl z)
   have dd:=jC (H:=H4) (.inr ⟨o,by rw[f1 d nd];exact e2⟩) (gd z)
   rw[hL]at dl
   cases L with
   |none=>exact⟨_,rfl,_,rfl,ld,_,rfl,dl,rfl,_,rfl,cN (cN ⟨_,rfl,rfl⟩)⟩
   |some l=>
    obtain⟨h,hG⟩:=isSome_iff_exists.mp (cc z l hL)
    rw[hG]at dd
    exact⟨_,rfl,_,rfl,ld,_,rfl,dl,rfl,_,rfl,c9 ⟨_,rfl,_,rfl,d,_,rfl,dd,_,rfl,cN ⟨_,rfl,rfl⟩⟩⟩
  ·rintro σ H4 ⟨e3,rfl,rfl⟩
   refine k H4 (fun b o e n1 n2=>by rw[f1 b n2,e1 b n1];exact e) (.inr ⟨o,by rw[f1 d nd];exact e2⟩) (.inr ⟨o',f2⟩)
end K34
namespace K34
open PySem L2
variable {P:Program}{w:World}{K:PySem.W.Frag}{mg:Str→Option Value}{base:Heap}{kw C:Addr}{f:Addr}{fd:FuncData}
inductive DU  (K:PySem.W.Frag)(vs:List V)(H:Hp)(Q:VK):Prop
 |mk(a:Addr)(ns:List Int)(h0:vs=[.ref a])(h1:cF K H a (ns.map V.int))(h2:ns.length≤63)(h3:∀H',Q (.bl true) H')
def vm  (K:PySem.W.Frag):Sp:=fun vs H Q _=>DU K vs H Q
def vp(f:SD→Bool):Prop:=∀d,(∀q h,d≠SD.knew q h)→f d=true
theorem yo{f:SD→Bool}(hf:vp f)(z:Str)(sd:List SD):jV z (sd.filter f)=jV z sd:=by
 unfold jV
 rw[List.filter_filter]
 congr 1
 refine List.filter_congr fun d _=>?_
 cases d with
 |knew q h=>rfl
 |unh q o=>rw[hf _ (fun _ _ e=>by cases e),Bool.and_true]
 |sil q b e=>rfl
 |bar q q'=>rfl
theorem Cz{f g:SD→Bool}(hf:vp f)(hg:∀q h,g (.knew q h)=false)(sd:List SD):(sd.filter f).any g=sd.any g:=by
 rw[List.any_filter]
 congr 1
 funext d
 cases d with
 |knew q h=>rw[hg,Bool.and_false]
 |unh q o=>rw[hf _ (fun _ _ e=>by cases e),Bool.true_and]
 |sil q b e=>rw[hf _ (fun _ _ e=>by cases e),Bool.true_and]
 |bar q q'=>rw[hf _ (fun _ _ e=>by cases e),Bool.true_and]
theorem Hf{f:SD→Bool}(hf:vp f)(sg:List GD)(qd:List QD)(sd:List SD):eK sg qd (sd.filter f)=eK sg qd sd:=by
 have e1:dB (sd.filter f)=dB sd:=by
  funext d
  unfold dB floorOf
  rw[yo hf]
 have e2:cT qd (sd.filter f)=cT qd sd:=by
  funext t
  unfold cT floorOf
  rw[yo hf,Cz hf (fun _ _=>rfl),Cz hf (fun _ _=>rfl)]
 unfold eK
 rw[e1,e2]
theorem GG{f:SD→Bool}{H:Hp}{ys:List V}{sd:List SD}(sy:Sys H ys sd):Sys H (((ys.zip sd).filter fun p=>f p.2).map fun p=>p.1) (sd.filter f):=by
 have e:sd.filter f=((ys.zip sd).filter fun p=>f p.2).map fun p=>p.2:=by
  have e1:(ys.zip sd).map Prod.snd=sd:=List.map_snd_zip (by rw[sy.1];exact le_refl _)
  have e2:=filter_map (f:=Prod.snd) (p:=f) (l:=ys.zip sd)
  rw[e1]at e2
  exact e2
 refine⟨by rw[e,length_map,length_map],fun i v d hv hd=>?_⟩
 rw[e,getElem?_map]at hd
 rw[getElem?_map]at hv
 obtain⟨p,hp,rfl⟩:=map_eq_some_iff.mp hv
 rw[hp]at hd
 cases hd
 obtain⟨hp1,_⟩:=mem_filter.mp (mem_of_getElem? hp)
 obtain⟨j,hj⟩:=getElem?_of_mem hp1
 obtain⟨h1,h2⟩:=iW hj
 exact sy.2 j _ _ h1 h2
theorem pf{G:FH}:∀(zs:List Str) (kvs:List (Key×V)) (z:Str),z∈zs∨cS kvs (Sum.inr z)=some (oV (G z))→cS (eB kvs (zs.map fun z=>(Sum.inr z,oV (G z)))) (Sum.inr z)=some (oV (G z))
 |[],kvs,z,h=>h.resolve_left fun e=>by cases e
 |y::r,kvs,z,h=>by
  refine pf r (putK kvs (Sum.inr y) (oV (G y))) z ?_
  by_cases e:z=y
  ·refine .inr ?_
   rw[dY,if_pos (by rw[e]),e]
  ·rcases h with h|h
   ·exact .inl ((mem_cons.mp h).resolve_left e)
   ·refine .inr ?_
    rw[dY,if_neg (fun q=>e (Sum.inr.inj q))]
    exact h
theorem Ck{xs:List V}{lo hi:Option Int}{v:V}(h:v∈fN xs lo hi):v∈xs:=List.mem_of_mem_drop (List.mem_of_mem_take (show v∈(xs.drop _).take _ from h))
theorem vG{z:Str}:∀(l:List Str),ye (.str z) (l.map V.str)=decide (z∈l)
 |[]=>rfl
 |y::r=>by
  show(qV (.str y) (.str z) || ye (.str z) (r.map V.str))=_
  rw[vG r,Bool.eq_iff_iff,Bool.or_eq_true,decide_eq_true_iff,decide_eq_true_iff,mem_cons]
  have e:qV (.str y) (.str z)=true↔z=y:=by
   show(y == z)=true↔_
   rw[beq_iff_eq]
   exact⟨Eq.symm,Eq.symm⟩
  rw[e]
structure BD(C:Addr)(H:Hp)(x:Addr)(ps:List Str)(ss ts ys:List V)(sg:List GD)(qd:List QD)(sd:List SD):Prop where
 ex:∃p s t y,Bk C H x p s t y ps ss ts ys
 gs:Lz c8 H ss sg
 qs:Lz du H ts qd
 sy:Sys H ys sd
theorem BD.mono{C:Addr}{H H':Hp}{x:Addr}{ps:List Str}{ss ts ys:List V}{sg:List GD}{qd:List QD}{sd:List SD}(s:cA H H')(b:BD C H x ps ss ts ys sg qd sd):BD C H' x ps ss ts ys sg qd sd:=by
 obtain⟨p,s',t,y,bk⟩:=b.ex
 exact⟨⟨p,s',t,y,bk.mono s⟩,b.gs.mono (c8.mono (Tk.of s)),b.qs.mono (du.mono (Tk.of s)),b.sy.mono (Tk.of s)⟩
theorem D9{ps:List Str}{sg:List GD}{qd:List QD}{sd:List SD}(gk:∀d∈sg,d.1∈ps∧cO d.2)(qk:∀d∈qd,lJ ps d):∀d∈eK sg qd sd,0≤d.2.1:=fun d hd=>by
 obtain⟨z,h,w⟩:=d
 cases w with
 |saw i=>
  obtain⟨_,hg⟩:=mD hd
  exact(gk _ (mem_of_getElem? hg)).2.1
 |hrd k te=>
  obtain⟨mt,eh⟩:=mR hd
  obtain⟨q,hq,_⟩:=lq qk (mem_filter.mp mt).1
  have:=(qk q (mem_of_getElem? hq)).1.1
  rw[←eh,fj hq]
  exact this
def Fd(ix js:List Nat):List Nat:=js.map fun j=>(ix[j]?).getD 0
def yG(ks:List TK)(js:List Nat):List TK:=js.map fun j=>(ks[j]?).getD (0, "", "")
theorem qI{ix js:List Nat}(h:∀j∈js,j < ix.length){i:Nat}(m:i∈Fd ix js):i∈ix:=by
 obtain⟨j,mj,rfl⟩:=mem_map.mp m
 rw[getElem?_eq_getElem (h j mj)]
 exact getElem_mem _
theorem pT{ks:List TK}{js:List Nat}(h:∀j∈js,j < ks.length){t:TK}(m:t∈yG ks js):t∈ks:=by
 obtain⟨j,mj,rfl⟩:=mem_map.mp m
 rw[getElem?_eq_getElem (h j mj)]
 exact getElem_mem _
theorem BZ{ix js:List Nat}(h:∀j∈js,j < ix.length):js.map (mK (ix.map fun i=>V.int (i:Nat)) id)=(Fd ix js).map fun i=>V.int (i:Nat):=by
 unfold Fd
 rw[map_map]
 refine map_congr_left fun j hj=>?_
 have e:=getElem?_eq_getElem (h j hj)
 rw[d6 (d:=V.int ((ix[j]'(h j hj):Nat):Int)) (by rw[getElem?_map,e];rfl)]
 show _=V.int (((ix[j]?).getD 0:Nat):Int)
 rw[e]
 rfl
theorem Co{H:Hp}{us:List V}{ks:List TK}{js:List Nat}(t:eI H us ks)(h:∀j∈js,j < us.length):eI H (js.map (mK us id)) (yG ks js):=by
 refine⟨by unfold yG;rw[length_map,length_map],fun i u k hu hk=>?_⟩
 unfold yG at hk
 rw[getElem?_map]at hu hk
 obtain⟨j,hj,rfl⟩:=map_eq_some_iff.mp hu
 rw[hj]at hk
 cases hk
 have jl:=h j (mem_of_getElem? hj)
 have e1:=getElem?_eq_getElem jl
 have e2:=getElem?_eq_getElem (show j < ks.length by rw[←t.1];exact jl)
 rw[d6 e1]
 show lX H us[j] ((ks[j]?).getD _)
 rw[e2]
 exact t.2 j _ _ e1 e2
theorem CZ{H:Hp}{a b:Addr}{kvs:List (Key×V)}{xs:List V}(h:Rd H a (.dK kvs))(e:H b=some (.lst xs)):b≠a:=fun q=>by
 subst q
 rcases h with h|⟨o,h⟩<;>(rw[e]at h;cases h)
theorem DK:cD ["_law_script", "_law_whole", "_law_names_here", "_law_things_here", "_law_numbers", "_law_tellings_here", "_law_found", "_law_kept", "_law_book_here", "_law_first", "_law_late", "_law_person", "_law_wanted", "_law_turn", "_law_number", "_law_some_here", "_law_part", "_law_told"] ["_law_script"] (cB nJ):={}
theorem De (F:oY K "law" "law" nJ f fd) (T:Txt K mg kw C) (G__law_mix:Gd P w K mg base 1 "_law_mix" rm) (G__law_drawn:Gd P w K mg base 4 "_law_drawn" (zI K)) (G__law_open:Gd P w K mg base 3 "_law_open" mN) (G__law_hours:Gd P w K mg base 1 "_law_hours" vD) (G__law_knew_so:Gd P w K mg base 1 "_law_knew_so" j9)
  (G__law_book:Gd P w K mg base 9 "_law_book" (yw C)) (G_earliest:Gd P w K mg base 6 "earliest" (yA C)) (G_needed:Gd P w K mg base 8 "needed" (DL C)) (G_latest:Gd P w K mg base 7 "latest" (zW C)) (G__law_some:Gd P w K mg base 2 "_law_some" yL) (G__law_tellers:Gd P w K mg base 1 "_law_tellers" yK) (G__law_between:Gd P w K mg base 1 "_law_between" zT):eD P w K mg base l9 12 f fd ["_law_script"] (vm K):=by
 refine J.mJ F DK (fun vs H Q E h=>?_) (fun X H vs Q E hh h=>?_)
 ·obtain⟨a,ns,rfl,_⟩:=h
  rfl
 ·obtain⟨sc,ns,rfl,hsc,n63,q⟩:=h
  obtain⟨S0,S1,S2,S3,S4,S5,S6,S7,S8,S9,S10,S11,S12,S13,S14,S15,S16,S17,_⟩:=hh.dZ [0,1,2,3,4,5,6,7,8,9,10,11,12,13,14,15,16,17]
  have B_dict:=hh.b T.b_dict
  have B_range:=hh.b T.b_range
  have C__law_between:=hh.c G__law_between
  have C__law_book:=hh.c G__law_book
  have C__law_drawn:=hh.c G__law_drawn
  have C__law_hours:=hh.c G__law_hours
  have C__law_knew_so:=hh.c G__law_knew_so
  have C__law_mix:=hh.c G__law_mix
  have C__law_open:=hh.c G__law_open
  have C__law_some:=hh.c G__law_some
  have C__law_tellers:=hh.c G__law_tellers
  have C_earliest:=hh.c G_earliest
  have C_latest:=hh.c G_latest
  have C_needed:=hh.c G_needed
  have CI__law_knew_so:=hh.ci G__law_knew_so
  have hu:=eG hh.room
  obtain rfl:=hh.fK
  have hsz:sizeLine=16777216:=sizeLine_eq
  refine⟨_,(ag (bU (ao C__law_drawn (aD (aa S0) ae)) (bE hh.calm (aI (aF S1 hh.nd) (aI (aF S2 hh.nd) (aI (aF S3 hh.nd) bp)))))
 (ag (bU (ao C__law_open (aj (aa S3))) (bE hh.calm (aI (aF S4 hh.nd) (aI (aF S5 hh.nd) bp))))
 (ag (aA S6 hh.nd (ao C__law_hours (aM (aa S3) (aa S4) (aa S5))))
 (ag (bQ (is:=[6]) (xs:=["_law_row"]) (ns:=["_law_found"]) S7 hh.nd hh.calm (aQ (af az (aa S3) ae ak)) {} (fun _ _ _ _ _=>(aT (i:=0) (by decide+kernel) rfl rfl)) (fun _ _ _ _ _=>(bz (aY (bN (aB cj (af bo (aG (i:=0) rfl rfl (by decide) (by decide)) ae ak) aP (L2.cE _)) (bO (a9 (ao (CI__law_knew_so.lg rfl) (aD (bj (aj (aG (i:=0) rfl rfl (by decide) (by decide)))) (aU (i:=1) rfl rfl (by decide) (by decide)))))))))) (fun _ _ _ _ _=>(aG (i:=0) rfl rfl (by decide) (by decide))) hh.hsc hh.hN (by decide+kernel))
 (ag (aA S3 hh.nd (aS (aM (af az (aa S3) ae ak) (af az (aa S3) ae ak) (aa S7))))
 (ag (aA S8 hh.nd (ao C__law_book (aD (aa S2) (aa S3))))
 (ag (aA S9 hh.nd (bw B_dict (J.eR hh.calm) L2.Be (aj (ao C_earliest (aj (aa S8))))))
 (ag (aA S10 hh.nd cv)
 (ag (a8 hh.own hh.calm (aQ (J.gD J.i7 (aa S2) J.iY (J.iZ ae))) (aF S11 hh.nd)
 (ah (bV hu (aa S10) (aa S11) (af az (ao C_latest (aD (aa S8) (aa S11))) ae ak))))
 (ag (aA S12 hh.nd (ao C_needed (aj (aa S8))))
 (ag (a8 hh.own hh.calm (bR B_range (aj ae)) (aF S13 hh.nd)
 (ag (aA S14 hh.nd (ao C__law_mix (aD (aa S1) (au bg ae (aa S13)))))
 (ag (aA S15 hh.nd (ao C__law_some (aD (aa S5) (aa S14))))
 (ag (aA S16 hh.nd (ao C__law_hours (aM (aa S3) (ao C__law_some (aD (aa S4) (au bg (aa S14) ae))) (aa S15))))
 (ah (aH (a9 (ao C__law_knew_so (aD (aa S7) (aa S16))))
 (ag (aH (bu (a9 (ao C__law_between (aM (aa S16) (aa S9) (aa S10)))))
 (ah (aw a5))
 aJ)
 (ag (aA S17 hh.nd (ao C__law_tellers (aM (aa S3) (aa S15) (aa S16))))
 (ah (aH (aB (J.vc hu) (bF (is:=[17]) (xs:=["_law_person"]) (ns:=["_law_told"]) hh.calm (aQ (aa S12)) {} (fun _ _ _ _ _=>(aT (i:=0) (by decide+kernel) rfl rfl)) (fun _ _ _ _ _=>(bz (aB J.oX (aG (i:=0) rfl rfl (by decide) (by decide)) (aU (i:=1) rfl rfl (by decide) (by decide)) J.iA))) (fun _ _ _ _ _=>(aG (i:=0) rfl rfl (by decide) (by decide))) hh.hsc hh.hN) (bj bJ) (L2.cE _))
 (ah (aw a5))
 aJ))))
 aJ))))))
 (ah (aw a5))))))))))))),?_⟩
  refine⟨_,rfl,sc,ns,rfl,hsc,n63,fun r nl th s t y W ps ss ts ys H1 s1 hr W0 W1 hnl po ok=>?_⟩
  refine⟨r,_,rfl,dq.of hr,rfl,_,_,rfl,_,_,rfl,_,_,rfl,rfl,?_⟩
  clear hr
  obtain⟨sg,gs,gk⟩:=lO ok.gs
  obtain⟨qd,qs,qk⟩:=yz ok.gt
  obtain⟨sd,sy,sk⟩:=kK ok.gy
  have ll:=ok.lt
  refine⟨_,rfl,th,s,t,y,ps,ss,ts,ys,sg,qd,sd,rfl,ok.hth,ok.hs,ok.ht,ok.hy,ok.ls,(by omega),gs,(fun d hd=>(gk d hd).2),qs,qk,sy,fun r2 nb tl us H4 s4 _ _ _ hr2 hnb htl tu=>?_⟩
  refine⟨r2,_,rfl,dq.of hr2,rfl,_,_,rfl,_,_,rfl,rfl,?_⟩
  have ok4:=ok.mono s4
  refine⟨_,rfl,_,rfl,_,rfl,th,nb,tl,s,t,y,ps,ss,ts,us,sg,qd,(List.range sg.length).filter (gr sg (dB sd)),(fg 0 (fM qd)).filter (cT qd sd),rfl,ok4.hth,ok4.hs,ok4.ht,hnb,htl,gs.mono (c8.mono (Tk.of s4)),gk,qs.mono (du.mono (Tk.of s4)),(fun d hd=>(qk d hd).1),tu,(fun tk hk=>?_),(fun i hi=>mem_range.mp (mem_filter.mp hi).1),po.hi,fun fo kvs F H5 s5 nfo hfo hrd sso tso=>?_⟩
  ·obtain⟨q,hq,_,m2⟩:=lq qk (mem_filter.mp hk).1
   exact⟨(List.getElem?_eq_some_iff.mp hq).1,m2⟩
  have s35:=s4.trans s5
  have ok5:=ok.mono s35
  have hnl5:=s35 _ _ hnl
  have gs5:=gs.mono (c8.mono (Tk.of s35))
  have qs5:=qs.mono (du.mono (Tk.of s35))
  have sy5:=sy.mono (Tk.of s35)
  have hnb5:=s5 _ _ hnb
  have htl5:=s5 _ _ htl
  have tu5:=tu.mono (Tk.of s5)
  clear hr2 hnb htl tu s4 s5 s35 ok ok4 hnl gs qs sy nfo
  have plo:=po.lo
  have phi:=po.hi
  have lly:=ok5.ly
  have zl:(ys.zip sd).length=ys.length:=by rw[length_zip,←sy5.1,min_self]
  have k3:vp (mE F):=fun d n=>by
   cases d with
   |knew q h=>exact absurd rfl (n q h)
   |unh q o=>rfl
   |sil q b e=>rfl
   |bar q o=>rfl
  refine⟨_,rfl,xT ok5.hth rfl ⟨y,rfl,⟨_,cF.of ok5.hy⟩,dz (xs:=ys) (gr (ys.zip sd) fun p=>mE F p.2) (mK (ys.zip sd) fun p=>p.1) (cF.of ok5.hy) (by omega) ?_ ?_⟩⟩
  ·intro i os v H6 K1 K2 hv hos s6 k1 k2
   match os,hos with
   |[o],_=>
    obtain⟨d,a,hd,rfl,ha⟩:=sy5.at hv
    have ha6:=s6 _ _ ha
    rw[dC (fJ hv hd)]at k1 k2
    rw[d6 (fJ hv hd)]at k1
    refine⟨⟨[some (.ref a)],rfl,rfl⟩,?_⟩
    cases d with
    |unh q h=>exact⟨_,rfl,xT ha6 rfl ⟨rfl,_,rfl,iP (c9 (B:=K2 H6) ⟨_,rfl,k1 rfl H6 (cA.refl _)⟩)⟩⟩
    |bar q q'=>exact⟨_,rfl,xT ha6 rfl ⟨rfl,_,rfl,iP (c9 (B:=K2 H6) ⟨_,rfl,k1 rfl H6 (cA.refl _)⟩)⟩⟩
    |sil q b e=>exact⟨_,rfl,xT ha6 rfl ⟨rfl,_,rfl,iP (c9 (B:=K2 H6) ⟨_,rfl,k1 rfl H6 (cA.refl _)⟩)⟩⟩
    |knew q h=>
     refine⟨_,rfl,xT ha6 rfl ⟨rfl,_,rfl,iN ⟨_,rfl,E4,fun l1 nl1=>?_⟩⟩⟩
     have s7:=cA.upd (o:=.lst [.ref a]) nl1
     refine⟨_,rfl,l1,fo,[.ref a],[SD.knew q h],kvs,F,rfl,cy,Fh ⟨a,rfl,s7 _ _ ha6⟩,s7 _ _ (s6 _ _ hfo),hrd.get,⟨_,rfl,?_⟩⟩
     rw[all_cons,List.all_nil,Bool.and_true]
     exact cW (fun e=>⟨_,rfl,k1 e _ s7⟩) (fun e=>k2 (eq_false_iff.mpr e) _ s7)
  intro ke H6 nke s6 hke
  rw[←zl,dw (fun p=>mE F p.2) (fun p=>p.1) (ys.zip sd)]at hke
  have sy6:=GG (f:=mE F) (sy5.mono (Tk.of s6))
  have kl:(((ys.zip sd).filter fun p=>mE F p.2).map fun p=>p.1).length≤ys.length:=by
   have:=length_filter_le (fun p:V×SD=>mE F p.2) (ys.zip sd)
   rw[length_map]
   omega
  have km:∀v∈((ys.zip sd).filter fun p=>mE F p.2).map fun p=>p.1,v∈ys:=fun v hv=>by
   obtain⟨p,hp,rfl⟩:=mem_map.mp hv
   exact(of_mem_zip (show(p.1,p.2)∈ys.zip sd from (mem_filter.mp hp).1)).1
  generalize ((ys.zip sd).filter fun p=>mE F p.2).map (fun p=>p.1)=yk at hke sy6 kl km
  have eE:=Hf k3 sg qd sd
  have b0:bx F (sd.filter (mE F))=[]:=Af (all_eq_true.mpr fun d hd=>(mem_filter.mp hd).2)
  generalize sd.filter (mE F)=sdk at sy6 eE b0
  have ok6:=ok5.mono s6
  refine⟨_,rfl,xT ok6.hth rfl ⟨_,rfl,xT ok6.hth rfl ⟨_,rfl,oG,fun t3 nt3=>?_⟩⟩⟩
  have s7:=cA.upd (o:=.tup [.ref s,.ref t,.ref ke]) nt3
  have ht3:upd H6 t3 (.tup [.ref s,.ref t,.ref ke]) t3=some (.tup [.ref s,.ref t,.ref ke]):=cy
  generalize upd H6 t3 (.tup [.ref s,.ref t,.ref ke])=H7 at s7 ht3
  have s57:=s6.trans s7
  have ok7:=ok5.mono s57
  have tk57:=Tk.of s57
  have hnl7:=s57 _ _ hnl5
  have pa7:Parts H7 ps ss ts yk:=⟨po,ok7.ls,ok7.gs,by have:=ok7.lt;omega,ok7.gt,by omega,fun v hv=>ok7.gy v (km v hv)⟩
  have pa7:Parts H7 ps ss ts yk:=⟨po,ok7.ls,ok7.gs,by have:=ok7.lt;omega,ok7.gt,by omega,fun v hv=>ok7.gy v (km v hv)⟩
  refine⟨_,rfl,_,rfl,nl,t3,s,t,ke,ps,ss,ts,yk,rfl,hnl7,ht3,s7 _ _ ok6.hs,s7 _ _ ok6.ht,s7 _ _ hke,pa7,fun x p' s' t' y' H8 s8 nx bk=>?_⟩
  have bd:BD C H8 x ps ss ts yk sg qd sdk:=⟨⟨p',s',t',y',bk⟩,(gs5.mono (c8.mono tk57)).mono (c8.mono (Tk.of s8)),(qs5.mono (du.mono tk57)).mono (du.mono (Tk.of s8)),(sy6.mono (Tk.of s7)).mono (Tk.of s8)⟩
  have s58:=s57.trans s8
  have hnl8:=s58 _ _ hnl5
  have hnb8:=s58 _ _ hnb5
  have htl8:=s58 _ _ htl5
  have tu8:=tu5.mono (Tk.of s58)
  have ht38:=s8 _ _ ht3
  have hs8:=s8 _ _ (s7 _ _ ok6.hs)
  have ht8:=s8 _ _ (s7 _ _ ok6.ht)
  have hke8:=s8 _ _ (s7 _ _ hke)
  have gp:∀d∈sg,d.1∈ps:=fun d hd=>(gk d hd).1
  have ls:=ok7.ls
  have lt:=ok7.lt
  have nn:∀d∈eK sg qd sdk,0≤d.2.1:=D9 gk qk
  have oin:=t8 (sd:=sdk) gp qk
  clear pa7 ok7 ok6 ok5 tk57 s57 s7 s8 ht3 hke hnl7 hnl5 gs5 qs5 sy5 sy6 s6 nke nx s58 htl5 hnb5 tu5
  refine⟨_,rfl,x,p',s',t',y',ps,ss,ts,yk,sg,qd,sdk,rfl,bk,phi,ls,by omega,bd.gs,gp,bd.qs,qk,bd.sy,by omega,fun l us2 G H9 s9 nl9 hl rz fe=>?_⟩
  have fe':=fe
  rw[eE]at fe
  obtain rfl:F=G:=funext (ve sso tso hrd.rc fe)
  clear fe sso tso k3
  refine⟨l,us2,(ie ps).map (fun z=>(Sum.inr z,oV (F z))),rfl,cF.of hl,by rw[rz.1,length_map,length_map],fun i v kv hv hkv=>?_,fun fd nfd=>?_⟩
  ·obtain⟨rd,hrd',a,rfl,ha⟩:=rz.at hv
   rw[getElem?_map]at hkv hrd'
   obtain⟨z,hz,rfl⟩:=map_eq_some_iff.mp hkv
   rw[hz]at hrd'
   cases hrd'
   exact⟨a,rfl,ha⟩
  have s10:=s9.trans (cA.upd (o:=.dK (eB [] ((ie ps).map fun z=>(Sum.inr z,oV (F z))))) nfd)
  have hfd:upd H9 fd (.dK (eB [] ((ie ps).map fun z=>(Sum.inr z,oV (F z))))) fd=some (.dK (eB [] ((ie ps).map fun z=>(Sum.inr z,oV (F z))))):=cy
  generalize upd H9 fd (.dK (eB [] ((ie ps).map fun z=>(Sum.inr z,oV (F z)))))=H10 at s10 hfd
  have gf:∀z∈ps,cS (eB [] ((ie ps).map fun z=>(Sum.inr z,oV (F z)))) (Sum.inr z)=some (oV (F z)):=fun z mz=>pf _ _ z (.inl ((iR ps).mem_iff.mpr mz))
  generalize eB [] ((ie ps).map fun z=>(Sum.inr z,oV (F z)))=kvf at hfd gf
  have b10:=bd.mono s10
  have bk10:=bk.mono s10
  have hnl10:=s10 _ _ hnl8
  have hnb10:=s10 _ _ hnb8
  have htl10:=s10 _ _ htl8
  have tu10:=tu8.mono (Tk.of s10)
  have ht310:=s10 _ _ ht38
  have hs10:=s10 _ _ hs8
  have ht10:=s10 _ _ ht8
  have hke10:=s10 _ _ hke8
  clear bd bk hnl8 hnb8 htl8 tu8 ht38 hs8 ht8 hke8 s10 s9 nl9 hl rz nfd
  intro ld nld
  have s11:=cA.upd (o:=.dK []) nld
  have hld11:upd H10 ld (.dK []) ld=some (.dK []):=cy
  generalize upd H10 ld (.dK [])=H11 at s11 hld11
  refine⟨_,rfl,_,rfl,nl,_,rfl,cF.of (s11 _ _ hnl10),fun pc npc=>?_⟩
  have s12:=cA.upd (o:=.lst (fN (ps.map V.str) none (some 8))) npc
  have hpc:upd H11 pc (.lst (fN (ps.map V.str) none (some 8))) pc=some (.lst (fN (ps.map V.str) none (some 8))):=cy
  have hld12:=s12 _ _ hld11
  have pld:pc≠ld:=(cz hld11 npc).symm
  generalize upd H11 pc (.lst (fN (ps.map V.str) none (some 8)))=H12 at s12 hpc hld12
  have s1012:=s11.trans s12
  have cl:=lM (ps.map V.str) none (some 8)
  rw[length_map]at cl
  clear s11 s12 hld11 npc
  refine⟨pc,rfl,⟨_,cF.of hpc⟩,dk (K:=X.K) (a:=pc) (xs:=fN (ps.map V.str) none (some 8)) (fun i σ H=>∃(e11:Option V) (kvl:List (Key×V)) (Lt:Str→Option (Option Int)),σ=[some (.ref sc),some (.int W),some (.ref nl),some (.ref t3),some (.ref nb),some (.ref tl),some (.ref fo),some (.ref ke),some (.ref x),some (.ref fd),some (.ref ld),e11,none,none,none,none,none,none]∧cA H10 H∧H pc=some (.lst (fN (ps.map V.str) none (some 8)))∧H ld=some (.dK kvl)∧Au kvl∧kvl.length≤i∧(∀z,cS kvl (Sum.inr z)=(Lt z).map oV)∧∀z L,Lt z=some L→vn (eK sg qd sdk) sdk z L)
   ⟨none,[],fun _=>none,rfl,s1012,hpc,hld12,⟨[],rfl,nodup_nil⟩,le_refl 0,(fun _=>rfl),(fun _ _ e=>by cases e)⟩ ?_ ?_ ?_⟩
  ·rintro i σ H13 hi ⟨e11,kvl,Lt,rfl,s13,hpc13,_⟩
   exact cF.of hpc13
  ·rintro i v σ H13 hv ⟨e11,kvl,Lt,rfl,s13,hpc13,hld13,sk,kl,get,lo⟩
   have il:=(List.getElem?_eq_some_iff.mp hv).1
   obtain⟨z,mz,rfl⟩:=mem_map.mp (Ck (mem_of_getElem? hv))
   have b13:=b10.mono s13
   refine⟨_,rfl,_,rfl,x,p',s',t',y',z,ps,ss,ts,yk,sg,qd,sdk,F,rfl,bk10.mono s13,phi,ls,by omega,b13.gs,gp,b13.qs,qk,b13.sy,by omega,nn,fe',b0,fun r L sv H14 s14 hr la=>?_⟩
   refine(xT hr rfl ⟨_,rfl,_,rfl,ld,_,rfl,kF.k (k:=Sum.inr z) (s14 _ _ hld13) (by omega),?_⟩)
   refine⟨_,putK kvl (Sum.inr z) (oV L),fun y=>if y=z then some L else Lt y,rfl,fun b o e=>?_,?_,cy,u7 sk,le_trans (d8 _ _ _) (by omega),fun y=>?_,fun y L' e=>?_⟩
   ·rw[cC (cz e nld)]
    exact s14 _ _ (s13 _ _ e)
   ·rw[cC pld]
    exact s14 _ _ hpc13
   ·rw[dY]
    by_cases c:y=z
    ·subst c
     show _=Option.map oV (if y=y then some L else Lt y)
     rw[if_pos rfl,if_pos rfl]
     rfl
    ·show _=Option.map oV (if y=z then some L else Lt y)
     rw[if_neg (fun q=>c (Sum.inr.inj q)),if_neg c]
     exact get y
   ·have e':(if y=z then some L else Lt y)=some L':=e
    by_cases c:y=z
    ·subst c
     rw[if_pos rfl]at e'
     cases e'
     exact la
    ·rw[if_neg c]at e'
     exact lo y L' e'
  rintro σ H13 ⟨e11,kvl,Lt,rfl,s13,_,hld13,skl,_,gl,lo⟩
  clear hld12 hpc pld s1012 cl
  have b13:=b10.mono s13
  refine⟨_,rfl,x,p',s',t',y',ps,ss,ts,yk,sg,qd,sdk,F,rfl,bk10.mono s13,phi,ls,by omega,b13.gs,gp,b13.qs,qk,b13.sy,by omega,fe',b0,fun wl H14 s14 hwl=>?_⟩
  have s1014:=s13.trans s14
  have rl14:Rd H14 ld (.dK kvl):=.inl (s14 _ _ hld13)
  have ul:us.length≤120:=by
   have h1:=tu10.1
   have h2:=length_filter_le (cT qd sd) (fg 0 (fM qd))
   have h3:=iX (fM qd) 0
   have h4:(fM qd).length=qd.length:=length_map ..
   have h5:=b10.qs.1
   omega
  have ikl:((List.range sg.length).filter (gr sg (dB sd))).length≤24:=by
   have h1:=length_filter_le (gr sg (dB sd)) (List.range sg.length)
   rw[length_range]at h1
   have:=b10.gs.1
   omega
  clear s13 s14 hld13 b13
  have ik:∀i∈(List.range sg.length).filter (gr sg (dB sd)),i < sg.length:=fun i hi=>mem_range.mp (mem_filter.mp hi).1
  have kk:∀t∈(fg 0 (fM qd)).filter (cT qd sd),t.1 < qd.length∧t.2.2∈ps:=fun tk hk=>by
   obtain⟨q,hq,_,m2⟩:=lq qk (mem_filter.mp hk).1
   exact⟨(List.getElem?_eq_some_iff.mp hq).1,m2⟩
  have eO:eK sg qd sdk=((List.range sg.length).filter (gr sg (dB sd))).map (tH sg)++((fg 0 (fM qd)).filter (cT qd sd)).map (xG qd):=eE
  have hnb':H10 nb=some (.lst (((List.range sg.length).filter (gr sg (dB sd))).map fun i=>V.int (i:Nat))):=hnb10
  generalize (List.range sg.length).filter (gr sg (dB sd))=ix at ikl ik eO hnb'
  generalize (fg 0 (fM qd)).filter (cT qd sd)=ks at tu10 kk eO
  refine⟨(8:Int),rfl,by omega,by omega,gG (lo:=0) (n:=(8:Int).toNat) (fun i σ H=>∃e13 e14 e15 e16 e17:Option V,σ=[some (.ref sc),some (.int W),some (.ref nl),some (.ref t3),some (.ref nb),some (.ref tl),some (.ref fo),some (.ref ke),some (.ref x),some (.ref fd),some (.ref ld),e11,some (.ref wl),e13,e14,e15,e16,e17]∧cA H10 H∧Rd H ld (.dK kvl)∧H wl=some (.lst (((ie ps).filter (Av (eK sg qd sdk) sdk)).map V.str))) ⟨none,none,none,none,none,rfl,s1014,rl14,hwl⟩ ?_ ?_⟩
  ·rintro i σ H15 hi ⟨e13,e14,e15,e16,e17,rfl,s15,rl15,hwl15⟩
   have hi':i < 8:=hi
   refine⟨_,rfl,_,rfl,_,_,rfl,rfl,W,_,rfl,by omega,by omega,fun m _ _=>?_⟩
   refine⟨_,rfl,_,rfl,tl,m,us,rfl,s15 _ _ htl10,by omega,fun r1 js1 H16 s16 j1 l1 hr1=>?_⟩
   have s1016:=s15.trans s16
   refine⟨_,rfl,_,rfl,_,rfl,_,_,rfl,rfl,nb,_,_,rfl,s1016 _ _ hnb',by rw[length_map];omega,fun r2 js2 H17 s17 j2 l2 hr2=>?_⟩
   rw[length_map]at j2 l2
   rw[BZ j2]at hr2
   have s1017:=s1016.trans s17
   have b17:=b10.mono s1017
   have tu17:=tu10.mono (Tk.of s1017)
   have tk1:=Co tu17 j1
   have j1':∀j∈js1,j < ks.length:=fun j hj=>by rw[←tu10.1];exact j1 j hj
   have hr17:=s17 _ _ hr1
   refine⟨_,rfl,t3,r2,r1,s,t,ke,ps,ss,ts,js1.map (mK us id),sg,qd,Fd ix js2,yG ks js1,rfl,s1017 _ _ ht310,s1017 _ _ hs10,s1017 _ _ ht10,hr2,hr17,b17.gs,gk,b17.qs,(fun d hd=>(qk d hd).1),tk1,(fun t ht=>kk t (pT j1' ht)),(fun i hi=>ik i (qI j2 hi)),po.hi,fun d kvs2 G H18 s18 nd hd hrd2 so2 to2=>?_⟩
   have feP:=zD (fun i hi=>ik i (qI j2 hi)) so2 to2 hrd2.rc
   have sub:∀d∈(Fd ix js2).map (tH sg)++(yG ks js1).map (xG qd),d∈eK sg qd sdk:=fun d hd=>by
    rw[eO]
    rcases mem_append.mp hd with h|h
    ·obtain⟨i,mi,rfl⟩:=mem_map.mp h
     exact mem_append_left _ (mem_map.mpr ⟨i,qI j2 mi,rfl⟩)
    ·obtain⟨t,mt,rfl⟩:=mem_map.mp h
     exact mem_append_right _ (mem_map.mpr ⟨t,pT j1' mt,rfl⟩)
   have s1018:=s1017.trans s18
   have s1518:=(s16.trans s17).trans s18
   have b18:=b10.mono s1018
   have rl18:=mC s1518 rl15
   have hwl18:=s1518 _ _ hwl15
   have hr18:=s18 _ _ hr17
   have tk18:=tk1.mono (Tk.of s18)
   refine⟨_,rfl,_,rfl,ke,d,yk,sdk,kvs2,G,rfl,s1018 _ _ hke10,b18.sy,hd,hrd2.get,_,rfl,cW (fun e=>?_) (fun e=>⟨_,_,_,_,_,rfl,s1018,rl18,hwl18⟩)⟩
   have hb:=Af e
   have dl:d≠ld:=fun q=>by
    subst q
    rcases rl15 with h|⟨o,h⟩<;>(rw[(s16.trans s17) _ _ h]at nd;cases nd)
   have fd1:fd≠d:=cz (s1017 _ _ hfd) nd
   have fd2:fd≠ld:=cz hfd nld
   refine⟨_,rfl,_,rfl,_,rfl,d,fd,ld,kvs2,kvf,kvl,ps,F,G,Lt,rfl,.inl hd,s1018 _ _ hfd,rl18,fd1,fd2,dl,hrd2.sk,skl,hrd2.get,gf,gl,(fun z h e=>?_),(fun z h l e1 e2=>yp nn sub feP hb (lo z _ e2) e1),(fun z l e=>Bf nn sub feP hb (lo z _ e)),fun H19 kp rd1 rd2=>⟨_,rfl,iN ?_⟩⟩
   ·obtain⟨d',md,e1,_⟩:=hJ feP e
    refine⟨?_,gW feP fe' sub e⟩
    rw[←e1]
    exact oin d' (sub d' md)
   have s1019:cA H10 H19:=fun b o e=>kp b o (s1018 _ _ e) (cz (s1017 _ _ e) nd) (cz e nld)
   have tk1819:Tk H18 H19:=fun b xs e=>kp b _ e (fun q=>by subst q;rw[hd]at e;cases e) (fun q=>by
    subst q
    rcases rl18 with h|⟨o,h⟩<;>(rw[h]at e;cases e))
   have hr19:=kp _ _ hr18 (cz hr17 nd) (CZ rl18 hr18)
   have hwl19:=kp _ _ hwl18 (cz ((s16.trans s17) _ _ hwl15) nd) (CZ rl18 hwl18)
   refine⟨_,rfl,_,rfl,_,rfl,t3,s,t,ke,r1,d,ts,js1.map (mK us id),qd,yG ks js1,kvs2,G,rfl,s1019 _ _ ht310,s1019 _ _ ht10,(b10.mono s1019).qs,hr19,tk18.mono tk1819,(fun t ht=>(kk t (pT j1' ht)).1),by rw[length_map];omega,rd1,hrd2.get,fun rt H20 s20 hrt=>?_⟩
   have s1020:=s1019.trans s20
   have hwl20:=s20 _ _ hwl19
   have wlen:(((ie ps).filter (Av (eK sg qd sdk) sdk)).map V.str).length≤sizeLine:=by
    have h1:=length_filter_le (Av (eK sg qd sdk) sdk) (ie ps)
    rw[(iR ps).length_eq]at h1
    rw[length_map]
    omega
   refine⟨_,rfl,wl,rfl,⟨_,cF.of hwl20⟩,dz (xs:=((ie ps).filter (Av (eK sg qd sdk) sdk)).map V.str) (fun _=>false) (fun _=>.non) (cF.of hwl20) wlen ?_ ?_⟩
   ·intro j os v H21 K1 K2 hv hos s21 k1 k2
    match os,hos with
    |[o],_=>
     obtain⟨z,mz,rfl⟩:=mem_map.mp (mem_of_getElem? hv)
     have mt:z∈((yG ks js1).filter (qU qd G)).map fun t=>t.2.1:=by
      obtain⟨d',md,fr,g1,cf⟩:=GY nn sub feP hb (mem_filter.mp mz).2
      rcases mem_append.mp md with h|h
      ·obtain⟨i,mi,rfl⟩:=mem_map.mp h
       unfold tH at fr
       split at fr<;>cases fr
      ·obtain⟨tk,mt,rfl⟩:=mem_map.mp h
       have fr':decide (tk.2.1=z)=true:=fr
       refine mem_map.mpr ⟨tk,mem_filter.mpr ⟨mt,?_⟩,of_decide_eq_true fr'⟩
       have g1':G tk.2.2=some (cY qd tk.1):=g1
       have cf':(match G tk.2.1 with|none=>false|some a=>decide (a < cY qd tk.1))=true:=cf
       unfold qU
       rw[g1']
       show(decide (cY qd tk.1=cY qd tk.1) && _)=true
       rw[decide_eq_true rfl,Bool.true_and]
       exact cf'
     have hin:ye (.str z) (((yG ks js1).filter (qU qd G)).map fun t=>V.str t.2.1)=true:=by
      have e:(((yG ks js1).filter (qU qd G)).map fun t=>V.str t.2.1)=(((yG ks js1).filter (qU qd G)).map fun t=>t.2.1).map V.str:=by
       rw[map_map]
       rfl
      rw[e,vG]
      exact decide_eq_true mt
     refine⟨⟨[some (.str z)],rfl,rfl⟩,⟨_,rfl,_,rfl,rt,_,rfl,.inl (cF.of (s21 _ _ hrt)),rfl,?_,?_⟩⟩
     ·rw[all_map,all_eq_true]
      exact fun _ _=>rfl
     ·rw[if_pos rfl,hin]
      exact⟨_,rfl,cN (k2 rfl H21 (cA.refl _))⟩
   ·intro D1 H21 nD1 s21 hD1
    have e0:((List.range (((ie ps).filter (Av (eK sg qd sdk) sdk)).map V.str).length).filter fun _=>false).map (fun _=>V.non)=[]:=by
     rw[List.filter_eq_nil_iff.mpr (fun _ _ e=>by cases e)]
     rfl
    rw[e0]at hD1
    refine⟨zV,fun D2 nD2=>?_⟩
    have s22:=cA.upd (o:=.lst []) nD2
    have s2022:=s21.trans s22
    refine⟨D1,D2,[],[],rfl,rfl,cF.of (s22 _ _ hD1),cF.of cy,rfl,(fun i u v hu=>by cases hu),_,rfl,cN ⟨_,_,_,_,_,rfl,s1020.trans s2022,mC (s20.trans s2022) rd2,s2022 _ _ hwl20⟩⟩
  ·rintro σ H15 ⟨e13,e14,e15,e16,e17,rfl,s15,rl15,hwl15⟩
   exact q _
end K34
namespace K34
open PySem L2
theorem len0(us:List Value)(h:us.length=0):us=[]:=eq_nil_of_length_eq_zero h
theorem wY{n:Nat}(us:List Value)(h:us.length=n+1):∃a r,us=a::r∧r.length=n:=by
 cases us with
 |nil=>cases h
 |cons a r=>exact⟨a,r,rfl,Nat.succ.inj h⟩
theorem uz(us:List Value)(h:us.length=1):∃a,us=[a]:=by
 obtain⟨a,r,rfl,h'⟩:=wY us h
 exact⟨a,by rw[len0 r h']⟩
theorem Fb(us:List Value)(h:us.length=2):∃a b,us=[a,b]:=by
 obtain⟨a,r,rfl,h'⟩:=wY us h
 obtain⟨b,rfl⟩:=uz r h'
 exact⟨a,b,rfl⟩
theorem Fy(us:List Value)(h:us.length=3):∃a b c,us=[a,b,c]:=by
 obtain⟨a,r,rfl,h'⟩:=wY us h
 obtain⟨b,c,rfl⟩:=Fb r h'
 exact⟨a,b,c,rfl⟩
theorem GJ(us:List Value)(h:us.length=4):∃a b c d,us=[a,b,c,d]:=by
 obtain⟨a,r,rfl,h'⟩:=wY us h
 obtain⟨b,c,d,rfl⟩:=Fy r h'
 exact⟨a,b,c,d,rfl⟩
theorem C9(us:List Value)(h:us.length=5):∃a b c d e,us=[a,b,c,d,e]:=by
 obtain⟨a,r,rfl,h'⟩:=wY us h
 obtain⟨b,c,d,e,rfl⟩:=GJ r h'
 exact⟨a,b,c,d,e,rfl⟩
theorem JZ(us:List Value)(h:us.length=6):∃a b c d e f,us=[a,b,c,d,e,f]:=by
 obtain⟨a,r,rfl,h'⟩:=wY us h
 obtain⟨b,c,d,e,f,rfl⟩:=C9 r h'
 exact⟨a,b,c,d,e,f,rfl⟩
theorem FF.d{K:PySem.W.Frag}{h:Heap}{mg:Str→Option Value}{x:Str}{st:Stmt}(F:FF K x st)(X:K.In h)(G:h.Ns mainGlobals mg)(ps:List Str)(hb:∀(kV doc pm:Value)(an:Option Addr)(cdv ct:Value)(us:List Value),us.length=ps.length→bindArgs (fnOf x x (dW st) (cU st) (cB st) .none kV doc pm an cdv ct) ⟨us,[]⟩=pure (ps.zip us):=by intro _ _ _ _ _ _ us hl;first| (obtain⟨_,rfl⟩:=uz us hl;rfl)| (obtain⟨_,_,rfl⟩:=Fb us hl;rfl)| (obtain⟨_,_,_,rfl⟩:=Fy us hl;rfl)| (obtain⟨_,_,_,_,rfl⟩:=GJ us hl;rfl)| (obtain⟨_,_,_,_,_,rfl⟩:=C9 us hl;rfl)):∃f fd,Df K mg x st ps f fd:=by
 obtain⟨a,l,c,k⟩:=F
 have F1:=iU (st:=st) l c k
 exact⟨_,_,F1,mg_of X G a,F1.binds hb⟩
theorem jL:∀{zs:List Str}{us:List Value},strsOf us=zs.map some→Vals (zs.map V.str) us
 |[],[],_=>.nil
 |[],_::_,h=>by cases h
 |_::_,[],h=>by cases h
 |z::zs,u::us,h=>by
  have h1:oneOf u::strsOf us=some z::zs.map some:=h
  injection h1 with e1 e2
  refine .cons ?_ (jL e2)
  cases u with
  |str x t=>
   cases e1
   exact⟨t,rfl⟩
  |_=>cases e1
theorem all_mk {l:PySem.W.OpenLaw}{w:World}{K:PySem.W.Frag}{h:Heap}{mg:Str→Option Value}{fa:Addr}(X:K.In h) (G:h.Ns mainGlobals mg) (hfa:mg "law" =some (.ref fa)) (FX:Facts K):
  ∃fd:FuncData,(∀(s:Shared) (v:Value),BindsTo s fd ⟨[v],[]⟩ [("_law_script",v)])∧∀base:Heap,K.In base→base.Ns mainGlobals mg→eD l.prog w K mg base l9 12 fa fd ["_law_script"] (vm K):=by
 obtain @⟨kw,C,f62,f63,f64,f65,f66,f67,odw,od62,an62,od63,an63,od64,an64,od65,an65,od66,an66,od67,an67,slw,sl62,sl63,sl64,sl65,sl66,sl67,oc62,kV62,dc62,pm62,cd62,ct62,oc63,kV63,dc63,pm63,cd63,ct63,oc64,kV64,dc64,pm64,cd64,ct64,oc65,kV65,dc65,pm65,cd65,ct65,oc66,kV66,dc66,pm66,cd66,ct66,oc67,kV67,dc67,pm67,cd67,ct67,its,nW,tk1,tk2,tk3,tk4,tk5,aW,lW,vW,h1,h2,h3,h4,h5,h6,h7,h8,h9,h10,h11,h12,h13,h14,h15,h16,h17,h18,h19,h20,h21,h22,h23,h24,h25,h26,h27,h28,h29,h30,h31,h32,h33,h34,h35,h36,h37,h38,h39,h40,h41,h42,h43,h44,h45,h46,h47,h48,h49,h50,h51,h52,h53,h54,h55,h56,h57,h58,h59,h60,h61,aC,pg,hd,po,sa,mk,kc,nP,nS,nT,nY,a62,i62,l62,c62,k62,a63,i63,l63,c63,k63,a64,i64,l64,c64,k64,a65,i65,l65,c65,k65,a66,i66,l66,c66,k66,a67,i67,l67,c67,k67,z1,z2,z3,z4,z5,z6,z7,z8,z9,z10,z11,z12,z13,z14,z15,z16,z17,z18,z19,g1,g2,g3,g4,g5⟩:=FX
 have vW:=jL (zs:=kept) vW
 obtain @⟨f61,oc61,kV61,dc61,pm61,cd61,ct61,od61,an61,sl61,a61,l61,c61,k61⟩:=h61
 have e:=hfa.symm.trans (mg_of X G a61)
 cases e
 have hsz:its.size≤sizeLine:=by
  have e:=vW.length
  have e2:(kept.map V.str).length=12:=by decide+kernel
  rw[e2,length_toList]at e
  have:sizeLine=16777216:=sizeLine_eq
  omega
 have T:Txt K mg kw C:=⟨mg_none_of X G z1,mg_none_of X G z2,mg_none_of X G z3,mg_none_of X G z4,mg_none_of X G z5,mg_none_of X G z6,mg_none_of X G z7,mg_none_of X G z8,mg_none_of X G z9,mg_none_of X G z10,mg_none_of X G z11,mg_none_of X G z12,mg_none_of X G z13,mg_none_of X G z14,mg_none_of X G z15,mg_none_of X G z16,mg_none_of X G z17,mg_none_of X G z18,mg_none_of X G z19,mg_of X G aW,⟨_,its,nW,lW,rfl,rfl,hsz,vW⟩,⟨_,mg_of X G g1,⟨_,rfl⟩⟩,⟨_,mg_of X G g2,⟨_,rfl⟩⟩,⟨_,mg_of X G g3,⟨_,rfl⟩⟩,⟨_,mg_of X G g4,⟨_,rfl⟩⟩,⟨_,mg_of X G g5,⟨_,rfl⟩⟩,⟨pg,hd,po,sa⟩,nP,nS,nT,nY⟩
 have F61:=iU (st:=nJ) l61 c61 k61
 have F62:=iU (st:=gK) l62 c62 k62
 have F63:=iU (st:=d7) l63 c63 k63
 have F64:=iU (st:=eJ) l64 c64 k64
 have F65:=iU (st:=fq) l65 c65 k65
 have F66:=iU (st:=d9) l66 c66 k66
 have F67:=iU (st:=dX) l67 c67 k67
 obtain⟨_,_,D_is_whole⟩:=h1.d X G ["thing"]
 obtain⟨_,_,D_is_hour⟩:=h2.d X G ["thing"]
 obtain⟨_,_,D_is_name⟩:=h3.d X G ["thing"]
 obtain⟨_,_,D_is_list_up_to⟩:=h4.d X G ["thing", "most"]
 obtain⟨_,_,D_is_tuple_of⟩:=h5.d X G ["thing", "length"]
 obtain⟨_,_,D_is_person⟩:=h6.d X G ["persons", "thing"]
 obtain⟨_,_,D_are_unlike_persons⟩:=h7.d X G ["persons", "one", "other"]
 obtain⟨_,_,D_is_tale⟩:=h8.d X G ["thing"]
 obtain⟨_,_,D_is_sight⟩:=h9.d X G ["persons", "thing"]
 obtain⟨_,_,D_is_way⟩:=h10.d X G ["thing"]
 obtain⟨_,_,D_is_talk⟩:=h11.d X G ["persons", "thing"]
 obtain⟨_,_,D_is_span⟩:=h12.d X G ["begin", "end"]
 obtain⟨_,_,D_is_short_saying⟩:=h13.d X G ["persons", "kind", "person", "behind"]
 obtain⟨_,_,D_is_saying⟩:=h14.d X G ["persons", "thing"]
 obtain⟨_,_,D_are_persons⟩:=h15.d X G ["thing"]
 obtain⟨_,_,D_are_sights⟩:=h16.d X G ["persons", "thing"]
 obtain⟨_,_,D_are_talks⟩:=h17.d X G ["persons", "thing"]
 obtain⟨_,_,D_are_sayings⟩:=h18.d X G ["persons", "thing"]
 obtain⟨_,_,D_floor_of⟩:=h19.d X G ["book", "person"]
 obtain⟨_,_,D_floors_of_all⟩:=h20.d X G ["book"]
 obtain⟨_,_,D_is_above⟩:=h21.d X G ["hour", "floor"]
 obtain⟨_,_,D_is_silent⟩:=h22.d X G ["sayings", "person", "hour"]
 obtain⟨_,_,D_is_barred⟩:=h23.d X G ["sayings", "hearer", "teller"]
 obtain⟨_,_,D_open_sights⟩:=h24.d X G ["book"]
 obtain⟨_,_,D_open_tellings⟩:=h25.d X G ["book"]
 obtain⟨_,_,D_open_entries⟩:=h26.d X G ["book"]
 obtain⟨_,_,D_hour_of⟩:=h27.d X G ["entry"]
 obtain⟨_,_,D_can_follow⟩:=h28.d X G ["known", "entry"]
 obtain⟨_,_,D_first_entries⟩:=h29.d X G ["entries"]
 obtain⟨_,_,D_first_story⟩:=h30.d X G ["entries"]
 obtain⟨_,_,D_earliest⟩:=h31.d X G ["book"]
 obtain⟨_,_,D_hours_in⟩:=h32.d X G ["story"]
 obtain⟨_,_,D_fits_knew⟩:=h33.d X G ["hours", "person", "hour"]
 obtain⟨_,_,D_fits_unheard⟩:=h34.d X G ["hours", "person", "hour"]
 obtain⟨_,_,D_fits_silent⟩:=h35.d X G ["story", "person", "begin", "end"]
 obtain⟨_,_,D_fits_barred⟩:=h36.d X G ["story", "person", "other"]
 obtain⟨_,_,D_fits⟩:=h37.d X G ["story", "saying"]
 obtain⟨_,_,D_unfitted⟩:=h38.d X G ["book", "story"]
 obtain⟨_,_,D_fitting_story⟩:=h39.d X G ["book", "entries"]
 obtain⟨_,_,D_latest⟩:=h40.d X G ["book", "person"]
 obtain⟨_,_,D_is_heard_from⟩:=h41.d X G ["way", "person"]
 obtain⟨_,_,D_story_without⟩:=h42.d X G ["book", "person"]
 obtain⟨_,_,D_needed⟩:=h43.d X G ["book"]
 obtain⟨_,_,D_l_mix⟩:=h44.d X G ["_law_cell", "_law_k"]
 obtain⟨_,_,D_l_names⟩:=h45.d X G ["_law_cell", "_law_many"]
 obtain⟨_,_,D_l_clock⟩:=h46.d X G ["_law_cell"]
 obtain⟨_,_,D_l_saying⟩:=h47.d X G ["_law_number", "_law_one", "_law_other", "_law_clock_here", "_law_at"]
 obtain⟨_,_,D_l_spot⟩:=h48.d X G ["_law_number", "_law_k", "_law_many"]
 obtain⟨_,_,D_l_things⟩:=h49.d X G ["_law_cells", "_law_names_here", "_law_clock_here"]
 obtain⟨_,_,D_l_free⟩:=h50.d X G ["_law_sayings", "_law_person", "_law_when"]
 obtain⟨_,_,D_l_tellings⟩:=h51.d X G ["_law_talks"]
 obtain⟨_,_,D_l_is_open⟩:=h52.d X G ["_law_talks", "_law_sayings", "_law_telling"]
 obtain⟨_,_,D_l_open⟩:=h53.d X G ["_law_things_here"]
 obtain⟨_,_,D_l_hours⟩:=h54.d X G ["_law_things_here", "_law_numbers", "_law_tellings_here"]
 obtain⟨_,_,D_l_knew_so⟩:=h55.d X G ["_law_sayings", "_law_found"]
 obtain⟨_,_,D_l_drawn⟩:=h56.d X G ["_law_script", "_law_most"]
 obtain⟨_,_,D_l_book⟩:=h57.d X G ["_law_names_here", "_law_things_here"]
 obtain⟨_,_,D_l_some⟩:=h58.d X G ["_law_rows", "_law_number"]
 obtain⟨_,_,D_l_tellers⟩:=h59.d X G ["_law_things_here", "_law_tellings_here", "_law_found"]
 obtain⟨_,_,D_l_between⟩:=h60.d X G ["_law_found", "_law_first", "_law_late"]
 have b_m_init:=F62.binds (ps:=["self", "persons", "sights", "talks", "sayings"]) fun _ _ _ _ _ _ us hl=>by
  obtain⟨_,_,_,_,_,rfl⟩:=C9 us hl
  rfl
 have F_m_init:=F62
 have mk_m_init:Mk K C f62:=⟨mk,a62,i62,kc⟩
 have b_m_persons:=F63.binds (ps:=["self"]) fun _ _ _ _ _ _ us hl=>by
  obtain⟨_,rfl⟩:=uz us hl
  rfl
 have F_m_persons:=F63
 have me_m_persons:Meth K C "persons" f63:=⟨a63,i63,k63⟩
 have b_m_sights:=F64.binds (ps:=["self"]) fun _ _ _ _ _ _ us hl=>by
  obtain⟨_,rfl⟩:=uz us hl
  rfl
 have F_m_sights:=F64
 have me_m_sights:Meth K C "sights" f64:=⟨a64,i64,k64⟩
 have b_m_talks:=F65.binds (ps:=["self"]) fun _ _ _ _ _ _ us hl=>by
  obtain⟨_,rfl⟩:=uz us hl
  rfl
 have F_m_talks:=F65
 have me_m_talks:Meth K C "talks" f65:=⟨a65,i65,k65⟩
 have b_m_sayings:=F66.binds (ps:=["self"]) fun _ _ _ _ _ _ us hl=>by
  obtain⟨_,rfl⟩:=uz us hl
  rfl
 have F_m_sayings:=F66
 have me_m_sayings:Meth K C "sayings" f66:=⟨a66,i66,k66⟩
 have b_m_tellings:=F67.binds (ps:=["self"]) fun _ _ _ _ _ _ us hl=>by
  obtain⟨_,rfl⟩:=uz us hl
  rfl
 have F_m_tellings:=F67
 have me_m_tellings:Meth K C "tellings" f67:=⟨a67,i67,k67⟩
 have nmB:=mg_of X G aC
 refine⟨fnOf "law" "law" (dW nJ) (cU nJ) (cB nJ) .none kV61 dc61 pm61 an61 cd61 ct61,fun s v=>.of_eq rfl,fun base _ _=>?_⟩
 have G1:Gd l.prog w K mg base 2 "is_hour" (kN K):=⟨_,_,_,Bc D_is_hour.fn D_is_whole T,D_is_hour.nm,D_is_hour.fn.kp,D_is_hour.bi⟩
 have G2:Gd l.prog w K mg base 1 "is_name" (nK K):=⟨_,_,_,BN D_is_name.fn T,D_is_name.nm,D_is_name.fn.kp,D_is_name.bi⟩
 have G3:Gd l.prog w K mg base 1 "is_list_up_to" gL:=uT D_is_list_up_to T
 have G4:Gd l.prog w K mg base 1 "is_tuple_of" mX:=wo D_is_tuple_of T
 have G5:Gd l.prog w K mg base 2 "is_person" gN:=xK D_is_person G2
 have G6:Gd l.prog w K mg base 3 "are_unlike_persons" jO:=xn D_are_unlike_persons G5
 have G7:Gd l.prog w K mg base 2 "is_tale" uH:=AB D_is_tale T G2
 have G8:Gd l.prog w K mg base 3 "is_sight" p5:=yu D_is_sight G4 G5 G1 G7
 have G9:Gd l.prog w K mg base 1 "is_way" yi:=D8 D_is_way T
 have G10:Gd l.prog w K mg base 4 "is_talk" uf:=BM D_is_talk G4 G6 G1 G9
 have G11:Gd l.prog w K mg base 3 "is_span" uq:=AR D_is_span G1
 have G12:Gd l.prog w K mg base 4 "is_short_saying" qq:=y3 D_is_short_saying G6 G5 G1
 have G13:Gd l.prog w K mg base 5 "is_saying" oq:=xq D_is_saying T G5 G11 G12
 have G14:Gd l.prog w K mg base 2 "are_persons" kW:=uK D_are_persons T G3 G2
 have G15:Gd l.prog w K mg base 4 "are_sights" (gT dS 24):=oN D_are_sights T G3 G8
 have G16:Gd l.prog w K mg base 5 "are_talks" (gT eN 120):=qM D_are_talks T G3 G10
 have G17:Gd l.prog w K mg base 6 "are_sayings" (gT fH 60):=nB D_are_sayings T G3 G13
 have GB:Kd l.prog w K mg base 7 "Book" C (uQ C):=Bs F_m_init mk_m_init b_m_init nmB T G14 G15 G16 G17
 have M1:Md l.prog w K mg base 1 C "persons" (cZ C fun p _ _ _=>p):=pW F_m_persons me_m_persons b_m_persons T
 have M2:Md l.prog w K mg base 1 C "sights" (cZ C fun _ s _ _=>s):=sP F_m_sights me_m_sights b_m_sights T
 have M3:Md l.prog w K mg base 1 C "talks" (cZ C fun _ _ t _=>t):=vf F_m_talks me_m_talks b_m_talks T
 have M4:Md l.prog w K mg base 1 C "sayings" (cZ C fun _ _ _ y=>y):=qu F_m_sayings me_m_sayings b_m_sayings T
 have M5:Md l.prog w K mg base 1 C "tellings" (jv C):=sG F_m_tellings me_m_tellings b_m_tellings T
 have G26:Gd l.prog w K mg base 2 "floor_of" (qQ C):=rS D_floor_of T M4
 have G27:Gd l.prog w K mg base 3 "floors_of_all" (jS C):=xu D_floors_of_all T M1 G26
 have G28:Gd l.prog w K mg base 1 "is_above" mT:=q9 D_is_above
 have G33:Gd l.prog w K mg base 1 "is_silent" vR:=qw D_is_silent T
 have G34:Gd l.prog w K mg base 1 "is_barred" vC:=qL D_is_barred
 have G29:Gd l.prog w K mg base 4 "open_tellings" (qH C):=lF D_open_tellings T M3 M4 M5 G27 G28 G33 G34
 have G30:Gd l.prog w K mg base 4 "open_sights" (pZ C):=oe D_open_sights T M2 G27 G28
 have P1:Gd l.prog w K mg base 1 "hour_of" xQ:=Gb D_hour_of
 have P2:Gd l.prog w K mg base 2 "can_follow" Et:=G0 D_can_follow P1
 have P3:Gd l.prog w K mg base 4 "first_entries" Br:=F5 D_first_entries T P1 P2
 have P4:Gd l.prog w K mg base 5 "open_entries" (yC C):=Gs D_open_entries T M2 M3 G30 G29
 have P5:Gd l.prog w K mg base 5 "first_story" Dh:=GK D_first_story T P3
 have P7:Gd l.prog w K mg base 6 "earliest" (yA C):=Dz D_earliest T M1 P4 P3 P1
 have P8:Gd l.prog w K mg base 1 "hours_in" Cd:=Fw D_hours_in
 have P9:Gd l.prog w K mg base 1 "fits_knew" Ej:=E8 D_fits_knew
 have P10:Gd l.prog w K mg base 1 "fits_unheard" DN:=Fn D_fits_unheard
 have P11:Gd l.prog w K mg base 1 "fits_silent" EG:=Fu D_fits_silent T
 have P12:Gd l.prog w K mg base 1 "fits_barred" DY:=FL D_fits_barred T
 have P13:Gd l.prog w K mg base 2 "fits" Ex:=Ff D_fits P8 P9 P10 P11 P12
 have P14:Gd l.prog w K mg base 3 "unfitted" (EB C):=GR D_unfitted T M4 P13
 have A1:Gd l.prog w K mg base 1 "_law_mix" rm:=D7 D_l_mix
 have A2:Gd l.prog w K mg base 1 "_law_names" nM:=xI D_l_names T
 have A3:Gd l.prog w K mg base 1 "_law_clock" qC:=yJ D_l_clock T
 have A4:Gd l.prog w K mg base 1 "_law_saying" uZ:=AQ D_l_saying T
 have A5:Gd l.prog w K mg base 1 "_law_spot" uj:=Cm D_l_spot T
 have A6:Gd l.prog w K mg base 2 "_law_things" nO:=xm D_l_things T A1 A5 A4
 have A7:Gd l.prog w K mg base 1 "_law_free" pS:=Bn D_l_free
 have A8:Gd l.prog w K mg base 1 "_law_tellings" tQ:=Cb D_l_tellings T
 have A9:Gd l.prog w K mg base 2 "_law_is_open" nU:=uU D_l_is_open T A7
 have A10:Gd l.prog w K mg base 3 "_law_open" mN:=BO D_l_open T A7 A8 A9
 have A11:Gd l.prog w K mg base 1 "_law_hours" vD:=ze D_l_hours T
 have A12:Gd l.prog w K mg base 1 "_law_knew_so" j9:=tK D_l_knew_so
 have A13:Gd l.prog w K mg base 4 "_law_drawn" (zI K):=zq D_l_drawn T A1 A2 A3 A6 A10 A11 A12
 have A14:Gd l.prog w K mg base 9 "_law_book" (yw C):=BA D_l_book T GB
 have P16:Gd l.prog w K mg base 6 "fitting_story" (v5 C):=EL D_fitting_story P5 P14
 have P17:Gd l.prog w K mg base 7 "latest" (zW C):=EO D_latest T P4 P1 P16 P8
 have P18:Gd l.prog w K mg base 1 "is_heard_from" Ds:=E6 D_is_heard_from
 have P19:Gd l.prog w K mg base 7 "story_without" (Eo C):=GA D_story_without P4 P16 P18
 have P20:Gd l.prog w K mg base 8 "needed" (DL C):=Gw D_needed T M1 P19
 have A1F:Gd l.prog w K mg base 1 "_law_mix" ue:=Cg D_l_mix
 have A15:Gd l.prog w K mg base 2 "_law_some" yL:=Dt D_l_some T A1F
 have A16:Gd l.prog w K mg base 1 "_law_tellers" yK:=DO D_l_tellers
 have A17:Gd l.prog w K mg base 1 "_law_between" zT:=Dp D_l_between
 exact De F61 T A1 A13 A10 A11 A12 A14 P7 P20 P17 A15 A16 A17
theorem walk{l:PySem.W.OpenLaw}{q:Program}{loose:List Str}{XP:(Str→Option Value)→Heap→Prop}{YP:World→Heap→Prop}{d:DefRec}{K:Params→PySem.W.Frag}(hn:l.most=some 63)(hdf:d.params.defaults=[])
  (hY:∀(w:World)(h:Heap),YP w h→(K w.params).In h)
  (F:∀(w:World)(mg:Str→Option Value)(fa:Addr)(h:Heap),(K w.params).In h→h.Ns mainGlobals mg→mg d.name=some (.ref fa)→
   ∃fd:FuncData,(∀(s:Shared) (u:Value),BindsTo s fd ⟨[u],[]⟩ [("_law_script",u)])∧∀base:Heap,(K w.params).In base→base.Ns mainGlobals mg→eD l.prog w (K w.params) mg base l9 12 fa fd ["_law_script"] (vm (K w.params))):
  PySem.W.WalkO q loose XP YP l.row.toRowW d [] (fun f vs=>PySem.call f vs):=
 L2.Az (n:=63) (k:=12) (x:= "_law_script") (CX:=fun _=>l9) (sp:=fun w=>vm (K w.params)) hn (by decide) hdf ⟨rfl,by decide,by decide⟩ hY F (fun _ _ a ns hl _ hS=>⟨a,ns,rfl,hS,hl,fun _=>rfl⟩) fun _ _ _ _ _ z=>z
end K34
open PySem PySem.W PyProof.Rows
theorem PySem.Challenge.cw_knewby_k34_whole_stories_between_holds : PySem.Challenge.rw_knewby_k34_whole_stories_between.Holds :=
 K34.closing fun hdn hdf hY hF=>K34.walk (l:=PySem.Challenge.rw_knewby_k34_whole_stories_between) rfl hdf hY fun w mg fa h KX G hmg=>K34.all_mk KX G (by rw[←hdn];exact hmg) (hF w mg fa h KX G hmg)
