import PyProof.Rows.All
import Wide.All
import OpenK.KLine
import OpenK.KWalk
import KE.KNestM
import KE.KDictList
import KE.KDictSum
import KE.KIsAll
import Wide.FinOn
import Lean
import PyProof.EqAt
import PyProof.EqKinds
import PyProof.TupleCall
import PyProof.NeKinds
import PyProof.ListRange
import PyProof.Rows.SortStr
import KE.KRevIter
import KE.KDictOf
import PyProof.AttrMissSeq
import PyProof.Rows.SortRunsK
import PyProof.Rows.SortShellK
import PyProof.Rows.CallKwBuiltin
import KE.KSortTup
import PyProof.EqKinds
import KE.KxText
import PyProof.DictWalks
import OpenK.KOwn
import PyProof.RulesAs
import PyProof.RulesDel
import KE.KSortedL
import KE.KSortedM
import KE.KSorted
import PySem.Challenge.RW_knewby_k32_needed_tellers
set_option Elab.async false
set_option linter.all false
set_option maxRecDepth 100000
set_option maxHeartbeats 4000000
open Array (getElem?_toList length_toList toList_append toList_extract toList_push toList_reverse)
open Bool (and_eq_true eq_false_iff false_eq_true not_eq_true')
open List (all_cons all_eq_true all_map any_cons any_eq_false any_eq_true any_map append_assoc append_nil drop_zero eq_nil_of_length_eq_zero eq_of_mem_replicate filter_append filter_cons filter_eq_self filter_map find?_cons flatten_append flatten_cons flatten_nil foldl_cons forIn_cons forIn_nil getD_eq_getElem?_getD getElem?_append_left getElem?_append_right getElem?_drop getElem?_eq_getElem getElem?_map getElem?_of_mem getElem?_set_self getElem?_take_of_lt getElem_mem getElem_toArray length_append length_cons length_drop length_filter_le length_map length_range length_replicate length_reverse length_set length_take length_zip lookup_cons map_append map_congr_left map_cons map_map map_nil mem_append mem_append_left mem_append_right mem_cons mem_cons_of_mem mem_cons_self mem_filter mem_filterMap mem_map mem_of_getElem? mem_of_mem_take mem_range mem_reverse mem_singleton mem_singleton_self nil_append nodup_cons nodup_nil not_lt not_mem_nil of_mem_zip range_succ replicate_succ reverse_append reverse_reverse size_toArray take_add_one take_append_drop take_length take_of_length_le take_zero)
open Nat (le_of_eq le_of_lt le_refl le_succ le_trans lt_irrefl lt_min lt_of_lt_of_le lt_succ_of_lt lt_succ_self min_self ne_of_gt ne_of_lt succ_pos zero_add zero_le)
open Option (isSome_iff_exists isSome_map map_eq_some_iff map_some)
open PySem.F (called_set excBase_ValueError plainAttrs_list slot_dict_get)
open PySem.Heap (get?_push_ne get?_push_of_some get?_push_size get?_update_ne lt_size size_push size_update)
open PySem.W (Looks callWith_K codeIn emptyDict findIn fnOf handedIn hasDictIn hideAll hideAll_get instObj isFn isNs_of_in keepIn kia_one kitOne kitx_dict kitx_list lookIn makesIn methodObj mg_none_of mg_of nsIn nsMap_none_of_in nsOkIn of_hideAll plainGet plainGet_of plainOver specialIn tailIn tail_of_in takerIn)
namespace L2
open PySem PySem.Spec PyProof.Rows
def inClass(s:Stmt)(j:Nat):Stmt:=match s with
 |.ClassDef _ _ _ body _ _ _ _ _ _ _=>body.getD j (.Pass ⟨0,0,0,0⟩)
 |_=>.Pass ⟨0,0,0,0⟩
def dW(s:Stmt):Arguments:=match s with
 |.FunctionDef _ a _ _ _ _ _ _ _ _=>a
 |_=>{ posonlyargs:=[],args:=[],vararg:=none,kwonlyargs:=[],kw_defaults:=[],kwarg:=none,defaults:=[] }
def cS(s:Stmt):List Stmt:=match s with
 |.FunctionDef _ _ b _ _ _ _ _ _ _=>b
 |_=>[]
def cB(s:Stmt):Scope:=match s with
 |.FunctionDef _ _ _ _ _ _ sc _ _ _=>sc
 |_=>{ kind:=.function,names:=[],isGenerator:=false,isCoroutine:=false }
end L2
namespace TR
open PySem PySem.W
def Cu(stp:SharedT->Thread->Option (SharedT×Thread))(ok:Thread->Bool):Nat->SharedT->Thread->Option SharedT
 |0,_,_=>none
 |n+1,s,t=>match through t with
  |true=>some s
  |false=>match ok t with
   |false=>none
   |true=>match stp s t with
    |some (s',t')=>Cu stp ok n s' t'
    |none=>none
theorem xA{tb:String->Option Builtin}{p:Program}{w:World}{n₀:Nat}{ann:Option Value}:∀{n:Nat}{s s':SharedT}{t:Thread},Cu (stepT (denote tb) p w) (stepOk n₀ ann) n s t=some s'->topRun tb p w n₀ ann n s.abs t=some s'.abs
 |0,_,_,_,h=>by cases h
 |n+1,s,s',t,h=>by
  unfold Cu at h;unfold topRun;cases he:through t with
  |true=>rw[he]at h;cases h;rfl
  |false=>
   rw[he]at h;cases hk:stepOk n₀ ann t with
   |false=>rw[hk]at h;cases h
   |true=>
    rw[hk]at h;cases hs:stepT (denote tb) p w s t with
    |none=>rw[hs]at h;cases h
    |some r=>
     obtain⟨s₂,t₂⟩:=r;rw[hs]at h;rw[stepT_spec hs];exact xA h
def grow:List Obj->BT->Nat->Option BT
 |[],t,_=>some t
 |o::r,t,n=>match ((t.ins n o).get n).isSome with
  |true=>grow r (t.ins n o) (n+1)
  |false=>none
theorem tE{life:Life}:∀{l:List Obj}{t t':BT}{n:Nat},grow l t n=some t'->absHeap t' (n+l.length) life=l.foldl (λh o=>h.push o) (absHeap t n life)
 |[],_,_,_,h=>by cases h;rfl
 |o::r,t,t',n,h=>by
  unfold grow at h;cases g:((t.ins n o).get n).isSome with
  |false=>rw[g]at h;cases h
  |true=>
   rw[g]at h;have ih:=tE (life:=life) h;rw[absHeap_ins g]at ih;rw[length_cons,foldl_cons,<-ih]
   congr 1
   omega
theorem sW(life:Life):∀(l m:List Obj),l.foldl (λ(h:Heap) o=>h.push o) ⟨m.toArray,life⟩=⟨(m++l).toArray,life⟩
 |[],m=>by rw[append_nil];rfl
 |o::r,m=>by
  have:(⟨m.toArray,life⟩:Heap).push o=⟨(m++[o]).toArray,life⟩:=by
   show(⟨m.toArray.push o,life⟩:Heap)=_;rw[List.push_toArray]
  rw[foldl_cons,this,sW life r,append_assoc];rfl
def LC(s:Shared)(t:BT):SharedT:=⟨t,s.heap.objs.size,s.heap.life,s.gens,s.drawn,s.toks,s.os⟩
theorem C7{s:Shared}{t:BT}(h:grow s.heap.objs.toList .nil 0=some t):(LC s t).abs=s:=by
 have:=tE (life:=s.heap.life) h;rw[zero_add,show absHeap .nil 0 s.heap.life=⟨([]:List Obj).toArray,s.heap.life⟩ from rfl,sW,nil_append,length_toList]at this;obtain⟨⟨objs,life⟩,gens,drawn,toks,os⟩:=s;show(⟨absHeap t objs.size life,gens,drawn,toks,os⟩:Shared)=_;rw[this]
def pG{α:Type}(p:Program)(w:World)(N:Nat)(look:Shared->Shared->α):Option α:=(fencedOpening treeTable p w N).bind λs₀=>(grow s₀.heap.objs.toList .nil 0).bind λt=>match s₀.heap.isNs mainGlobals && s₀.gens.size == 0 with
 |true=>(Cu (stepT (denote treeTable) p w) (stepOk s₀.heap.objs.size (s₀.heap.nsMap mainGlobals "__annotations__")) N (LC s₀ t) (topStub p)).bind λs₁=>some (look s₀ s₁.abs)
 |false=>none
theorem rZ{α:Type}{p:Program}{w:World}{N:Nat}{look:Shared->Shared->α}{a:α}(h:pG p w N look=some a):∃s₀ s₁,fencedOpening treeTable p w N=some s₀/\(s₀.heap.isNs mainGlobals && s₀.gens.size == 0)=true/\topRun treeTable p w s₀.heap.objs.size (s₀.heap.nsMap mainGlobals "__annotations__") N s₀ (topStub p)=some s₁/\look s₀ s₁=a:=by
 unfold pG at h;obtain⟨s₀,e0,h⟩:=Option.bind_eq_some_iff.mp h;obtain⟨t,eg,h⟩:=Option.bind_eq_some_iff.mp h;refine⟨s₀,?_⟩;cases c:(s₀.heap.isNs mainGlobals && s₀.gens.size == 0) with
 |false=>rw[c]at h;cases h
 |true=>
  rw[c]at h;obtain⟨s₁,er,h⟩:=Option.bind_eq_some_iff.mp h;have r:=xA er;rw[C7 eg]at r;exact⟨s₁.abs,e0,rfl,r,Option.some.inj h⟩
theorem Ie{p q:Program}{loose:List Str}{Xt:Shared->Bool}{α:Type}{Yf:Shared->α}{Ya:World->α}{N:Nat}
  (hA:∀w,pG p w N (λs₀ s₁=>staticsOk (importedModules p.main.body) s₀.heap s₁.heap && namesBound p s₁.heap && gensDone s₁ && laidKept s₀.heap s₁.heap)=some true)
  (hB:∀w,pG p w N (λ_ s₁=>openSeen q loose (importedModules p.main.body) Xt true s₁)=some (openGood q loose))
  (hC:∀w,pG p w N (λ_ s₁=>Yf s₁)=some (Ya w)):LeftO p q loose Xt Yf Ya N:=λw=>by
 obtain⟨s₀,s₁,e0,c,r,hA⟩:=rZ (hA w);obtain⟨s₀',s₁',e0',_,r',hB⟩:=rZ (hB w);rw[e0]at e0';cases e0';rw[r]at r';cases r';obtain⟨s₀',s₁',e0',_,r',hC⟩:=rZ (hC w);rw[e0]at e0';cases e0';rw[r]at r';cases r';unfold openEnds;rw[e0];show(topFrom treeTable p w N s₀).map _=_;unfold topFrom;rw[c];dsimp only;rw[r];simp only[Option.bind_some];rw[hA];show some (openSeen q loose (importedModules p.main.body) Xt true s₁,Yf s₁)=_;rw[hB,hC]
end TR
section
namespace K32
open PySem L2
def top(i:Nat):Stmt:=PySem.Challenge.pw_knewby_k32_needed_tellers.main.body.getD i (.Pass ⟨0,0,0,0⟩)
abbrev kg:Stmt:=top 2
abbrev fF:Stmt:=top 3
abbrev jX:Stmt:=top 4
abbrev jg:Stmt:=top 5
abbrev je:Stmt:=top 6
abbrev gN:Stmt:=top 7
abbrev fH:Stmt:=top 8
abbrev jS:Stmt:=top 10
abbrev ja:Stmt:=top 11
abbrev gq:Stmt:=top 12
abbrev gM:Stmt:=top 13
abbrev gO:Stmt:=top 14
abbrev vh:Stmt:=top 15
abbrev jO:Stmt:=top 16
abbrev gb:Stmt:=top 18
abbrev lJ:Stmt:=top 19
abbrev iB:Stmt:=top 20
abbrev fA:Stmt:=top 21
abbrev gP:Stmt:=top 22
abbrev fG:Stmt:=top 23
abbrev fw:Stmt:=top 34
abbrev fI:Stmt:=top 35
abbrev lB:Stmt:=top 36
abbrev iG:Stmt:=top 39
abbrev mP:Stmt:=top 40
abbrev jB:Stmt:=top 41
abbrev fq:Stmt:=top 48
abbrev gL:Stmt:=top 49
abbrev iW:Stmt:=top 50
abbrev dR:Stmt:=top 51
abbrev lX:Stmt:=top 52
abbrev jP:Stmt:=top 53
abbrev oA:Stmt:=top 54
abbrev mC:Stmt:=top 55
abbrev lU:Stmt:=top 56
abbrev eN:Stmt:=top 57
abbrev i8:Stmt:=top 58
abbrev gJ:Stmt:=top 59
abbrev iJ:Stmt:=top 60
abbrev iY:Stmt:=top 61
abbrev gD:Stmt:=top 62
abbrev hJ:Stmt:=inClass (top 63) 0
abbrev eJ:Stmt:=inClass (top 63) 1
abbrev eU:Stmt:=inClass (top 63) 2
abbrev fO:Stmt:=inClass (top 63) 3
abbrev ej:Stmt:=inClass (top 63) 4
abbrev zP:Stmt:=inClass (top 63) 5
abbrev BA:Stmt:=inClass (top 63) 6
abbrev zb:Stmt:=inClass (top 63) 7
abbrev vZ:Stmt:=inClass (top 63) 8
abbrev dX:Stmt:=inClass (top 63) 9
abbrev r6:Stmt:=top 65
abbrev lP:Stmt:=top 66
abbrev lV:Stmt:=top 67
abbrev jZ:Stmt:=top 68
abbrev oX:Stmt:=top 69
abbrev j7:Stmt:=top 70
abbrev ow:Stmt:=top 71
abbrev iI:Stmt:=top 72
abbrev iX:Stmt:=top 73
abbrev pC:Stmt:=top 74
abbrev mS:Stmt:=top 75
abbrev ji:Stmt:=top 76
abbrev l8:Stmt:=top 77
abbrev pk:Stmt:=top 78
abbrev iK:Stmt:=top 79
abbrev gv:Stmt:=top 80
abbrev iw:Stmt:=top 81
abbrev jq:Stmt:=top 82
abbrev gG:Stmt:=top 83
abbrev eV:Stmt:=top 84
abbrev o5:Stmt:=top 85
def oneOf:Value->Option Str
 |.str x _=>some x
 |_=>none
def strsOf(l:List Value):List (Option Str):=l.map oneOf
def FT:List (Option Str):=[some "person",some "talk",some "saw",some "knew",some "heard",some "told",some "not",some "nobody",some "never",some "by",some "from",some "to"]
inductive FF(K:PySem.W.Frag)(x:Str)(st:Stmt):Prop
 |mk{f:Addr}{oc kV dc pm cd ct:Value}{od an:Option Addr}{sl:Array (Option Value)}(a:nsIn K mainGlobals x=some (some (.ref f)))(l:K.lookup f=some ⟨oc,od,.func (fnOf x x (dW st) (cS st) (cB st) .none kV dc pm an cd ct),sl⟩)(c:codeIn K cd x=true)(k:keepIn K (.ref f)=true)
def J5:List Value:=[.type "ValueError",.type "Exception",.type "BaseException",.type "object"]
def ownIn(K:PySem.W.Frag)(C:Addr)(bm:List Value):Bool:=match K.lookup C with
 |some ⟨.type "type",_,.cls cd,sl⟩=>(match cd.mro,sl.toList with
  |.ref C'::bm',[_,_,_,_,some (.builtin n),_]=>C' == C && n == "ValueError.__new__" && !cd.hasDel && bm' == bm && nsOkIn K cd.ns && ((["__init__", "__getattribute__", "__getattr__", "__class__"]:List Str).all λx=>nsIn K cd.ns x == some none) && tailIn K J5 bm
  |_,_=>false)
 |_=>false
inductive Facts(K:PySem.W.Frag):Prop
 |mk{kw C Kn Ns Nb Nd Nr Ny Sa Tm f63 f64 f65 f66 f67 f68:Addr}
  {odw od63 an63 od64 an64 od65 an65 od66 an66 od67 an67 od68 an68:Option Addr}{slw sl63 sl64 sl65 sl66 sl67 sl68:Array (Option Value)}{oc63 kV63 dc63 pm63 cd63 ct63 oc64 kV64 dc64 pm64 cd64 ct64 oc65 kV65 dc65 pm65 cd65 ct65 oc66 kV66 dc66 pm66 cd66 ct66 oc67 kV67 dc67 pm67 cd67 ct67 oc68 kV68 dc68 pm68 cd68 ct68:Value}{its:Array Value}{nW:Nat}{tk1 tk2 tk3 tk4 tk5:Tok}
  (aW:nsIn K mainGlobals "KEPT_WORDS" =some (some (.ref kw))) (lW:K.lookup kw=some ⟨.type "tuple",odw,.seq its nW,slw⟩) (vW:strsOf its.toList=FT)
 (h1:FF K "is_whole" iG) (h2:FF K "is_hour" mP) (h3:FF K "is_name" jB) (h4:FF K "is_list_up_to" fq) (h5:FF K "is_tuple_of" gL) (h6:FF K "is_person" iW) (h7:FF K "are_unlike_persons" dR) (h8:FF K "is_tale" lX) (h9:FF K "is_sight" jP) (h10:FF K "is_way" oA) (h11:FF K "is_talk" mC) (h12:FF K "is_span" lU) (h13:FF K "is_short_saying" eN) (h14:FF K "is_saying" i8) (h15:FF K "are_persons" gJ) (h16:FF K "are_sights" iJ) (h17:FF K "are_talks" iY) (h18:FF K "are_sayings" gD) (h19:FF K "floor_of" kg) (h20:FF K "floors_of_all" fF) (h21:FF K "is_above" jX) (h22:FF K "is_silent" jg) (h23:FF K "is_barred" je) (h24:FF K "open_sights" gN) (h25:FF K "open_tellings" fH) (h26:FF K "open_entries" gb) (h27:FF K "hour_of" lJ) (h28:FF K "can_follow" iB) (h29:FF K "first_entries" fA) (h30:FF K "first_story" gP) (h31:FF K "hours_in" jS) (h32:FF K "fits_knew" ja) (h33:FF K "fits_unheard" gq) (h34:FF K "fits_silent" gM) (h35:FF K "fits_barred" gO) (h36:FF K "fits" vh) (h37:FF K "unfitted" jO) (h38:FF K "fitting_story" fG) (h39:FF K "is_heard_from" fw) (h40:FF K "story_without" fI) (h41:FF K "needed" lB) (h42:FF K "_law_mix" r6) (h43:FF K "_law_names" lP) (h44:FF K "_law_clock" lV) (h45:FF K "_law_saying" jZ) (h46:FF K "_law_spot" oX) (h47:FF K "_law_things" j7) (h48:FF K "_law_free" ow) (h49:FF K "_law_tellings" iI) (h50:FF K "_law_is_open" iX) (h51:FF K "_law_open" pC) (h52:FF K "_law_hours" mS) (h53:FF K "_law_knew_so" ji) (h54:FF K "_law_drawn" l8) (h55:FF K "_law_book" pk) (h56:FF K "_law_good_way" iK) (h57:FF K "_law_good_story" gv) (h58:FF K "_law_no_story" iw) (h59:FF K "_law_refused" jq) (h60:FF K "_law_is_needed" gG) (h61:FF K "_law_without_well" eV) (h62:FF K "law" o5)
  (aC:nsIn K mainGlobals "Book" =some (some (.ref C))) (pg:plainGet K C Str.empty=true) (hd:hasDictIn K C=true) (po:plainOver K C=true) (sa:findIn K (.ref C) "__setattr__" =some (some (.builtin "object.__setattr__"))) (mk:makesIn K C=true) (kc:keepIn K (.ref C)=true)
  (nP:findIn K (.ref C) "kept_persons" =some none) (nS:findIn K (.ref C) "kept_sights" =some none) (nT:findIn K (.ref C) "kept_talks" =some none) (nY:findIn K (.ref C) "kept_sayings" =some none)
  (x1:nsIn K mainGlobals "KnewError" =some (some (.ref Kn)))
  (x2:nsIn K mainGlobals "NoStory" =some (some (.ref Ns)))
  (x3:nsIn K mainGlobals "NoBook" =some (some (.ref Nb)))
  (x4:nsIn K mainGlobals "NoDeed" =some (some (.ref Nd)))
  (x5:nsIn K mainGlobals "NoRow" =some (some (.ref Nr)))
  (x6:nsIn K mainGlobals "NoSaying" =some (some (.ref Ny)))
  (x7:nsIn K mainGlobals "Saw" =some (some (.ref Sa)))
  (x8:nsIn K mainGlobals "TooMuch" =some (some (.ref Tm)))
  (x9:nsIn K mainGlobals "ValueError" =some none)
  (x10:ownIn K Ns (.ref Kn::J5)=true)
  (x11:ownIn K Kn J5=true)
  (x12:kitOne K (.ref Ns) (.ref Ns)=some true)
  (x13:kitOne K (.ref Ns) (.ref Kn)=some true)
  (x14:kitOne K (.ref Ns) (.type "ValueError")=some true)
  (x15:kitOne K (.ref Ns) (.ref Nb)=some false)
  (x16:kitOne K (.ref Ns) (.ref Nd)=some false)
  (x17:kitOne K (.ref Ns) (.ref Nr)=some false)
  (x18:kitOne K (.ref Ns) (.ref Ny)=some false)
  (x19:kitOne K (.ref Ns) (.ref Sa)=some false)
  (x20:kitOne K (.ref Ns) (.ref Tm)=some false)
  (a63:findIn K (.ref C) "__init__" =some (some (.ref f63))) (i63:isFn K (.ref f63)=true) (l63:K.lookup f63=some ⟨oc63,od63,.func (fnOf "__init__" "Book.__init__" (dW hJ) (cS hJ) (cB hJ) .none kV63 dc63 pm63 an63 cd63 ct63),sl63⟩) (c63:codeIn K cd63 "Book.__init__" =true) (k63:keepIn K (.ref f63)=true)
  (a64:findIn K (.ref C) "persons" =some (some (.ref f64))) (i64:isFn K (.ref f64)=true) (l64:K.lookup f64=some ⟨oc64,od64,.func (fnOf "persons" "Book.persons" (dW eJ) (cS eJ) (cB eJ) .none kV64 dc64 pm64 an64 cd64 ct64),sl64⟩) (c64:codeIn K cd64 "Book.persons" =true) (k64:keepIn K (.ref f64)=true)
  (a65:findIn K (.ref C) "sights" =some (some (.ref f65))) (i65:isFn K (.ref f65)=true) (l65:K.lookup f65=some ⟨oc65,od65,.func (fnOf "sights" "Book.sights" (dW eU) (cS eU) (cB eU) .none kV65 dc65 pm65 an65 cd65 ct65),sl65⟩) (c65:codeIn K cd65 "Book.sights" =true) (k65:keepIn K (.ref f65)=true)
  (a66:findIn K (.ref C) "talks" =some (some (.ref f66))) (i66:isFn K (.ref f66)=true) (l66:K.lookup f66=some ⟨oc66,od66,.func (fnOf "talks" "Book.talks" (dW fO) (cS fO) (cB fO) .none kV66 dc66 pm66 an66 cd66 ct66),sl66⟩) (c66:codeIn K cd66 "Book.talks" =true) (k66:keepIn K (.ref f66)=true)
  (a67:findIn K (.ref C) "sayings" =some (some (.ref f67))) (i67:isFn K (.ref f67)=true) (l67:K.lookup f67=some ⟨oc67,od67,.func (fnOf "sayings" "Book.sayings" (dW ej) (cS ej) (cB ej) .none kV67 dc67 pm67 an67 cd67 ct67),sl67⟩) (c67:codeIn K cd67 "Book.sayings" =true) (k67:keepIn K (.ref f67)=true)
  (a68:findIn K (.ref C) "tellings" =some (some (.ref f68))) (i68:isFn K (.ref f68)=true) (l68:K.lookup f68=some ⟨oc68,od68,.func (fnOf "tellings" "Book.tellings" (dW dX) (cS dX) (cB dX) .none kV68 dc68 pm68 an68 cd68 ct68),sl68⟩) (c68:codeIn K cd68 "Book.tellings" =true) (k68:keepIn K (.ref f68)=true)
  (z1:nsIn K mainGlobals "isinstance" =some none) (z2:nsIn K mainGlobals "int" =some none) (z3:nsIn K mainGlobals "bool" =some none) (z4:nsIn K mainGlobals "str" =some none) (z5:nsIn K mainGlobals "len" =some none) (z6:nsIn K mainGlobals "all" =some none) (z7:nsIn K mainGlobals "range" =some none) (z8:nsIn K mainGlobals "list" =some none) (z9:nsIn K mainGlobals "tuple" =some none) (z10:nsIn K mainGlobals "set" =some none) (z11:nsIn K mainGlobals "zip" =some none) (z12:nsIn K mainGlobals "enumerate" =some none) (z13:nsIn K mainGlobals "min" =some none) (z14:nsIn K mainGlobals "max" =some none) (z15:nsIn K mainGlobals "any" =some none) (z16:nsIn K mainGlobals "sorted" =some none) (z17:nsIn K mainGlobals "dict" =some none) (z18:nsIn K mainGlobals "sum" =some none) (z19:nsIn K mainGlobals "reversed" =some none)
  (g1:nsIn K mainGlobals "MOST_PERSONS" =some (some (.int 24 tk1))) (g2:nsIn K mainGlobals "MOST_SIGHTS" =some (some (.int 24 tk2))) (g3:nsIn K mainGlobals "MOST_TALKS" =some (some (.int 120 tk3))) (g4:nsIn K mainGlobals "MOST_SAYINGS" =some (some (.int 60 tk4))) (g5:nsIn K mainGlobals "MOST_WORDS" =some (some (.int 6 tk5))):Facts K
open PySem.W in
def vw:Program:=view PySem.Challenge.rw_knewby_k32_needed_tellers.row.toRowW.prog [0,2,3,4,5,6,7,8,10,11,12,13,14,15,16,18,19,20,21,22,23,25,26,27,28,29,30,31,32,34,35,36,38,39,40,41,43,44,45,46,47,48,49,50,51,52,53,54,55,56,57,58,59,60,61,62,63,65,66,67,68,69,70,71,72,73,74,75,76,77,78,79,80,81,82,83,84,85]
end K32
open PySem PySem.W PyProof.Rows
set_option maxRecDepth 100000 in
theorem K32.vH(w:World):TR.pG (OpenRow.toRowW PySem.Challenge.rw_knewby_k32_needed_tellers.row).prog w 20000 (λs₀ s₁=>staticsOk (importedModules (OpenRow.toRowW PySem.Challenge.rw_knewby_k32_needed_tellers.row).prog.main.body) s₀.heap s₁.heap && namesBound (OpenRow.toRowW PySem.Challenge.rw_knewby_k32_needed_tellers.row).prog s₁.heap && gensDone s₁ && laidKept s₀.heap s₁.heap)=some true:=by
 delta TR.pG PySem.W.fencedOpening;(try rw[PySem.W.Fast.te10274390034422433532]);(try rw[PySem.W.Fast.te4187177175401517315]);(try rw[PySem.W.Fast.te1435165496053646825]);(try rw[PySem.W.Fast.te14289696077712309145]);(try rw[PySem.W.Fast.te11892475500146522536]);(try rw[PySem.W.Fast.te10156331382660048174]);(try rw[PySem.W.Fast.te6613529449190102663]);(try rw[PySem.W.Fast.te14364793385576792824]);(try rw[PySem.W.Fast.te5923862056798008813]);kernel_rfl
set_option maxRecDepth 100000 in
theorem K32.vP(w:World):TR.pG (OpenRow.toRowW PySem.Challenge.rw_knewby_k32_needed_tellers.row).prog w 20000 (λ_ s₁=>openSeen K32.vw [] (importedModules (OpenRow.toRowW PySem.Challenge.rw_knewby_k32_needed_tellers.row).prog.main.body) (λs=>xlAt K32.vw [] s && recOk (RowW.records (OpenRow.toRowW PySem.Challenge.rw_knewby_k32_needed_tellers.row)) s) true s₁)=some (openGood K32.vw []):=by
 delta TR.pG PySem.W.fencedOpening;(try rw[PySem.W.Fast.te10274390034422433532]);(try rw[PySem.W.Fast.te4187177175401517315]);(try rw[PySem.W.Fast.te1435165496053646825]);(try rw[PySem.W.Fast.te14289696077712309145]);(try rw[PySem.W.Fast.te11892475500146522536]);(try rw[PySem.W.Fast.te10156331382660048174]);(try rw[PySem.W.Fast.te6613529449190102663]);(try rw[PySem.W.Fast.te14364793385576792824]);(try rw[PySem.W.Fast.te5923862056798008813]);kernel_rfl
local macro_rules
 | `(tactic|o_head $H)=> `(tactic| (
  refine holds_open (N:=20000) (q:=K32.vw) (loose:=[])
   (Xt:=λs=>xlAt K32.vw [] s && recOk (RowW.records (OpenRow.toRowW PySem.Challenge.rw_knewby_k32_needed_tellers.row)) s)
   (XP:=XL K32.vw []) (YP:=Hook.says $H) (Ya:=Hook.val $H) (Yf:=Hook.obs $H)
   ?hl (Hook.of $H) (Hook.keeps $H)
   (λs e=>xl_of s (Bool.and_eq_true_iff.mp e).1) XL.keeps
   (by rfl) (by rfl) (by rfl)
   (λs e=>recFacts_of (Bool.and_eq_true_iff.mp e).2)
   (by rfl) (by first|assumption|decide+kernel) (by decide+kernel)
   ⟨rfl,rfl,rfl,rfl,rfl,by decide+kernel⟩ ?hw ?hc
  (case hl=>(refine TR.Ie K32.vH K32.vP λw=>?_;delta TR.pG PySem.W.fencedOpening;(try rw[PySem.W.Fast.te10274390034422433532]);(try rw[PySem.W.Fast.te4187177175401517315]);(try rw[PySem.W.Fast.te1435165496053646825]);(try rw[PySem.W.Fast.te14289696077712309145]);(try rw[PySem.W.Fast.te11892475500146522536]);(try rw[PySem.W.Fast.te10156331382660048174]);(try rw[PySem.W.Fast.te6613529449190102663]);(try rw[PySem.W.Fast.te14364793385576792824]);(try rw[PySem.W.Fast.te5923862056798008813]);kernel_rfl))))
set_option maxRecDepth 100000 in
set_option maxHeartbeats 0 in
theorem K32.closing (HW:∀{q:Program}{loose:List Str}{XP:(Str->Option Value)->Heap->Prop}{YP:World->Heap->Prop}{d:DefRec}{K:Params->PySem.W.Frag},d.name= "law" ->d.params.defaults=[]->(∀(w:World) (h:Heap),YP w h->(K w.params).In h)->
  (∀(w:World)(mg:Str->Option Value)(fa:Addr)(h:Heap),(K w.params).In h->h.Ns mainGlobals mg->mg d.name=some (.ref fa)->K32.Facts (K w.params))->PySem.W.WalkO q loose XP YP PySem.Challenge.rw_knewby_k32_needed_tellers.row.toRowW d [] (λf vs=>PySem.call f vs)):PySem.Challenge.rw_knewby_k32_needed_tellers.Holds:=by
 w_on;o_law;k_head;(case hw=>w_witness2)
 k_fill
 refine HW rfl rfl (λw h Y=>PySem.W.kIn_of Y) ?F
 case F=>
  intro w mg fa h KX G hmg;refine' K32.Facts.mk ?aW ?lW ?vW ?h1 ?h2 ?h3 ?h4 ?h5 ?h6 ?h7 ?h8 ?h9 ?h10 ?h11 ?h12 ?h13 ?h14 ?h15 ?h16 ?h17 ?h18 ?h19 ?h20 ?h21 ?h22 ?h23 ?h24 ?h25 ?h26 ?h27 ?h28 ?h29 ?h30 ?h31 ?h32 ?h33 ?h34 ?h35 ?h36 ?h37 ?h38 ?h39 ?h40 ?h41 ?h42 ?h43 ?h44 ?h45 ?h46 ?h47 ?h48 ?h49 ?h50 ?h51 ?h52 ?h53 ?h54 ?h55 ?h56 ?h57 ?h58 ?h59 ?h60 ?h61 ?h62 ?aC ?pg ?hd ?po ?sa ?mk ?kc ?nP ?nS ?nT ?nY ?x1 ?x2 ?x3 ?x4 ?x5 ?x6 ?x7 ?x8 ?x9 ?x10 ?x11 ?x12 ?x13 ?x14 ?x15 ?x16 ?x17 ?x18 ?x19 ?x20 ?a63 ?i63 ?l63 ?c63 ?k63 ?a64 ?i64 ?l64 ?c64 ?k64 ?a65 ?i65 ?l65 ?c65 ?k65 ?a66 ?i66 ?l66 ?c66 ?k66 ?a67 ?i67 ?l67 ?c67 ?k67 ?a68 ?i68 ?l68 ?c68 ?k68 ?z1 ?z2 ?z3 ?z4 ?z5 ?z6 ?z7 ?z8 ?z9 ?z10 ?z11 ?z12 ?z13 ?z14 ?z15 ?z16 ?z17 ?z18 ?z19 ?g1 ?g2 ?g3 ?g4 ?g5
  (case aW=>k_is)
  (case lW=>k_is)
  (case aC=>k_is)
  (case pg=>k_is)
  (case hd=>k_is)
  (case po=>k_is)
  (case sa=>k_is)
  (case mk=>k_is)
  (case kc=>k_is)
  (case nP=>k_is)
  (case nS=>k_is)
  (case nT=>k_is)
  (case nY=>k_is)
  (case x1=>k_is)
  (case x2=>k_is)
  (case x3=>k_is)
  (case x4=>k_is)
  (case x5=>k_is)
  (case x6=>k_is)
  (case x7=>k_is)
  (case x8=>k_is)
  (case x9=>k_is)
  (case x10=>kernel_rfl)
  (case x11=>kernel_rfl)
  (case x12=>kernel_rfl)
  (case x13=>kernel_rfl)
  (case x14=>kernel_rfl)
  (case x15=>kernel_rfl)
  (case x16=>kernel_rfl)
  (case x17=>kernel_rfl)
  (case x18=>kernel_rfl)
  (case x19=>kernel_rfl)
  (case x20=>kernel_rfl)
  (case a63=>k_is)
  (case i63=>k_is)
  (case l63=>k_is)
  (case c63=>k_is)
  (case k63=>k_is)
  (case a64=>k_is)
  (case i64=>k_is)
  (case l64=>k_is)
  (case c64=>k_is)
  (case k64=>k_is)
  (case a65=>k_is)
  (case i65=>k_is)
  (case l65=>k_is)
  (case c65=>k_is)
  (case k65=>k_is)
  (case a66=>k_is)
  (case i66=>k_is)
  (case l66=>k_is)
  (case c66=>k_is)
  (case k66=>k_is)
  (case a67=>k_is)
  (case i67=>k_is)
  (case l67=>k_is)
  (case c67=>k_is)
  (case k67=>k_is)
  (case a68=>k_is)
  (case i68=>k_is)
  (case l68=>k_is)
  (case c68=>k_is)
  (case k68=>k_is)
  (case z1=>k_is)
  (case z2=>k_is)
  (case z3=>k_is)
  (case z4=>k_is)
  (case z5=>k_is)
  (case z6=>k_is)
  (case z7=>k_is)
  (case z8=>k_is)
  (case z9=>k_is)
  (case z10=>k_is)
  (case z11=>k_is)
  (case z12=>k_is)
  (case z13=>k_is)
  (case z14=>k_is)
  (case z15=>k_is)
  (case z16=>k_is)
  (case z17=>k_is)
  (case z18=>k_is)
  (case z19=>k_is)
  (case g1=>k_is)
  (case g2=>k_is)
  (case g3=>k_is)
  (case g4=>k_is)
  (case g5=>k_is)
  (case vW=>rfl)
  all_goals (apply K32.FF.mk<;>k_is)
end
namespace L2
open PySem PySem.Spec PyProof.Rows
abbrev Key:=Sum Int Str
def jf:Key->Value->Bool
 |.inl k,v=>Value.isInt k v
 |.inr x,v=>Value.isStrOf x v
def K3(w:World):Key->Int
 |.inl k=>hashInt k
 |.inr x=>hashStr w x
theorem di:∀{k:Key}{v:Value},jf k v=true->(∃i t,k=Sum.inl i/\v=Value.int i t)\/(∃x t,k=Sum.inr x/\v=Value.str x t)
 |.inl i,v,h=>by
  obtain⟨t,e⟩:=Value.isInt_shape (k:=i) (v:=v) h;exact .inl ⟨i,t,rfl,e⟩
 |.inr x,v,h=>by
  obtain⟨t,e⟩:=Value.isStrOf_shape (x:=x) (v:=v) h;exact .inr ⟨x,t,rfl,e⟩
theorem yD(i:Int)(t:Tok):jf (.inl i) (.int i t)=true:=by simp[jf,Value.isInt]
theorem qu(x:Str)(t:Tok):jf (.inr x) (.str x t)=true:=by simp[jf,Value.isStrOf]
theorem EB(a b:Int):decide ((Sum.inl a:Key)=Sum.inl b)=(a == b):=by
 by_cases e:a=b
 ·subst e;simp
 ·have h:¬(Sum.inl a:Key)=Sum.inl b:=λq=>e (Sum.inl.inj q)
  rw[decide_eq_false h];exact(beq_eq_false_iff_ne.mpr e).symm
theorem EY(a b:Str):decide ((Sum.inr a:Key)=Sum.inr b)=decide (a=b):=by
 by_cases e:a=b
 ·subst e;simp
 ·have h:¬(Sum.inr a:Key)=Sum.inr b:=λq=>e (Sum.inr.inj q)
  rw[decide_eq_false h,decide_eq_false e]
theorem F9(a:Int)(b:Str):decide ((Sum.inl a:Key)=Sum.inr b)=false:=decide_eq_false (λq=>nomatch q)
theorem Gh(a:Str)(b:Int):decide ((Sum.inr a:Key)=Sum.inl b)=false:=decide_eq_false (λq=>nomatch q)
def cJ(prog:Program)(w:World):PySem.KeyKind prog w Key where
 is:=jf
 hash:=K3 w
 inj:=λv a b ha hb=>by
  rcases di ha with ⟨i,t,rfl,rfl⟩|⟨x,t,rfl,rfl⟩
  ·rcases di hb with ⟨j,u,rfl,e⟩|⟨y,u,rfl,e⟩
   ·injection e with e1 _;rw[e1]
   ·exact nomatch e
  ·rcases di hb with ⟨j,u,rfl,e⟩|⟨y,u,rfl,e⟩
   ·exact nomatch e
   ·injection e with e1 _;rw[e1]
 byValue:=λk v h=>by
  rcases di h with ⟨i,t,rfl,rfl⟩|⟨x,t,rfl,rfl⟩<;>rfl
 pyHash:=λhv h=>by
  rcases di hv with ⟨i,t,rfl,rfl⟩|⟨x,t,rfl,rfl⟩
  ·exact wpAny_pyHash_int h
  ·exact wpAny_pyHash_str h
 eqBool:=λhu hv h=>by
  rcases di hu with ⟨i,t,rfl,rfl⟩|⟨x,t,rfl,rfl⟩
  ·rcases di hv with ⟨j,u,rfl,rfl⟩|⟨y,u,rfl,rfl⟩
   ·rw[EB]at h;exact wpAny_eqBool_int h
   ·rw[F9]at h;exact SeqAt.EqAt.int_str i t y u _ _ _ _ h
  ·rcases di hv with ⟨j,u,rfl,rfl⟩|⟨y,u,rfl,rfl⟩
   ·rw[Gh]at h;exact SeqAt.EqAt.str_int x t j u _ _ _ _ h
   ·rw[EY]at h;exact wpAny_eqBool_str h
 «strs» :=λk x t v h=>by
  rcases di h with ⟨i,u,rfl,e⟩|⟨y,u,rfl,e⟩
  ·exact nomatch e
  ·injection e with e1 _
   subst e1;cases v<;>rfl
theorem tU(prog:Program)(w:World)(i:Int)(t:Tok):(cJ prog w).is (.inl i) (.int i t)=true:=yD i t
theorem tW(prog:Program)(w:World)(x:Str)(t:Tok):(cJ prog w).is (.inr x) (.str x t)=true:=qu x t
end L2
namespace L2
open PySem PySem.Spec PyProof.Rows
inductive V where
 |non|bl (b:Bool)|int (i:Int)|str (x:Str)|byt (b:Array UInt8)|flt (b:UInt64)|ref (a:Addr)|ty (n:String)
 deriving DecidableEq
def RelV:V->Value->Prop
 |.non,u=>u=Value.none
 |.bl b,u=>u=Value.bool b
 |.int i,u=>∃t,u=Value.int i t
 |.str x,u=>∃t,u=Value.str x t
 |.byt b,u=>∃t,u=Value.bytes b t
 |.flt b,u=>∃t,u=Value.float b t
 |.ref a,u=>u=Value.ref a
 |.ty n,u=>u=Value.type n
abbrev Vals:List V->List Value->Prop:=Paired RelV
theorem Vals.length{xs:List V}{us:List Value}(r:Vals xs us):xs.length=us.length:=Paired.length r
theorem Vals.get:∀{xs:List V}{us:List Value}{i:Nat}{x:V},Vals xs us->xs[i]? =some x->∃u,us[i]? =some u/\RelV x u
 |_,_,_,_,.nil,e=>by simp at e
 |_,_,0,_,.cons r _,e=>by simp at e;subst e;exact⟨_,rfl,r⟩
 |_,_,i+1,x,.cons _ t,e=>by
  obtain⟨u,h1,h2⟩:=Vals.get (i:=i) (x:=x) t (by simpa using e);exact⟨u,by simpa using h1,h2⟩
theorem Vals.append:∀{xs ys:List V}{us ws:List Value},Vals xs us->Vals ys ws->Vals (xs++ys) (us++ws)
 |_,_,_,_,.nil,s=>s
 |_,_,_,_,.cons r t,s=>.cons r (Vals.append t s)
theorem Vals.take:∀{xs:List V}{us:List Value}(n:Nat),Vals xs us->Vals (xs.take n) (us.take n)
 |_,_,0,_=>.nil
 |_,_,_+1,.nil=>.nil
 |_,_,n+1,.cons r t=>.cons r (Vals.take n t)
theorem Vals.drop:∀{xs:List V}{us:List Value}(n:Nat),Vals xs us->Vals (xs.drop n) (us.drop n)
 |_,_,0,r=>r
 |_,_,_+1,.nil=>.nil
 |_,_,n+1,.cons _ t=>Vals.drop n t
def iS:Option V->Option Value->Prop
 |some v,some u=>RelV v u
 |none,none=>True
 |_,_=>False
def KV{κ:Type}:List (κ×V)->List (κ×Value)->Prop:=Paired λ(p:κ×V) (q:κ×Value)=>p.1=q.1/\RelV p.2 q.2
def kV:Key->V
 |.inl i=>.int i
 |.inr x=>.str x
inductive HO where
 |lst (xs:List V)
 |tup (xs:List V)
 |dK (kvs:List (Key×V))|dT (kvs:List (List Key×V))
 |set (S:Int->Bool)(n:Nat)
 |ins (C dx:Addr)(fs:List (Str×V))
 |own (x:Addr)
 |xd (fs:List (Str×V))
 |met (f x:Addr)
 |rng (lo hi:Int)
 |frz (o:Obj)(u:HO)
 |tbl (ps:Array Value)
 |ext (φ:Heap->Prop)
abbrev Hp:=Addr->Option HO
def upd(H:Hp)(a:Addr)(o:HO):Hp:=λb=>if b=a then some o else H b
theorem cz{H:Hp}{a:Addr}{o:HO}:upd H a o a=some o:=by unfold upd;rw[if_pos rfl]
theorem cD{H:Hp}{a b:Addr}{o:HO}(h:b≠a):upd H a o b=H b:=by unfold upd;rw[if_neg h]
theorem BJ{H:Hp}{a:Addr}{o u:HO}:upd (upd H a o) a u=upd H a u:=by
 funext b;unfold upd;split<;>rfl
theorem pF{H:Hp}{a b:Addr}{o u:HO}(h:H a=some o)(h':H b=some u)(d:o≠u):a≠b:=by
 intro e;subst e;rw[h]at h';exact d (Option.some.inj h')
theorem cA{H:Hp}{a b:Addr}{o:HO}(h:H a=some o)(h':H b=none):a≠b:=by
 intro e;subst e;rw[h]at h';cases h'
section
variable (P:Program)(w:World)
def cZ(H:Hp)(h:Heap)(a:Addr):HO->Prop
 |.lst xs=>xs.length<=sizeLine/\∃(its:List Value) (n:Nat),Vals xs its/\h.get? a=some { cls:=.type "list",data:=.seq its.toArray n }
 |.tup xs=>xs.length<=sizeLine/\∃its:List Value,Vals xs its/\IsTup h a its.toArray
 |.dK kvs=>kvs.length<=sizeLine/\(a == sysModules)=false/\∃vs,KV kvs vs/\h.DictOf (cJ P w) a vs
 |.dT kvs=>kvs.length<=sizeLine/\(a == sysModules)=false/\∃xs:List (List Key×Addr×Value),
   Paired (λ(p:List Key×V) (q:List Key×Addr×Value)=>p.1=q.1/\H q.2.1=some (.tup (p.1.map kV))/\RelV p.2 q.2.2) kvs xs/\
   ∃o es ep,h.get? a=some o/\o.ExactDict/\o.data=.dict es ep/\es.toList=xs.map (entryOfKey (tupleKind (cJ P w)))/\(xs.map (·.1)).Nodup
 |.set S n=>h.SetOf (intKind P w) a S n
 |.ins C dx fs=>H dx=some (.own a)/\fs.length<=1000/\dx≠a/\h.get? a=some (instObj C dx)/\
   ∃mA,h.Ns1 dx mA/\(∀f,iS (fs.lookup f) (mA f))/\PySem.Within mA (fs.map (·.1))
 |.own _=>∃o,h.get? a=some o
 |.xd fs=>∃mA,h.Ns1 a mA/\∀f,iS (fs.lookup f) (mA f)
 |.rng lo hi=>∃t u v,h.get? a=some { cls:=.type "range",data:=.fields #[.int lo t,.int hi u,.int 1 v] }
 |.frz o u=>h.get? a=some o/\cZ H h a u
 |.tbl ps=>h.get? a=some { cls:=.none,data:=.fields ps }
 |.met f x=>h.get? a=some (methodObj (.ref f) (.ref x))
 |.ext φ=>φ h/\(∃o,h.get? a=some o)/\∀h1 h2:Heap,φ h1->(∀o,h1.get? a=some o->h2.get? a=some o)->φ h2
def gz(H:Hp)(h:Heap):Prop:=∀a o,H a=some o->cZ P w H h a o
end
section
variable {P:Program}{w:World}{H H':Hp}{h h':Heap}{a:Addr}{o:HO}
theorem cZ.lt(x:cZ P w H h a o):a < h.objs.size:=by
 cases o with
 |lst xs=>obtain⟨_,_,_,_,e⟩:=x;exact lt_size e
 |tup xs=>obtain⟨_,_,_,p⟩:=x;exact p.lt
 |dK kvs=>obtain⟨_,_,_,_,o,_,_,e,_⟩:=x;exact lt_size e
 |dT kvs=>obtain⟨_,_,_,_,o,_,_,e,_⟩:=x;exact lt_size e
 |set S n=>obtain⟨o,_,_,_,e,_⟩:=x;exact lt_size e
 |ins C dx fs=>obtain⟨_,_,_,e,_⟩:=x;exact lt_size e
 |own y=>obtain⟨_,e⟩:=x;exact lt_size e
 |xd fs=>obtain⟨_,⟨_,_,_,e,_⟩,_⟩:=x;exact lt_size e
 |rng lo hi=>obtain⟨_,_,_,e⟩:=x;exact lt_size e
 |frz ob u=>obtain⟨e,_⟩:=x;exact lt_size e
 |tbl ps=>exact lt_size (show h.get? a=some _ from x)
 |met f y=>exact lt_size (show h.get? a=some _ from x)
 |ext φ=>obtain⟨_,⟨_,e⟩,_⟩:=x;exact lt_size e
theorem Paired.FQ{α β:Type}{F G:α->β->Prop}:∀{l₁:List α}{l₂:List β},Paired F l₁ l₂->(∀a b,F a b->G a b)->Paired G l₁ l₂
 |_,_,.nil,_=>.nil
 |_,_,.cons r t,f=>.cons (f _ _ r) (Paired.FQ t f)
theorem cZ.fB(x:cZ P w H h a o)(k:∀b u,(b=a\/H b=some (.own a))->h.get? b=some u->h'.get? b=some u)
  (ho:∀b,H b=some (.own a)->H' b=some (.own a))(ht:∀b xs,H b=some (.tup xs)->H' b=some (.tup xs)):cZ P w H' h' a o:=by
 induction o with
 |lst xs=>obtain⟨z,its,n,r,e⟩:=x;exact⟨z,its,n,r,k _ _ (.inl rfl) e⟩
 |tup xs=>obtain⟨z,its,r,ob,e,c⟩:=x;exact⟨z,its,r,ob,k _ _ (.inl rfl) e,c⟩
 |dK kvs=>obtain⟨z,y,vs,r,ob,es,ep,e,c⟩:=x;exact⟨z,y,vs,r,ob,es,ep,k _ _ (.inl rfl) e,c⟩
 |dT kvs=>
  obtain⟨z,y,xs,r,ob,es,ep,e,c⟩:=x;exact⟨z,y,xs,Paired.FQ r λp q z=>⟨z.1,ht _ _ z.2.1,z.2.2⟩,ob,es,ep,k _ _ (.inl rfl) e,c⟩
 |set S n=>obtain⟨ob,es,ep,t,e,c⟩:=x;exact⟨ob,es,ep,t,k _ _ (.inl rfl) e,c⟩
 |ins C dx fs=>
  obtain⟨d,z,ne,e,mA,⟨od,es,ep,e2,c⟩,r⟩:=x;exact⟨ho _ d,z,ne,k _ _ (.inl rfl) e,mA,⟨od,es,ep,k _ _ (.inr d) e2,c⟩,r⟩
 |own y=>obtain⟨ob,e⟩:=x;exact⟨ob,k _ _ (.inl rfl) e⟩
 |xd fs=>obtain⟨mA,⟨od,es,ep,e,c⟩,r⟩:=x;exact⟨mA,⟨od,es,ep,k _ _ (.inl rfl) e,c⟩,r⟩
 |rng lo hi=>obtain⟨t,u,v,e⟩:=x;exact⟨t,u,v,k _ _ (.inl rfl) e⟩
 |frz ob u ih=>obtain⟨e,q⟩:=x;exact⟨k _ _ (.inl rfl) e,ih q⟩
 |tbl ps=>
  have e:h.get? a=some { cls:=.none,data:=.fields ps }:=x;show h'.get? a=some { cls:=.none,data:=.fields ps };exact k a _ (.inl rfl) e
 |met f y=>
  have e:h.get? a=some (methodObj (.ref f) (.ref y)):=x;show h'.get? a=some (methodObj (.ref f) (.ref y));exact k a _ (.inl rfl) e
 |ext φ=>obtain⟨p,⟨o,e⟩,st⟩:=x;exact⟨st _ _ p λo q=>k _ _ (.inl rfl) q,⟨o,k _ _ (.inl rfl) e⟩,st⟩
theorem gz.lt(x:gz P w H h)(e:H a=some o):a < h.objs.size:=(x a o e).lt
theorem gz.fresh(x:gz P w H h)(e:h.objs.size<=a):H a=none:=by
 cases q:H a with
 |none=>rfl
 |some u=>exact absurd (lt_of_lt_of_le (x.lt q) e) (lt_irrefl _)
theorem gz.kept(x:gz P w H h)(k:∀b u,h.get? b=some u->h'.get? b=some u):gz P w H h':=λa o e=>
 (x a o e).fB (λb u _ q=>k b u q) (λ_ q=>q) λ_ _ q=>q
theorem gz.laid(x:gz P w H h)(k:∀b u,h.get? b=some u->h'.get? b=some u)(hp:h.objs.size<=a)(new:cZ P w (upd H a o) h' a o):gz P w (upd H a o) h':=λb u e=>by
 have hn:=x.fresh hp;by_cases hb:b=a
 ·subst hb;rw[cz]at e;cases e;exact new
 ·rw[cD hb]at e
  exact(x b u e).fB (λc v _ q=>k c v q) (λc q=>by rw[cD (cA q hn)];exact q) λc xs q=>by rw[cD (cA q hn)];exact q
end
def Rd(H:Hp)(a:Addr)(u:HO):Prop:=H a=some u\/∃o,H a=some (.frz o u)
theorem Rd.ok{P:Program}{w:World}{H:Hp}{h:Heap}{a:Addr}{u:HO}(r:Rd H a u)(x:gz P w H h):cZ P w H h a u:=by
 rcases r with r|⟨o,r⟩
 ·exact x a u r
 ·obtain⟨_,q⟩:=x a _ r
  exact q
def Hd:Option HO->Prop
 |some (.lst _)=>True
 |some (.dK _)=>True
 |some (.dT _)=>True
 |some (.set _ _)=>True
 |some (.ins _ _ _)=>True
 |some (.ext _)=>True
 |_=>False
section
variable {P:Program}{w:World}{H:Hp}{h h':Heap}{x e:Addr}{o':HO}
theorem gz.write(ok:gz P w H h)(mu:Hd (H x))(he:e=x\/H e=some (.own x))(k:∀b u,b≠e->h.get? b=some u->h'.get? b=some u)(heo:∃u,h'.get? e=some u)
  (new:cZ P w (upd H x o') h' x o'):gz P w (upd H x o') h':=λb u q=>by
 have nown:∀c y,H c=some (.own y)->c≠x:=λc y r z=>by subst z;rw[r]at mu;exact mu
 have ntup:∀c xs,H c=some (.tup xs)->c≠x:=λc xs r z=>by subst z;rw[r]at mu;exact mu
 by_cases hb:b=x
 ·subst hb;rw[cz]at q;cases q;exact new
 ·rw[cD hb]at q
  by_cases hbe:b=e
  ·have q':H b=some (.own x):=by
    rcases he with z|z
    ·exact absurd (hbe.trans z) hb
    ·rw[hbe];exact z
   rw[q]at q';cases q';obtain⟨v,hv⟩:=heo;exact⟨v,by rw[hbe];exact hv⟩
  ·refine(ok b u q).fB (λc v hc r=>k c v ?_ r) (λc r=>by rw[cD (nown c b r)];exact r) λc xs r=>by rw[cD (ntup c xs r)];exact r
   rcases hc with rfl|hc
   ·exact hbe
   ·rintro rfl
    rcases he with z|z
    ·exact nown c b hc z
    ·rw[hc]at z;cases z;exact hb rfl
end
structure Un(fs ex:List Addr)(H H':Hp)(h h':Heap):Prop where
 keep:∀b o,h.get? b=some o->H b=none->b ∉ fs->b ∉ ex->h'.get? b=some o
 slot:∀b o,h.get? b=some o->H b=none->b∈fs->b ∉ ex->∃sl,h'.get? b=some { o with slots:=sl }
 free:∀b o,h.get? b=some o->H b=none->b ∉ ex->H' b=none
 there:∀b o,h.get? b=some o->b ∉ ex->∃o',h'.get? b=some o'
 tups:∀b xs,H b=some (.tup xs)->H' b=some (.tup xs)
 frzs:∀b o u,H b=some (.frz o u)->H' b=some (.frz o u)
 tbls:∀b ps,H b=some (.tbl ps)->∃more,H' b=some (.tbl (ps++more))
section
variable {fs fs' ex ex':List Addr}{H H1 H2:Hp}{h h1 h2 h':Heap}{a x e:Addr}{o:HO}
theorem Un.any(u:Un fs ex H H1 h h1){b:Addr}{ob:Obj}(q:h.get? b=some ob)(n:H b=none)(hx:b ∉ ex):∃sl,h1.get? b=some { ob with slots:=sl }:=by
 by_cases hb:b∈fs
 ·exact u.slot b ob q n hb hx
 ·exact⟨ob.slots,u.keep b ob q n hb hx⟩
theorem Un.trans(a:Un fs ex H H1 h h1)(b:Un fs ex H1 H2 h1 h2):Un fs ex H H2 h h2 where
 keep:=λc ob q n hc hx=>b.keep c ob (a.keep c ob q n hc hx) (a.free c ob q n hx) hc hx
 slot:=λc ob q n hc hx=>by
  obtain⟨sl,e1⟩:=a.slot c ob q n hc hx;obtain⟨sl',e2⟩:=b.slot c _ e1 (a.free c ob q n hx) hc hx;exact⟨sl',e2⟩
 free:=λc ob q n hx=>by
  obtain⟨o',e1⟩:=a.there c ob q hx;exact b.free c o' e1 (a.free c ob q n hx) hx
 there:=λc ob q hx=>by
  obtain⟨o',e1⟩:=a.there c ob q hx;exact b.there c o' e1 hx
 tups:=λc xs q=>b.tups c xs (a.tups c xs q)
 frzs:=λc ob xs q=>b.frzs c ob xs (a.frzs c ob xs q)
 tbls:=λc ps q=>by
  obtain⟨m1,e1⟩:=a.tbls c ps q;obtain⟨m2,e2⟩:=b.tbls c _ e1;exact⟨m1++m2,by rw[e2,Array.append_assoc]⟩
theorem Un.kept(k:∀b u,h.get? b=some u->h'.get? b=some u):Un fs ex H H h h':=
 ⟨λb ob q _ _ _=>k b ob q,λb ob q _ _ _=>⟨ob.slots,k b ob q⟩,λ_ _ _ n _=>n,λb ob q _=>⟨ob,k b ob q⟩,λ_ _ q=>q,λ_ _ _ q=>q,λ_ ps q=>⟨#[],by rw[q];simp⟩⟩
theorem Un.refl:Un fs ex H H h h:=Un.kept λ_ _ q=>q
theorem Un.laid(k:∀b u,h.get? b=some u->h'.get? b=some u)(hp:h.objs.size<=a)(hn:H a=none):Un fs ex H (upd H a o) h h' where
 keep:=λb u q _ _ _=>k b u q
 slot:=λb u q _ _ _=>⟨u.slots,k b u q⟩
 free:=λb u q n _=>by rw[cD (ne_of_lt (lt_of_lt_of_le (lt_size q) hp))];exact n
 there:=λb u q _=>⟨u,k b u q⟩
 tups:=λb xs q=>by rw[cD (cA q hn)];exact q
 frzs:=λb u xs q=>by rw[cD (cA q hn)];exact q
 tbls:=λb ps q=>⟨#[],by rw[cD (cA q hn),q];simp⟩
theorem Un.write(mu:Hd (H x))(he:e=x\/H e=some (.own x))(k:∀b u,b≠e->h.get? b=some u->h'.get? b=some u)(heo:∃u,h'.get? e=some u):Un fs ex H (upd H x o) h h':=by
 have hx:∀b,H b=none->b≠x:=λb n z=>by subst z;rw[n]at mu;exact mu
 have hb:∀b,H b=none->b≠e:=λb n z=>by
  subst z;rcases he with r|r
  ·exact hx b n r
  ·rw[n]at r;cases r
 have hm:∀b u,H b=some u->¬Hd (some u)->b≠x:=λb u q nm z=>by subst z;rw[q]at mu;exact nm mu
 refine⟨λb u q n _ _=>k b u (hb b n) q,λb u q n _ _=>⟨u.slots,k b u (hb b n) q⟩,λb u q n _=>by rw[cD (hx b n)];exact n,λb u q _=>?_,
  λb xs q=>by rw[cD (hm b _ q λz=>z)];exact q,λb u xs q=>by rw[cD (hm b _ q λz=>z)];exact q,λb ps q=>⟨#[],by rw[cD (hm b _ q λz=>z),q];simp⟩⟩
 by_cases hbe:b=e
 ·subst hbe;exact heo
 ·exact⟨u,k b u hbe q⟩
end
def Bz(h:Heap)(H:Hp):List Addr:=(List.range h.objs.size).filter λa=>(H a).isSome
def rn(h:Heap)(H:Hp):Heap:=hideAll h (Bz h H)
theorem yp(h:Heap)(H:Hp):(rn h H).objs.size=h.objs.size:=PySem.W.hideAll_size _ _
theorem AE{h:Heap}{H:Hp}{b:Addr}{o:Obj}(e:h.get? b=some o)(n:H b=none):(rn h H).get? b=some o:=
 hideAll_get _ e λhm=>by
  have q:(H b).isSome=true:=(mem_filter.mp hm).2;rw[n]at q;simp at q
theorem Dd{h:Heap}{H:Hp}{b:Addr}{o:Obj}(e:(rn h H).get? b=some o):h.get? b=some o/\H b=none:=by
 have e':h.get? b=some o:=of_hideAll (Bz h H) e;refine⟨e',?_⟩;cases q:H b with
 |none=>rfl
 |some x=>
  have hm:b∈Bz h H:=mem_filter.mpr ⟨mem_range.mpr (lt_size e'),by simp[q]⟩;have z:(rn h H).get? b=none:=PySem.W.hideAll_none (Bz h H) hm;rw[z]at e;cases e
def BR(g h:Heap)(L:Addr):List (Addr×Obj):=(List.range h.objs.size).filterMap λa=>if a=L\/(g.get? a).isSome=true then none else(h.get? a).map λo=>(a,o)
def rest(g h:Heap)(L d:Addr):List (Addr×Obj):=(BR g h L).filter λp=>decide (p.1≠d)
end L2
namespace L2
open PySem PySem.Spec PyProof.Rows
structure Mod(K:PySem.W.Frag)(mg:Str->Option Value)(base:Heap):Prop where
 kin:K.In base
 glob:base.Ns mainGlobals mg
 blt:∃mb,base.Ns builtinsNs mb/\∀x:Str,x≠ "__name__" ->mb x=bootBuiltins x
 nolimit:base.NoLimit
structure Cx where
 prog:Program
 w:World
 K:PySem.W.Frag
 mg:Str->Option Value
 base:Heap
 A:Around
 N:List Str
 s₀:Shared
 H₀:Hp
 env:Env
 outer:List Env
 stack:List Env
 ex:List Addr
 fn:Str->Bool
 calm:Bool
 pn:List (Addr×Obj)
 xe:Value->Shared->Prop
def fX(l:List Env):List Addr:=l.filterMap (·.frame)
abbrev Cx.fs(X:Cx):List Addr:=fX X.outer
def KU(sc:Scope)(x:Str):Prop:=sc.names.lookup x=some .local\/sc.names.lookup x=some .cell\/sc.names.lookup x=some .free
def Loc(sc:Scope)(x:Str):Prop:=sc.names.lookup x=some .local\/sc.names.lookup x=some .cell
def Look(env:Env)(h:Heap)(m:Str->Option Value)(x:Str)(u:Value):Prop:=
 (env.kindOf x=some .local/\m x=some u)\/((env.kindOf x=some .cell\/env.kindOf x=some .free)/\∃c,env.cells.lookup x=some c/\h.IsCell c (some u))
structure Cx.Ok(X:Cx):Prop where
 mod:Mod X.K X.mg X.base
 kind:X.env.scope.kind=.function
 glob:X.env.globals=mainGlobals
 blt:X.env.builtins=builtinsNs
 above:X.s₀.heap.objs.size<=X.env.locals
 inj:∀x y c,X.env.cells.lookup x=some c->X.env.cells.lookup y=some c->x=y
 has:∀x,(X.env.kindOf x=some .cell\/X.env.kindOf x=some .free)->∃c,X.env.cells.lookup x=some c
 cab:∀x c,X.fn x=true->X.env.cells.lookup x=some c->X.s₀.heap.objs.size<=c
 hd:X.calm=true->X.A.handled=none
 frames:X.A.frames=some X.stack
 stk:X.stack=X.outer\/(X.stack=X.env::X.outer/\X.env.frame=some X.env.locals)
 exf:∀b∈X.ex,b≠X.env.locals/\∀x c,X.env.cells.lookup x=some c->c≠b
 bs:∀b o,X.base.get? b=some o->X.s₀.heap.get? b=some o/\X.H₀ b=none
 bsz:X.base.objs.size<=X.s₀.heap.objs.size
 noex:∀b o,X.base.get? b=some o->b ∉ X.ex
 exfs:∀b∈X.ex,b ∉ X.fs
 kZ:X.s₀.heap.FunFrames X.base X.outer
 frf:∀b∈X.fs,X.H₀ b=none
structure Inv(X:Cx)(pins:List (Addr×Obj))(σ:List (Option V))(H:Hp)(s:Shared):Prop where
 ok:X.Ok
 os:s.os=X.s₀.os
 bare:AllBare s.gens
 base:Un X.fs X.ex X.H₀ H X.s₀.heap s.heap
 loc:∃m,s.heap.Ns X.env.locals m/\∀(i:Nat) (x:Str) (v:V),X.N[i]? =some x->σ[i]? =some (some v)->KU X.env.scope x->∃u,RelV v u/\Look X.env s.heap m x u
 cell:∀x c,X.env.cells.lookup x=some c->∃v,s.heap.IsCell c v
 free:H X.env.locals=none
 freeC:∀x c,X.env.cells.lookup x=some c->H c=none
 pin:∀p∈X.pn++pins,s.heap.get? p.1=some p.2/\H p.1=none/\p.1≠X.env.locals/\p.1 ∉ X.fs/\∀v,p.2.data≠.cell v
 hok:gz X.prog X.w H s.heap
 len:σ.length=X.N.length
section
variable {X:Cx}{pins:List (Addr×Obj)}{σ:List (Option V)}{H H':Hp}{s:Shared}{h':Heap}
theorem Cx.Ok.Ke(ok:X.Ok){b:Addr}{o:Obj}(e:X.base.get? b=some o):b ∉ X.fs:=λhb=>by
 have:=(ok.kZ.mem hb).1;rw[e]at this;cases this
theorem Inv.bs(I:Inv X pins σ H s):∀b o,X.base.get? b=some o->s.heap.get? b=some o/\H b=none:=λb o e=>
 ⟨I.base.keep b o (I.ok.bs b o e).1 (I.ok.bs b o e).2 (I.ok.Ke e) (I.ok.noex b o e),I.base.free b o (I.ok.bs b o e).1 (I.ok.bs b o e).2 (I.ok.noex b o e)⟩
theorem Inv.bk(I:Inv X pins σ H s):∀b o,X.base.get? b=some o->s.heap.get? b=some o:=λb o e=>(I.bs b o e).1
theorem Inv.mod(I:Inv X pins σ H s):Mod X.K X.mg X.base:=I.ok.mod
theorem Inv.ip(I:Inv X pins σ H s):X.K.In s.heap:=I.ok.mod.kin.keeps I.bk
theorem Inv.lt(I:Inv X pins σ H s):X.env.locals < s.heap.objs.size:=let ⟨_,hn,_⟩:=I.loc;hn.lt
theorem Inv.sz(I:Inv X pins σ H s):X.s₀.heap.objs.size<=s.heap.objs.size:=le_trans I.ok.above (le_of_lt I.lt)
theorem Inv.Ks(I:Inv X pins σ H s){a:Addr}(h:s.heap.objs.size<=a):a ∉ X.fs:=λhb=>by
 obtain⟨_,o,ho,_⟩:=I.ok.kZ.mem hb;exact absurd (lt_of_lt_of_le (lt_size ho) (le_trans I.sz h)) (lt_irrefl _)
theorem Inv.Bo(I:Inv X pins σ H s):∀x c,X.env.cells.lookup x=some c->c≠X.env.locals:=λx c e z=>by
 obtain⟨v,o,ho,hd⟩:=I.cell x c e;obtain⟨m,⟨o',es,ep,ho',hd',_⟩,_⟩:=I.loc;rw[z,ho']at ho;cases ho;rw[hd']at hd;cases hd
theorem Inv.kZ(I:Inv X pins σ H s):s.heap.FunFrames X.base X.outer:=by
 have all:∀(l:List Env),(∀b∈fX l,b∈X.fs)->X.s₀.heap.FunFrames X.base l->s.heap.FunFrames X.base l:=by
  intro l
  induction l with
  |nil=>intro _ _;trivial
  |cons env r ih=>
   intro hs hl;obtain⟨hk,⟨L,o,hf,hn,ho,hd⟩,hr⟩:=hl;have hL:L∈X.fs:=hs L (by unfold fX;rw[List.filterMap_cons,hf];exact mem_cons_self);obtain⟨sl,e⟩:=I.base.slot L o ho (I.ok.frf L hL) hL λz=>I.ok.exfs L z hL;exact⟨hk,⟨L,_,hf,hn,e,hd⟩,ih (λb hb=>hs b (by unfold fX;rw[List.filterMap_cons,hf];exact mem_cons_of_mem _ hb)) hr⟩
 exact all X.outer (λ_ hb=>hb) I.ok.kZ
theorem Inv.stack(I:Inv X pins σ H s):s.heap.FunFrames X.base X.stack:=by
 rcases I.ok.stk with e|⟨e,hf⟩
 ·rw[e];exact I.kZ
 ·rw[e]
  obtain⟨m,hn,_⟩:=I.loc;refine .cons (by rw[I.ok.kind];decide) hf hn ?_ I.kZ;exact Heap.get?_none_of_le (le_trans I.ok.bsz I.ok.above)
theorem Inv.qM(I:Inv X pins σ H s):∀b∈fX X.stack,b∈X.env.locals::X.fs:=λb hb=>by
 rcases I.ok.stk with e|⟨e,hf⟩
 ·rw[e]at hb;exact mem_cons_of_mem _ hb
 ·rw[e]at hb
  unfold fX at hb;rw[List.filterMap_cons,hf]at hb;exact hb
theorem Inv.iD(I:Inv X pins σ H s):∀b∈fX X.stack,H b=none:=λb hb=>by
 rcases mem_cons.mp (I.qM b hb) with e|hb
 ·rw[e];exact I.free
 ·obtain⟨_,o,ho,_⟩:=I.ok.kZ.mem hb
  exact I.base.free b o ho (I.ok.frf b hb) λz=>I.ok.exfs b z hb
theorem Inv.step{g':Array GenState}{t':Nat}{d':Drawn}{ch:List Addr}(I:Inv X pins σ H s)
  (hch:∀b∈ch,(b∈X.ex\/X.s₀.heap.objs.size<=b)/\b≠X.env.locals/\(∀x c,X.env.cells.lookup x=some c->c≠b)/\∀p∈X.pn++pins,p.1≠b)
  (keep:∀b o,b≠X.env.locals->b ∉ X.fs->b ∉ ch->s.heap.get? b=some o->H b=none->h'.get? b=some o)
  (slot:∀b o,b≠X.env.locals->b∈X.fs->b ∉ ch->s.heap.get? b=some o->H b=none->∃sl,h'.get? b=some { o with slots:=sl })(free:∀b o,b ∉ ch->s.heap.get? b=some o->H b=none->H' b=none)
  (there:∀b o,b ∉ ch->s.heap.get? b=some o->∃o',h'.get? b=some o')
  (tups:∀b xs,H b=some (.tup xs)->H' b=some (.tup xs))(frzs:∀b o u,H b=some (.frz o u)->H' b=some (.frz o u))(tbls:∀b ps,H b=some (.tbl ps)->∃more,H' b=some (.tbl (ps++more)))
  (ns:∀m,s.heap.Ns X.env.locals m->h'.Ns X.env.locals m)(hok:gz X.prog X.w H' h')(hg:AllBare g'):
  Inv X pins σ H' { s with heap:=h',gens:=g',drawn:=d',toks:=t' }:=by
 have neL:∀b o,X.s₀.heap.get? b=some o->b≠X.env.locals:=λb o e=>ne_of_lt (lt_of_lt_of_le (lt_size e) I.ok.above);have neC:∀b o,X.s₀.heap.get? b=some o->b ∉ X.ex->b ∉ ch:=λb o e hx hb=>by
  rcases (hch b hb).1 with z|z
  ·exact hx z
  ·exact absurd (lt_of_lt_of_le (lt_size e) z) (lt_irrefl _)
 have cellK:∀x c,X.env.cells.lookup x=some c->∀v,s.heap.IsCell c v->h'.IsCell c v:=λx c e v ⟨o,ho,hd⟩=>by
  have nch:c ∉ ch:=λz=>(hch c z).2.2.1 x c e rfl;by_cases hc:c∈X.fs
  ·obtain⟨sl,q⟩:=slot c o (I.Bo x c e) hc nch ho (I.freeC x c e)
   exact⟨_,q,hd⟩
  ·exact⟨o,keep c o (I.Bo x c e) hc nch ho (I.freeC x c e),hd⟩
 refine⟨I.ok,I.os,hg,⟨λb o e n hb hx=>?_,λb o e n hb hx=>?_,λb o e n hx=>?_,λb o e hx=>?_,λb xs e=>tups b xs (I.base.tups b xs e),λb o xs e=>frzs b o xs (I.base.frzs b o xs e),λb ps e=>?_⟩,?_,λx c e=>?_,?_,λx c e=>?_,λp hp=>?_,hok,I.len⟩
 ·exact keep b o (neL b o e) hb (neC b o e hx) (I.base.keep b o e n hb hx) (I.base.free b o e n hx)
 ·obtain⟨sl,e1⟩:=I.base.slot b o e n hb hx
  obtain⟨sl',e2⟩:=slot b _ (neL b o e) hb (neC b o e hx) e1 (I.base.free b o e n hx);exact⟨sl',e2⟩
 ·obtain⟨o',e1⟩:=I.base.there b o e hx
  exact free b o' (neC b o e hx) e1 (I.base.free b o e n hx)
 ·obtain⟨o',e1⟩:=I.base.there b o e hx
  exact there b o' (neC b o e hx) e1
 ·obtain⟨m1,e1⟩:=I.base.tbls b ps e
  obtain⟨m2,e2⟩:=tbls b _ e1;exact⟨m1++m2,by rw[e2,Array.append_assoc]⟩
 ·obtain⟨m,hn,hl⟩:=I.loc
  refine⟨m,ns m hn,λi x v e1 e2 e3=>?_⟩;obtain⟨u,r,l⟩:=hl i x v e1 e2 e3;refine⟨u,r,?_⟩;rcases l with l|⟨k,c,e,z⟩
  ·exact .inl l
  ·exact .inr ⟨k,c,e,cellK x c e _ z⟩
 ·obtain⟨v,z⟩:=I.cell x c e
  exact⟨v,cellK x c e v z⟩
 ·obtain⟨m,⟨o,_,_,ho,_⟩,_⟩:=I.loc
  exact free _ o (λz=>(hch _ z).2.1 rfl) ho I.free
 ·obtain⟨v,o,ho,hd⟩:=I.cell x c e
  exact free c o (λz=>(hch c z).2.2.1 x c e rfl) ho (I.freeC x c e)
 ·obtain⟨e,n,ne,nf,d⟩:=I.pin p hp
  have nch:p.1 ∉ ch:=λz=>(hch p.1 z).2.2.2 p hp rfl;exact⟨keep p.1 p.2 ne nf nch e n,free p.1 p.2 nch e n,ne,nf,d⟩
theorem Inv.un{t':Nat}(I:Inv X pins σ H s)(u:Un X.fs [] H H' s.heap h')(hok:gz X.prog X.w H' h'):Inv X pins σ H' { s with heap:=h',toks:=t' }:=by
 obtain⟨m,⟨o,es,ep,ho,r⟩,_⟩:=id I.loc;obtain⟨sl,hL⟩:=u.any ho I.free (by simp);exact I.step (g':=s.gens) (d':=s.drawn) (ch:=[]) (λ_ z=>nomatch z) (λb o _ hb _ e n=>u.keep b o e n hb (by simp)) (λb o _ hb _ e n=>u.slot b o e n hb (by simp)) (λb o _ e n=>u.free b o e n (by simp)) (λb o _ e=>u.there b o e (by simp)) u.tups u.frzs u.tbls (λm' hm=>by
  obtain⟨o',es',ep',ho',r'⟩:=hm;rw[ho]at ho';cases ho';exact⟨_,es',ep',hL,r'⟩) hok I.bare
theorem Inv.call{g':Array GenState}{t':Nat}{d':Drawn}{ch:List Addr}(I:Inv X pins σ H s)(u:Un (fX X.stack) ch H H' s.heap h')(hok:gz X.prog X.w H' h')(hg:AllBare g')
  (hch:∀b∈ch,(b∈X.ex\/X.s₀.heap.objs.size<=b)/\b≠X.env.locals/\(∀x c,X.env.cells.lookup x=some c->c≠b)/\∀p∈X.pn++pins,p.1≠b):
  Inv X pins σ H' { s with heap:=h',gens:=g',drawn:=d',toks:=t' }:=by
 obtain⟨m,⟨o,es,ep,ho,r⟩,_⟩:=id I.loc;obtain⟨sl,hL⟩:=u.any ho I.free λz=>(hch _ z).2.1 rfl;exact I.step (ch:=ch) hch (λb o hL hb hc e n=>u.keep b o e n (λz=>(mem_cons.mp (I.qM b z)).elim hL hb) hc) (λb o _ _ hc e n=>u.any e n hc) (λb o hc e n=>u.free b o e n hc) (λb o hc e=>u.there b o e hc) u.tups u.frzs u.tbls (λm' hm=>by
  obtain⟨o',es',ep',ho',r'⟩:=hm;rw[ho]at ho';cases ho';exact⟨_,es',ep',hL,r'⟩) hok hg
theorem Inv.turned{t':Nat}{it:Addr}(I:Inv X pins σ H s)(k:∀b o,b≠it->s.heap.get? b=some o->h'.get? b=some o)(hn:H it=none)(hL:it≠X.env.locals)
  (h1:it∈X.ex\/X.s₀.heap.objs.size<=it)(h2:∀x c,X.env.cells.lookup x=some c->c≠it)(h3:∀p∈X.pn++pins,p.1≠it):Inv X pins σ H { s with heap:=h',toks:=t' }:=by
 have nit:∀b u,H b=some u->b≠it:=λb u e z=>by rw[z,hn]at e;cases e
 refine I.step (g':=s.gens) (d':=s.drawn) (ch:=[it]) (λb hb=>?_) (λb o _ _ hc e _=>k b o (λz=>hc (by simp[z])) e) (λb o _ _ hc e _=>⟨o.slots,k b o (λz=>hc (by simp[z])) e⟩) (λ_ _ _ _ n=>n)
  (λb o hc e=>⟨o,k b o (λz=>hc (by simp[z])) e⟩) (λ_ _ e=>e) (λ_ _ _ e=>e) (λb ps e=>⟨#[],by rw[e];simp⟩) (λm hm=>?_) (λb u e=>?_) I.bare
 ·have e:b=it:=by simpa using hb
  subst e;exact⟨h1,hL,h2,h3⟩
 ·obtain⟨o,es,ep,ho,r⟩:=hm
  exact⟨o,es,ep,k _ o (Ne.symm hL) ho,r⟩
 ·refine(I.hok b u e).fB (λc v hc q=>k c v ?_ q) (λ_ q=>q) λ_ _ q=>q
  rcases hc with z|z
  ·rw[z];exact nit b u e
  ·exact nit c _ z
theorem Inv.tok(I:Inv X pins σ H s)(t:Nat):Inv X pins σ H { s with toks:=t }:=I.un (h':=s.heap) (t':=t) Un.refl I.hok
theorem Inv.kept{t':Nat}(I:Inv X pins σ H s)(k:∀b u,s.heap.get? b=some u->h'.get? b=some u):Inv X pins σ H { s with heap:=h',toks:=t' }:=I.un (Un.kept k) (I.hok.kept k)
theorem Inv.laid{a:Addr}{o:HO}{t':Nat}(I:Inv X pins σ H s)(k:∀b u,s.heap.get? b=some u->h'.get? b=some u)(hp:s.heap.objs.size<=a)(new:cZ X.prog X.w (upd H a o) h' a o):
  Inv X pins σ (upd H a o) { s with heap:=h',toks:=t' }:=I.un (Un.laid k hp (I.hok.fresh hp)) (I.hok.laid k hp new)
theorem Inv.write{x e:Addr}{o:HO}{t':Nat}(I:Inv X pins σ H s)(mu:Hd (H x))(he:e=x\/H e=some (.own x))(k:∀b u,b≠e->s.heap.get? b=some u->h'.get? b=some u)(heo:∃u,h'.get? e=some u)
  (new:cZ X.prog X.w (upd H x o) h' x o):Inv X pins σ (upd H x o) { s with heap:=h',toks:=t' }:=I.un (Un.write mu he k heo) (I.hok.write mu he k heo new)
theorem Inv.xq{pins':List (Addr×Obj)}(I:Inv X pins σ H s)(h:∀p∈pins',s.heap.get? p.1=some p.2/\H p.1=none/\p.1≠X.env.locals/\p.1 ∉ X.fs/\∀v,p.2.data≠.cell v):Inv X pins' σ H s:=
 ⟨I.ok,I.os,I.bare,I.base,I.loc,I.cell,I.free,I.freeC,λp hp=>(mem_append.mp hp).elim (λz=>I.pin p (mem_append_left _ z)) (h p),I.hok,I.len⟩
theorem oS{N:List Str}(hN:N.Nodup){i j:Nat}{x:Str}(a:N[i]? =some x)(b:N[j]? =some x):i=j:=by
 obtain⟨h1,e1⟩:=List.getElem?_eq_some_iff.mp a;obtain⟨h2,e2⟩:=List.getElem?_eq_some_iff.mp b;exact(List.getElem_inj hN).mp (e1.trans e2.symm)
theorem yi{M:Model}{A:Around}{E:Value->Shared->Prop}{i:Nat}{x:Str}{v:V}{u:Value}{Q:Unit->Shared->Prop}(I:Inv X pins σ H s)(hN:X.N.Nodup)(hi:X.N[i]? =some x)(hx:Loc X.env.scope x)(r:RelV v u)
  (h:∀s',Inv X pins (σ.set i (some v)) H s'->(∃a,Heap.SameBut a s.heap s'.heap/\(a=X.env.locals\/X.env.cells.lookup x=some a))->Q () s')(hf:X.fn x=true\/X.env.scope.names.lookup x=some .local:=by first|exact .inl rfl|exact .inr rfl|assumption):wpAny M A (storeName X.env x u) Q E s:=by
 obtain⟨m,hn,hl⟩:=id I.loc;have hcls:(X.env.scope.kind == .class || (X.env.scope.kind == .module && X.env.locals != X.env.globals))=false:=by rw[I.ok.kind];rfl
 have hiσ:i < σ.length:=by rw[I.len];exact(List.getElem?_eq_some_iff.mp hi).1
 have Bo:=I.Bo;have tracked:∀{a:Addr}{h':Heap},(∃o,s.heap.get? a=some o/\H a=none)->Heap.SameBut a s.heap h'->gz X.prog X.w H h':=λ{a h'} ha hs b ob e=>by
  obtain⟨_,_,hfree⟩:=ha;refine(I.hok b ob e).fB (λc w' hc q=>(hs.2 c ?_).trans q) (λ_ q=>q) λ_ _ q=>q;rintro rfl;rcases hc with rfl|hc
  ·rw[hfree]at e;cases e
  ·rw[hfree]at hc;cases hc
 rcases hx with hk|hk
 ·refine wpAny_storeName_local hk hn (λh' hn' hs=>?_) hcls
  obtain⟨oL,_,_,hoL,_⟩:=id hn;refine h _ ⟨I.ok,I.os,I.bare,⟨λb o e n hb hx=>?_,λb o e n hb hx=>?_,I.base.free,λb o e hx=>?_,I.base.tups,I.base.frzs,I.base.tbls⟩,⟨_,hn',λj y v' e1 e2 e3=>?_⟩,λy c e=>?_,I.free,I.freeC,λp hp=>?_,tracked ⟨oL,hoL,I.free⟩ hs,by simpa using I.len⟩ ⟨_,hs,.inl rfl⟩
  ·exact(hs.2 b (ne_of_lt (lt_of_lt_of_le (lt_size e) I.ok.above))).trans (I.base.keep b o e n hb hx)
  ·obtain⟨sl,e1⟩:=I.base.slot b o e n hb hx
   exact⟨sl,(hs.2 b (ne_of_lt (lt_of_lt_of_le (lt_size e) I.ok.above))).trans e1⟩
  ·obtain⟨o',e1⟩:=I.base.there b o e hx
   exact⟨o',(hs.2 b (ne_of_lt (lt_of_lt_of_le (lt_size e) I.ok.above))).trans e1⟩
  ·by_cases hj:j=i
   ·subst hj
    rw[hi]at e1;cases e1;rw[getElem?_set_self hiσ]at e2;cases e2;exact⟨u,r,.inl ⟨hk,by simp⟩⟩
   ·rw[List.getElem?_set_ne (Ne.symm hj)]at e2
    obtain⟨u',r',q⟩:=hl j y v' e1 e2 e3;refine⟨u',r',?_⟩;rcases q with ⟨k,e⟩|⟨k,c,e,z⟩
    ·refine .inl ⟨k,?_⟩
     have:y≠x:=λe=>hj (oS hN e1 (e ▸ hi));simp[this,e]
    ·exact .inr ⟨k,c,e,z.sameBut hs (Bo y c e)⟩
  ·obtain⟨w',z⟩:=I.cell y c e
   exact⟨w',z.sameBut hs (Bo y c e)⟩
  ·obtain⟨e,n,ne,nf,d⟩:=I.pin p hp
   exact⟨(hs.2 p.1 ne).trans e,n,ne,nf,d⟩
 ·have hfn:X.fn x=true:=by
   rcases hf with z|z
   ·exact z
   ·rw[z]at hk;cases hk
  obtain⟨c,hc⟩:=I.ok.has x (.inl hk);obtain⟨w',z⟩:=I.cell x c hc;refine wpAny_storeName_cell I.ok.kind hk hc z (λh' hc' hs=>?_);obtain⟨oc,hoc,hocd⟩:=id z;refine h { s with heap:=h' } ⟨I.ok,I.os,I.bare,⟨λb o e n hb hx=>?_,λb o e n hb hx=>?_,I.base.free,λb o e hx=>?_,I.base.tups,I.base.frzs,I.base.tbls⟩,⟨m,hn.sameBut hs (Ne.symm (Bo x c hc)),λj y v' e1 e2 e3=>?_⟩,λy c' e=>?_,I.free,I.freeC,λp hp=>?_,tracked ⟨oc,hoc,I.freeC x c hc⟩ hs,by simpa using I.len⟩ ⟨c,hs,.inr hc⟩
  ·exact(hs.2 b (ne_of_lt (lt_of_lt_of_le (lt_size e) (I.ok.cab x c hfn hc)))).trans (I.base.keep b o e n hb hx)
  ·obtain⟨sl,e1⟩:=I.base.slot b o e n hb hx
   exact⟨sl,(hs.2 b (ne_of_lt (lt_of_lt_of_le (lt_size e) (I.ok.cab x c hfn hc)))).trans e1⟩
  ·obtain⟨o',e1⟩:=I.base.there b o e hx
   exact⟨o',(hs.2 b (ne_of_lt (lt_of_lt_of_le (lt_size e) (I.ok.cab x c hfn hc)))).trans e1⟩
  ·by_cases hj:j=i
   ·subst hj
    rw[hi]at e1;cases e1;rw[getElem?_set_self hiσ]at e2;cases e2;exact⟨u,r,.inr ⟨.inl hk,c,hc,hc'⟩⟩
   ·rw[List.getElem?_set_ne (Ne.symm hj)]at e2
    obtain⟨u',r',q⟩:=hl j y v' e1 e2 e3;refine⟨u',r',?_⟩;rcases q with q|⟨k,c',e,z'⟩
    ·exact .inl q
    ·refine .inr ⟨k,c',e,z'.sameBut hs ?_⟩
     rintro rfl;exact hj (oS hN e1 (I.ok.inj _ _ _ e hc ▸ hi))
  ·by_cases hcc:c'=c
   ·subst hcc;exact⟨_,hc'⟩
   ·obtain⟨w2,z2⟩:=I.cell y c' e
    exact⟨w2,z2.sameBut hs hcc⟩
  ·obtain⟨e,n,ne,nf,d⟩:=I.pin p hp
   refine⟨(hs.2 p.1 ?_).trans e,n,ne,nf,d⟩;intro q;rw[q,hoc]at e;have q':oc=p.2:=Option.some.inj e;exact d w' (by rw[<-q'];exact hocd)
theorem kG{M:Model}{A:Around}{E:Value->Shared->Prop}{i:Nat}{x:Str}{v:V}{u:Value}{Q:Unit->Shared->Prop}(I:Inv X pins σ H s)(hN:X.N.Nodup)(hi:X.N[i]? =some x)(hx:Loc X.env.scope x)(r:RelV v u)
  (h:∀s',Inv X pins (σ.set i (some v)) H s'->Q () s')(hf:X.fn x=true\/X.env.scope.names.lookup x=some .local:=by first|exact .inl rfl|exact .inr rfl|assumption):wpAny M A (storeName X.env x u) Q E s:=
 yi I hN hi hx r (λs' I' _=>h s' I') hf
theorem Inv.qr{s':Shared}{ch:List Addr}(I:Inv X pins σ H s)(ho:s'.os=s.os)(u:Un (fX X.stack) ch H H' s.heap s'.heap)(hok:gz X.prog X.w H' s'.heap)(hg:AllBare s'.gens)
  (hch:∀b∈ch,(b∈X.ex\/X.s₀.heap.objs.size<=b)/\b≠X.env.locals/\(∀x c,X.env.cells.lookup x=some c->c≠b)/\∀p∈X.pn++pins,p.1≠b):Inv X pins σ H' s':=by
 obtain⟨h',g',d',t',o'⟩:=s';have e:o'=s.os:=ho;subst e;exact I.call (g':=g') (t':=t') (d':=d') u hok hg hch
end
abbrev XK:=Value->Option Addr->Hp->Prop
abbrev St:=List (Option V)
abbrev VK:=V->Hp->Prop
abbrev TE:=St->Hp->VK->Prop
abbrev TT:=St->Hp->(Bool->Hp->Prop)->Prop
abbrev TA:=St->Hp->(List V->Hp->Prop)->Prop
structure Ends where
 nx:St->Hp->Prop
 rt:VK
 bk:St->Hp->Prop:=λ_ _=>False
 ct:St->Hp->Prop:=λ_ _=>False
abbrev TS:=Ends->St->Hp->Prop
inductive EP(X:Cx)(pins:List (Addr×Obj))(σ:St)(Q:VK)(u:Value)(s':Shared):Prop
 |mk(v:V)(H':Hp)(I:Inv X pins σ H' s')(r:RelV v u)(q:Q v H')
inductive TP(X:Cx)(pins:List (Addr×Obj))(σ:St)(Q:Bool->Hp->Prop)(b:Bool)(s':Shared):Prop
 |mk(H':Hp)(I:Inv X pins σ H' s')(q:Q b H')
inductive AP(X:Cx)(pins:List (Addr×Obj))(σ:St)(Q:List V->Hp->Prop)(us:List Value)(s':Shared):Prop
 |mk(vs:List V)(H':Hp)(I:Inv X pins σ H' s')(r:Vals vs us)(q:Q vs H')
inductive SN(X:Cx)(pins:List (Addr×Obj))(k:St->Hp->Prop)(s':Shared):Prop
 |mk(σ':St)(H':Hp)(I:Inv X pins σ' H' s')(q:k σ' H')
def SP(X:Cx)(pins:List (Addr×Obj))(D:Ends)(f:Flow)(s':Shared):Prop:=
 match f with
 |.next=>SN X pins D.nx s'
 |.brk=>SN X pins D.bk s'
 |.cont=>SN X pins D.ct s'
 |.ret u=>∃v σ' H',Inv X pins σ' H' s'/\RelV v u/\D.rt v H'
def PE(X:Cx)(e:Expr)(t:TE):Prop:=
 ∀(pins:List (Addr×Obj)) (s:Shared) (σ:St) (H:Hp) (Q:VK),Inv X pins σ H s->t σ H Q->wpAny (model X.prog X.w) X.A (eval e X.env) (EP X pins σ Q) X.xe s
def PT(X:Cx)(e:Expr)(t:TT):Prop:=
 ∀(pins:List (Addr×Obj)) (s:Shared) (σ:St) (H:Hp) (Q:Bool->Hp->Prop),Inv X pins σ H s->t σ H Q->wpAny (model X.prog X.w) X.A (isTrue e X.env (eval e X.env)) (TP X pins σ Q) X.xe s
def PW(X:Cx)(e:Expr)(t:TT):Prop:=
 ∀(whole:Sem Value) (pins:List (Addr×Obj)) (s:Shared) (σ:St) (H:Hp) (Q:Bool->Hp->Prop),Inv X pins σ H s->t σ H Q->wpAny (model X.prog X.w) X.A (isTrue e X.env whole) (TP X pins σ Q) X.xe s
theorem PW.pt{X:Cx}{e:Expr}{t:TT}(h:PW X e t):PT X e t:=h _
def PA(X:Cx)(es:List Expr)(t:TA):Prop:=
 ∀(pos:Pos) (pins:List (Addr×Obj)) (s:Shared) (σ:St) (H:Hp) (Q:List V->Hp->Prop),Inv X pins σ H s->t σ H Q->wpAny (model X.prog X.w) X.A (spliced (backTo pos (starEach es X.env))) (AP X pins σ Q) X.xe s
def PS(X:Cx)(st:Stmt)(t:TS):Prop:=
 ∀(pins:List (Addr×Obj)) (s:Shared) (σ:St) (H:Hp) (D:Ends),Inv X pins σ H s->t D σ H->wpAny (model X.prog X.w) X.A (exec st X.env) (SP X pins D) X.xe s
def vT(X:Cx)(st:List Stmt)(t:TS):Prop:=
 ∀(pins:List (Addr×Obj)) (s:Shared) (σ:St) (H:Hp) (D:Ends),Inv X pins σ H s->t D σ H->wpAny (model X.prog X.w) X.A (execs st X.env) (SP X pins D) X.xe s
theorem cY{α:Type}{t:Sem α}{Q Q':α->Shared->Prop}{M:Model}{A:Around}{E:Value->Shared->Prop}{s:Shared}(h:wpAny M A t Q E s)(hQ:∀a s,Q a s->Q' a s):wpAny M A t Q' E s:=wpAny_mono h hQ λ_ _ x=>x
end L2
namespace L2
open PySem PySem.Spec PyProof.Rows
section
variable {X:Cx}
inductive KZ(i:Nat)(σ:St)(H:Hp)(Q:VK):Prop
 |mk(v:V)(h:σ[i]? =some (some v))(q:Q v H)
def kJ(i:Nat):TE:=λσ H Q=>KZ i σ H Q
inductive HH(x:V)(H:Hp)(Q:Bool->Hp->Prop):Prop
 |mk(c:Bool)(h:x=.bl c)(q:Q c H)
def tC(v:V):TE:=λ_ H Q=>Q v H
theorem mE {i:Nat}{x:Str}{pos:Pos}(hN:X.N[i]? =some x) (hv:KU X.env.scope x) (hd:(x == ("__debug__" :Str))=false:=by decide) (hcd:(x == ("__classdict__" :Str))=false:=by decide):PE X (.Name x pos) (kJ i):=by
 intro pins s σ H Q I h;obtain⟨v,e,h⟩:=h;obtain⟨m,hn,hl⟩:=I.loc;obtain⟨u,r,l⟩:=hl i x v hN e hv;have fin:EP X pins σ Q u s:=⟨v,H,I,r,h⟩;rcases l with ⟨hk,hm⟩|⟨hk,c,hc,hcell⟩
 ·exact wpAny_Name (wpAny_loadName_local I.ok.kind hk hn hm fin) hd
 ·rcases hk with hk|hk
  ·exact wpAny_Name (wpAny_loadName_cell I.ok.kind hk hc hcell fin) hd
  ·exact wpAny_Name (wpAny_loadName_free I.ok.kind hk hc hcell fin hcd) hd
theorem mK{i j pos}:PE X (.Constant (.int i) j pos) (tC (.int i)):=λ_ _ _ H _ I h=>wpAny_Constant_int ⟨.int i,H,I.tok _,⟨_,rfl⟩,h⟩
theorem DE{b j pos}:PE X (.Constant (.bool b) j pos) (tC (.bl b)):=λ_ _ _ H _ I h=>Constant_bool ⟨.bl b,H,I,rfl,h⟩
theorem E7{j pos}:PE X (.Constant .none j pos) (tC .non):=λ_ _ _ H _ I h=>Constant_none ⟨.non,H,I,rfl,h⟩
theorem vM{x j pos}:PE X (.Constant (.str x) j pos) (tC (.str x)):=λ_ _ _ H _ I h=>Calls.Constant_str ⟨.str x,H,I.tok _,⟨_,rfl⟩,h⟩
def Gl(X:Cx)(x:Str):Prop:=X.env.kindOf x=some .globalImplicit
theorem iz{E:Value->Shared->Prop}{pins:List (Addr×Obj)}{s:Shared}{σ:St}{H:Hp}{x:Str}{u:Value}{pos:Pos}{Q:Value->Shared->Prop}(I:Inv X pins σ H s)(hg:Gl X x)(hm:X.mg x=some u)(h:Q u s)
  (hd:(x == ("__debug__" :Str))=false:=by decide):wpAny (model X.prog X.w) X.A (eval (.Name x pos) X.env) Q E s:=
 Calls.Name_function_global I.ok.kind hg (Calls.loadGlobal_global (by rw[I.ok.glob];exact I.mod.glob.keeps I.bk) hm h) hd
theorem lQ{E:Value->Shared->Prop}{pins:List (Addr×Obj)}{s:Shared}{σ:St}{H:Hp}{x:Str}{u:Value}{pos:Pos}{Q:Value->Shared->Prop}(I:Inv X pins σ H s)(hg:Gl X x)(hm:X.mg x=none)(hv:bootBuiltins x=some u)(h:Q u s)
  (hn:x≠ "__name__" :=by decide) (hd:(x == ("__debug__" :Str))=false:=by decide):wpAny (model X.prog X.w) X.A (eval (.Name x pos) X.env) Q E s:=by
 obtain⟨mb,h1,h2⟩:=I.mod.blt;exact Calls.Name_function_global I.ok.kind hg (Calls.loadGlobal_builtin (by rw[I.ok.glob];exact I.mod.glob.keeps I.bk) hm (by rw[I.ok.blt];exact h1.keeps I.bk) ((h2 x hn).trans hv) h) hd
theorem lG {x:Str}{v:V}{u:Value}{pos:Pos}(hg:Gl X x) (hm:X.mg x=some u) (r:RelV v u) (hd:(x == ("__debug__" :Str))=false:=by decide):PE X (.Name x pos) (tC v):=
 λ_ _ _ H _ I h=>iz I hg hm ⟨v,H,I,r,h⟩ hd
theorem nj {x:Str}{v:V}{u:Value}{pos:Pos}(hg:Gl X x) (hm:X.mg x=none) (hv:bootBuiltins x=some u) (r:RelV v u) (hn:x≠ "__name__" :=by decide) (hd:(x == ("__debug__" :Str))=false:=by decide):PE X (.Name x pos) (tC v):=
 λ_ _ _ H _ I h=>lQ I hg hm hv ⟨v,H,I,r,h⟩ hn hd
def JD(ta tb:TE)(k:Int->Int->Hp->Prop):St->Hp->Prop:=λσ H=>ta σ H λx H1=>tb σ H1 λy H2=>∃i j,x=.int i/\y=.int j/\k i j H2
def ML(ta tb:TE):TE:=λσ H Q=>JD ta tb (λi j H2=>Q (.int (i+j)) H2) σ H
def L5(ta tb:TE):TE:=λσ H Q=>JD ta tb (λi j H2=>Q (.int (i - j)) H2) σ H
def Mc(ta tb:TE):TE:=λσ H Q=>JD ta tb (λi j H2=>(-(2 ^ 64) < i/\i < 2 ^ 64)/\Q (.int (i * j)) H2) σ H
variable {a b:Expr}{ta tb:TE}{pos:Pos}
def PC(X:Cx)(op:CmpOp)(a b:Expr)(t:TE):Prop:=
 ∀(pins:List (Addr×Obj)) (s:Shared) (σ:St) (H:Hp) (Q:VK),Inv X pins σ H s->t σ H Q->
  wpAny (model X.prog X.w) X.A (eval a X.env) (λv s₁=>wpAny (model X.prog X.w) X.A (eval b X.env) (λu s₂=>wpAny (model X.prog X.w) X.A (compareOp op v u) (EP X pins σ Q) X.xe s₂) X.xe s₁) X.xe s
theorem oB(b:Expr){op:CmpOp}(h:op≠.In)(h2:op≠.NotIn):behindInMarks op b=false:=by
 have e1:(op == CmpOp.In)=false:=by cases op<;>first|rfl|exact absurd rfl h
 have e2:(op == CmpOp.NotIn)=false:=by cases op<;>first|rfl|exact absurd rfl h2
 cases b<;>simp[behindInMarks,e1,e2]
def yS(p:Int->Int->Bool)(ta tb:TE):TE:=λσ H Q=>JD ta tb (λi j H2=>Q (.bl (p i j)) H2) σ H
abbrev M6:TE->TE->TE:=yS λi j=>decide (i < j)
abbrev Nc:TE->TE->TE:=yS λi j=>decide (i<=j)
abbrev M9:TE->TE->TE:=yS λi j=>decide (j < i)
abbrev M0:TE->TE->TE:=yS λi j=>decide (j<=i)
abbrev MX:TE->TE->TE:=yS λi j=>decide (i=j)
abbrev ME:TE->TE->TE:=yS λi j=> !decide (i=j)
def MY(ta:TE):TE:=λσ H Q=>ta σ H λx H1=>Q (.bl (decide (x=.non))) H1
def LA(ta:TE):TE:=λσ H Q=>ta σ H λx H1=>Q (.bl (!decide (x=.non))) H1
def tB(t:TE):TT:=λσ H Q=>t σ H λx H1=>HH x H1 Q
theorem zh{op:CmpOp}{t:TE}(h:PC X op a b t)(h1:behindInMarks op b=false:=by first|exact oB _ (by decide) (by decide)|rfl):PE X (.Compare a [op] [b] pos) t:=λpins s σ H Q I hw=>wpAny_Compare1 (h pins s σ H Q I hw) h1
theorem Bp{op:CmpOp}{t:TE}(h:PC X op a b t)(h1:behindInMarks op b=false:=by first|exact oB _ (by decide) (by decide)|rfl):PT X (.Compare a [op] [b] pos) (tB t):=by
 intro pins s σ H Q I hw;refine wpAny_isTrue_Compare1 (cY (h pins s σ H _ I hw) λv s1 h1=>cY h1 λu s2 h2=>cY h2 λc s3 hpat=>?_) h1;obtain⟨x,H1,I1,r1,q1⟩:=hpat;obtain⟨d,rfl,q⟩:=q1;cases r1;exact wpAny_truthy_bool ⟨H1,I1,q⟩
theorem u4{e:Expr}{t:TE}(h:PE X e t)(he:∀whole,isTrue e X.env whole=(do let v <-whole;standAt e.pos;holding [v] (truthy v)):=by intro _;rfl):PT X e (tB t):=by
 intro pins s σ H Q I hw;refine isTrue_plain (cY (h pins s σ H _ I hw) λv s1 hpat=>?_) (he _);obtain⟨x,H1,I1,r1,q1⟩:=hpat;obtain⟨d,rfl,q⟩:=q1;cases r1;exact wpAny_truthy_bool ⟨H1,I1,q⟩
variable {tA tB':TT}{rest:List Expr}
def HS(t u:TT):TT:=λσ H Q=>t σ H λc H1=>if c=true then u σ H1 Q else Q false H1
def LO(t u:TT):TT:=λσ H Q=>t σ H λc H1=>if c=true then Q true H1 else u σ H1 Q
def IJ(t:TT):TT:=λσ H Q=>t σ H λc H1=>Q (!c) H1
theorem Dj(ha:PT X a tA):PW X (.BoolOp .And [a] pos) tA:=by
 intro wh pins s σ H Q I h;refine isTrue_and (cY (ha pins s σ H Q I h) λc s1 e=>?_);cases c with
 |true=>exact isTrue_and_nil e
 |false=>exact e
theorem Ak(ha:PT X a tA):PW X (.BoolOp .Or [a] pos) tA:=by
 intro wh pins s σ H Q I h;refine isTrue_or (cY (ha pins s σ H Q I h) λc s1 e=>?_);cases c with
 |false=>exact isTrue_or_nil e
 |true=>exact e
theorem FO(ha:PT X a tA)(hb:PW X (.BoolOp .And (b::rest) pos) tB'):PW X (.BoolOp .And (a::b::rest) pos) (HS tA tB'):=by
 intro wh pins s σ H Q I h;refine isTrue_and (cY (ha pins s σ H _ I h) λc s1 ⟨H1,I1,q1⟩=>?_);cases c with
 |true=>exact hb wh pins s1 σ H1 Q I1 q1
 |false=>exact⟨H1,I1,q1⟩
theorem D0(ha:PT X a tA)(hb:PW X (.BoolOp .Or (b::rest) pos) tB'):PW X (.BoolOp .Or (a::b::rest) pos) (LO tA tB'):=by
 intro wh pins s σ H Q I h;refine isTrue_or (cY (ha pins s σ H _ I h) λc s1 ⟨H1,I1,q1⟩=>?_);cases c with
 |true=>exact⟨H1,I1,q1⟩
 |false=>exact hb wh pins s1 σ H1 Q I1 q1
theorem vn(ha:PT X a tA):PT X (.UnaryOp .Not a pos) (IJ tA):=by
 intro pins s σ H Q I h;exact isTrue_not (cY (ha pins s σ H (λc H1=>Q (!c) H1) I h) λc s1 q=>q.casesOn λH1 I1 q1=>⟨H1,I1,q1⟩)
def Dx(ta tb:TE):TE:=λσ H Q=>ta σ H λx H1=>HH x H1 λc H2=>if c=true then tb σ H2 Q else Q (.bl false) H2
def C6(ta tb:TE):TE:=λσ H Q=>ta σ H λx H1=>HH x H1 λc H2=>if c=true then Q (.bl true) H2 else tb σ H2 Q
def DQ(ta:TE):TE:=λσ H Q=>ta σ H λx H1=>HH x H1 λc H2=>Q (.bl (!c)) H2
theorem rm{op}{t:TE}(h:PE X a t):PE X (.BoolOp op [a] pos) t:=λpins s σ H Q I hw=>BoolOp_one (h pins s σ H Q I hw)
theorem rK(ha:PE X a ta)(hb:PE X (.BoolOp .And (b::rest) pos) tb):PE X (.BoolOp .And (a::b::rest) pos) (Dx ta tb):=by
 intro pins s σ H Q I h;refine BoolOp_and (cY (ha pins s σ H _ I h) λv s1 hpat=>?_);obtain⟨x,H1,I1,r1,q1⟩:=hpat;obtain⟨c,rfl,q1⟩:=q1;cases r1;refine wpAny_truthy_bool ?_;cases c with
 |true=>exact hb pins s1 σ H1 Q I1 q1
 |false=>exact⟨.bl false,H1,I1,rfl,q1⟩
theorem qv(ha:PE X a ta)(hb:PE X (.BoolOp .Or (b::rest) pos) tb):PE X (.BoolOp .Or (a::b::rest) pos) (C6 ta tb):=by
 intro pins s σ H Q I h;refine BoolOp_or (cY (ha pins s σ H _ I h) λv s1 hpat=>?_);obtain⟨x,H1,I1,r1,q1⟩:=hpat;obtain⟨c,rfl,q1⟩:=q1;cases r1;refine wpAny_truthy_bool ?_;cases c with
 |false=>exact hb pins s1 σ H1 Q I1 q1
 |true=>exact⟨.bl true,H1,I1,rfl,q1⟩
theorem l9(ha:PE X a ta):PE X (.UnaryOp .Not a pos) (DQ ta):=by
 intro pins s σ H Q I h;refine UnaryOp_ (cY (ha pins s σ H _ I h) λv s1 hpat=>?_);obtain⟨x,H1,I1,r1,q1⟩:=hpat;obtain⟨c,rfl,q1⟩:=q1;cases r1;exact not_of (wpAny_truthy_bool ⟨.bl (!c),H1,I1,rfl,q1⟩)
def LH(t:TT)(ta tb:TE):TE:=λσ H Q=>t σ H λc H1=>if c=true then ta σ H1 Q else tb σ H1 Q
theorem AW{c:Expr}(hc:PT X c tA)(ha:PE X a ta)(hb:PE X b tb):PE X (.IfExp c a b pos) (LH tA ta tb):=by
 intro pins s σ H Q I h;refine wpAny_IfExp (cY (hc pins s σ H _ I h) λd s1 ⟨H1,I1,q1⟩=>?_);cases d with
 |true=>exact ha pins s1 σ H1 Q I1 q1
 |false=>exact hb pins s1 σ H1 Q I1 q1
end
end L2
namespace L2
open PySem PySem.Spec PyProof.Rows
def cH(K:PySem.W.Frag)(H:Hp)(a:Addr)(xs:List V):Prop:=
 Rd H a (.lst xs)\/
  ∃(o:Obj) (its:Array Value) (n:Nat),K.lookup a=some o/\o.cls=.type "list" /\o.dict=none/\o.data=.seq its n/\its.size<=sizeLine/\Vals xs its.toList
def cU(K:PySem.W.Frag)(H:Hp)(a:Addr)(xs:List V):Prop:=
 Rd H a (.tup xs)\/
  ∃(o:Obj) (its:Array Value) (n:Nat),K.lookup a=some o/\o.cls=.type "tuple" /\o.data=.seq its n/\its.size<=sizeLine/\Vals xs its.toList
def Ka:Value->Option V
 |.none=>some .non
 |.bool b=>some (.bl b)
 |.int i _=>some (.int i)
 |.str x _=>some (.str x)
 |.bytes b _=>some (.byt b)
 |.float b _=>some (.flt b)
 |.ref a=>some (.ref a)
 |.type n=>some (.ty n)
 |_=>none
theorem RelV.abs{x:V}{u:Value}(r:RelV x u):Ka u=some x:=by
 cases x with
 |non=>cases r;rfl
 |bl _=>cases r;rfl
 |int _=>obtain⟨t,rfl⟩:=r;rfl
 |str _=>obtain⟨t,rfl⟩:=r;rfl
 |byt _=>obtain⟨t,rfl⟩:=r;rfl
 |flt _=>obtain⟨t,rfl⟩:=r;rfl
 |ref _=>cases r;rfl
 |ty _=>cases r;rfl
theorem RelV.inj{x y:V}{u:Value}(r:RelV x u)(q:RelV y u):x=y:=Option.some.inj (r.abs.symm.trans q.abs)
theorem Vals.inj:∀{xs ys:List V}{us:List Value},Vals xs us->Vals ys us->xs=ys
 |_,_,_,.nil,.nil=>rfl
 |_,_,_,.cons r t,.cons r' t'=>by rw[r.inj r',Vals.inj t t']
section
variable {X:Cx}{pins:List (Addr×Obj)}{σ:St}{H:Hp}{s:Shared}{a:Addr}{xs ys:List V}
theorem cH.of{K:PySem.W.Frag}(h:H a=some (.lst xs)):cH K H a xs:=.inl (.inl h)
theorem cU.of{K:PySem.W.Frag}(h:H a=some (.tup xs)):cU K H a xs:=.inl (.inl h)
theorem Inv.list(I:Inv X pins σ H s)(h:cH X.K H a xs):∃its:List Value,Vals xs its/\PlainL s.heap a its.toArray/\xs.length<=sizeLine:=by
 rcases h with h|⟨o,its,n,hk,hc,hd,hs,hz,r⟩
 ·obtain⟨z,its,n,r,e⟩:=h.ok I.hok
  exact⟨its,r,⟨_,n,e,rfl,rfl,rfl⟩,z⟩
 ·refine⟨its.toList,r,⟨o,n,I.ip a o hk,hc,hd,by simpa using hs⟩,?_⟩
  have e:=r.length;simp only[length_toList]at e;omega
theorem Inv.tuple(I:Inv X pins σ H s)(h:cU X.K H a xs):∃its:List Value,Vals xs its/\IsTup s.heap a its.toArray/\xs.length<=sizeLine:=by
 rcases h with h|⟨o,its,n,hk,hc,hs,hz,r⟩
 ·obtain⟨z,its,r,p⟩:=h.ok I.hok
  exact⟨its,r,p,z⟩
 ·refine⟨its.toList,r,⟨o,I.ip a o hk,hc,n,by simpa using hs⟩,?_⟩
  have e:=r.length;simp only[length_toList]at e;omega
theorem Inv.tP(I:Inv X pins σ H s)(h:cH X.K H a xs)(h':cH X.K H a ys):xs=ys:=by
 obtain⟨its,r,⟨o,n,e,_,_,d⟩,_⟩:=I.list h;obtain⟨its',r',⟨o',n',e',_,_,d'⟩,_⟩:=I.list h';rw[e]at e';cases e';rw[d]at d';injection d' with d1 _
 have:its=its':=by simpa using congrArg Array.toList d1
 subst this;exact r.inj r'
theorem Inv.yO(I:Inv X pins σ H s)(h:cU X.K H a xs)(h':cU X.K H a ys):xs=ys:=by
 obtain⟨its,r,⟨o,e,_,n,d⟩,_⟩:=I.tuple h;obtain⟨its',r',⟨o',e',_,n',d'⟩,_⟩:=I.tuple h';rw[e]at e';cases e';rw[d]at d';injection d' with d1 _
 have:its=its':=by simpa using congrArg Array.toList d1
 subst this;exact r.inj r'
end
abbrev Cx.jm(X:Cx)(E:Value->Shared->Prop):Cx:={ X with xe:=E }
abbrev Cx.iT(X:Cx):Cx:=X.jm λ_ _=>False
theorem Cx.Ok.jm{X:Cx}(ok:X.Ok)(E:Value->Shared->Prop):(X.jm E).Ok:=
 ⟨ok.mod,ok.kind,ok.glob,ok.blt,ok.above,ok.inj,ok.has,ok.cab,ok.hd,ok.frames,ok.stk,ok.exf,ok.bs,ok.bsz,ok.noex,ok.exfs,ok.kZ,ok.frf⟩
theorem Cx.Ok.dZ{X:Cx}{E:Value->Shared->Prop}(ok:(X.jm E).Ok):X.Ok:=
 ⟨ok.mod,ok.kind,ok.glob,ok.blt,ok.above,ok.inj,ok.has,ok.cab,ok.hd,ok.frames,ok.stk,ok.exf,ok.bs,ok.bsz,ok.noex,ok.exfs,ok.kZ,ok.frf⟩
section
variable {X:Cx}{pins:List (Addr×Obj)}{σ:St}{H:Hp}{s:Shared}{E:Value->Shared->Prop}
theorem Inv.jm(I:Inv X pins σ H s)(E:Value->Shared->Prop):Inv (X.jm E) pins σ H s:=⟨I.ok.jm E,I.os,I.bare,I.base,I.loc,I.cell,I.free,I.freeC,I.pin,I.hok,I.len⟩
theorem Inv.dZ(I:Inv (X.jm E) pins σ H s):Inv X pins σ H s:=⟨I.ok.dZ,I.os,I.bare,I.base,I.loc,I.cell,I.free,I.freeC,I.pin,I.hok,I.len⟩
theorem SP.dZ{D:Ends}{f:Flow}{s':Shared}(h:SP (X.jm E) pins D f s'):SP X pins D f s':=by
 cases f with
 |next=>obtain⟨σ',H',I,q⟩:=h;exact⟨σ',H',I.dZ,q⟩
 |brk=>obtain⟨σ',H',I,q⟩:=h;exact⟨σ',H',I.dZ,q⟩
 |cont=>obtain⟨σ',H',I,q⟩:=h;exact⟨σ',H',I.dZ,q⟩
 |ret u=>obtain⟨v,σ',H',I,r,q⟩:=h;exact⟨v,σ',H',I.dZ,r,q⟩
theorem PT.iT{e:Expr}{t:TT}(h:PT X.iT e t):PT X e t:=λpins s σ H Q I hw=>
 wpAny_mono (h pins s σ H Q (I.jm _) hw) (λ_ _ ⟨H',I',q⟩=>⟨H',I'.dZ,q⟩) λ_ _ z=>False.elim z
theorem vT.iT{st:List Stmt}{t:TS}(h:vT X.iT st t):vT X st t:=λpins s σ H D I hw=>
 wpAny_mono (h pins s σ H D (I.jm _) hw) (λ_ _ q=>q.dZ) λ_ _ z=>False.elim z
end
section
variable {X:Cx}{st:Stmt}{rest:List Stmt}{t u:TS}{e:Expr}{te:TE}{pos:Pos}
def oi:TS:=λD σ H=>D.nx σ H
def vR(t u:TS):TS:=λD σ H=>t { D with nx:=u D } σ H
theorem wO:vT X [] oi:=λ_ _ σ H _ I h=>wpAny_execs_nil ⟨σ,H,I,h⟩
theorem uF(h1:PS X st t)(h2:vT X rest u):vT X (st::rest) (vR t u):=by
 intro pins s σ H D I h;refine wpAny_execs_cons (cY (h1 pins s σ H { D with nx:=u D } I h) λf s1 q=>?_);cases f with
 |next=>
  obtain⟨σ',H',I',q⟩:=q;exact h2 pins s1 σ' H' D I' q
 |ret v=>exact q
 |brk=>exact q
 |cont=>exact q
theorem jC(h1:PS X st t):vT X [st] t:=by
 intro pins s σ H D I h;refine wpAny_execs_cons (cY (h1 pins s σ H D I h) λf s1 q=>?_);cases f with
 |next=>exact wpAny_execs_nil q
 |ret v=>exact q
 |brk=>exact q
 |cont=>exact q
def KY:TS:=λD σ H=>D.bk σ H
def LN:TS:=λD σ H=>D.ct σ H
theorem Inv.quiet{pins:List (Addr×Obj)}{σ:St}{H:Hp}{s:Shared}(I:Inv X pins σ H s):interactive X.env=false:=by simp[interactive,I.ok.kind]
def sL(te:TE):TS:=λD σ H=>te σ H λ_ H1=>D.nx σ H1
theorem Dv(he:PE X e te)(hs:swapsWith e none pos.line X.env=pure false:=by rfl):PS X (.Expr e pos) (sL te):=by
 intro pins s σ H D I h;exact wpAny_Expr_any (cY (he pins s σ H _ I h) λv s1 ⟨x,H1,I1,r1,q1⟩=>⟨σ,H1,I1,q1⟩) I.quiet hs
def Iy(te:TE):TS:=λD σ H=>te σ H D.rt
theorem oU(he:PE X e te):PS X (.Return (some e) pos) (Iy te):=by
 intro pins s σ H D I h;exact wpAny_Return_some (cY (he pins s σ H _ I h) λv s1 ⟨x,H1,I1,r1,q1⟩=>⟨x,σ,H1,I1,r1,q1⟩)
def LQ:TS:=λD _ H=>D.rt .non H
def rY(c:TT)(t u:TS):TS:=λD σ H=>c σ H λb H1=>if b=true then t D σ H1 else u D σ H1
theorem DM{c:Expr}{a b:List Stmt}{tc:TT}(hc:PT X c tc)(ha:vT X a t)(hb:vT X b u):PS X (.If c a b pos) (rY tc t u):=by
 intro pins s σ H D I h;refine wpAny_If (cY (hc pins s σ H _ I h) λd s1 ⟨H1,I1,q1⟩=>?_);cases d with
 |true=>exact ha pins s1 σ H1 D I1 q1
 |false=>exact hb pins s1 σ H1 D I1 q1
def Al:TS:=λ_ _ _=>False
theorem fV{sts:List Stmt}:vT X sts Al:=λ_ _ _ _ _ _ h=>h.elim
end
abbrev TG:=V->St->Hp->(St->Hp->Prop)->Prop
abbrev o7:=List V->St->Hp->(St->Hp->Prop)->Prop
def PG(X:Cx)(target:Expr)(t:TG):Prop:=
 ∀(pins:List (Addr×Obj)) (s:Shared) (σ:St) (H:Hp) (v:V) (u:Value) (Q:St->Hp->Prop),Inv X pins σ H s->RelV v u->t v σ H Q->
  wpAny (model X.prog X.w) X.A (assign target X.env u) (λ_ s'=>∃σ' H',Inv X pins σ' H' s'/\Q σ' H') X.xe s
def Hv(X:Cx)(ts:List Expr)(t:o7):Prop:=
 ∀(pins:List (Addr×Obj)) (s:Shared) (σ:St) (H:Hp) (vs:List V) (us:List Value) (Q:St->Hp->Prop),Inv X pins σ H s->Vals vs us->t vs σ H Q->
  wpAny (model X.prog X.w) X.A (assignInOrder ((assignEach ts X.env).map (·.2)) us) (λ_ s'=>∃σ' H',Inv X pins σ' H' s'/\Q σ' H') X.xe s
abbrev E3:=V->V->V->Hp->(Hp->Prop)->Prop
def MN(X:Cx)(t:E3):Prop:=
 ∀(pins:List (Addr×Obj)) (s:Shared) (σ:St) (H:Hp) (o i v:V) (ov iv u:Value) (Q:Hp->Prop),Inv X pins σ H s->RelV o ov->RelV i iv->RelV v u->t o i v H Q->
  wpAny (model X.prog X.w) X.A (setItem ov iv u) (λ_ s'=>∃H',Inv X pins σ H' s'/\Q H') X.xe s
abbrev Js:=V->V->Hp->VK->Prop
def Na(X:Cx)(op:Operator)(t:Js):Prop:=
 ∀(pins:List (Addr×Obj)) (s:Shared) (σ:St) (H:Hp) (x y:V) (v u:Value) (Q:VK),Inv X pins σ H s->RelV x v->RelV y u->t x y H Q->
  wpAny (model X.prog X.w) X.A (inplaceOp op v u) (EP X pins σ Q) X.xe s
section
variable {X:Cx}{pos:Pos}
def eQ(i:Nat):TG:=λv σ H Q=>Q (σ.set i (some v)) H
theorem nL{i:Nat}{x:Str}(hN:X.N.Nodup)(hi:X.N[i]? =some x)(hx:Loc X.env.scope x)(hf:X.fn x=true\/X.env.scope.names.lookup x=some .local:=by first|exact .inl rfl|exact .inr rfl|assumption):PG X (.Name x pos) (eQ i):=by
 intro pins s σ H v u Q I r h;exact wpAny_assign_Name (kG I hN hi hx r (λs' I'=>⟨_,H,I',h⟩) hf)
def Ip:o7:=λvs σ H Q=>vs=[]/\Q σ H
inductive Ik(t:TG)(u:o7)(vs:List V)(σ:St)(H:Hp)(Q:St->Hp->Prop):Prop
 |mk(v:V)(r:List V)(e:vs=v::r)(q:t v σ H λσ' H'=>u r σ' H' Q)
def DN(t:TG)(u:o7):o7:=λvs σ H Q=>Ik t u vs σ H Q
theorem CN:Hv X [] Ip:=by
 intro pins s σ H vs us Q I r h;obtain⟨e,h⟩:=h;subst e;cases r;exact assignInOrder_nil ⟨σ,H,I,h⟩
theorem Bq{e:Expr}{es:List Expr}{t:TG}{u:o7}(h1:PG X e t)(h2:Hv X es u)
  (hs:(assignEach (e::es) X.env).map (·.2)=assign e X.env::(assignEach es X.env).map (·.2):=by rfl):Hv X (e::es) (DN t u):=by
 intro pins s σ H vs us Q I r h;obtain⟨v,vr,e1,h⟩:=h;subst e1;cases r with
 |cons r rr=>
  rw[hs];refine assignInOrder_cons (cY (h1 pins s σ H _ _ _ I r h) λ_ s1 hpat=>?_);obtain⟨σ1,H1,I1,q1⟩:=hpat;exact h2 pins s1 σ1 H1 _ _ Q I1 rr q1
inductive K8(K:PySem.W.Frag)(n:Nat)(t:o7)(v:V)(σ:St)(H:Hp)(Q:St->Hp->Prop):Prop
 |mk(a:Addr)(xs:List V)(hv:v=.ref a)(s:cU K H a xs)(e:xs.length=n)(q:t xs σ H Q)
def EX(K:PySem.W.Frag)(n:Nat)(t:o7):TG:=λv σ H Q=>K8 K n t v σ H Q
theorem AJ{es:List Expr}{k:Nat}{t:o7}{n:Nat}(hc:X.calm=true)(h:Hv X es t)
  (hn:(assignEach es X.env).length=n:=by rfl)(hst:(assignEach es X.env).findIdx? (·.1)=none:=by rfl):PG X (.Tuple es k pos) (EX X.K n t):=by
 intro pins s σ H v u Q I r hw;obtain⟨a,xs,e1,hq,hl,hw⟩:=hw;subst e1;cases r;obtain⟨its,rv,ht,hz⟩:=I.tuple hq;refine assign_Tuple_tuple (I.ok.hd hc) ht (by simp[hn,<-hl,rv.length]) hst λh' hx=>?_;have I1:Inv X pins σ H { s with heap:=h' }:=I.kept (t':=s.toks) λb o e=>hx b o (ne_of_lt (lt_size e)) e;exact h pins _ σ H xs _ Q I1 (by simpa using rv) hw
def MV(to ti:TE)(t:E3):TG:=λv σ H Q=>to σ H λo H1=>ti σ H1 λi H2=>t o i v H2 λH3=>Q σ H3
def uD(te:TE)(g:TG):TS:=λD σ H=>te σ H λx H1=>g x σ H1 D.nx
theorem Gw{tg e:Expr}{te:TE}{g:TG}(he:PE X e te)(hg:PG X tg g)(hs:swapsWithSole [tg] e pos.line X.env=pure false:=by rfl)(hw:swappedStores [tg] e X.env=pure none:=by rfl)
  (h1:(assignEach [tg] X.env).map (·.2)=[assign tg X.env]:=by rfl):PS X (.Assign [tg] e pos) (uD te g):=by
 intro pins s σ H D I h;refine wpAny_Assign_stores (cY (he pins s σ H _ I h) λv s1 hpat=>?_) hs hw;obtain⟨x,H1,I1,r1,q1⟩:=hpat;rw[h1];exact cY (hg pins s1 σ H1 x v _ I1 r1 q1) λ_ s2 ⟨a,b,c,d⟩=>⟨a,b,c,d⟩
theorem Eo{i:Nat}{x:Str}{e:Expr}{te:TE}{pos':Pos}(hN:X.N.Nodup)(hi:X.N[i]? =some x)(hx:Loc X.env.scope x)(he:PE X e te)(hs:swapsWith e (some (.Name x pos')) pos.line X.env=pure false:=by rfl)(hf:X.fn x=true\/X.env.scope.names.lookup x=some .local:=by first|exact .inl rfl|exact .inr rfl|assumption):
  PS X (.Assign [.Name x pos'] e pos) (uD te (eQ i)):=by
 intro pins s σ H D I h;refine wpAny_Assign_Name (cY (he pins s σ H _ I h) λv s1 hpat=>?_) hs;obtain⟨y,H1,I1,r1,q1⟩:=hpat;exact kG I1 hN hi hx r1 (λs2 I2=>⟨_,H1,I2,q1⟩) hf
def Mj(i j:Nat)(ta:TA):TS:=λD σ H=>ta σ H λvs H1=>∃v w,vs=[v,w]/\D.nx ((σ.set i (some v)).set j (some w)) H1
def L1(i:Nat)(te:TE)(ti:Js):TS:=λD σ H=>∃x,σ[i]? =some (some x)/\te σ H λy H1=>ti x y H1 λz H2=>D.nx (σ.set i (some z)) H2
def Ll(to ti te:TE)(tget:V->V->Hp->VK->Prop)(tip:Js)(tset:E3):TS:=λD σ H=>to σ H λo H1=>ti σ H1 λi H2=>tget o i H2 λx H3=>te σ H3 λy H4=>tip x y H4 λz H5=>tset o i z H5 λH6=>D.nx σ H6
def Mz(X:Cx)(t:V->V->Hp->VK->Prop):Prop:=
 ∀(pins:List (Addr×Obj)) (s:Shared) (σ:St) (H:Hp) (o i:V) (ov iv:Value) (Q:VK),Inv X pins σ H s->RelV o ov->RelV i iv->t o i H Q->
  wpAny (model X.prog X.w) X.A (getItem ov iv) (EP X pins σ Q) X.xe s
def Nf(f:Int->Int->Int):Js:=λx y H Q=>∃i j,x=.int i/\y=.int j/\Q (.int (f i j)) H
end
section
variable {X:Cx}{pos:Pos}
def By(c:TT)(tb:TS):TS:=λD σ H=>∃W:Nat->St->Hp->Prop,(∃m,W m σ H)/\∀m σ H,W m σ H->
 c σ H λb H1=>if b=true then ∃N:St->Hp->Prop,(∀σ' H',N σ' H'->∃m',m' < m/\W m' σ' H')/\tb { D with nx:=N,ct:=N,bk:=D.nx } σ H1 else D.nx σ H1
theorem Bh{c:Expr}{body:List Stmt}{tc:TT}{tb:TS}(hp:PassesOwn (model X.prog X.w) X.A X.env X.xe)(hc:PT X c tc)(hb:vT X body tb):PS X (.While c body [] pos) (By tc tb):=by
 intro pins s σ H D I h;obtain⟨W,⟨m0,w0⟩,turn⟩:=h;refine wpAny_While (codeAny_whileLoop (λn s'=>∃σ' H',Inv X pins σ' H' s'/\W n σ' H') ?_ m0 ⟨σ,H,I,w0⟩);rintro n s1 ⟨σ1,H1,I1,w1⟩;refine wpAny_passesOwn hp (cY (hc pins s1 σ1 H1 _ I1 (turn n σ1 H1 w1)) λb s2 ⟨H2,I2,q2⟩=>?_);cases b with
 |true=>
  obtain⟨N,hN,q2⟩:=q2;rw[if_pos rfl];refine wpAny_passesOwn hp (cY (hb pins s2 σ1 H2 _ I2 q2) λf s3 q3=>?_);cases f with
  |next=>
   obtain⟨σ3,H3,I3,n3⟩:=q3;obtain⟨m',hm,w3⟩:=hN σ3 H3 n3;exact⟨m',hm,σ3,H3,I3,w3⟩
  |cont=>
   obtain⟨σ3,H3,I3,n3⟩:=q3;obtain⟨m',hm,w3⟩:=hN σ3 H3 n3;exact⟨m',hm,σ3,H3,I3,w3⟩
  |brk=>exact q3
  |ret v=>exact q3
 |false=>
  rw[if_neg Bool.false_ne_true];exact wpAny_execs_nil ⟨σ1,H2,I2,q2⟩
end
structure It where
 go:Nat->Hp->Prop
 yld:Nat->Hp->V->Hp->Prop
 stop:Nat->Hp->Prop
def kq(X:Cx)(pins:List (Addr×Obj))(H:Hp)(b:Addr):Prop:=
 H b=none/\b≠X.env.locals/\b ∉ X.fs/\(b∈X.ex\/X.s₀.heap.objs.size<=b)/\(∀x c,X.env.cells.lookup x=some c->c≠b)/\∀p∈X.pn++pins,p.1≠b
theorem Inv.yo{X:Cx}{pins:List (Addr×Obj)}{σ:St}{H H':Hp}{s:Shared}{b:Addr}(I:Inv X pins σ H s)(hb:s.heap.objs.size<=b)(hn:H' b=none):kq X pins H' b:=by
 refine⟨hn,ne_of_gt (lt_of_lt_of_le I.lt hb),I.Ks hb,.inr (le_trans I.sz hb),λx c e z=>?_,λp hp z=>?_⟩
 ·obtain⟨v,q⟩:=I.cell x c e
  exact absurd (lt_of_lt_of_le q.lt (by rw[z];exact hb)) (lt_irrefl _)
 ·exact absurd (lt_of_lt_of_le (lt_size (I.pin p hp).1) (by rw[z];exact hb)) (lt_irrefl _)
structure Turn(P:Program)(w:World)(K:PySem.W.Frag)(tg:Expr)(J:It)(fp:List Addr)(it:Addr)(tn:Nat->Heap->Prop):Prop where
 mem:it∈fp
 obj:∀i h,tn i h->∀b∈fp,∃o,h.get? b=some o/\∀v,o.data≠.cell v
 keep:∀i h h',tn i h->(∀b∈fp,∀o,h.get? b=some o->h'.get? b=some o)->tn i h'
 item:∀(X:Cx),X.prog=P->X.w=w->X.K=K->X.calm=true->∀(i:Nat) (pins:List (Addr×Obj)) (s:Shared) (σ:St) (H:Hp) (E:Value->Shared->Prop),Inv X pins σ H s->(∀b∈fp,kq X pins H b)->tn i s.heap->J.go i H->
  wpAny (model P w) X.A (pyNext (.ref it)) (λr s1=>∃u,r=some u/\
   wpAny (model P w) X.A (letOwnedTupleGo tg (.ref it) u) (λ_ s2=>∃x H',Inv X pins σ H' s2/\RelV x u/\J.yld i H x H'/\tn (i+1) s2.heap/\∀b∈fp,H' b=none) E s1) E s
 done:∀(X:Cx),X.prog=P->X.w=w->X.K=K->X.calm=true->∀(i:Nat) (pins:List (Addr×Obj)) (s:Shared) (σ:St) (H:Hp) (E:Value->Shared->Prop),Inv X pins σ H s->(∀b∈fp,kq X pins H b)->tn i s.heap->J.stop i H->
  wpAny (model P w) X.A (pyNext (.ref it)) (λr s1=>r=none/\Inv X pins σ H s1) E s
 self:∀(A:Around) (i:Nat) (s:Shared) (Q:Value->Shared->Prop) (E:Value->Shared->Prop),tn i s.heap->Q (.ref it) s->wpAny (model P w) A (pyIter (.ref it)) Q E s
abbrev TI:=St->Hp->(It->Hp->Prop)->Prop
def J9(X:Cx)(pins:List (Addr×Obj))(σ:St)(tg:Expr)(R:It->Hp->Prop)(itv:Value)(s2:Shared):Prop:=
 ∃(it:Addr) (fp:List Addr) (tn:Nat->Heap->Prop) (J:It) (H':Hp),itv=.ref it/\Inv X pins σ H' s2/\Turn X.prog X.w X.K tg J fp it tn/\tn 0 s2.heap/\(∀b∈fp,kq X pins H' b)/\R J H'
def PI(X:Cx)(tg iter:Expr)(wi:TI):Prop:=
 ∀(pins:List (Addr×Obj)) (s:Shared) (σ:St) (H:Hp) (R:It->Hp->Prop),Inv X pins σ H s->wi σ H R->
  wpAny (model X.prog X.w) X.A (eval iter X.env) (λv s1=>wpAny (model X.prog X.w) X.A (pyIter v) (J9 X pins σ tg R) X.xe s1) X.xe s
theorem xn{M:Model}{A:Around}{E:Value->Shared->Prop}{s:Shared}{tg:Expr}{it:Addr}{u:Value}{o:Obj}{n:String}{vs:Array Value}{Q:Unit->Shared->Prop}(ho:s.heap.get? it=some o)(hc:o.cls=.type n)(hd:o.data=.fields vs)
  (hn:["enumerate", "zip", "dict_itemiterator", "dict_reverseitemiterator", "odict_iterator", "itertools.zip_longest", "itertools.pairwise"].contains n=false) (hQ:Q () s):wpAny M A (letOwnedTupleGo tg (.ref it) u) Q E s:=by
 unfold letOwnedTupleGo;cases tg<;>first
  |exact wpAny_pure hQ
  | (cases u<;>first
    |exact wpAny_pure hQ
    | (refine wpAny_bind (wpAny_load ho ?_)
       rw[hc,hd];show wpAny M A (if(["enumerate", "zip", "dict_itemiterator", "dict_reverseitemiterator", "odict_iterator", "itertools.zip_longest", "itertools.pairwise"].contains n && vs[0]? == some (rawInt _))=true then _ else _) Q E s;rw[if_neg (by intro h;rw[hn,Bool.false_and]at h;cases h)];exact wpAny_pure hQ))
def BK(K:PySem.W.Frag)(a:Addr):It:=
 ⟨λi H=>∃xs x,cH K H a xs/\xs[i]? =some x,λi H x H'=>H'=H/\∀xs,cH K H a xs->xs[i]? =some x,λi H=>∃xs,cH K H a xs/\xs.length<=i⟩
def KW(K:PySem.W.Frag)(a:Addr):It:=
 ⟨λi H=>∃xs x,cU K H a xs/\xs[i]? =some x,λi H x H'=>H'=H/\∀xs,cU K H a xs->xs[i]? =some x,λi H=>∃xs,cU K H a xs/\xs.length<=i⟩
def CW(lo:Int)(n:Nat):It:=⟨λi _=>i < n,λi H x H'=>H'=H/\x=.int (lo+i),λi _=>n<=i⟩
theorem ym{P:Program}{w:World}{K:PySem.W.Frag}{tg:Expr}(a it:Addr):Turn P w K tg (BK K a) [it] it (λi h=>h.IsListIter it a i) where
 mem:=by simp
 obj:=λi h st b hb=>by
  have e:b=it:=by simpa using hb
  subst e;obtain⟨o,e,c,d⟩:=st;exact⟨o,e,λv z=>by rw[d]at z;cases z⟩
 keep:=λi h h' st k=>st.at λo e=>k it (by simp) o e
 item:=by
  intro X hP hw hK hc i pins s σ H E I hf st hg;subst hP hw hK;obtain⟨xs,x,hq,hx⟩:=hg;obtain⟨its,rv,p,hz⟩:=I.list hq;obtain⟨u,hu,ru⟩:=rv.get hx;obtain⟨f0,f1,f2,f3,f4,f5⟩:=hf it (by simp);refine wpAny_pyNext_list_item st p.isList (x:=u) (by simpa using hu) λh' st' sb=>?_;have I1:Inv X pins σ H { s with heap:=h' }:=I.turned (t':=s.toks) (λb o hb e=>(sb.2 b hb).trans e) f0 f1 f3 f4 f5;obtain⟨o,e,c,d⟩:=id st';exact⟨u,rfl,xn (s:={ s with heap:=h' }) e c d (by decide) ⟨x,H,I1,ru,⟨rfl,λys hy=>by rw[I.tP hy hq];exact hx⟩,st',λb hb=>(hf b hb).1⟩⟩
 done:=by
  intro X hP hw hK hc i pins s σ H E I hf st hg;subst hP hw hK;obtain⟨xs,hq,hx⟩:=hg;obtain⟨its,rv,p,hz⟩:=I.list hq;obtain⟨f0,f1,f2,f3,f4,f5⟩:=hf it (by simp);have hl:=rv.length;exact wpAny_pyNext_list_end (I.ok.hd hc) st p.isList (by simp;omega) λh' eb=>⟨rfl,I.turned (t':=s.toks) (λb o hb e=>eb b o hb e) f0 f1 f3 f4 f5⟩
 self:=λ_ _ _ _ _ st h=>wpAny_pyIter_listiter st h
theorem vv{P:Program}{w:World}{K:PySem.W.Frag}{tg:Expr}(a it:Addr):Turn P w K tg (KW K a) [it] it (λi h=>h.IsTupleIter it a i) where
 mem:=by simp
 obj:=λi h st b hb=>by
  have e:b=it:=by simpa using hb
  subst e;obtain⟨o,e,c,d⟩:=st;exact⟨o,e,λv z=>by rw[d]at z;cases z⟩
 keep:=λi h h' st k=>st.at λo e=>k it (by simp) o e
 item:=by
  intro X hP hw hK hc i pins s σ H E I hf st hg;subst hP hw hK;obtain⟨xs,x,hq,hx⟩:=hg;obtain⟨its,rv,p,hz⟩:=I.tuple hq;obtain⟨u,hu,ru⟩:=rv.get hx;obtain⟨f0,f1,f2,f3,f4,f5⟩:=hf it (by simp);refine wpAny_pyNext_tuple_item st (show s.heap.IsTuple a its.toArray from p) (x:=u) (by simpa using hu) λh' st' sb=>?_;have I1:Inv X pins σ H { s with heap:=h' }:=I.turned (t':=s.toks) (λb o hb e=>(sb.2 b hb).trans e) f0 f1 f3 f4 f5;obtain⟨o,e,c,d⟩:=id st';exact⟨u,rfl,xn (s:={ s with heap:=h' }) e c d (by decide) ⟨x,H,I1,ru,⟨rfl,λys hy=>by rw[I.yO hy hq];exact hx⟩,st',λb hb=>(hf b hb).1⟩⟩
 done:=by
  intro X hP hw hK hc i pins s σ H E I hf st hg;subst hP hw hK;obtain⟨xs,hq,hx⟩:=hg;obtain⟨its,rv,p,hz⟩:=I.tuple hq;obtain⟨f0,f1,f2,f3,f4,f5⟩:=hf it (by simp);have hl:=rv.length;exact wpAny_pyNext_tuple_end (I.ok.hd hc) st (show s.heap.IsTuple a its.toArray from p) (by simp;omega) λh' eb=>⟨rfl,I.turned (t':=s.toks) (λb o hb e=>eb b o hb e) f0 f1 f3 f4 f5⟩
 self:=λ_ _ _ _ _ st h=>wpAny_pyIter_tupleiter st h
theorem u5{P:Program}{w:World}{K:PySem.W.Frag}{tg:Expr}(it:Addr)(lo:Int)(n:Nat):Turn P w K tg (CW lo n) [it] it (λi h=>IsRangeIter h it (lo+(i:Nat) * 1) ((n:Int) - (i:Nat)) 1) where
 mem:=by simp
 obj:=λi h st b hb=>by
  have e:b=it:=by simpa using hb
  subst e;exact⟨_,st,λv z=>by
   have z':Data.fields _=Data.cell v:=z;cases z'⟩
 keep:=λi h h' st k=>k it (by simp) _ st
 item:=by
  intro X hP hw hK hc i pins s σ H E I hf st hg;subst hP hw hK;obtain⟨f0,f1,f2,f3,f4,f5⟩:=hf it (by simp);have W:=Walks.range (prog:=X.prog) (w:=X.w) (I.ok.hd hc) it lo 1 n;refine W.item i s _ _ hg st λv h' tk hv st' kk=>?_;obtain⟨t,rfl⟩:=hv;have I1:Inv X pins σ H { s with heap:=h',toks:=tk }:=I.turned (λb o hb e=>kk b o (by simpa using hb) e) f0 f1 f3 f4 f5;refine⟨_,rfl,xn (s:={ s with heap:=h',toks:=tk }) (n:= "range_iterator") st' rfl rfl (by decide) ⟨.int (lo+i),H,I1,⟨t,?_⟩,⟨rfl,rfl⟩,st',λb hb=>(hf b hb).1⟩⟩;rw[Int.mul_one]
 done:=by
  intro X hP hw hK hc i pins s σ H E I hf st hg;subst hP hw hK;obtain⟨f0,f1,f2,f3,f4,f5⟩:=hf it (by simp);exact wpAny_pyNext_range_end (I.ok.hd hc) st (by have:n<=i:=hg;omega) λh' eb=>⟨rfl,I.turned (t':=s.toks) (λb o hb e=>eb b o hb e) f0 f1 f3 f4 f5⟩
 self:=λ_ _ _ _ _ st h=>wpAny_pyIter_rangeiter st h
end L2
namespace L2
open PySem PySem.Spec PyProof.Rows
section
variable {X:Cx}{tg:Expr}
inductive EF(K:PySem.W.Frag)(x:V)(H:Hp)(R:It->Hp->Prop):Prop
 |mk(a:Addr)(e:x=.ref a)(s:∃xs,cH K H a xs)(q:R (BK K a) H)
def DY(K:PySem.W.Frag)(tl:TE):TI:=λσ H R=>tl σ H λx H1=>EF K x H1 R
def IM(K:PySem.W.Frag)(tl:TE):TI:=λσ H R=>tl σ H λx H1=>∃a,x=.ref a/\(∃xs,cU K H1 a xs)/\R (KW K a) H1
theorem Cw{l:Expr}{tl:TE}(hl:PE X l tl):PI X tg l (DY X.K tl):=by
 intro pins s σ H R I h;refine cY (hl pins s σ H _ I h) λv s1 hpat=>?_;obtain⟨x,H1,I1,r1,q1⟩:=hpat;obtain⟨a,e,⟨xs,hq⟩,q⟩:=q1;subst e;cases r1;obtain⟨its,rv,p,hz⟩:=I1.list hq;refine wpAny_pyIter_list p.isList ?_;refine⟨s1.heap.objs.size,[s1.heap.objs.size],_,_,H1,rfl,I1.kept (t':=s1.toks) λb o e=>get?_push_of_some _ e,ym a _,⟨_,get?_push_size _ rfl,rfl,rfl⟩,λb hb=>?_,q⟩;have e:b=s1.heap.objs.size:=by simpa using hb
 subst e;exact I1.yo (le_refl _) (I1.hok.fresh (le_refl _))
theorem wo{l:Expr}{tl:TE}(hl:PE X l tl):PI X tg l (IM X.K tl):=by
 intro pins s σ H R I h;refine cY (hl pins s σ H _ I h) λv s1 hpat=>?_;obtain⟨x,H1,I1,r1,q1⟩:=hpat;obtain⟨a,e,⟨xs,hq⟩,q⟩:=q1;subst e;cases r1;obtain⟨its,rv,p,hz⟩:=I1.tuple hq;refine wpAny_pyIter_tuple (show s1.heap.IsTuple a its.toArray from p) ?_;refine⟨s1.heap.objs.size,[s1.heap.objs.size],_,_,H1,rfl,I1.kept (t':=s1.toks) λb o e=>get?_push_of_some _ e,vv a _,⟨_,get?_push_size _ rfl,rfl,rfl⟩,λb hb=>?_,q⟩;have e:b=s1.heap.objs.size:=by simpa using hb
 subst e;exact I1.yo (le_refl _) (I1.hok.fresh (le_refl _))
theorem zy{pins:List (Addr×Obj)}{σ:St}{H:Hp}{s:Shared}{R:It->Hp->Prop}{E:Value->Shared->Prop}{lo hi:Int}{t u v:Tok}{tk:Nat}(I:Inv X pins σ H s)(h1: -(2 ^ 62)<=lo)(h2:lo < 2 ^ 62)(h3: -(2 ^ 62)<=hi)(h4:hi < 2 ^ 62)
  (q:R (CW lo (hi - lo).toNat) H):wpAny (model X.prog X.w) X.A (pyIter (.ref s.heap.objs.size)) (J9 X pins σ tg R) E { s with heap:=s.heap.push { cls:=.type "range",data:=.fields #[.int lo t,.int hi u,.int 1 v] },toks:=tk }:=by
 refine wpAny_pyIter_range (IsRange.new ..) (small_one h1 h2 h3 h4) ?_;have I1:Inv X pins σ H { s with heap:=s.heap.push { cls:=.type "range",data:=.fields #[.int lo t,.int hi u,.int 1 v] },toks:=tk }:=I.kept λb o e=>get?_push_of_some _ e;refine⟨(s.heap.push { cls:=.type "range",data:=.fields #[.int lo t,.int hi u,.int 1 v] }).objs.size,[(s.heap.push { cls:=.type "range",data:=.fields #[.int lo t,.int hi u,.int 1 v] }).objs.size],_,_,H,rfl,
  I1.kept (t':=tk) λb o e=>get?_push_of_some _ e,u5 _ lo (hi - lo).toNat,?_,λb hb=>?_,q⟩
 ·have e1:lo+((0:Nat):Int) * 1=lo:=by simp
  have e2:(((hi - lo).toNat:Nat):Int) - ((0:Nat):Int)=Builtin.Range.rangeSize lo hi 1:=by rw[rangeSize_one];split<;>omega
  show IsRangeIter _ _ (lo+((0:Nat):Int) * 1) ((((hi - lo).toNat:Nat):Int) - ((0:Nat):Int)) 1;rw[e1,e2];exact get?_push_size _ rfl
 ·have e:b=(s.heap.push { cls:=.type "range",data:=.fields #[.int lo t,.int hi u,.int 1 v] }).objs.size:=by simpa using hb
  subst e;exact I1.yo (le_refl _) (I1.hok.fresh (le_refl _))
def DT(ta:TA):TI:=λσ H R=>ta σ H λvs H1=>∃j:Int,vs=[.int j]/\ -(2 ^ 62)<=j/\j < 2 ^ 62/\R (CW 0 j.toNat) H1
def Lo(ta:TA):TI:=λσ H R=>ta σ H λvs H1=>∃i j:Int,vs=[.int i,.int j]/\(-(2 ^ 62)<=i/\i < 2 ^ 62/\ -(2 ^ 62)<=j/\j < 2 ^ 62)/\R (CW i (j - i).toNat) H1
theorem xK {a:Expr}{ta:TA}{p pos:Pos}(hg:Gl X "range") (hm:X.mg "range" =none) (ha:PA X [a] ta) (hs:starEach [a] X.env=[(false,eval a X.env)]:=by rfl):PI X tg (.Call (.Name "range" p) [a] [] pos) (DT ta):=by
 intro pins s σ H R I h;refine Call_ (lQ I hg hm boot_range (PyProof.Rows.callWith_type1 (cY (ha pos pins s σ H _ I h) λus s1 hpat=>?_) hs rfl));obtain⟨vs,H1,I1,r1,q1⟩:=hpat;obtain⟨j,e,q1,q2,q⟩:=q1;subst e;cases r1 with
 |cons r rr=>
  cases rr;obtain⟨t,rfl⟩:=r;exact call_range_1 (zy I1 (by omega) (by omega) q1 q2 (by simpa using q))
def HL(wi:TI)(g:TG)(tb:TS):TS:=λD σ H=>wi σ H λJ H1=>∃W:Nat->Nat->St->Hp->Prop,(∃m,W 0 m σ H1)/\∀i m σ H,W i m σ H->
 (J.stop i H/\D.nx σ H)\/(J.go i H/\∃N:St->Hp->Prop,(∀σ' H',N σ' H'->∃m',m' < m/\W (i+1) m' σ' H')/\∀x H',J.yld i H x H'->g x σ H' λσ2 H2=>tb { D with nx:=N,ct:=N,bk:=D.nx } σ2 H2)
def qJ(fp:List Addr)(h:Heap):List (Addr×Obj):=fp.filterMap λb=>(h.get? b).map λo=>(b,o)
theorem d8{fp:List Addr}{h:Heap}{b:Addr}{o:Obj}(hb:b∈fp)(e:h.get? b=some o):(b,o)∈qJ fp h:=mem_filterMap.mpr ⟨b,hb,by rw[e];rfl⟩
theorem yL{fp:List Addr}{h:Heap}{p:Addr×Obj}(hp:p∈qJ fp h):p.1∈fp/\h.get? p.1=some p.2:=by
 obtain⟨b,hb,e⟩:=mem_filterMap.mp hp;cases q:h.get? b with
 |none=>rw[q]at e;cases e
 |some o=>
  rw[q]at e;have e':(b,o)=p:=Option.some.inj e;subst e';exact⟨hb,q⟩
theorem Inv.pinned{pins:List (Addr×Obj)}{σ:St}{H:Hp}{s:Shared}{fp:List Addr}(I:Inv X pins σ H s)(hf:∀b∈fp,kq X pins H b)(ho:∀b∈fp,∃o,s.heap.get? b=some o/\∀v,o.data≠.cell v):Inv X (pins++qJ fp s.heap) σ H s:=
 I.xq λp hp=>(mem_append.mp hp).elim (λz=>I.pin p (mem_append_right _ z)) λz=>by
  obtain⟨hb,e⟩:=yL z;obtain⟨f0,f1,f2,_⟩:=hf p.1 hb;obtain⟨o,e',d⟩:=ho p.1 hb;rw[e]at e';cases e';exact⟨e,f0,f1,f2,d⟩
theorem Inv.ie{pins pl:List (Addr×Obj)}{σ:St}{H:Hp}{s:Shared}(I:Inv X (pins++pl) σ H s):Inv X pins σ H s:=I.xq λp hp=>I.pin p (mem_append_right _ (mem_append_left _ hp))
theorem Ew{iter:Expr}{body:List Stmt}{wi:TI}{g:TG}{tb:TS}{pos:Pos}(hp:PassesOwn (model X.prog X.w) X.A X.env X.xe)(hc:X.calm=true)(hi:PI X tg iter wi)(hg:PG X tg g)(hb:vT X body tb)
  (hs:∀x,foldedSetIterable iter X.env x=pure x:=by intro _;rfl):PS X (.For tg iter body [] pos) (HL wi g tb):=by
 intro pins s σ H D I h;refine wpAny_For (cY (hi pins s σ H _ I h) λv s1 h1=>cY h1 λitv s2 h2=>?_) hs;obtain⟨it,fp,tn,J,H2,e,I2,T,st2,f2,W,⟨m0,w0⟩,turn⟩:=h2;subst e;have stat:∀{H':Hp},(∀b∈fp,H' b=none)->∀b∈fp,kq X pins H' b:=λhn b hb=>⟨hn b hb,(f2 b hb).2⟩;refine codeAny_forLoop_any (λn s'=>∃i σ' H',Inv X pins σ' H' s'/\tn i s'.heap/\(∀b∈fp,H' b=none)/\W i n σ' H') ?_ m0 ⟨0,σ,H2,I2,st2,λb hb=>(f2 b hb).1,w0⟩;rintro n s3 ⟨i,σ3,H3,I3,st3,fr3,w3⟩;rcases turn i n σ3 H3 w3 with ⟨stop,qn⟩|⟨go,N,hN,step⟩
 ·refine wpAny_passesOwn hp (cY (T.done X rfl rfl rfl hc i pins s3 σ3 H3 X.xe I3 (stat fr3) st3 stop) λr s4 ⟨hr,I4⟩=>?_)
  subst hr;exact wpAny_execs_nil ⟨σ3,H3,I4,qn⟩
 ·refine wpAny_passesOwn hp (cY (T.item X rfl rfl rfl hc i pins s3 σ3 H3 X.xe I3 (stat fr3) st3 go) λr s4 ⟨u,hr,h4⟩=>?_)
  subst hr;refine wpAny_passesOwn hp (cY h4 λ_ s5 hpat=>?_);obtain⟨x,H5,I5,r5,y5,st5,fr5⟩:=hpat;have I5':=I5.pinned (stat fr5) (T.obj _ _ st5);refine wpAny_passesOwn hp (cY (hg _ s5 σ3 H5 x u _ I5' r5 (step x H5 y5)) λ_ s6 hpat=>?_);obtain⟨σ6,H6,I6,q6⟩:=hpat;refine wpAny_passesOwn hp (cY (hb _ s6 σ6 H6 _ I6 q6) λf s7 q7=>?_);have again:∀{σ7:St}{H7:Hp},Inv X (pins++qJ fp s5.heap) σ7 H7 s7->N σ7 H7->∃m,m < n/\∃i σ' H',Inv X pins σ' H' s7/\tn i s7.heap/\(∀b∈fp,H' b=none)/\W i m σ' H':=λ{σ7 H7} I7 n7=>by
   obtain⟨m',hm,w7⟩:=hN σ7 H7 n7;refine⟨m',hm,i+1,σ7,H7,I7.ie,T.keep _ _ _ st5 λb hb o e=>(I7.pin (b,o) (mem_append_right _ (mem_append_right _ (d8 hb e)))).1,λb hb=>?_,w7⟩;obtain⟨o,e,d⟩:=T.obj _ _ st5 b hb;exact(I7.pin (b,o) (mem_append_right _ (mem_append_right _ (d8 hb e)))).2.1
  cases f with
  |next=>obtain⟨σ7,H7,I7,n7⟩:=q7;exact again I7 n7
  |cont=>obtain⟨σ7,H7,I7,n7⟩:=q7;exact again I7 n7
  |brk=>obtain⟨σ7,H7,I7,q7⟩:=q7;exact⟨σ7,H7,I7.ie,q7⟩
  |ret v=>obtain⟨x7,σ7,H7,I7,r7,q7⟩:=q7;exact⟨x7,σ7,H7,I7.ie,r7,q7⟩
end
theorem dA{K:PySem.W.Frag}{a:Addr}{xs:List V}{g:TG}{tb:TS}{D:Ends}{σ:St}{H:Hp}(Pv:Nat->St->Hp->Prop)(h0:Pv 0 σ H)(hl:∀i σ H,i<=xs.length->Pv i σ H->cH K H a xs)
  (hs:∀i x σ H,xs[i]? =some x->Pv i σ H->g x σ H λσ2 H2=>tb { D with nx:=Pv (i+1),ct:=Pv (i+1),bk:=D.nx } σ2 H2)(hd:∀σ H,Pv xs.length σ H->D.nx σ H):
  ∃W:Nat->Nat->St->Hp->Prop,(∃m,W 0 m σ H)/\∀i m σ H,W i m σ H->
   ((BK K a).stop i H/\D.nx σ H)\/((BK K a).go i H/\∃N:St->Hp->Prop,(∀σ' H',N σ' H'->∃m',m' < m/\W (i+1) m' σ' H')/\∀x H',(BK K a).yld i H x H'->g x σ H' λσ2 H2=>tb { D with nx:=N,ct:=N,bk:=D.nx } σ2 H2):=by
 refine⟨λi m σ H=>m=xs.length - i/\i<=xs.length/\Pv i σ H,⟨xs.length,by simp,zero_le _,h0⟩,?_⟩;rintro i m σ H ⟨rfl,hi,p⟩;have q:=hl i σ H hi p;by_cases hlt:i < xs.length
 ·refine .inr ⟨⟨xs,xs[i],q,by simp[hlt]⟩,Pv (i+1),λσ' H' p'=>⟨xs.length - (i+1),by omega,rfl,hlt,p'⟩,λx H' y=>?_⟩
  obtain⟨e,y⟩:=y;subst e;exact hs i x σ _ (y xs q) p
 ·have e:i=xs.length:=by omega
  subst e;exact .inl ⟨⟨xs,q,le_refl _⟩,hd σ H p⟩
theorem jy{lo:Int}{n:Nat}{g:TG}{tb:TS}{D:Ends}{σ:St}{H:Hp}(Pv:Nat->St->Hp->Prop)(h0:Pv 0 σ H)
  (hs:∀i σ H,i < n->Pv i σ H->g (.int (lo+i)) σ H λσ2 H2=>tb { D with nx:=Pv (i+1),ct:=Pv (i+1),bk:=D.nx } σ2 H2)(hd:∀σ H,Pv n σ H->D.nx σ H):
  ∃W:Nat->Nat->St->Hp->Prop,(∃m,W 0 m σ H)/\∀i m σ H,W i m σ H->
   ((CW lo n).stop i H/\D.nx σ H)\/((CW lo n).go i H/\∃N:St->Hp->Prop,(∀σ' H',N σ' H'->∃m',m' < m/\W (i+1) m' σ' H')/\∀x H',(CW lo n).yld i H x H'->g x σ H' λσ2 H2=>tb { D with nx:=N,ct:=N,bk:=D.nx } σ2 H2):=by
 refine⟨λi m σ H=>m=n - i/\i<=n/\Pv i σ H,⟨n,by simp,zero_le _,h0⟩,?_⟩;rintro i m σ H ⟨rfl,hi,p⟩;by_cases hlt:i < n
 ·refine .inr ⟨hlt,Pv (i+1),λσ' H' p'=>⟨n - (i+1),by omega,rfl,hlt,p'⟩,λx H' y=>?_⟩
  obtain⟨e,y⟩:=y;subst e y;exact hs i σ _ hlt p
 ·have e:i=n:=by omega
  subst e;exact .inl ⟨le_refl _,hd σ H p⟩
end L2
namespace L2
open PySem PySem.Spec PyProof.Rows
abbrev R2:=V->V->Hp->VK->Prop
def iq(X:Cx)(f:Value->Value->Sem Value)(r:R2):Prop:=
 ∀(pins:List (Addr×Obj)) (s:Shared) (σ:St) (H:Hp) (x y:V) (v u:Value) (Q:VK),Inv X pins σ H s->RelV x v->RelV y u->r x y H Q->
  wpAny (model X.prog X.w) X.A (f v u) (EP X pins σ Q) X.xe s
def JQ(X:Cx)(f:Value->Sem Value)(r:V->Hp->VK->Prop):Prop:=
 ∀(pins:List (Addr×Obj)) (s:Shared) (σ:St) (H:Hp) (x:V) (v:Value) (Q:VK),Inv X pins σ H s->RelV x v->r x H Q->
  wpAny (model X.prog X.w) X.A (f v) (EP X pins σ Q) X.xe s
def eG(X:Cx)(f:Value)(r:List V->Hp->VK->Prop):Prop:=
 ∀(pins:List (Addr×Obj)) (s:Shared) (σ:St) (H:Hp) (xs:List V) (us:List Value) (Q:VK),Inv X pins σ H s->Vals xs us->r xs H Q->
  wpAny (model X.prog X.w) X.A (call f us) (EP X pins σ Q) X.xe s
def L9(X:Cx)(r:V->Hp->(Bool->Hp->Prop)->Prop):Prop:=
 ∀(pins:List (Addr×Obj)) (s:Shared) (σ:St) (H:Hp) (x:V) (v:Value) (Q:Bool->Hp->Prop),Inv X pins σ H s->RelV x v->r x H Q->
  wpAny (model X.prog X.w) X.A (truthy v) (TP X pins σ Q) X.xe s
def Dy(r:R2)(ta tb:TE):TE:=λσ H Q=>ta σ H λx H1=>tb σ H1 λy H2=>r x y H2 Q
def Lj(r:V->Hp->VK->Prop)(ta:TE):TE:=λσ H Q=>ta σ H λx H1=>r x H1 Q
inductive Kz(C:Int->Int->Prop)(g:Int->Int->V)(x y:V)(H:Hp)(Q:VK):Prop
 |mk(i j:Int)(hx:x=.int i)(hy:y=.int j)(c:C i j)(q:Q (g i j) H)
inductive HZ(g:Int->Int->V)(x y:V)(H:Hp)(Q:VK):Prop
 |mk(i j:Int)(hx:x=.int i)(hy:y=.int j)(q:Q (g i j) H)
def rI(C:Int->Int->Prop)(g:Int->Int->V):R2:=λx y H Q=>Kz C g x y H Q
def ze(g:Int->Int->V):R2:=λx y H Q=>HZ g x y H Q
def rU(g:Int->V):V->Hp->VK->Prop:=λx H Q=>∃i,x=.int i/\Q (g i) H
section
variable {X:Cx}{a b c:Expr}{ta tb tc:TE}{pos:Pos}
theorem FK(ha:PE X a ta)(hb:PE X b tb){pins:List (Addr×Obj)}{s:Shared}{σ:St}{H:Hp}{R:V->V->Hp->Prop}(I:Inv X pins σ H s)
  (h:ta σ H λx H1=>tb σ H1 λy H2=>R x y H2){Q:Value->Shared->Prop}{f:Value->Value->Sem Value}
  (hf:∀v u s2 x y H2,Inv X pins σ H2 s2->RelV x v->RelV y u->R x y H2->wpAny (model X.prog X.w) X.A (f v u) Q X.xe s2):
  wpAny (model X.prog X.w) X.A (eval a X.env) (λv s₁=>wpAny (model X.prog X.w) X.A (eval b X.env) (λu s₂=>wpAny (model X.prog X.w) X.A (f v u) Q X.xe s₂) X.xe s₁) X.xe s:=by
 refine cY (ha pins s σ H _ I h) λv s1 hpat=>?_;obtain⟨x,H1,I1,r1,q1⟩:=hpat;refine cY (hb pins s1 σ H1 _ I1 q1) λu s2 hpat=>?_;obtain⟨y,H2,I2,r2,q2⟩:=hpat;exact hf v u s2 x y H2 I2 r1 r2 q2
theorem D5{op:Operator}{r:R2}(ho:iq X (binaryOp op) r)(ha:PE X a ta)(hb:PE X b tb):PE X (.BinOp a op b pos) (Dy r ta tb):=by
 intro pins s σ H Q I h;exact wpAny_BinOp (FK ha hb I h λv u s2 x y H2 I2 rx ry q=>ho pins s2 σ H2 x y v u Q I2 rx ry q)
theorem Bu{op:UnaryOp}{r:V->Hp->VK->Prop}(ho:JQ X (unaryOp op) r)(ha:PE X a ta):PE X (.UnaryOp op a pos) (Lj r ta):=by
 intro pins s σ H Q I h;exact UnaryOp_ (cY (ha pins s σ H _ I h) λv s1 ⟨x,H1,I1,r1,q1⟩=>ho pins s1 σ H1 x v Q I1 r1 q1)
theorem Jn{f:Value->Value->Sem Value}{C:Int->Int->Prop}{g:Int->Int->Int}
  (rule:∀(i j:Int)(t u:Tok)(s:Shared)(Q:Value->Shared->Prop)(E:Value->Shared->Prop),C i j->Q (.int (g i j) s.toks) { s with toks:=s.toks+1 }->wpAny (model X.prog X.w) X.A (f (.int i t) (.int j u)) Q E s):
  iq X f (rI C λi j=>.int (g i j)):=by
 intro pins s σ H x y v u Q I rx ry h;obtain⟨i,j,rfl,rfl,hc,q⟩:=h;obtain⟨t,rfl⟩:=rx;obtain⟨t',rfl⟩:=ry;exact rule i j t t' s _ _ hc ⟨.int (g i j),H,I.tok _,⟨_,rfl⟩,q⟩
theorem GQ{f:Value->Value->Sem Value}{g:Int->Int->Int}
  (rule:∀(i j:Int)(t u:Tok)(s:Shared)(Q:Value->Shared->Prop)(E:Value->Shared->Prop),Q (.int (g i j) s.toks) { s with toks:=s.toks+1 }->wpAny (model X.prog X.w) X.A (f (.int i t) (.int j u)) Q E s):
  iq X f (ze λi j=>.int (g i j)):=by
 intro pins s σ H x y v u Q I rx ry h;obtain⟨i,j,rfl,rfl,q⟩:=h;obtain⟨t,rfl⟩:=rx;obtain⟨t',rfl⟩:=ry;exact rule i j t t' s _ _ ⟨.int (g i j),H,I.tok _,⟨_,rfl⟩,q⟩
theorem EM{f:Value->Value->Sem Value}{g:Int->Int->Bool}
  (rule:∀(i j:Int)(t u:Tok)(s:Shared)(Q:Value->Shared->Prop)(E:Value->Shared->Prop),Q (.bool (g i j)) s->wpAny (model X.prog X.w) X.A (f (.int i t) (.int j u)) Q E s):
  iq X f (ze λi j=>.bl (g i j)):=by
 intro pins s σ H x y v u Q I rx ry h;obtain⟨i,j,rfl,rfl,q⟩:=h;obtain⟨t,rfl⟩:=rx;obtain⟨t',rfl⟩:=ry;exact rule i j t t' s _ _ ⟨.bl (g i j),H,I,rfl,q⟩
def HM(i j:Int):Prop:=0 < j/\j < 1073741824
def Lw(i j:Int):Prop:=j≠0/\j.natAbs < 1073741824
def Hw(i j:Int):Prop:=0<=j/\j<=1000000/\i.natAbs < 2 ^ 64
def C4(i j:Int):Prop:=(-(2 ^ 64) < i/\i < 2 ^ 64)\/(-(2 ^ 64) < j/\j < 2 ^ 64)
theorem C4.ok{i j:Int}(h:C4 i j):IntMulOk i j:=by
 rcases h with ⟨h1,h2⟩|⟨h1,h2⟩
 ·exact .of_left (intBits_le_64 h1 h2)
 ·exact .of_right (intBits_le_64 h1 h2)
theorem Fu:iq X (binaryOp .Add) (ze λi j=>.int (i+j)):=GQ λ_ _ _ _ _ _ _ q=>add_int q
theorem pf:iq X (binaryOp .Sub) (ze λi j=>.int (i - j)):=GQ λ_ _ _ _ _ _ _ q=>sub_int q
theorem Fh:iq X (binaryOp .Mult) (rI C4 λi j=>.int (i * j)):=Jn λ_ _ _ _ _ _ _ hc q=>mul_int q hc.ok
theorem BX:iq X (binaryOp .FloorDiv) (rI HM λi j=>.int (i / j)):=Jn λi j _ _ _ _ _ hc q=>by
 have h1:(0:Int) < j:=hc.1;have h2:j < 1073741824:=hc.2;exact floordiv_int (by omega) (by rw[Int.fdiv_eq_ediv_of_nonneg i (by omega)];exact q) (.inl (PyProof.noPylong_small (by omega)))
theorem FG:iq X (binaryOp .Mod) (rI (λ_ j=>0 < j) λi j=>.int (i % j)):=Jn λi j _ _ _ _ _ hc q=>by
 have h1:(0:Int) < j:=hc;exact mod_int' (by omega) (by rw[Int.fmod_eq_emod_of_nonneg i (by omega)];exact q)
theorem ma:iq X (binaryOp .Pow) (rI Hw λi j=>.int (i ^ j.toNat)):=Jn λ_ _ _ _ _ _ _ hc q=>pow_int_small hc.1 hc.2.1 hc.2.2 q
theorem MU{f:Value->Sem Value}{g:Int->Int}
  (rule:∀(i:Int)(t:Tok)(s:Shared)(Q:Value->Shared->Prop)(E:Value->Shared->Prop),Q (.int (g i) s.toks) { s with toks:=s.toks+1 }->wpAny (model X.prog X.w) X.A (f (.int i t)) Q E s):
  JQ X f (rU λi=>.int (g i)):=by
 intro pins s σ H x v Q I rx h;obtain⟨i,rfl,q⟩:=h;obtain⟨t,rfl⟩:=rx;exact rule i t s _ _ ⟨.int (g i),H,I.tok _,⟨_,rfl⟩,q⟩
theorem vC:JQ X (unaryOp .USub) (rU λi=>.int (-i)):=MU λ_ _ _ _ _ q=>neg_int q
end
def Ge:V->V->Bool
 |.non,.non=>true|.non,.int _=>true|.int _,.non=>true|.non,.bl _=>true|.bl _,.non=>true|.non,.str _=>true|.str _,.non=>true
 |.int _,.int _=>true|.bl _,.bl _=>true|.str _,.str _=>true|.byt _,.byt _=>true
 |.int _,.str _=>true|.str _,.int _=>true|.bl _,.str _=>true|.str _,.bl _=>true
 |_,_=>false
def Lr:R2:=λx y H Q=>Ge x y=true/\Q (.bl (decide (x=y))) H
def LK:R2:=λx y H Q=>Ge x y=true/\Q (.bl (!decide (x=y))) H
theorem xv{i j:Int}:decide (V.int i=V.int j)=(i == j):=by
 rw[Bool.eq_iff_iff];simp
theorem zv{i j:Bool}:decide (V.bl i=V.bl j)=(i == j):=by
 rw[Bool.eq_iff_iff];simp
theorem xg{i j:Str}:decide (V.str i=V.str j)=(i == j):=by
 rw[Bool.eq_iff_iff];simp
theorem wA{i j:Array UInt8}:decide (V.byt i=V.byt j)=(i.toList == j.toList):=by
 rw[Bool.eq_iff_iff];cases i;cases j;simp
section
variable {X:Cx}{a b c:Expr}{ta tb tc:TE}{pos:Pos}
theorem cP{pins:List (Addr×Obj)}{σ:St}{H:Hp}{s:Shared}{Q:VK}{k k':Bool}(I:Inv X pins σ H s)(q:Q (.bl k) H)(e:k=k'):EP X pins σ Q (.bool k') s:=by
 subst e;exact⟨.bl k,H,I,rfl,q⟩
theorem HJ:iq X (compareOp .Eq) Lr:=by
 intro pins s σ H x y v u Q I rx ry h;obtain⟨hs,q⟩:=h;cases x with
 |non=>
  cases rx;cases y with
  |non=>cases ry;exact PySem.EqNone.eq_none_none (cP I q (by simp))
  |bl j=>cases ry;exact PySem.EqNone.eq_none_bool (cP I q (by simp))
  |int j=>obtain⟨t',rfl⟩:=ry;exact PySem.EqNone.eq_none_int (cP I q (by simp))
  |str j=>obtain⟨t',rfl⟩:=ry;exact PySem.EqNone.eq_none_str (cP I q (by simp))
  |_=>exact absurd (show false=true from hs) Bool.false_ne_true
 |bl i=>
  cases rx;cases y with
  |non=>cases ry;exact PySem.EqNone.eq_bool_none (cP I q (by simp))
  |bl j=>cases ry;exact eq_bool (cP I q zv)
  |str j=>obtain⟨t',rfl⟩:=ry;exact PySem.EqMixed.eq_bool_str (cP I q (by simp))
  |_=>exact absurd (show false=true from hs) Bool.false_ne_true
 |int i=>
  obtain⟨t,rfl⟩:=rx;cases y with
  |non=>cases ry;exact PySem.EqNone.eq_int_none (cP I q (by simp))
  |int j=>obtain⟨t',rfl⟩:=ry;exact eq_int (cP I q xv)
  |str j=>obtain⟨t',rfl⟩:=ry;exact PySem.EqMixed.eq_int_str (cP I q (by simp))
  |_=>exact absurd (show false=true from hs) Bool.false_ne_true
 |str i=>
  obtain⟨t,rfl⟩:=rx;cases y with
  |non=>cases ry;exact PySem.EqNone.eq_str_none (cP I q (by simp))
  |bl j=>cases ry;exact PySem.EqMixed.eq_str_bool (cP I q (by simp))
  |int j=>obtain⟨t',rfl⟩:=ry;exact PySem.EqMixed.eq_str_int (cP I q (by simp))
  |str j=>obtain⟨t',rfl⟩:=ry;exact eq_str (cP I q xg)
  |_=>exact absurd (show false=true from hs) Bool.false_ne_true
 |byt i=>
  obtain⟨t,rfl⟩:=rx;cases y with
  |byt j=>obtain⟨t',rfl⟩:=ry;exact PySem.W.eq_bytes (cP I q wA)
  |_=>exact absurd (show false=true from hs) Bool.false_ne_true
 |_=>cases y<;>exact absurd (show false=true from hs) Bool.false_ne_true
theorem Hc:iq X (compareOp .NotEq) LK:=by
 intro pins s σ H x y v u Q I rx ry h;obtain⟨hs,q⟩:=h;cases x with
 |non=>
  cases rx;cases y with
  |non=>cases ry;exact PySem.EqNone.ne_none_none (cP I q (by simp))
  |bl j=>cases ry;exact PySem.EqNone.ne_none_bool (cP I q (by simp))
  |int j=>obtain⟨t',rfl⟩:=ry;exact PySem.EqNone.ne_none_int (cP I q (by simp))
  |str j=>obtain⟨t',rfl⟩:=ry;exact PySem.EqNone.ne_none_str (cP I q (by simp))
  |_=>exact absurd (show false=true from hs) Bool.false_ne_true
 |bl i=>
  cases rx;cases y with
  |non=>cases ry;exact PySem.EqNone.ne_bool_none (cP I q (by simp))
  |bl j=>cases ry;exact ne_bool (cP I q (congrArg not zv))
  |str j=>obtain⟨t',rfl⟩:=ry;exact PySem.EqMixed.ne_bool_str (cP I q (by simp))
  |_=>exact absurd (show false=true from hs) Bool.false_ne_true
 |int i=>
  obtain⟨t,rfl⟩:=rx;cases y with
  |non=>cases ry;exact PySem.EqNone.ne_int_none (cP I q (by simp))
  |int j=>obtain⟨t',rfl⟩:=ry;exact ne_int (cP I q (congrArg not xv))
  |str j=>obtain⟨t',rfl⟩:=ry;exact PySem.EqMixed.ne_int_str (cP I q (by simp))
  |_=>exact absurd (show false=true from hs) Bool.false_ne_true
 |str i=>
  obtain⟨t,rfl⟩:=rx;cases y with
  |non=>cases ry;exact PySem.EqNone.ne_str_none (cP I q (by simp))
  |bl j=>cases ry;exact PySem.EqMixed.ne_str_bool (cP I q (by simp))
  |int j=>obtain⟨t',rfl⟩:=ry;exact PySem.EqMixed.ne_str_int (cP I q (by simp))
  |str j=>obtain⟨t',rfl⟩:=ry;exact ne_str (cP I q (congrArg not xg))
  |_=>exact absurd (show false=true from hs) Bool.false_ne_true
 |byt i=>
  obtain⟨t,rfl⟩:=rx;cases y with
  |byt j=>obtain⟨t',rfl⟩:=ry;exact PySem.W.ne_bytes (cP I q (congrArg not wA))
  |_=>exact absurd (show false=true from hs) Bool.false_ne_true
 |_=>cases y<;>exact absurd (show false=true from hs) Bool.false_ne_true
theorem GS:iq X (compareOp .Lt) (ze λi j=>.bl (decide (i < j))):=EM λ_ _ _ _ _ _ _ q=>lt_int q
theorem tG:iq X (compareOp .LtE) (ze λi j=>.bl (decide (i<=j))):=EM λ_ _ _ _ _ _ _ q=>le_int q
theorem Jg:iq X (compareOp .Gt) (ze λi j=>.bl (decide (j < i))):=EM λ_ _ _ _ _ _ _ q=>gt_int q
theorem Fq:iq X (compareOp .Is) (λx y H Q=>y=.non/\Q (.bl (decide (x=.non))) H):=by
 intro pins s σ H x y v u Q I rx ry h;obtain⟨rfl,q⟩:=h;cases ry;refine is_none_gen (cP I q ?_);cases x<;>first
  | (cases rx;rfl)
  | (obtain⟨t,rfl⟩:=rx;rfl)
theorem kW:iq X (compareOp .IsNot) (λx y H Q=>y=.non/\Q (.bl (!decide (x=.non))) H):=by
 intro pins s σ H x y v u Q I rx ry h;obtain⟨rfl,q⟩:=h;cases ry;refine isnot_none_gen (cP I q ?_);cases x<;>first
  | (cases rx;rfl)
  | (obtain⟨t,rfl⟩:=rx;rfl)
def isObj:HO->Bool
 |.lst _=>true
 |.ins _ _ _=>true
 |_=>false
theorem cF(b:Expr){op:CmpOp}(h:op≠.In:=by decide)(h2:op≠.NotIn:=by decide):behindInMarks op b=false:=by
 have e1:(op == CmpOp.In)=false:=by cases op<;>first|rfl|exact absurd rfl h
 have e2:(op == CmpOp.NotIn)=false:=by cases op<;>first|rfl|exact absurd rfl h2
 cases b<;>simp[behindInMarks,e1,e2]
theorem wB{op:CmpOp}{r:R2}(ho:iq X (compareOp op) r)(ha:PE X a ta)(hb:PE X b tb)(hm:behindInMarks op b=false):PE X (.Compare a [op] [b] pos) (Dy r ta tb):=by
 intro pins s σ H Q I h;exact wpAny_Compare1 (FK ha hb I h λv u s2 x y H2 I2 rx ry q=>ho pins s2 σ H2 x y v u Q I2 rx ry q) hm
def xf(t:TE):TT:=λσ H Q=>t σ H λx H'=>HH x H' Q
theorem BM{op:CmpOp}{r:R2}(ho:iq X (compareOp op) r)(ha:PE X a ta)(hb:PE X b tb)(hm:behindInMarks op b=false):PT X (.Compare a [op] [b] pos) (xf (Dy r ta tb)):=by
 intro pins s σ H Q I h;refine wpAny_isTrue_Compare1 (cY (ha pins s σ H _ I h) λv s1 ⟨x,H1,I1,r1,q1⟩=>cY (hb pins s1 σ H1 _ I1 q1) λu s2 ⟨y,H2,I2,r2,q2⟩=>
  cY (ho pins s2 σ H2 x y v u _ I2 r1 r2 q2) λc s3 ⟨z,H3,I3,r3,k,e,q3⟩=>?_) hm
 subst e;cases r3;exact wpAny_truthy_bool ⟨H3,I3,q3⟩
def qY(r r':R2)(ta tb tc:TE):TE:=λσ H Q=>ta σ H λx H1=>tb σ H1 λy H2=>r x y H2 λz H3=>∃k,z=.bl k/\
 (if k=true then tc σ H3 λw' H4=>r' y w' H4 Q else Q (.bl false) H3)
theorem ic{op op':CmpOp}{r r':R2}(ho:iq X (compareOp op) r)(ho':iq X (compareOp op') r')(ha:PE X a ta)(hb:PE X b tb)(hc:PE X c tc)
  (hm:lastMarks [op,op'] [b,c]=false:=by with_unfolding_all rfl):PE X (.Compare a [op,op'] [b,c] pos) (qY r r' ta tb tc):=by
 intro pins s σ H Q I h;refine Compare_chain (cY (ha pins s σ H _ I h) λv s1 ⟨x,H1,I1,r1,q1⟩=>chain_link (cY (hb pins s1 σ H1 _ I1 q1) λu s2 ⟨y,H2,I2,r2,q2⟩=>
  cY (ho pins s2 σ H2 x y v u _ I2 r1 r2 q2) λd s3 ⟨z,H3,I3,r3,k,e,q3⟩=>?_)) hm
 subst e;cases r3;refine wpAny_truthy_bool ?_;cases k with
 |false=>exact ite_ff ⟨.bl false,H3,I3,rfl,q3⟩
 |true=>exact ite_tt (chain_last (cY (hc pins s3 σ H3 _ I3 q3) λw' s4 ⟨z',H4,I4,r4,q4⟩=>ho' pins s4 σ H4 y z' u w' Q I4 r2 r4 q4))
theorem kO{op op':CmpOp}{r r':R2}(ho:iq X (compareOp op) r)(ho':iq X (compareOp op') r')(ha:PE X a ta)(hb:PE X b tb)(hc:PE X c tc)
  (hm:lastMarks [op,op'] [b,c]=false:=by with_unfolding_all rfl):PT X (.Compare a [op,op'] [b,c] pos) (xf (qY r r' ta tb tc)):=by
 intro pins s σ H Q I h;refine isTrue_chain (cY (ha pins s σ H _ I h) λv s1 ⟨x,H1,I1,r1,q1⟩=>test_link (cY (hb pins s1 σ H1 _ I1 q1) λu s2 ⟨y,H2,I2,r2,q2⟩=>
  cY (ho pins s2 σ H2 x y v u _ I2 r1 r2 q2) λd s3 ⟨z,H3,I3,r3,k,e,q3⟩=>?_)) hm
 subst e;cases r3;refine wpAny_truthy_bool ?_;cases k with
 |false=>
  obtain⟨k',e',q'⟩:=q3;cases e';exact ite_ff ⟨H3,I3,q'⟩
 |true=>
  refine ite_tt (test_last (cY (hc pins s3 σ H3 _ I3 q3) λw' s4 ⟨z',H4,I4,r4,q4⟩=>cY (ho' pins s4 σ H4 y z' u w' _ I4 r2 r4 q4) λd' s5 hpat=>?_));obtain⟨z2,H5,I5,r5,k2,e2,q5⟩:=hpat;subst e2;cases r5;exact wpAny_truthy_bool ⟨H5,I5,q5⟩
def MT(K:PySem.W.Frag)(x:V)(H:Hp)(k:Bool):Prop:=
 match x with
 |.non=>k=false
 |.bl b=>k=b
 |.int i=>k=(i != 0)
 |.str y=>y.length<=sizeLine/\k=((y.length:Int) != 0)
 |.byt y=>y.size<=sizeLine/\k=((y.size:Int) != 0)
 |.ref p=>(∃xs,cH K H p xs/\k= !xs.isEmpty)\/(∃xs,cU K H p xs/\k= !xs.isEmpty)\/∃kvs,H p=some (.dK kvs)/\k= !kvs.isEmpty
 |_=>False
theorem n6:(sizeLine:Nat) < 2 ^ 63:=by rw[sizeLine_eq];decide
theorem iM:iq X (binaryOp .Add) (λx y H Q=>∃i j,x=.str i/\y=.str j/\i.length+j.length<=sizeLine/\Q (.str (i++j)) H):=by
 intro pins s σ H x y v u Q I rx ry h;obtain⟨i,j,rfl,rfl,hz,q⟩:=h;obtain⟨t,rfl⟩:=rx;obtain⟨t',rfl⟩:=ry;exact add_str (λt' tk=>⟨.str (i++j),H,I.tok _,⟨_,rfl⟩,q⟩) hz
def GU(b:Expr):Prop:=∀o i,subscripted b false o i=operate [o,i] (getItem o i)
theorem vals1{x:V}{us:List Value}(r:Vals [x] us):∃u,us=[u]/\RelV x u:=by
 cases r with
 |cons r1 r2=>cases r2;exact⟨_,rfl,r1⟩
theorem vals2{x y:V}{us:List Value}(r:Vals [x,y] us):∃u w',us=[u,w']/\RelV x u/\RelV y w':=by
 cases r with
 |cons r1 r2=>
  cases r2 with
  |cons r3 r4=>cases r4;exact⟨_,_,rfl,r1,r3⟩
theorem gS(hc:X.calm=true):eG X (.builtin "max") (λxs H Q=>∃i j,xs=[.int i,.int j]/\Q (.int (if j > i then j else i)) H):=by
 intro pins s σ H xs us Q I r h;obtain⟨i,j,rfl,q⟩:=h;obtain⟨u,w',rfl,⟨t,rfl⟩,⟨t',rfl⟩⟩:=vals2 r;refine max_two_ints (I.ok.hd hc) λh' tk k=>⟨_,H,I.kept k,?_,q⟩;by_cases hj:j > i
 ·rw[if_pos hj,if_pos hj];exact⟨_,rfl⟩
 ·rw[if_neg hj,if_neg hj];exact⟨_,rfl⟩
theorem fP(hc:X.calm=true):eG X (.builtin "min") (λxs H Q=>∃i j,xs=[.int i,.int j]/\Q (.int (if j < i then j else i)) H):=by
 intro pins s σ H xs us Q I r h;obtain⟨i,j,rfl,q⟩:=h;obtain⟨u,w',rfl,⟨t,rfl⟩,⟨t',rfl⟩⟩:=vals2 r;refine min_two_ints (I.ok.hd hc) λh' tk k=>⟨_,H,I.kept k,?_,q⟩;by_cases hj:j < i
 ·rw[if_pos hj,if_pos hj];exact⟨_,rfl⟩
 ·rw[if_neg hj,if_neg hj];exact⟨_,rfl⟩
theorem jE:eG X (.type "int") (λxs H Q=>(∃i,xs=[.int i]/\Q (.int i) H)\/∃k,xs=[.bl k]/\Q (.int (if k then 1 else 0)) H):=by
 intro pins s σ H xs us Q I r h;rcases h with ⟨i,rfl,q⟩|⟨k,rfl,q⟩
 ·obtain⟨u,rfl,t,rfl⟩:=vals1 r
  exact call_int_int ⟨.int i,H,I,⟨_,rfl⟩,q⟩
 ·obtain⟨u,rfl,r1⟩:=vals1 r
  cases r1;exact call_int_bool ⟨.int (if k then 1 else 0),H,I.tok _,⟨_,rfl⟩,q⟩
def Ms(K:PySem.W.Frag)(x:V)(H:Hp)(n:Nat):Prop:=
 match x with
 |.str y=>y.length<=sizeLine/\n=y.length
 |.byt y=>y.size<=sizeLine/\n=y.size
 |.ref p=>(∃xs,cH K H p xs/\n=xs.length)\/∃xs,cU K H p xs/\n=xs.length
 |_=>False
end
end L2
namespace L2
open PySem PySem.Spec PyProof.Rows
structure v3(h:Heap)(x dx C:Addr)(mA:Str->Option Value):Prop where
 obj:h.get? x=some (instObj C dx)
 ns:h.Ns1 dx mA
 ne:dx≠x
theorem za{h:Heap}{dx:Addr}{mA:Str->Option Value}(n:h.Ns1 dx mA):∃od,h.get? dx=some od/\∀name,lookIn name od=some (mA name):=by
 obtain⟨o,es,ep,ho,hd,hk,_,hm⟩:=n;refine⟨o,ho,λname=>?_⟩;have e:=hm name;unfold nsFind findBy at e;rw[<-Array.find?_toList]at e;unfold lookIn;rw[hd];dsimp only;split
 ·rename_i y q
  rw[q]at e;exact congrArg some e
 ·rename_i q
  rw[q]at e;have a:es.toList.any (·.refKey)=false:=by
   rw[any_eq_false];intro y hy;obtain⟨z,t,hkey⟩:=hk y (Array.mem_toList_iff.mp hy);simp[DictEntry.refKey,hkey]
  have a':¬es.toList.any (·.refKey)=true:=by rw[a];exact Bool.false_ne_true
  rw[if_neg a'];exact congrArg some e
theorem v3.look{h:Heap}{x dx C:Addr}{mA:Str->Option Value}(I:v3 h x dx C mA):∃od,PySem.W.InstAt h x (instObj C dx) C (some od)/\∀name,lookIn name od=some (mA name):=
 let ⟨od,ho,hl⟩:=za I.ns
 ⟨od,⟨I.obj,rfl,rfl,ho⟩,hl⟩
section
variable {prog:Program}{w:World}{A:Around}{E:Value->Shared->Prop}{s:Shared}{K:PySem.W.Frag}{x dx C f:Addr}{mA:Str->Option Value}{name:Str}{v:Value}
theorem get_map{expr:Bool}{Q:Value->Shared->Prop}(X:K.In s.heap)(I:v3 s.heap x dx C mA)(hg:plainGet K C name=true)(hh:hasDictIn K C=true)
  (ha:findIn K (.ref C) name=some none)(hv:mA name=some v)(hv':handedIn v=true)(h:Q v { s with toks:=s.toks+1 }):
  wpAny (model prog w) A (getAttr (.ref x) name expr) Q E s:=by
 obtain⟨od,J,hl⟩:=I.look;exact PySem.W.get_value X J (plainGet_of hg).1 (PySem.W.findObj_own hh ha rfl (by rw[hl,hv])) hv' h
theorem zT{pl:Sem Bool}{Q:Value×List Value->Shared->Prop}(X:K.In s.heap)(I:v3 s.heap x dx C mA)(hg:plainGet K C name=true)
  (hf:findIn K (.ref C) name=some (some (.ref f)))(ht:isFn K (.ref f)=true)(hv:mA name=none)(h:Q (.ref f,[.ref x]) s):
  wpAny (model prog w) A (getMethod (.ref x) name pl) Q E s:=by
 obtain⟨od,J,hl⟩:=I.look;exact PySem.W.method_fn X J (plainGet_of hg).1 (plainGet_of hg).2 hf (beq_iff_eq.mp ht) (by show(lookIn name od).map (·.isSome)=some false;rw[hl,hv];rfl) h
theorem BD{ns:List Str}{Q:Unit->Shared->Prop}(X:K.In s.heap)(I:v3 s.heap x dx C mA)
  (hs:findIn K (.ref C) "__setattr__" =some (some (.builtin "object.__setattr__"))) (hp:plainOver K C=true) (ht:takerIn K C name=some none) (hh:hasDictIn K C=true)
  (hw:PySem.Within mA ns)(hsz:ns.length<=sizeLine)
  (h:∀h',v3 h' x dx C (λy=>if y=name then some v else mA y)->Heap.SameBut dx s.heap h'->Q () { s with heap:=h',toks:=s.toks+2 }):
  wpAny (model prog w) A (setAttr (.ref x) name v) Q E s:=by
 obtain⟨od,J,hl⟩:=I.look;refine PySem.W.set_plain X J hs (PySem.W.osa_open (s:={ s with toks:=s.toks+1 }) (r:=none) X J hp ht λb=>?_);obtain⟨cd,hc,hd'⟩:=PySem.W.any_some hh;have hx:s.heap.get? x=some ⟨.ref C,some dx,.plain,#[]⟩:=I.obj;refine wpAny_bind (wpAny_pure (wpAny_bind (wpAny_bind (wpAny_loadPart hx (wpAny_bind (Looks.here (s:={ s with toks:=s.toks+1 }) (PySem.W.looks_clsIn X hc) ?_))))));rw[hd'];refine wpAny_pure (a:=some dx) (wpAny_bind (wpAny_pure (wpAny_bind ?_)));refine wpAny_nsSet1 (s:={ s with toks:=s.toks+1 }) I.ns λh' hn2 hs2=>?_;obtain⟨oD,esD,epD,hoD,hdD,hcD⟩:=hn2.count (PySem.Within.cons name v hw);refine wpAny_bind (wpAny_lookBehind hoD (by rw[hdD];exact pastItsLine_dict (le_trans hcD (by rw[length_cons];omega))) ?_);exact wpAny_pure (h _ ⟨(hs2.2 _ (Ne.symm I.ne)).trans I.obj,hn2,I.ne⟩ hs2)
theorem zW{R:Result->Shared->Prop}{vs:List Value}{kw:List (Str×Value)}(X:K.In s.heap)(hm:makesIn K C=true)
  (hi:findIn K (.ref C) "__init__" =some (some (.ref f))) (hf:PySem.W.typeIn K (.ref f)=some (.type "function"))
  (h:codeAny (model prog w) (A.under (.builtin "type.__call__" ⟨.ref C::vs,kw⟩)) (.call (.ref f) ⟨.ref (s.heap.objs.size+1)::vs,kw⟩) (PySem.W.InitBack (s.heap.objs.size+1) R)
   { s with heap:=(s.heap.push emptyDict).push (instObj C s.heap.objs.size) }):
  codeAny (model prog w) A (.call (.ref C) ⟨vs,kw⟩) R s:=by
 obtain⟨hh,g,d,t,os⟩:=s;exact PySem.W.make_core (PySem.W.makes_of X hm) (PySem.W.looks_findIn X hi) (λself=>PySem.W.bind_fn X self hf) (.inl rfl) h
end
def fE(f:Str)(v:V):List (Str×V)->List (Str×V)
 |[]=>[(f,v)]
 | (g,x)::r=>if g=f then(g,v)::r else(g,x)::fE f v r
theorem cL(f g:Str)(v:V):∀fs:List (Str×V),(fE f v fs).lookup g=if g=f then some v else fs.lookup g
 |[]=>by
  show List.lookup g [(f,v)]=_;by_cases h:g=f
  ·have hb:(g == f)=true:=beq_iff_eq.mpr h
   simp only[List.lookup,hb,if_pos h]
  ·have hb:(g == f)=false:=beq_eq_false_iff_ne.mpr h
   simp only[List.lookup,hb,if_neg h]
 | (k,x)::r=>by
  have ih:=cL f g v r;rw[show fE f v ((k,x)::r)=(if k=f then(k,v)::r else(k,x)::fE f v r) from rfl];by_cases hk:k=f
  ·rw[if_pos hk]
   by_cases h:g=k
   ·have hb:(g == k)=true:=beq_iff_eq.mpr h
    simp only[List.lookup,hb,if_pos (h.trans hk)]
   ·have hb:(g == k)=false:=beq_eq_false_iff_ne.mpr h
    simp only[List.lookup,hb,if_neg (λe:g=f=>h (e.trans hk.symm))]
  ·rw[if_neg hk]
   by_cases h:g=k
   ·have hb:(g == k)=true:=beq_iff_eq.mpr h
    simp only[List.lookup,hb,if_neg (λe:g=f=>hk (h.symm.trans e))]
   ·have hb:(g == k)=false:=beq_eq_false_iff_ne.mpr h
    simp only[List.lookup,hb];exact ih
theorem l7(f:Str)(v:V):∀fs:List (Str×V),f∈(fE f v fs).map (·.1)/\∀g,g∈fs.map (·.1)->g∈(fE f v fs).map (·.1)
 |[]=>⟨by simp[fE],λg h=>by simp at h⟩
 | (k,x)::r=>by
  obtain⟨i1,i2⟩:=l7 f v r;rw[show fE f v ((k,x)::r)=(if k=f then(k,v)::r else(k,x)::fE f v r) from rfl];by_cases hk:k=f
  ·rw[if_pos hk]
   subst hk;exact⟨by simp,λg h=>by simpa using h⟩
  ·rw[if_neg hk]
   refine⟨?_,λg h=>?_⟩
   ·rw[map_cons]
    exact mem_cons_of_mem _ i1
   ·rw[map_cons]at h ⊢
    rcases mem_cons.mp h with e|e
    ·exact mem_cons.mpr (.inl e)
    ·exact mem_cons_of_mem _ (i2 g e)
theorem mU(f:Str)(v:V):∀fs:List (Str×V),(fE f v fs).length<=fs.length+1
 |[]=>by simp[fE]
 | (k,x)::r=>by
  have ih:=mU f v r;rw[show fE f v ((k,x)::r)=(if k=f then(k,v)::r else(k,x)::fE f v r) from rfl];by_cases hk:k=f
  ·rw[if_pos hk,length_cons,length_cons];omega
  ·rw[if_neg hk,length_cons,length_cons];omega
theorem iS.some_of{v:V}{o:Option Value}(r:iS (some v) o):∃u,o=some u/\RelV v u:=by
 cases o with
 |none=>exact(show False from r).elim
 |some u=>exact⟨u,rfl,r⟩
theorem iS.none_of{o:Option Value}(r:iS none o):o=none:=by
 cases o with
 |none=>rfl
 |some u=>exact(show False from r).elim
theorem xN{v:V}{u:Value}(r:RelV v u):handedIn u=true:=by
 cases v with
 |non=>cases (show u=Value.none from r);rfl
 |bl b=>cases (show u=Value.bool b from r);rfl
 |int i=>obtain⟨t,e⟩:=(show ∃t,u=Value.int i t from r);cases e;rfl
 |str x=>obtain⟨t,e⟩:=(show ∃t,u=Value.str x t from r);cases e;rfl
 |byt b=>obtain⟨t,e⟩:=(show ∃t,u=Value.bytes b t from r);cases e;rfl
 |flt b=>obtain⟨t,e⟩:=(show ∃t,u=Value.float b t from r);cases e;rfl
 |ref a=>cases (show u=Value.ref a from r);rfl
 |ty n=>cases (show u=Value.type n from r);rfl
section
variable {P:Program}{w:World}{H H':Hp}{h h':Heap}{a C dx:Addr}{fs fs':List (Str×V)}
theorem nI(hok:gz P w H h)(e:H a=some (.ins C dx fs)):∃mA,v3 h a dx C mA/\(∀f,iS (fs.lookup f) (mA f))/\PySem.Within mA (fs.map (·.1))/\fs.length<=1000/\H dx=some (.own a):=by
 obtain⟨d,z,ne,ob,mA,n,r,q⟩:=(show cZ P w H h a (.ins C dx fs) from hok a _ e);exact⟨mA,⟨ob,n,ne⟩,r,q,z,d⟩
end
structure uL(K:PySem.W.Frag)(C:Addr):Prop where
 pg:plainGet K C Str.empty=true
 hd:hasDictIn K C=true
 po:plainOver K C=true
 sa:findIn K (.ref C) "__setattr__" =some (some (.builtin "object.__setattr__"))
theorem uL.get{K:PySem.W.Frag}{C:Addr}(c:uL K C)(f:Str):plainGet K C f=true:=c.pg
def f9(K:PySem.W.Frag)(C:Addr)(f:Str):Prop:=findIn K (.ref C) f=some none
theorem f9.II{K:PySem.W.Frag}{C:Addr}{f:Str}(n:f9 K C f):takerIn K C f=some none:=by
 unfold takerIn;rw[show findIn K (.ref C) f=some none from n];rfl
structure Mn(K:PySem.W.Frag)(C:Addr)(f:Str)(v:V)(u:Value):Prop where
 at_:findIn K (.ref C) f=some (some u)
 rel:RelV v u
 get:specialIn K u "__get__" =some none
 cp:PySem.W.copiedNames.contains f=false
structure Meth(K:PySem.W.Frag)(C:Addr)(m:Str)(f:Addr):Prop where
 at_:findIn K (.ref C) m=some (some (.ref f))
 fn:isFn K (.ref f)=true
 kp:keepIn K (.ref f)=true
section
variable {X:Cx}{pins:List (Addr×Obj)}{σ:St}{H:Hp}{s:Shared}{a C dx:Addr}{fs:List (Str×V)}{f:Str}{v:V}{A:Around}{E:Value->Shared->Prop}
theorem u7{b:Bool}{Q:Value->Shared->Prop}(I:Inv X pins σ H s)(e:H a=some (.ins C dx fs))(c:uL X.K C)(n:f9 X.K C f)(l:fs.lookup f=some v)
  (h:∀u s',Inv X pins σ H s'->RelV v u->Q u s'):wpAny (model X.prog X.w) A (getAttr (.ref a) f b) Q E s:=by
 obtain⟨mA,O,r,_,_,_⟩:=nI I.hok e;obtain⟨u,hu,ru⟩:=iS.some_of (v:=v) (o:=mA f) (by rw[<-l];exact r f);exact get_map I.ip O (c.get f) c.hd n hu (xN ru) (h u _ (I.tok _) ru)
theorem vY{m:Str}{g:Addr}{pl:Sem Bool}{Q:Value×List Value->Shared->Prop}(I:Inv X pins σ H s)(e:H a=some (.ins C dx fs))(c:uL X.K C)(k:Meth X.K C m g)(l:fs.lookup m=none)
  (h:Q (.ref g,[.ref a]) s):wpAny (model X.prog X.w) A (getMethod (.ref a) m pl) Q E s:=by
 obtain⟨mA,O,r,_,_,_⟩:=nI I.hok e;have hn:mA m=none:=iS.none_of (by rw[<-l];exact r m);exact zT I.ip O (c.get m) k.at_ k.fn hn h
theorem v9{y:V}{u:Value}{Q:Unit->Shared->Prop}(I:Inv X pins σ H s)(e:H a=some (.ins C dx fs))(c:uL X.K C)(n:f9 X.K C f)(hl:fs.length < 1000)(ry:RelV y u)
  (h:∀s',Inv X pins σ (upd H a (.ins C dx (fE f y fs))) s'->Q () s'):wpAny (model X.prog X.w) A (setAttr (.ref a) f u) Q E s:=by
 obtain⟨mA,O,r,wi,_,ho⟩:=nI I.hok e;have hz:(fs.map (·.1)).length<=sizeLine:=by rw[length_map,sizeLine_eq];omega
 refine BD I.ip O c.sa c.po n.II c.hd wi hz λh' O' sb=>h _ ?_;have hd:∃o,h'.get? dx=some o:=let ⟨o,_,_,e',_⟩:=O'.ns;⟨o,e'⟩;refine I.write (x:=a) (e:=dx) (by rw[e];exact True.intro) (.inr ho) (λb q hb z=>(sb.2 b hb).trans z) hd ?_;refine⟨by rw[cD O.ne];exact ho,?_,O.ne,O'.obj,_,O'.ns,λg=>?_,λg hg=>?_⟩
 ·have:=mU f y fs;omega
 ·show iS ((fE f y fs).lookup g) (if g=f then some u else mA g)
  rw[cL];by_cases q:g=f
  ·rw[if_pos q,if_pos q];exact ry
  ·rw[if_neg q,if_neg q];exact r g
 ·by_cases q:g=f
  ·rw[q];exact(l7 f y fs).1
  ·refine(l7 f y fs).2 g (wi g λz=>hg ?_)
   show(if g=f then some u else mA g)=none;rw[if_neg q];exact z
theorem Inv.made(I:Inv X pins σ H s):Inv X pins σ (upd (upd H s.heap.objs.size (.own (s.heap.objs.size+1))) (s.heap.objs.size+1) (.ins C s.heap.objs.size []))
  { s with heap:=(s.heap.push emptyDict).push (instObj C s.heap.objs.size) }:=by
 have e1:(s.heap.push emptyDict).get? s.heap.objs.size=some emptyDict:=get?_push_size s.heap rfl;have e2:((s.heap.push emptyDict).push (instObj C s.heap.objs.size)).get? (s.heap.objs.size+1)=some (instObj C s.heap.objs.size):=by
  have:=get?_push_size (s.heap.push emptyDict) (o:=instObj C s.heap.objs.size) rfl
  rwa [size_push]at this
 have e3:(s.heap.push emptyDict).Ns s.heap.objs.size (λ_=>none):=⟨emptyDict,#[],_,e1,rfl,(λe he=>absurd he (by simp)),λ_=>rfl⟩;have I1:=I.laid (a:=s.heap.objs.size) (o:=.own (s.heap.objs.size+1)) (h':=s.heap.push emptyDict) (t':=s.toks) (λb u q=>get?_push_of_some _ q) (le_refl _) ⟨_,e1⟩;refine I1.laid (a:=s.heap.objs.size+1) (o:=.ins C s.heap.objs.size []) (t':=s.toks) (λb u q=>get?_push_of_some _ q) (le_of_eq (size_push _ _)) ?_;have ne:s.heap.objs.size≠s.heap.objs.size+1:=ne_of_lt (lt_succ_self _);refine⟨by rw[cD ne,cz],zero_le _,ne,e2,λ_=>none,(Heap.Ns1.of_empty e3).at λo q=>get?_push_of_some _ q,λ_=>True.intro,λy hy=>absurd rfl hy⟩
theorem B0{prog:Program}{w:World}{env:Env}{e:Expr}{f:Str}{pos:Pos}{s:Shared}{Q:Value->Shared->Prop}(hb:attributeBase e f env (eval e env)=eval e env)
  (h:wpAny (model prog w) A (eval e env) (λo s₁=>wpAny (model prog w) A (getAttr o f true) Q E s₁) E s):wpAny (model prog w) A (eval (.Attribute e f pos) env) Q E s:=
 Attribute_any_ h (by rw[arm_eval_Attribute,hb])
end
inductive KO(K:PySem.W.Frag)(f:Str)(x:V)(H:Hp)(Q:VK):Prop
 |mk(a C dx:Addr)(fs:List (Str×V))(v:V)(hx:x=.ref a)(h:H a=some (.ins C dx fs))(c:uL K C)(n:f9 K C f)(l:fs.lookup f=some v)(q:Q v H)
def He(K:PySem.W.Frag)(ta:TE)(f:Str):TE:=λσ H Q=>ta σ H λx H1=>KO K f x H1 Q
def MH(K:PySem.W.Frag)(ta:TE)(f:Str):TE:=λσ H Q=>ta σ H λx H1=>∃a C dx fs v u,x=.ref a/\H1 a=some (.ins C dx fs)/\uL K C/\Mn K C f v u/\fs.lookup f=none/\Q v H1
def Iw(K:PySem.W.Frag)(ta tv:TE)(f:Str):TS:=λD σ H=>tv σ H λy H1=>ta σ H1 λx H2=>∃a C dx fs,x=.ref a/\H2 a=some (.ins C dx fs)/\uL K C/\f9 K C f/\fs.length < 1000/\
 D.nx σ (upd H2 a (.ins C dx (fE f y fs)))
def Ml(X:Cx)(op:Operator)(rd:V->V->Hp->VK->Prop):Prop:=
 ∀(pins:List (Addr×Obj)) (s:Shared) (σ:St) (H:Hp) (x y:V) (u v:Value) (Q:VK),Inv X pins σ H s->RelV x u->RelV y v->rd x y H Q->wpAny (model X.prog X.w) X.A (inplaceOp op u v) (EP X pins σ Q) X.xe s
def Jr(K:PySem.W.Frag)(ta tv:TE)(rd:V->V->Hp->VK->Prop)(f:Str):TS:=λD σ H=>ta σ H λx H1=>∃a C dx fs v,x=.ref a/\H1 a=some (.ins C dx fs)/\uL K C/\f9 K C f/\fs.lookup f=some v/\
 tv σ H1 λy H2=>rd v y H2 λz H3=>∃dx' fs',H3 a=some (.ins C dx' fs')/\fs'.length < 1000/\D.nx σ (upd H3 a (.ins C dx' (fE f z fs')))
section
variable {X:Cx}{o e value:Expr}{f:Str}{pos pos' tpos:Pos}{ta tv:TE}
theorem F6(he:PE X e ta)(hb:attributeBase e f X.env (eval e X.env)=eval e X.env):PE X (.Attribute e f pos) (He X.K ta f):=by
 intro pins s σ H Q I h;refine B0 hb (cY (he pins s σ H _ I h) λu s1 hpat=>?_);obtain⟨x,H1,I1,rx,a,C,dx,fs,v,ex,ea,c,n,l,q⟩:=hpat;subst ex;obtain rfl:u=Value.ref a:=rx;exact u7 I1 ea c n l λu' s2 I2 ru=>⟨v,H1,I2,ru,q⟩
theorem mh(ha:PE X o ta)(hv:PE X value tv)(hs:swapsWith value (some (.Attribute o f pos')) pos.line X.env=pure false):PS X (.Assign [.Attribute o f pos'] value pos) (Iw X.K ta tv f):=by
 intro pins s σ H D I h;refine plainObj_wpAny_Assign_Attribute (cY (hv pins s σ H _ I h) λu s1 ⟨y,H1,I1,ry,q⟩=>cY (ha pins s1 σ H1 _ I1 q) λov s2 hpat=>?_) hs;obtain⟨x,H2,I2,rx,a,C,dx,fs,ex,ea,c,n,l,q2⟩:=hpat;subst ex;obtain rfl:ov=Value.ref a:=rx;exact v9 I2 ea c n l ry λs3 I3=>⟨σ,_,I3,q2⟩
def My:V->V->Hp->VK->Prop:=λx y H Q=>∃i j,x=.int i/\y=.int j/\Q (.int (i+j)) H
def Ma:V->V->Hp->VK->Prop:=λx y H Q=>∃i j,x=.int i/\y=.int j/\Q (.int (i - j)) H
end
section
variable {X:Cx}{pins:List (Addr×Obj)}{σ:St}{H:Hp}{s:Shared}{A:Around}{E:Value->Shared->Prop}{Q:Value->Shared->Prop}{c:Value}{b:Bool}
inductive dQ(K:PySem.W.Frag)(H:Hp):V->Value->Prop where
 |non:dQ K H .non (.type "NoneType")
 |bl (x:Bool):dQ K H (.bl x) (.type "bool")
 |int (i:Int):dQ K H (.int i) (.type "int")
 |str (x:Str):dQ K H (.str x) (.type "str")
 |flt (x:UInt64):dQ K H (.flt x) (.type "float")
 |lst {a:Addr}{xs:List V}(e:H a=some (.lst xs)):dQ K H (.ref a) (.type "list")
 |frz {a:Addr}{o:Obj}{xs:List V}(e:H a=some (.frz o (.lst xs))):dQ K H (.ref a) (.type "list")
 |tup {a:Addr}{xs:List V}(e:H a=some (.tup xs)):dQ K H (.ref a) (.type "tuple")
 |dK {a:Addr}{kvs:List (Key×V)}(e:H a=some (.dK kvs)):dQ K H (.ref a) (.type "dict")
 |dT {a:Addr}{kvs:List (List Key×V)}(e:H a=some (.dT kvs)):dQ K H (.ref a) (.type "dict")
 |ins {a C dx:Addr}{fs:List (Str×V)}(e:H a=some (.ins C dx fs)) (cl:uL K C) (ha:findIn K (.ref C) "__class__" =some (some (.builtin "object.__class__")))
   (hn:specialIn K (.builtin "object.__class__") "__get__" =some (some (.builtin "getset_descriptor.__get__"))) (htk:PySem.W.takesIn K (.builtin "object.__class__")=some true)
   (hm:PySem.W.mroIn K C (.type "object")=some true):dQ K H (.ref a) (.ref C)
theorem yH{x:V}{u t:Value}(I:Inv X pins σ H s)(rx:RelV x u)(ty:dQ X.K H x t)(e:kitOne X.K t c=some b)(h:∀tk,Q (.bool b) { s with toks:=tk }):
  wpAny (model X.prog X.w) A (call (.builtin "isinstance") [u,c]) Q E s:=by
 cases ty with
 |non=>cases (show u=Value.none from rx);exact kia_one PySem.W.kitx_none I.ip True.intro e (λz=>nomatch z) h
 |bl y=>cases (show u=Value.bool y from rx);exact kia_one PySem.W.kitx_bool I.ip True.intro e (λz=>nomatch z) h
 |int i=>obtain⟨t,q⟩:=(show ∃t,u=Value.int i t from rx);cases q;exact kia_one PySem.W.kitx_int I.ip True.intro e (λz=>nomatch z) h
 |str y=>obtain⟨t,q⟩:=(show ∃t,u=Value.str y t from rx);cases q;exact kia_one PySem.W.kitx_str I.ip True.intro e (λz=>nomatch z) h
 |flt y=>obtain⟨t,q⟩:=(show ∃t,u=Value.float y t from rx);cases q;exact kia_one PySem.W.kitx_float I.ip True.intro e (λz=>nomatch z) h
 | @lst a xs ea=>
  cases (show u=Value.ref a from rx);obtain⟨_,_,n,_,h1⟩:=(show cZ X.prog X.w H s.heap a (.lst xs) from I.hok a _ ea);exact kia_one kitx_list I.ip ⟨_,h1,rfl⟩ e (λz=>nomatch z) h
 | @frz a ob xs ea=>
  cases (show u=Value.ref a from rx);obtain⟨_,_,_,n,_,h1⟩:=(show cZ X.prog X.w H s.heap a (.frz ob (.lst xs)) from I.hok a _ ea);exact kia_one kitx_list I.ip ⟨_,h1,rfl⟩ e (λz=>nomatch z) h
 | @tup a xs ea=>
  cases (show u=Value.ref a from rx);obtain⟨_,_,_,p⟩:=(show cZ X.prog X.w H s.heap a (.tup xs) from I.hok a _ ea);obtain⟨o,h1,h2,_⟩:=p;exact kia_one PySem.W.kitx_tuple I.ip ⟨o,h1,h2⟩ e (λz=>nomatch z) h
 | @dK a kvs ea=>
  cases (show u=Value.ref a from rx);obtain⟨_,_,vs,_,p⟩:=(show cZ X.prog X.w H s.heap a (.dK kvs) from I.hok a _ ea);obtain⟨o,es,ep,h1,h2,_⟩:=p;exact kia_one kitx_dict I.ip ⟨o,h1,h2.1⟩ e (λz=>nomatch z) h
 | @dT a kvs ea=>
  cases (show u=Value.ref a from rx);obtain⟨_,_,xs,_,o,es,ep,h1,h2,_⟩:=(show cZ X.prog X.w H s.heap a (.dT kvs) from I.hok a _ ea);exact kia_one kitx_dict I.ip ⟨o,h1,h2.1⟩ e (λz=>nomatch z) h
 | @ins a C dx fs ea cl ha hn htk hm=>
  cases (show u=Value.ref a from rx);obtain⟨mA,O,_⟩:=nI I.hok ea;obtain⟨od,J,_⟩:=O.look;exact kia_one (PySem.W.kitx_own (cl.get _) cl.hd ha hn htk hm) I.ip J e (λz=>nomatch z) h
end
end L2
namespace L2
open PySem PySem.Spec PyProof.Rows
structure dr(k:Nat)(A:Around):Prop where
 hd:A.handled=none
 dp:A.depth+3 * k+5 < recursionLimit
 un:A.units+16 * k+200 < cLine
theorem dr.mono{j k:Nat}{A:Around}(r:dr k A)(h:j<=k):dr j A:=⟨r.hd,by have:=r.dp;omega,by have:=r.un;omega⟩
theorem dr.deeper{k:Nat}{A:Around}(r:dr (k+1) A)(env:Env):dr k (A.deeper env):=
 ⟨r.hd,by have:=r.dp;show A.depth+1+3 * k+5 < _;omega,by have:=r.un;show A.units+3+16 * k+200 < _;omega⟩
theorem dr.in1{k:Nat}{A:Around}(r:dr (k+1) A):dr k A.in1:=
 ⟨r.hd,by have:=r.dp;show A.depth+3 * k+5 < _;omega,by have:=r.un;show A.units+1+16 * k+200 < _;omega⟩
theorem uZ{A:Around}{C:Addr}{us:List Value}{kw:List (Str×Value)}:(A.under (.builtin "type.__call__" ⟨.ref C::us,kw⟩)).depth=A.depth+1:=by
 first|rfl|simp[Around.under,Code.weight,Code.isCreation,Code.isGuard,Code.isCaller,Code.frames,Code.isFrame,guardIds]
theorem vO{A:Around}{C:Addr}{us:List Value}{kw:List (Str×Value)}:(A.under (.builtin "type.__call__" ⟨.ref C::us,kw⟩)).units=A.units+1:=by
 first|rfl|simp[Around.under,Code.cUnits,Code.frames,Code.isFrame]
theorem dr.make{k:Nat}{A:Around}(r:dr (k+1) A)(C:Addr)(us:List Value)(kw:List (Str×Value)):dr k (A.under (.builtin "type.__call__" ⟨.ref C::us,kw⟩)):=
 ⟨r.hd,by have:=r.dp;rw[uZ];omega,by have:=r.un;rw[vO];omega⟩
theorem dr.depth{k:Nat}{A:Around}(r:dr k A):A.depth < recursionLimit:=by have:=r.dp;omega
theorem dr.units{k:Nat}{A:Around}(r:dr k A):A.units+64 < cLine:=by have:=r.un;omega
def oW:TA:=λ_ H Q=>Q [] H
def dH(ta:TE)(tr:TA):TA:=λσ H Q=>ta σ H λx H1=>tr σ H1 λxs H2=>Q (x::xs) H2
section
variable {X:Cx}{e:Expr}{es:List Expr}{te:TE}{t:TA}{pos:Pos}
theorem jR:PA X [] oW:=λ_ _ _ _ H Q I h=>Calls.spliced_nil ⟨[],H,I,.nil,h⟩
theorem fc(ha:PE X e te)(hr:PA X es t)(hs:starEach (e::es) X.env=(false,eval e X.env)::starEach es X.env:=by rfl):PA X (e::es) (dH te t):=by
 intro pos pins s σ H Q I h;rw[hs];show wpAny _ _ (spliced ((false,eval e X.env)::backTo pos (starEach es X.env))) _ _ s;refine Calls.spliced_cons (cY (ha pins s σ H _ I h) λu s1 hpat=>?_);obtain⟨x,H1,I1,r1,q1⟩:=hpat;exact cY (hr pos pins s1 σ H1 _ I1 q1) λus s2 ⟨xs,H2,I2,r2,q2⟩=>⟨x::xs,H2,I2,.cons r1 r2,q2⟩
def GP(t:TA):TE:=λσ H Q=>t σ H λxs H1=>xs.length<=sizeLine/\∀p,H1 p=none->Q (.ref p) (upd H1 p (.tup xs))
def HX(t:TA):TE:=λσ H Q=>t σ H λxs H1=>xs.length<=sizeLine/\∀p,H1 p=none->Q (.ref p) (upd H1 p (.lst xs))
theorem ES{x1}(h:PA X es t):PE X (.Tuple es x1 pos) (GP t):=by
 intro pins s σ H Q I hq;refine wpAny_Tuple_spliced (cY (h pos pins s σ H _ I hq) λus s1 ⟨xs,H1,I1,r,z,q⟩=>⟨by rw[<-r.length];exact z,?_⟩);have hf:H1 s1.heap.objs.size=none:=I1.hok.fresh (le_refl _);refine⟨.ref s1.heap.objs.size,upd H1 s1.heap.objs.size (.tup xs),I1.laid (t':=s1.toks) (λb u e=>get?_push_of_some _ e) (le_refl _) ?_,rfl,q _ hf⟩;exact⟨z,us,r,⟨_,get?_push_size _ rfl,rfl,_,rfl⟩⟩
theorem EK(h:PA X es t):PE X (.List es pos) (HX t):=by
 intro pins s σ H Q I hq;refine wpAny_List_spliced (cY (h pos pins s σ H _ I hq) λus s1 ⟨xs,H1,I1,r,z,q⟩=>⟨by rw[<-r.length];exact z,?_⟩);have hf:H1 s1.heap.objs.size=none:=I1.hok.fresh (le_refl _);refine⟨.ref s1.heap.objs.size,upd H1 s1.heap.objs.size (.lst xs),I1.laid (t':=s1.toks) (λb u e=>get?_push_of_some _ e) (le_refl _) ?_,rfl,q _ hf⟩;exact⟨z,us,0,r,get?_push_size _ rfl⟩
end
abbrev Sp:=List V->Hp->VK->XK->Prop
abbrev zd:=List Env->Hp->Shared->XK->Value->Shared->Prop
structure pT(P:Program)(w:World)(K:PySem.W.Frag)(mg:Str->Option Value)(base:Heap)(A:Around)(outer:List Env)(s:Shared)(H:Hp):Prop where
 frames:A.frames=some outer
 mod:Mod K mg base
 bs:∀b o,base.get? b=some o->s.heap.get? b=some o/\H b=none
 bsz:base.objs.size<=s.heap.objs.size
 kZ:s.heap.FunFrames base outer
 frf:∀b∈fX outer,H b=none
 hok:gz P w H s.heap
 bare:AllBare s.gens
def CE(outer:List Env)(P:Program)(w:World)(H:Hp)(s:Shared)(Q:VK)(u:Value)(s':Shared):Prop:=
 ∃v H',s'.os=s.os/\AllBare s'.gens/\Un (fX outer) [] H H' s.heap s'.heap/\gz P w H' s'.heap/\RelV v u/\Q v H'
def CR(CX:zd)(outer:List Env)(P:Program)(w:World)(H:Hp)(s:Shared)(Q:VK)(E:XK)(r:Result)(s':Shared):Prop:=
 match r with
 |.ok (.ret u)=>CE outer P w H s Q u s'
 |.ok _=>False
 |.error e=>CX outer H s E e s'
structure dO(P:Program)(w:World)(K:PySem.W.Frag)(mg:Str->Option Value)(base:Heap)(CX:zd)(k:Nat)(f:Addr)(fd:FuncData)(ps:List Str)(sp:Sp):Prop where
 len:∀vs H Q E,sp vs H Q E->vs.length=ps.length
 run:∀(A:Around) (outer:List Env) (s:Shared) (H:Hp) (args:Args) (us:List Value) (vs:List V) (Q:VK) (E:XK),dr k A->pT P w K mg base A outer s H->BindsTo s fd args (ps.zip us)->Vals vs us->sp vs H Q E->
  codeAny (model P w) A (.call (.ref f) args) (CR CX outer P w H s Q E) s
theorem pT.make{P:Program}{w:World}{K:PySem.W.Frag}{mg:Str->Option Value}{base:Heap}{A:Around}{outer:List Env}{s:Shared}{H:Hp}(e:pT P w K mg base A outer s H)(C:Addr)(us:List Value)(kw:List (Str×Value)):
  pT P w K mg base (A.under (.builtin "type.__call__" ⟨.ref C::us,kw⟩)) outer s H:=⟨by first|exact e.frames| (simpa [Around.under,Code.envs,Code.isFrame,pushEnvs] using e.frames),e.mod,e.bs,e.bsz,e.kZ,e.frf,e.hok,e.bare⟩
theorem pT.in1{P:Program}{w:World}{K:PySem.W.Frag}{mg:Str->Option Value}{base:Heap}{A:Around}{outer:List Env}{s:Shared}{H:Hp}(e:pT P w K mg base A outer s H):
  pT P w K mg base A.in1 outer s H:=⟨e.frames,e.mod,e.bs,e.bsz,e.kZ,e.frf,e.hok,e.bare⟩
section
variable {X:Cx}{pins:List (Addr×Obj)}{σ:St}{H:Hp}{s s':Shared}
theorem Inv.Aa(I:Inv X pins σ H s):pT X.prog X.w X.K X.mg X.base X.A X.stack s H:=
 ⟨I.ok.frames,I.ok.mod,I.bs,le_trans I.ok.bsz I.sz,I.stack,I.iD,I.hok,I.bare⟩
theorem Inv.after{Q:VK}{u:Value}(I:Inv X pins σ H s)(h:CE X.stack X.prog X.w H s Q u s'):EP X pins σ Q u s':=by
 obtain⟨v,H',os,bare,un,hok,r,q⟩:=h;obtain⟨hh,g,d,t,os'⟩:=s';obtain rfl:os'=s.os:=os;exact⟨v,H',I.call (h':=hh) (g':=g) (d':=d) (t':=t) (ch:=[]) un hok bare (λb z=>absurd z (by simp)),r,q⟩
end
def kj(sp:Sp)(dvs:List V)(E:XK)(t:TA):TE:=λσ H Q=>t σ H λvs H1=>sp (vs++dvs) H1 Q E
inductive MethP(C:Addr)(m:Str)(x:V)(H:Hp)(G:Prop):Prop
 |mk(a dx:Addr)(fs:List (Str×V))(hx:x=.ref a)(h:H a=some (.ins C dx fs))(l:fs.lookup m=none)(q:G)
def DL(C:Addr)(m:Str)(sp:Sp)(dvs:List V)(E:XK)(ta:TE)(t:TA):TE:=λσ H Q=>ta σ H λx H1=>MethP C m x H1 (t σ H1 λvs H2=>sp (x::(vs++dvs)) H2 Q E)
def D1(C:Addr)(sp:Sp)(dvs:List V)(E:XK)(t:TA):TE:=λσ H Q=>t σ H λvs H1=>∀x dx,H1 x=none->H1 dx=none->dx≠x->
 sp (.ref x::(vs++dvs)) (upd (upd H1 dx (.own x)) x (.ins C dx [])) (λv H2=>v=.non/\Q (.ref x) H2) E
def Binds(K:PySem.W.Frag)(fd:FuncData)(ps:List Str)(ds:List Value):Prop:=
 ∀(s:Shared) (us:List Value),K.In s.heap->(us++ds).length=ps.length->BindsTo s fd ⟨us,[]⟩ (ps.zip (us++ds))
theorem Binds.all{K:PySem.W.Frag}{fd:FuncData}{ps:List Str}(h:∀us:List Value,us.length=ps.length->bindArgs fd ⟨us,[]⟩=pure (ps.zip us)):Binds K fd ps []:=λs us _ hl=>by
 rw[append_nil]at hl ⊢;exact .of_eq (h us hl)
def Passes(CX:zd)(X:Cx)(E:XK):Prop:=∀(pins:List (Addr×Obj)) (σ:St) (H:Hp) (s:Shared) (e:Value) (s':Shared),Inv X pins σ H s->CX X.stack H s E e s'->X.xe e s'
section
variable {X:Cx}{CX:zd}{k:Nat}{f C:Addr}{fd:FuncData}{ps:List Str}{sp:Sp}{dvs:List V}{ds:List Value}{E:XK}{x m:Str}{p pos apos:Pos}{e o:Expr}{es:List Expr}{ta:TE}{t:TA}
theorem AL{pins:List (Addr×Obj)}{σ:St}{H:Hp}{s:Shared}{Q:VK}{us:List Value}{vs:List V}(F:dO X.prog X.w X.K X.mg X.base CX k f fd ps sp)(hr:dr k X.A)(hb:Binds X.K fd ps ds)(hd:Vals dvs ds)(hx:Passes CX X E)
  (I:Inv X pins σ H s)(r:Vals vs us)(h:sp (vs++dvs) H Q E):wpAny (model X.prog X.w) X.A (call (.ref f) us) (EP X pins σ Q) X.xe s:=by
 have r2:Vals (vs++dvs) (us++ds):=r.append hd;have hl:(us++ds).length=ps.length:=by rw[<-r2.length];exact F.len _ _ _ _ h
 refine wpAny_call (codeAny_mono (F.run X.A X.stack s H ⟨us,[]⟩ (us++ds) (vs++dvs) Q E hr I.Aa (hb s us I.ip hl) r2 h) λr s' hq=>?_);cases r with
 |error e=>exact hx pins σ H s e s' I hq
 |ok fl=>
  cases fl with
  |ret u=>exact I.after hq
  |next=>exact False.elim hq
  |brk=>exact False.elim hq
  |cont=>exact False.elim hq
theorem xx(F:dO X.prog X.w X.K X.mg X.base CX k f fd ps sp)(hr:dr k X.A)(hg:Gl X x)(hm:X.mg x=some (.ref f))(hk:keepIn X.K (.ref f)=true)(hb:Binds X.K fd ps ds)(hd:Vals dvs ds)(hx:Passes CX X E)
  (ha:PA X (e::es) t) (hdb:(x == ("__debug__" :Str))=false:=by decide) (he:starEach (e::es) X.env=(false,eval e X.env)::starEach es X.env:=by rfl) (hpl:(backTo pos (starEach es X.env)).any (·.1)=false:=by rfl):
  PE X (.Call (.Name x p) (e::es) [] pos) (kj sp dvs E t):=by
 intro pins s σ H Q I h;refine wpAny_Call_Name_kw (iz I hg hm ?_ hdb);refine callWith_K (h₀:=X.base) I.ok.mod.kin hk (cY (ha pos pins s σ H _ I h) λus s1 ⟨vs,H1,I1,r,q⟩=>⟨I1.ip,?_⟩) he hpl;exact AL F hr hb hd hx I1 r q
theorem zw{pl:Sem Bool}(he:PE X o ta)(c:uL X.K C)(hm:Meth X.K C m f)(F:dO X.prog X.w X.K X.mg X.base CX k f fd ps sp)(hr:dr k X.A)(hb:Binds X.K fd ps ds)(hd:Vals dvs ds)(hx:Passes CX X E)
  (ht:eval (.Call (.Attribute o m apos) [] [] pos) X.env=(do
   let ov <-eval o X.env
   standAt apos.atName
   let (f,first) <-holding [ov] (getMethod ov m pl)
   callWith pos f first (backTo pos (starEach [] X.env)) (backToKw pos (keywordEach [] X.env))):=by rfl):
  PE X (.Call (.Attribute o m apos) [] [] pos) (DL C m sp dvs E ta oW):=by
 intro pins s σ H Q I h;refine PySem.W.methodCall_KW (pl:=pl) (cY (he pins s σ H _ I h) λu s1 hpat=>?_) ht;obtain⟨x,H1,I1,rx,a,dx,fs,ex,ea,l,q⟩:=hpat;subst ex;obtain rfl:u=Value.ref a:=rx;refine vY I1 ea c hm l ?_;exact PySem.W.callWith_K0 (first:=[.ref a]) I1.ip hm.kp (AL (us:=[.ref a]) (vs:=[.ref a]) F hr hb hd hx I1 (.cons rfl .nil) q)
structure Mk(K:PySem.W.Frag)(C f:Addr):Prop where
 makes:makesIn K C=true
 init:findIn K (.ref C) "__init__" =some (some (.ref f))
 fn:isFn K (.ref f)=true
 kp:keepIn K (.ref C)=true
theorem Ad{pins:List (Addr×Obj)}{σ:St}{H:Hp}{s:Shared}{Q:VK}{us:List Value}{vs:List V}(M:Mk X.K C f)(F:dO X.prog X.w X.K X.mg X.base CX k f fd ps sp)(hr:dr (k+1) X.A)(hb:Binds X.K fd ps ds)(hd:Vals dvs ds)
  (hx:Passes CX X E)(I:Inv X pins σ H s)(r:Vals vs us)
  (h:∀x dx,H x=none->H dx=none->dx≠x->sp (.ref x::(vs++dvs)) (upd (upd H dx (.own x)) x (.ins C dx [])) (λv H2=>v=.non/\Q (.ref x) H2) E):
  wpAny (model X.prog X.w) X.A (call (.ref C) us) (EP X pins σ Q) X.xe s:=by
 have hq:=h (s.heap.objs.size+1) s.heap.objs.size (I.hok.fresh (le_succ _)) (I.hok.fresh (le_refl _)) (ne_of_lt (lt_succ_self _));have I2:=Inv.made (C:=C) I;have r2:Vals (V.ref (s.heap.objs.size+1)::(vs++dvs)) (Value.ref (s.heap.objs.size+1)::(us++ds)):=.cons rfl (r.append hd);have hl:(Value.ref (s.heap.objs.size+1)::us++ds).length=ps.length:=by
  have e:=r2.length;rw[F.len _ _ _ _ hq]at e;exact e.symm
 refine wpAny_call (zW (f:=f) I.ip M.makes M.init (beq_iff_eq.mp M.fn) (codeAny_mono (F.run _ X.stack _ _ ⟨Value.ref (s.heap.objs.size+1)::us,[]⟩ (Value.ref (s.heap.objs.size+1)::(us++ds)) _ _ E (hr.make C us [])
  (I2.Aa.make C us []) (hb _ (Value.ref (s.heap.objs.size+1)::us) I2.ip hl) r2 hq) λr s' hq'=>?_))
 cases r with
 |error e=>exact hx pins σ _ _ e s' I2 hq'
 |ok fl=>
  cases fl with
  |ret u=>
   obtain⟨v,H',I3,rv,ev,q3⟩:=I2.after hq';subst ev;exact⟨rv,⟨V.ref (s.heap.objs.size+1),H',I3,rfl,q3⟩⟩
  |next=>exact False.elim hq'
  |brk=>exact False.elim hq'
  |cont=>exact False.elim hq'
theorem CG(M:Mk X.K C f)(F:dO X.prog X.w X.K X.mg X.base CX k f fd ps sp)(hr:dr (k+1) X.A)(hg:Gl X x)(hm:X.mg x=some (.ref C))(hb:Binds X.K fd ps ds)(hd:Vals dvs ds)(hx:Passes CX X E)
  (ha:PA X (e::es) t) (hdb:(x == ("__debug__" :Str))=false:=by decide) (he:starEach (e::es) X.env=(false,eval e X.env)::starEach es X.env:=by rfl) (hpl:(backTo pos (starEach es X.env)).any (·.1)=false:=by rfl):
  PE X (.Call (.Name x p) (e::es) [] pos) (D1 C sp dvs E t):=by
 intro pins s σ H Q I h;refine wpAny_Call_Name_kw (iz I hg hm ?_ hdb);refine callWith_K (h₀:=X.base) I.ok.mod.kin M.kp (cY (ha pos pins s σ H _ I h) λus s1 ⟨vs,H1,I1,r,q⟩=>⟨I1.ip,?_⟩) he hpl;exact Ad M F hr hb hd hx I1 r q
end
def PK(X:Cx)(kws:List Keyword)(t:TA):Prop:=
 ∀(pos:Pos) (pins:List (Addr×Obj)) (s:Shared) (σ:St) (H:Hp) (Q:List V->Hp->Prop),Inv X pins σ H s->t σ H Q->wpAny (model X.prog X.w) X.A (evalAll ((backToKw pos (keywordEach kws X.env)).map (·.2))) (AP X pins σ Q) X.xe s
section
variable {X:Cx}{CX:zd}{k:Nat}{f C:Addr}{fd:FuncData}{ps ks:List Str}{sp:Sp}{E:XK}{x m:Str}{p pos apos kpos:Pos}{e o:Expr}{es:List Expr}{kws:List Keyword}{te ta:TE}{t tk:TA}{nm:Option Str}
structure J0(K:PySem.W.Frag)(fd:FuncData)(ps ks:List Str)(g:List Value->List Value->List Value)(gV:List V->List V->List V):Prop where
 to:∀(s:Shared) (us ws:List Value),K.In s.heap->(g us ws).length=ps.length->BindsTo s fd ⟨us,ks.zip ws⟩ (ps.zip (g us ws))
 rel:∀{vs:List V}{us:List Value}{zs:List V}{ws:List Value},Vals vs us->Vals zs ws->Vals (gV vs zs) (g us ws)
def J1(sp:Sp)(gV:List V->List V->List V)(E:XK)(t tk:TA):TE:=λσ H Q=>t σ H λvs H1=>tk σ H1 λzs H2=>sp (gV vs zs) H2 Q E
variable {g:List Value->List Value->List Value}{gV:List V->List V->List V}
end
structure cE(N P:List Str)(sc:Scope):Prop where
 kind:sc.kind=.function:=by rfl
 co:sc.isCoroutine=false:=by rfl
 gen:sc.isGenerator=false:=by rfl
 nd:N.Nodup:=by decide+kernel
 pre:N.take P.length=P:=by rfl
 par:∀x∈P,sc.names.lookup x=some .local\/sc.names.lookup x=some .cell:=by decide+kernel
 nofree:∀y∈sc.names,y.2≠.free:=by decide+kernel
theorem qt{kindOf:Str->Option NameKind}{x:Str}:∀{binds:List (Str×Value)}{m:Str->Option Value},(∀v,(x,v) ∉ binds)->bindL kindOf binds m x=m x
 |[],_,_=>rfl
 | (n,v)::r,m,h=>by
  unfold bindL;rw[qt λw hw=>h w (mem_cons_of_mem _ hw)];split
  ·have:x≠n:=by rintro rfl;exact h v mem_cons_self
   simp[this]
  ·rfl
theorem p7{kindOf:Str->Option NameKind}{x:Str}:∀{binds:List (Str×Value)}{m:Str->Option Value},(∀v,(x,v) ∉ binds)->bindC kindOf binds m x=m x
 |[],_,_=>rfl
 | (n,v)::r,m,h=>by
  unfold bindC;rw[p7 λw hw=>h w (mem_cons_of_mem _ hw)];split
  ·rfl
  ·have:x≠n:=by rintro rfl;exact h v mem_cons_self
   simp[this]
theorem qw{kindOf:Str->Option NameKind}{x:Str}{v:Value}:∀{P:List Str}{vs:List Value}{i:Nat}{m:Str->Option Value},P.Nodup->P[i]? =some x->vs[i]? =some v->kindOf x=some .local->
  bindL kindOf (P.zip vs) m x=some v
 |[],_,_,_,_,h,_,_=>by simp at h
 |_::_,[],_,_,_,_,h,_=>by simp at h
 |p::P,w::vs,0,m,nd,h1,h2,hk=>by
  simp at h1 h2;subst h1;subst h2;show bindL kindOf ((p,w)::P.zip vs) m p=_;unfold bindL;rw[qt λv hv=>(nodup_cons.mp nd).1 (of_mem_zip hv).1,if_pos hk];simp
 |p::P,w::vs,i+1,m,nd,h1,h2,hk=>by
  show bindL kindOf ((p,w)::P.zip vs) m x=_;unfold bindL;exact qw (i:=i) (nodup_cons.mp nd).2 (by simpa using h1) (by simpa using h2) hk
theorem ql{kindOf:Str->Option NameKind}{x:Str}{v:Value}:∀{P:List Str}{vs:List Value}{i:Nat}{m:Str->Option Value},P.Nodup->P[i]? =some x->vs[i]? =some v->kindOf x≠some .local->
  bindC kindOf (P.zip vs) m x=some v
 |[],_,_,_,_,h,_,_=>by simp at h
 |_::_,[],_,_,_,_,h,_=>by simp at h
 |p::P,w::vs,0,m,nd,h1,h2,hk=>by
  simp at h1 h2;subst h1;subst h2;show bindC kindOf ((p,w)::P.zip vs) m p=_;unfold bindC;rw[p7 λv hv=>(nodup_cons.mp nd).1 (of_mem_zip hv).1,if_neg hk];simp
 |p::P,w::vs,i+1,m,nd,h1,h2,hk=>by
  show bindC kindOf ((p,w)::P.zip vs) m x=_;unfold bindC;exact ql (i:=i) (nodup_cons.mp nd).2 (by simpa using h1) (by simpa using h2) hk
def start(N:List Str)(vs:List V):St:=vs.map some++List.replicate (N.length - vs.length) none
def jH(CX:zd)(P:Program)(w:World)(K:PySem.W.Frag)(mg:Str->Option Value)(base:Heap)(N:List Str)(qual:Str)(scope:Scope)(f:Addr)(cd:Value)(A:Around)(outer:List Env)(s:Shared)(H:Hp)(E:XK):Cx where
 prog:=P
 w:=w
 K:=K
 mg:=mg
 base:=base
 A:=A.deeper (envOfC qual scope s.heap.objs.size f cd)
 N:=N
 s₀:=s
 H₀:=H
 env:=envOfC qual scope s.heap.objs.size f cd
 outer:=outer
 stack:=envOfC qual scope s.heap.objs.size f cd::outer
 ex:=[]
 calm:=true
 fn:=λ_=>true
 pn:=[]
 xe:=λe s'=>wpAny (model P w) (A.deeper (envOfC qual scope s.heap.objs.size f cd)) (leaving (envOfC qual scope s.heap.objs.size f cd) e) (λ_ s''=>CX outer H s E e s'') (λe' s''=>CX outer H s E e' s'') s'
theorem tf{sc:Scope}{n:Nat}{x:Str}(h:sc.names.lookup x=some .cell):∃c,(cellsFrom n sc.names []).lookup x=some c:=by
 have q:=PySem.W.cellsFrom_some sc.names n [] (.inl h);exact isSome_iff_exists.mp q
theorem yG{CX:zd}{P:Program}{w:World}{K:PySem.W.Frag}{mg:Str->Option Value}{base:Heap}{N ps:List Str}{qual:Str}{scope:Scope}{f:Addr}{cd:Value}{A:Around}{outer:List Env}{s s1:Shared}{H:Hp}{E:XK}{us:List Value}{vs:List V}
  (S:cE N ps scope)(hd:A.handled=none)(e0:pT P w K mg base A outer s H)(hl:vs.length=ps.length)(r:Vals vs us)
  (x:InCallC s s.heap.objs.size (bindL (envOfC qual scope s.heap.objs.size f cd).kindOf (ps.zip us) λ_=>none) (cellsFrom (s.heap.objs.size+1) scope.names []) (bindC (envOfC qual scope s.heap.objs.size f cd).kindOf (ps.zip us) λ_=>none) s1):
  Inv (jH CX P w K mg base N qual scope f cd A outer s H E) [] (start N vs) H s1:=by
 have hpl:ps.length<=N.length:=by have:=congrArg List.length S.pre;rw[length_take]at this;omega
 obtain⟨h1,tk,rfl,hk⟩:=x.done;have noA:∀b:Addr,b ∉ (jH CX P w K mg base N qual scope f cd A outer s H E).ex:=λb z=>absurd (show b∈([]:List Addr) from z) (by simp);refine⟨⟨e0.mod,S.kind,rfl,rfl,le_refl _,λy z c h1 h2=>?_,λy hy=>?_,λy c _ h=>?_,λ_=>hd,Around.frames_deeper e0.frames,.inr ⟨rfl,rfl⟩,λb z=>absurd z (noA b),e0.bs,e0.bsz,λb _ _=>noA b,λb z=>absurd z (noA b),e0.kZ,e0.frf⟩,
  rfl,e0.bare,Un.kept hk,⟨_,x.toInCall.ns,λi y v h1 h2 h3=>?_⟩,λy c h=>⟨_,x.cell y c h⟩,e0.hok.fresh (le_refl _),λy c h=>?_,λp hp=>absurd (show p∈([]:List (Addr×Obj)) from hp) (by simp),e0.hok.kept hk,?_⟩
 ·exact name_of_addr x.apart (PySem.mem_of_lookup h1) (PySem.mem_of_lookup h2)
 ·have hy:scope.names.lookup y=some .cell\/scope.names.lookup y=some .free:=hy
  rcases hy with hy|hy
  ·exact tf hy
  ·exact absurd rfl (S.nofree _ (PySem.mem_of_lookup hy))
 ·exact le_of_lt (x.above y c (PySem.mem_of_lookup h))
 ·have hi:i < vs.length:=by
   unfold start at h2;by_cases hi:i < vs.length
   ·exact hi
   ·rw[getElem?_append_right (by simpa using hi)]at h2
    rw[List.getElem?_replicate]at h2;split at h2<;>cases h2
  have ha:vs[i]? =some v:=by
   unfold start at h2;rw[getElem?_append_left (by simpa using hi),getElem?_map]at h2;cases e:vs[i]? with
   |none=>rw[e]at h2;cases h2
   |some a=>rw[e]at h2;cases h2;rfl
  obtain⟨u,hu,rv⟩:=r.get ha;have hp:ps[i]? =some y:=by
   rw[<-S.pre,getElem?_take_of_lt (by omega)];exact h1
  have ndP:ps.Nodup:=by rw[<-S.pre];exact S.nd.sublist (List.take_sublist _ _)
  refine⟨u,rv,?_⟩;rcases S.par y (mem_of_getElem? hp) with k|k
  ·exact .inl ⟨k,qw ndP hp hu k⟩
  ·obtain⟨c,e⟩:=tf (n:=s.heap.objs.size+1) k
   refine .inr ⟨.inl k,c,e,?_⟩;have q:=x.cell y c e;rw[ql ndP hp hu (by show scope.names.lookup y≠_;rw[k];decide)]at q;exact q
 ·exact e0.hok.fresh (le_of_lt (x.above y c (PySem.mem_of_lookup h)))
 ·unfold start
  show _=N.length;rw[length_append,length_map,length_replicate];omega
theorem zM{CX:zd}{P:Program}{w:World}{K:PySem.W.Frag}{mg:Str->Option Value}{base:Heap}{k:Nat}{f:Addr}{name qual:Str}{params:Arguments}{body:List Stmt}{scope:Scope}{dV kV doc pm cdv ct oc:Value}{an od:Option Addr}
  {osl:Array (Option Value)}{N ps:List Str}{sp:Sp}(lk:K.lookup f=some ⟨oc,od,.func (fnOf name qual params body scope dV kV doc pm an cdv ct),osl⟩) (hcd:codeIn K cdv qual=true) (S:cE N ps scope)
  (len:∀vs H Q E,sp vs H Q E->vs.length=ps.length)
  (hbody:∀(A:Around) (outer:List Env) (s:Shared) (H:Hp) (vs:List V) (Q:VK) (E:XK),dr k (A.deeper (envOfC qual scope s.heap.objs.size f cdv))->sp vs H Q E->
   ∃t,vT (jH CX P w K mg base N qual scope f cdv A outer s H E) body t/\t { nx:=λ_ H'=>Q .non H',rt:=Q } (start N vs) H):
  dO P w K mg base CX (k+1) f (fnOf name qual params body scope dV kV doc pm an cdv ct) ps sp:=by
 refine⟨len,λA outer s H args us vs Q E hr e0 hb r hsp=>?_⟩;have hl:=len _ _ _ _ hsp;have KX:K.In s.heap:=e0.mod.kin.keeps λb o e=>(e0.bs b o e).1;have lim:s.heap.NoLimit:=e0.mod.nolimit.keeps λb o e=>(e0.bs b o e).1;have hkind:∀y∈ps.zip us,scope.names.lookup y.1=some .local\/(scope.names.lookup y.1=some .cell/\((cellsFrom (s.heap.objs.size+1) scope.names []).lookup y.1).isSome=true):=λ⟨n,v⟩ hy=>by
  rcases S.par n (of_mem_zip hy).1 with q|q
  ·exact .inl q
  ·exact .inr ⟨q,PySem.W.cellsFrom_some _ _ _ (.inl q)⟩
 refine codeAny_call_function hr.depth (KX _ _ lk) rfl S.co S.gen rfl (PySem.W.codeRec_of KX hcd) (hb _ _ _ _ ?_);refine wpAny_newFunctionEnv_cells S.kind hkind λenv he s1 x=>?_;subst he;refine⟨lim.keeps x.toInCall.keep,codeAny_func ?_⟩;obtain⟨t,ht,hq⟩:=hbody A outer s H vs Q E (hr.deeper _) hsp;have I:Inv (jH CX P w K mg base N qual scope f cdv A outer s H E) [] (start N vs) H s1:=yG S hr.hd e0 hl r x;refine wpAny_mono (ht [] s1 (start N vs) H _ I hq) (λfl s' hs=>?_) λe s' hs=>hs;have fin:∀{σ':St}{H':Hp}{v:V}{u:Value},Inv (jH CX P w K mg base N qual scope f cdv A outer s H E) [] σ' H' s'->RelV v u->Q v H'->CE outer P w H s Q u s':=
  λ{σ' H' v u} J rv q=>⟨v,H',J.os,J.bare,J.base,J.hok,rv,q⟩
 cases fl with
 |ret u=>
  obtain⟨v,σ',H',J,rv,q⟩:=hs;exact fin J rv q
 |next=>
  obtain⟨σ',H',J,q⟩:=hs;exact fin (v:=V.non) (u:=Value.none) J rfl q
 |brk=>
  obtain⟨_,_,_,q⟩:=hs;exact False.elim q
 |cont=>
  obtain⟨_,_,_,q⟩:=hs;exact False.elim q
end L2
namespace L2
open PySem PySem.Spec PyProof.Rows
section
variable {X:Cx}{x:Str}{p pos:Pos}{e:Expr}{es:List Expr}{t:TA}{id T:String}{r:List V->Hp->VK->Prop}
def GG(r:List V->Hp->VK->Prop)(t:TA):TE:=λσ H Q=>t σ H λvs H1=>r vs H1 Q
theorem ig (hc:eG X (.builtin id) r) (hg:Gl X x) (hm:X.mg x=none) (hv:bootBuiltins x=some (.builtin id)) (ha:PA X (e::es) t) (hn:x≠ "__name__" :=by decide) (hdb:(x == ("__debug__" :Str))=false:=by decide)
  (he:starEach (e::es) X.env=(false,eval e X.env)::starEach es X.env:=by rfl)(hpl:(backTo pos (starEach es X.env)).any (·.1)=false:=by rfl):PE X (.Call (.Name x p) (e::es) [] pos) (GG r t):=by
 intro pins s σ H Q I h;refine wpAny_Call_Name_kw (lQ I hg hm hv ?_ hn hdb);exact PyProof.Rows.callWith_builtin1 (cY (ha pos pins s σ H _ I h) λus s1 ⟨vs,H1,I1,r1,q1⟩=>hc pins s1 σ H1 vs us Q I1 r1 q1) he hpl
theorem yj (hc:eG X (.type T) r) (hg:Gl X x) (hm:X.mg x=none) (hv:bootBuiltins x=some (.type T)) (ha:PA X (e::es) t) (hn:x≠ "__name__" :=by decide) (hdb:(x == ("__debug__" :Str))=false:=by decide)
  (he:starEach (e::es) X.env=(false,eval e X.env)::starEach es X.env:=by rfl)(hpl:(backTo pos (starEach es X.env)).any (·.1)=false:=by rfl):PE X (.Call (.Name x p) (e::es) [] pos) (GG r t):=by
 intro pins s σ H Q I h;refine wpAny_Call_Name_kw (lQ I hg hm hv ?_ hn hdb);exact PyProof.Rows.callWith_type1 (cY (ha pos pins s σ H _ I h) λus s1 ⟨vs,H1,I1,r1,q1⟩=>hc pins s1 σ H1 vs us Q I1 r1 q1) he hpl
end
end L2
namespace HT
open PySem PyProof.Rows
def lexLt:List Int->List Int->Bool
 |[],[]=>false
 |[],_::_=>true
 |_::_,[]=>false
 |x::xs,y::ys=>if x=y then lexLt xs ys else decide (x < y)
section
open PySem.SeqAt
open PySem.AutoSeq1 (wpAny_loadPart')
open PySem.MeetsSeq PySem.MeetsSeq2 PySem.MeetsSeq3
end
section
variable {prog:Program}{w:World}{A:Around}{E:Value->Shared->Prop}{s:Shared}
def d9(n d:Nat):Option Int->Nat
 |none=>d
 |some v=>if v < 0 then(v+(n:Int)).toNat else min v.toNat n
theorem AU(n d:Nat):d9 n d none=d:=rfl
theorem Dr(n d k:Nat):d9 n d (some (k:Int))=min k n:=by
 show(if(k:Int) < 0 then((k:Int)+(n:Int)).toNat else min (k:Int).toNat n)=min k n;rw[if_neg (by omega),Int.toNat_natCast]
theorem FP(n d:Nat)(hd:d<=n)(o:Option Int):d9 n d o<=n:=by
 cases o with
 |none=>exact hd
 |some v=>
  show(if v < 0 then(v+(n:Int)).toNat else min v.toNat n)<=n;by_cases hv:v < 0
  ·rw[if_pos hv];omega
  ·rw[if_neg hv];exact Nat.min_le_right _ _
theorem wt(a b:Nat):((min a b:Nat):Int)=min (a:Int) (b:Int):=by omega
theorem wY(v:Int)(n d:Nat):(if v < 0 then max (v+(n:Int)) 0 else min v (n:Int))=((d9 n d (some v):Nat):Int):=by
 show(if v < 0 then max (v+(n:Int)) 0 else min v (n:Int))=(((if v < 0 then(v+(n:Int)).toNat else min v.toNat n):Nat):Int);by_cases hv:v < 0
 ·rw[if_pos hv,if_pos hv,Int.toNat_eq_max]
 ·rw[if_neg hv,if_neg hv,wt,Int.toNat_of_nonneg (Int.not_lt.mp hv)]
theorem uX(lo hi:Option Int)(n:Nat):Builtin.Slice.sliceAdjust lo hi 1 (n:Int)=(((d9 n 0 lo:Nat):Int),((d9 n n hi:Nat):Int)):=by
 have h1:¬((1:Int) < 0):=by omega
 unfold Builtin.Slice.sliceAdjust;simp only[h1,if_false];refine Prod.ext ?_ ?_
 ·cases lo with
  |none=>rfl
  |some v=>exact wY v n 0
 ·cases hi with
  |none=>rfl
  |some v=>exact wY v n n
theorem vy(i j:Nat):Builtin.Slice.slicePlaces (i:Int) (j:Int) 1=j - i:=by
 unfold Builtin.Slice.slicePlaces;have h1:(1:Int) > 0:=by omega
 simp only[h1,if_true,Int.ediv_one];split<;>omega
theorem pD{v:Value}{o:Option Int}{Q:Option Int->Shared->Prop}(p:IsPart v o)(h:Q o s):wpAny (model prog w) A (Builtin.Slice.slicePartIndex v) Q E s:=by
 cases p with
 |none=>exact slicePart_none h
 |int i t=>exact slicePart_int h
theorem lL{sl:Addr}{vl vu:Value}{lo hi:Option Int}{n:Nat}{Q:Int×Int×Nat->Shared->Prop}(hs:s.heap.IsSliceOf sl vl vu .none)(pl:IsPart vl lo)(pu:IsPart vu hi)
  (h:Q (((d9 n 0 lo:Nat):Int),1,d9 n n hi - d9 n 0 lo) s):wpAny (model prog w) A (Builtin.Slice.sliceApplied (.ref sl) (pure (n:Int))) Q E s:=by
 obtain⟨os,hos,hcs,hds⟩:=id hs;unfold Builtin.Slice.sliceApplied Builtin.Slice.sliceFields;refine wpAny_bind (wpAny_bind (wpAny_field hos hds (x:=vl) rfl (wpAny_bind (wpAny_field hos hds (x:=vu) rfl (wpAny_bind (wpAny_field hos hds (x:=.none) rfl (wpAny_pure ?_)))))));refine wpAny_bind (slicePart_none ?_);show wpAny _ _ (if((1:Int) == 0)=true then _ else _) _ _ s;rw[if_neg (by decide)];refine wpAny_bind (pD pl (wpAny_bind (pD pu (wpAny_bind (wpAny_pure ?_)))));show wpAny _ _ (match Builtin.Slice.sliceAdjust lo hi 1 (n:Int) with| (lo,hi)=>pure (lo,(1:Int),Builtin.Slice.slicePlaces lo hi 1)) _ _ s;rw[uX lo hi n];show wpAny _ _ (pure (((d9 n 0 lo:Nat):Int),(1:Int),Builtin.Slice.slicePlaces ((d9 n 0 lo:Nat):Int) ((d9 n n hi:Nat):Int) 1)) _ _ s;rw[vy];exact wpAny_pure h
theorem zN(xs:Array Value)(i k:Nat):((List.range k).filterMap λ(m:Nat)=>xs[((i:Int)+(m:Int) * 1).toNat]?).toArray=((xs.toList.drop i).take k).toArray:=by
 have e:(λ(m:Nat)=>xs[((i:Int)+(m:Int) * 1).toNat]?)=λm=>xs[i+m]? :=by
  funext m
  have:((i:Int)+(m:Int) * 1).toNat=i+m:=by omega
  rw[this]
 rw[e];have:=pick_run xs i k;rw[List.filterMap_map]at this;have e2:((λx=>xs[x]?) ∘ λx=>i+x)=λm=>xs[i+m]? :=rfl;rw[e2]at this;rw[this]
theorem lu{t sl:Addr}{items:Array Value}{vl vu:Value}{lo hi:Option Int}{Q:Value->Shared->Prop}(ht:IsTup s.heap t items)(hs:s.heap.IsSliceOf sl vl vu .none)(pl:IsPart vl lo)(pu:IsPart vu hi)
  (hw:¬(d9 items.size 0 lo=0/\d9 items.size items.size hi=items.size))
  (h:Q (.ref s.heap.objs.size) { s with heap:=s.heap.push { cls:=.type "tuple",data:=.seq ((items.toList.drop (d9 items.size 0 lo)).take (d9 items.size items.size hi - d9 items.size 0 lo)).toArray } })
  (hsz:items.size<=sizeLine):wpAny (model prog w) A (getItem (.ref t) (.ref sl)) Q E s:=by
 have htake:sizeOk (.seq ((items.toList.drop (d9 items.size 0 lo)).take (d9 items.size items.size hi - d9 items.size 0 lo)).toArray):=by
  show((items.toList.drop (d9 items.size 0 lo)).take (d9 items.size items.size hi - d9 items.size 0 lo)).toArray.size<=sizeLine;rw[size_toArray,length_take,length_drop,length_toList];omega
 have hj:d9 items.size items.size hi<=items.size:=FP _ _ (le_refl _) hi;obtain⟨os,hos,hcs,hds⟩:=id hs;have hTs:s.TypeIs (.ref sl) "slice" :=⟨os,hos,hcs⟩;unfold getItem
 try with_reducible refine wpAny_holding ?_
 first|refine wpAny_bind (wpAny_pure ?_)|skip
 refine wpAny_bind (wpAny_sequenceKey ht.typeIs (by decide) ?_);refine wpAny_bind (wpAny_callSpecial?_slot (name:=Str.ofString "__getitem__") ht.typeIs PyProof.Rows.slot_tuple_getitem
  (wpAny_call_entry PyProof.Rows.slot_tuple_getitem ht.typeIs entry_tuple_getitem ?_ (args_tuple_getitem _ _)))
 show wpAny _ _ (Builtin.Tuple.tupleItemsOf (.ref t) >>= _) _ _ s;refine wpAny_bind (tupleItemsOf_ ht ?_);refine wpAny_bind (wpAny_typeOf hTs ?_);rw[if_pos (by decide)];refine wpAny_bind (lL hs pl pu ?_);have hno:¬((((d9 items.size 0 lo:Nat):Int) == 0 && (1:Int) == 1 && (d9 items.size items.size hi - d9 items.size 0 lo) == items.size)=true):=by
  intro q;rw[and_eq_true,and_eq_true]at q;have q1:((d9 items.size 0 lo:Nat):Int)=0:=eq_of_beq q.1.1;have q2:d9 items.size items.size hi - d9 items.size 0 lo=items.size:=eq_of_beq q.2;exact hw ⟨by omega,by omega⟩
 show wpAny _ _ (if(((d9 items.size 0 lo:Nat):Int) == 0 && (1:Int) == 1 && (d9 items.size items.size hi - d9 items.size 0 lo) == items.size)=true then _ else _) _ _ s;rw[if_neg hno,zN]
 first
  |exact wpAny_bind (m:=Builtin.Tuple.tupleExact _) (wpAny_newObj_type (wpAny_pure ⟨_,rfl,wpAny_pure h⟩) htake)
  |exact wpAny_bind (m:=Builtin.Tuple.tupleExact _) (wpAny_newObj_type (wpAny_bind (wpAny_pure (wpAny_pure ⟨_,rfl,wpAny_pure h⟩))) htake)
  |exact wpAny_bind (wpAny_bind (m:=Builtin.Tuple.tupleExact _) (wpAny_newObj_type (wpAny_pure (wpAny_pure ⟨_,rfl,wpAny_pure h⟩)) htake))
  |exact wpAny_bind (wpAny_bind (m:=Builtin.Tuple.tupleExact _) (wpAny_newObj_type (wpAny_pure ⟨_,rfl,wpAny_pure h⟩) htake))
end
end HT
namespace L2
open PySem PySem.Spec PyProof.Rows
abbrev TO:=St->Hp->(Option Int->Hp->Prop)->Prop
def PO(X:Cx)(e:Option Expr)(t:TO):Prop:=
 ∀(pins:List (Addr×Obj)) (s:Shared) (σ:St) (H:Hp) (Q:Option Int->Hp->Prop),Inv X pins σ H s->t σ H Q->
  wpAny (model X.prog X.w) X.A (evalPart e X.env) (λu s'=>∃o H',Inv X pins σ H' s'/\IsPart u o/\Q o H') X.xe s
def wG:TO:=λ_ H Q=>Q none H
inductive K6(x:V)(H:Hp)(Q:Option Int->Hp->Prop):Prop
 |mk(i:Int)(h:x=.int i)(q:Q (some i) H)
def DS(t:TE):TO:=λσ H Q=>t σ H λx H1=>K6 x H1 Q
theorem intsAre_of{ns:List Int}:∀{us:List Value},Vals (ns.map V.int) us->IntsAre us ns:=by
 induction ns with
 |nil=>intro us r;rw[map_nil]at r;cases r;exact .nil
 |cons n ns ih=>
  intro us r;rw[map_cons]at r;cases r with
  |cons r1 r2=>
   obtain⟨t,e⟩:=r1;subst e;exact .cons n t (ih r2)
section
variable {X:Cx}{e:Expr}{te:TE}{lo hi:Option Expr}{tl th:TO}{pos p2:Pos}
theorem BG:PO X none wG:=by
 intro pins s σ H Q I h;rw[evalPart_none];exact wpAny_pure ⟨none,H,I,.none,h⟩
theorem CV(h:PE X e te):PO X (some e) (DS te):=by
 intro pins s σ H Q I hw;rw[evalPart_some];refine cY (h pins s σ H _ I hw) λu s1 hpat=>?_;obtain⟨x,H1,I1,r1,q1⟩:=hpat;obtain⟨i,rfl,q⟩:=q1;obtain⟨t,rfl⟩:=r1;exact⟨some i,H1,I1,.int i t,q⟩
def Jx(X:Cx)(r:V->Option Int->Option Int->Hp->VK->Prop):Prop:=
 ∀(pins:List (Addr×Obj)) (s:Shared) (σ:St) (H:Hp) (x:V) (v vl vu:Value) (lo hi:Option Int) (sl:Addr) (Q:VK),Inv X pins σ H s->RelV x v->s.heap.IsSliceOf sl vl vu .none->IsPart vl lo->IsPart vu hi->r x lo hi H Q->
  ∃T id,typeLookup (.type T) "__getitem__" =pure (some (.builtin id))/\s.TypeIs v T/\wpAny (model X.prog X.w) X.A (getItem v (.ref sl)) (EP X pins σ Q) X.xe s
def LF(r:V->Option Int->Option Int->Hp->VK->Prop)(te:TE)(tl th:TO):TE:=λσ H Q=>te σ H λx H1=>tl σ H1 λl H2=>th σ H2 λu H3=>r x l u H3 Q
theorem AI{r:V->Option Int->Option Int->Hp->VK->Prop}(hr:Jx X r)(he:PE X e te)(hl:PO X lo tl)(hu:PO X hi th):PE X (.Subscript e (.Slice lo hi none p2) pos) (LF r te tl th):=by
 intro pins s σ H Q I h;refine Subscript_ (cY (he pins s σ H _ I h) λv s1 hpat=>?_);obtain⟨x,H1,I1,r1,q1⟩:=hpat;refine wpAny_Slice (cY (hl pins s1 σ H1 _ I1 q1) λvl s2 ⟨l,H2,I2,pl,q2⟩=>cY (hu pins s2 σ H2 _ I2 q2) λvu s3 hpat=>?_);obtain⟨u,H3,I3,pu,q3⟩:=hpat;rw[evalPart_none];refine wpAny_pure ?_;have I4:Inv X pins σ H3 { s3 with heap:=s3.heap.push { cls:=.type "slice",data:=.fields #[vl,vu,.none] } }:=I3.kept (t':=s3.toks) λb ob q=>get?_push_of_some _ q;obtain⟨T,id,hT,ht,hg⟩:=hr pins { s3 with heap:=s3.heap.push { cls:=.type "slice",data:=.fields #[vl,vu,.none] } } σ H3 x v vl vu l u s3.heap.objs.size Q I4 r1 (Heap.IsSliceOf.new ..) pl pu q3;show wpAny (model X.prog X.w) X.A (subscriptTail e (.Slice lo hi none p2) v (.ref s3.heap.objs.size)) (EP X pins σ Q) X.xe { s3 with heap:=s3.heap.push { cls:=.type "slice",data:=.fields #[vl,vu,.none] } };exact tail_any (ops:=[.ref s3.heap.objs.size,v]) ht hT hg (by with_unfolding_all rfl)
def fL(xs:List V)(lo hi:Option Int):List V:=(xs.drop (HT.d9 xs.length 0 lo)).take (HT.d9 xs.length xs.length hi - HT.d9 xs.length 0 lo)
theorem mW(xs:List V)(lo hi:Option Int):(fL xs lo hi).length<=xs.length:=by
 unfold fL;rw[length_take,length_drop];exact le_trans (Nat.min_le_right _ _) (Nat.sub_le _ _)
def Hj(K:PySem.W.Frag):V->Option Int->Option Int->Hp->VK->Prop:=λx lo hi H Q=>∃a xs,x=.ref a/\cU K H a xs/\
 ¬(HT.d9 xs.length 0 lo=0/\HT.d9 xs.length xs.length hi=xs.length)/\∀p,H p=none->Q (.ref p) (upd H p (.tup (fL xs lo hi)))
theorem uR:Jx X (Hj X.K):=by
 intro pins s σ H x v vl vu lo hi sl Q I rx hs pl pu h;obtain⟨a,xs,rfl,hx,hw,q⟩:=h;cases rx;obtain⟨its,r,ht,hz⟩:=I.tuple hx;have hlen:its.toArray.size=xs.length:=by rw[size_toArray];exact r.length.symm
 refine⟨"tuple",_,PyProof.Rows.slot_tuple_getitem.lookup,ht.typeIs,?_⟩;refine HT.lu ht hs pl pu (by rw[hlen];exact hw) ?_ (by rw[hlen];exact hz);rw[hlen];refine⟨.ref s.heap.objs.size,_,I.laid (t':=s.toks) (o:=.tup (fL xs lo hi)) (λb ob q=>get?_push_of_some _ q) (le_refl _) ?_,rfl,q _ (I.hok.fresh (le_refl _))⟩;exact⟨le_trans (mW xs lo hi) hz,_,(r.drop (HT.d9 xs.length 0 lo)).take (HT.d9 xs.length xs.length hi - HT.d9 xs.length 0 lo),IsTup.new _ _⟩
def Mw(K:PySem.W.Frag):R2:=λx y H Q=>∃a b ns ms,x=.ref a/\y=.ref b/\cU K H a (ns.map V.int)/\cU K H b (ms.map V.int)/\Q (.bl (HT.lexLt ns ms)) H
def LJ(K:PySem.W.Frag):R2:=λx y H Q=>∃a b xs ys,x=.ref a/\y=.ref b/\cU K H a xs/\cU K H b ys/\xs≠[]/\xs.length+ys.length<=sizeLine/\
 (ys=[]->Q (.ref a) H)/\(ys≠[]->∀p,H p=none->Q (.ref p) (upd H p (.tup (xs++ys))))
end
end L2
namespace L2
open PySem PySem.Spec PyProof.Rows
def EE(n:Nat)(i:Int):Option Nat:=if 0<=i then(if i < n then some i.toNat else none) else if -(n:Int)<=i then some (i+n).toNat else none
def pQ{α:Type}(xs:List α)(i:Int):Option α:=(EE xs.length i).bind λj=>xs[j]?
theorem BI{n:Nat}{i:Int}{j:Nat}(h:EE n i=some j):seqIndex? i n=some j/\j < n/\ -(n:Int)<=i/\i < n:=by
 unfold EE at h;by_cases h0:0<=i
 ·rw[if_pos h0]at h
  by_cases h1:i < n
  ·rw[if_pos h1]at h
   have e:i.toNat=j:=Option.some.inj h;exact⟨by rw[seqIndex_of h0 h1,e],by omega,by omega,h1⟩
  ·rw[if_neg h1]at h;cases h
 ·rw[if_neg h0]at h
  by_cases h1: -(n:Int)<=i
  ·rw[if_pos h1]at h
   have e:(i+n).toNat=j:=Option.some.inj h;exact⟨by rw[seqIndex_neg (by omega) h1,e],by omega,h1,by omega⟩
  ·rw[if_neg h1]at h;cases h
theorem q9{α:Type}{xs:List α}{i:Int}{v:α}(h:pQ xs i=some v):∃j,seqIndex? i xs.length=some j/\xs[j]? =some v/\j < xs.length/\ -(xs.length:Int)<=i/\i < xs.length:=by
 unfold pQ at h;cases e:EE xs.length i with
 |none=>rw[e]at h;cases h
 |some j=>
  rw[e]at h;obtain⟨h1,h2,h3,h4⟩:=BI e;exact⟨j,h1,h,h2,h3,h4⟩
theorem cQ{α:Type}{xs:List α}{j:Nat}{v:α}(h:xs[j]? =some v):pQ xs (j:Int)=some v:=by
 have hj:j < xs.length:=(List.getElem?_eq_some_iff.mp h).1;have e:EE xs.length (j:Int)=some j:=by
  unfold EE;rw[if_pos (by omega),if_pos (by omega)];simp
 unfold pQ;rw[e];exact h
def dY(b:Expr):Prop:=∀o i,subscripted b false o i=operate [o,i] (getItem o i)
def IL(X:Cx)(r:R2):Prop:=
 ∀(value slice:Expr) (pins:List (Addr×Obj)) (s:Shared) (σ:St) (H:Hp) (x y:V) (v u:Value) (Q:VK),Inv X pins σ H s->RelV x v->RelV y u->r x y H Q->
  subscripted slice false v u=operate [v,u] (getItem v u)->wpAny (model X.prog X.w) X.A (subscriptTail value slice v u) (EP X pins σ Q) X.xe s
def JR(X:Cx)(id:String)(r:V->List V->Hp->VK->Prop):Prop:=
 ∀(pins:List (Addr×Obj)) (s:Shared) (σ:St) (H:Hp) (x:V) (xs:List V) (v:Value) (us:List Value) (Q:VK),Inv X pins σ H s->RelV x v->Vals xs us->r x xs H Q->
  wpAny (model X.prog X.w) X.A (call (.builtin id) (v::us)) (EP X pins σ Q) X.xe s
section
variable {X:Cx}{a b:Expr}{ta tb:TE}{pos:Pos}
theorem HU{r:R2}(hr:IL X r)(ha:PE X a ta)(hb:PE X b tb)(hs:dY b):PE X (.Subscript a b pos) (Dy r ta tb):=by
 intro pins s σ H Q I h;exact Subscript_ (FK ha hb I h λv u s2 x y H2 I2 rx ry q=>hr a b pins s2 σ H2 x y v u Q I2 rx ry q (hs _ _))
inductive Jy(S:Addr->List V->Prop)(x y:V)(H:Hp)(Q:VK):Prop
 |mk(p:Addr)(xs:List V)(i:Int)(v:V)(hx:x=.ref p)(hy:y=.int i)(s:S p xs)(e:pQ xs i=some v)(q:Q v H)
inductive KR(x y:V)(H:Hp)(Q:VK):Prop
 |mk(z:Str)(i:Int)(c:Nat)(hx:x=.str z)(hy:y=.int i)(s:z.length<=sizeLine)(e:pQ z.cps.toList i=some c)(q:Q (.str ⟨#[c]⟩) H)
theorem xT{K:PySem.W.Frag}{H:Hp}{p:Addr}{xs:List V}{i:Int}{v:V}{Q:VK}(h:H p=some (.tup xs))(e:pQ xs i=some v)(q:Q v H):Jy (cU K H) (.ref p) (.int i) H Q:=⟨p,xs,i,v,rfl,rfl,cU.of h,e,q⟩
theorem xL{K:PySem.W.Frag}{H:Hp}{p:Addr}{xs:List V}{i:Int}{v:V}{Q:VK}(h:H p=some (.lst xs))(e:pQ xs i=some v)(q:Q v H):Jy (cH K H) (.ref p) (.int i) H Q:=⟨p,xs,i,v,rfl,rfl,cH.of h,e,q⟩
def BS(K:PySem.W.Frag):R2:=λx y H Q=>Jy (cH K H) x y H Q
def C1(K:PySem.W.Frag):R2:=λx y H Q=>Jy (cU K H) x y H Q
def FN:R2:=λx y H Q=>KR x y H Q
theorem wF:IL X (BS X.K):=by
 intro value slice pins s σ H x y v u Q I rx ry h hs;obtain⟨p,xs,i,z,rfl,rfl,hq,he,q⟩:=h;cases rx;obtain⟨t,rfl⟩:=ry;obtain⟨its,r,pl,hz⟩:=I.list hq;obtain⟨j,h1,h2,h3,h4,h5⟩:=q9 he;obtain⟨w,ew,rw'⟩:=r.get h2;have hl:=r.length;have hn:=n6;have fin:EP X pins σ Q w s:=⟨z,H,I,rw',q⟩;by_cases h0:0<=i
 ·have hj:i.toNat=j:=by
   rw[seqIndex_of h0 h5]at h1;exact Option.some.inj h1
  exact item_listR pl.isList h0 (by omega) (by rw[hj];simpa using ew) fin hs
 ·have hj:(i+(its.toArray.size:Int)).toNat=j:=by
   rw[seqIndex_neg (by omega) h4]at h1;rw[size_toArray,<-hl];exact Option.some.inj h1
  exact subscriptTail_builtinR (x:=w) pl.isList.typeIs slot_list_getitem.lookup
   (wpAny_getItem_list_neg (Q:=λr s'=>r=w/\EP X pins σ Q r s') pl.isList (by omega) (by rw[size_toArray]<;>omega) (by omega) (by rw[hj];simpa using ew) ⟨rfl,fin⟩) hs
theorem zS:IL X (C1 X.K):=by
 intro value slice pins s σ H x y v u Q I rx ry h hs;obtain⟨p,xs,i,z,rfl,rfl,hq,he,q⟩:=h;cases rx;obtain⟨t,rfl⟩:=ry;obtain⟨its,r,pl,hz⟩:=I.tuple hq;obtain⟨j,h1,h2,h3,h4,h5⟩:=q9 he;obtain⟨w,ew,rw'⟩:=r.get h2;have hl:=r.length;have hn:=n6;have fin:EP X pins σ Q w s:=⟨z,H,I,rw',q⟩;exact subscriptTail_builtinR (x:=w) pl.typeIs slot_tuple_getitem.lookup
  (getItem_tuple (j:=j) (Q:=λr s'=>r=w/\EP X pins σ Q r s') pl (by omega) (by omega) (by rw[size_toArray,<-hl];exact h1) (by simpa using ew) ⟨rfl,fin⟩) hs
theorem vo:IL X FN:=by
 intro value slice pins s σ H x y v u Q I rx ry h hs;obtain⟨z,i,c,rfl,rfl,hz,he,q⟩:=h;obtain⟨t,rfl⟩:=rx;obtain⟨t',rfl⟩:=ry;obtain⟨j,h1,h2,h3,h4,h5⟩:=q9 he;have hl:z.cps.toList.length=z.length:=by simp[Str.length]
 rw[hl]at h1 h4 h5;have hn:=n6;exact tail_any (typeIs_str s z t) slot_str_getitem.lookup (getItem_str (c:=c) (by
  have e1:decide (i < -(2 ^ 63:Int))=false:=decide_eq_false (by omega);have e2:decide (i ≥ 2 ^ 63)=false:=decide_eq_false (by omega);rw[e1,e2,Bool.or_false]) (by rw[h1];simpa using h2) ⟨.str ⟨#[c]⟩,H,I.tok _,⟨_,rfl⟩,q⟩) hs
def Nh(K:PySem.W.Frag):R2:=λx y H Q=>BS K x y H Q\/C1 K x y H Q\/FN x y H Q
inductive E2(o i v:V)(H:Hp)(Q:Hp->Prop):Prop
 |mk(p:Addr)(xs:List V)(k:Int)(j:Nat)(ho:o=.ref p)(hi:i=.int k)(s:H p=some (.lst xs))(e:EE xs.length k=some j)(q:Q (upd H p (.lst (xs.set j v))))
def LM:V->V->V->Hp->(Hp->Prop)->Prop:=λo i v H Q=>E2 o i v H Q
theorem DK(v:Int)(n d:Nat):max 0 (min (if v < 0 then v+(n:Int) else v) (n:Int))=((HT.d9 n d (some v):Nat):Int):=by
 show _=(((if v < 0 then(v+(n:Int)).toNat else min v.toNat n):Nat):Int);by_cases hv:v < 0
 ·rw[if_pos hv,if_pos hv,Int.toNat_eq_max,Int.max_comm,Int.min_eq_left (by omega)]
 ·rw[if_neg hv,if_neg hv,HT.wt,Int.toNat_of_nonneg (Int.not_lt.mp hv)]
  exact Int.max_eq_right (Int.le_min.mpr ⟨Int.not_lt.mp hv,Int.natCast_nonneg n⟩)
theorem qU(lo hi:Option Int)(n:Nat):(sliceBounds lo hi none n).1=((HT.d9 n 0 lo:Nat):Int)/\(sliceBounds lo hi none n).2.1=((HT.d9 n n hi:Nat):Int)/\(sliceBounds lo hi none n).2.2=1:=by
 refine⟨?_,?_,rfl⟩
 ·cases lo with
  |none=>simp[sliceBounds,HT.d9]
  |some i=>
   simp only[sliceBounds,Option.getD_none,show(1:Int) > 0 by decide,if_true];exact DK i n 0
 ·cases hi with
  |none=>simp[sliceBounds,HT.d9]
  |some i=>
   simp only[sliceBounds,Option.getD_none,show(1:Int) > 0 by decide,if_true];exact DK i n n
theorem pM(its:List Value)(lo hi:Option Int):slicePick its.toArray lo hi none=((its.drop (HT.d9 its.length 0 lo)).take (HT.d9 its.length its.length hi - HT.d9 its.length 0 lo)).toArray:=by
 obtain⟨h1,h2,h3⟩:=qU lo hi its.toArray.size;unfold slicePick;rw[h1,h2,h3];simp only[sliceRange_one,pick_run,size_toArray]<;>rfl
inductive MA(K:PySem.W.Frag)(x:V)(lo hi:Option Int)(H:Hp)(Q:VK):Prop
 |mk(a:Addr)(xs:List V)(hx:x=.ref a)(s:cH K H a xs)(q:∀p,H p=none->Q (.ref p) (upd H p (.lst (fL xs lo hi))))
def Jd(K:PySem.W.Frag):V->Option Int->Option Int->Hp->VK->Prop:=λx lo hi H Q=>MA K x lo hi H Q
theorem CF:Jx X (Jd X.K):=by
 intro pins s σ H x v vl vu lo hi sl Q I rx hs pl pu h;obtain⟨a,xs,rfl,hx,q⟩:=h;cases rx;obtain⟨its,r,ht,hz⟩:=I.list hx;have hlen:=r.length;refine⟨"list",_,slot_list_getitem.lookup,ht.isList.typeIs,?_⟩;refine wpAny_getItem_list_slice ht.isList hs pl pu .none (by simp) ?_ (by rw[size_toArray]<;>omega);rw[pM,<-hlen];refine⟨.ref s.heap.objs.size,_,I.laid (t':=s.toks) (o:=.lst (fL xs lo hi)) (λb ob q=>get?_push_of_some _ q) (le_refl _) ?_,rfl,q _ (I.hok.fresh (le_refl _))⟩;exact⟨le_trans (mW xs lo hi) hz,_,0,(r.drop (HT.d9 xs.length 0 lo)).take (HT.d9 xs.length xs.length hi - HT.d9 xs.length 0 lo),get?_push_size _ rfl⟩
def cW:V->Bool
 |.non=>true
 |.bl _=>true
 |.int _=>true
 |.str _=>true
 |_=>false
def sH:V->V->Bool
 |.non,.non=>true
 |.bl a,.bl b=>a == b
 |.bl a,.int b=>(if a then 1 else 0) == b
 |.int a,.bl b=>a == (if b then 1 else 0)
 |.int a,.int b=>a == b
 |.str a,.str b=>a == b
 |_,_=>false
theorem rM{A:Around}{s:Shared}{y x:V}{u v:Value}(ry:RelV y u)(rx:RelV x v)(fy:cW y=true)(fx:cW x=true):SeqAt.EqAt A s u v (sH y x):=by
 cases y with
 |non=>
  cases ry;cases x with
  |non=>cases rx;exact SeqAt.EqAt.same _
  |bl b=>cases rx;exact SeqAt.EqAt.none_bool b
  |int b=>obtain⟨t,rfl⟩:=rx;exact SeqAt.EqAt.none_int b t
  |str b=>obtain⟨t,rfl⟩:=rx;exact SeqAt.EqAt.none_str b t
  |_=>exact absurd (show false=true from fx) Bool.false_ne_true
 |bl a=>
  cases ry;cases x with
  |non=>cases rx;exact SeqAt.EqAt.bool_none a
  |bl b=>cases rx;exact SeqAt.EqAt.bool_bool a b
  |int b=>obtain⟨t,rfl⟩:=rx;exact SeqAt.EqAt.bool_int a b t
  |str b=>obtain⟨t,rfl⟩:=rx;exact SeqAt.EqAt.bool_str a b t
  |_=>exact absurd (show false=true from fx) Bool.false_ne_true
 |int a=>
  obtain⟨t',rfl⟩:=ry;cases x with
  |non=>cases rx;exact SeqAt.EqAt.int_none a t'
  |bl b=>cases rx;exact SeqAt.EqAt.int_bool a t' b
  |int b=>obtain⟨t,rfl⟩:=rx;exact SeqAt.EqAt.int_int a t' b t
  |str b=>obtain⟨t,rfl⟩:=rx;exact SeqAt.EqAt.int_str a t' b t
  |_=>exact absurd (show false=true from fx) Bool.false_ne_true
 |str a=>
  obtain⟨t',rfl⟩:=ry;cases x with
  |non=>cases rx;exact SeqAt.EqAt.str_none a t'
  |bl b=>cases rx;exact SeqAt.EqAt.str_bool a t' b
  |int b=>obtain⟨t,rfl⟩:=rx;exact SeqAt.EqAt.str_int a t' b t
  |str b=>obtain⟨t,rfl⟩:=rx;exact SeqAt.EqAt.str_str a t' b t
  |_=>exact absurd (show false=true from fx) Bool.false_ne_true
 |_=>exact absurd (show false=true from fy) Bool.false_ne_true
def va(x:V)(u:Value):Bool:=match u with
 |.none=>sH .non x
 |.bool b=>sH (.bl b) x
 |.int i _=>sH (.int i) x
 |.str z _=>sH (.str z) x
 |_=>false
theorem Ax{x y:V}{u:Value}(r:RelV y u)(f:cW y=true):va x u=sH y x:=by
 cases y with
 |non=>cases r;rfl
 |bl b=>cases r;rfl
 |int i=>obtain⟨t,rfl⟩:=r;rfl
 |str z=>obtain⟨t,rfl⟩:=r;rfl
 |_=>exact absurd (show false=true from f) Bool.false_ne_true
theorem lq{x:V}:∀{xs:List V}{us:List Value},Vals xs us->xs.all cW=true->us.any (va x)=xs.any λy=>sH y x
 |_,_,.nil,_=>rfl
 |y::xs,u::us,.cons r t,f=>by
  rw[all_cons,and_eq_true]at f;rw[any_cons,any_cons,Ax r f.1,lq t f.2]
theorem iZ{A:Around}{s:Shared}{x:V}{v:Value}(rx:RelV x v)(fx:cW x=true):∀{xs:List V}{us:List Value},Vals xs us->xs.all cW=true->∀u∈us,SeqAt.EqAt A s u v (va x u)
 |_,_,.nil,_=>λu hu=>by cases hu
 |y::xs,u::us,.cons r t,f=>λu' hu=>by
  rw[all_cons,and_eq_true]at f;rcases mem_cons.mp hu with rfl|hu
  ·rw[Ax r f.1];exact rM r rx f.1 fx
  ·exact iZ rx fx t f.2 u' hu
def wW(x:V)(xs:List V):Bool:=xs.any λy=>sH y x
inductive Kl(K:PySem.W.Frag)(neg:Bool)(x y:V)(H:Hp)(Q:VK):Prop
 |mk(p:Addr)(xs:List V)(hy:y=.ref p)(s:cH K H p xs\/cU K H p xs)(f:cW x=true)(fs:xs.all cW=true)(q:Q (.bl (if neg then !wW x xs else wW x xs)) H)
def Jo(K:PySem.W.Frag)(neg:Bool):R2:=λx y H Q=>Kl K neg x y H Q
theorem fQ:iq X (compareOp .In) (Jo X.K false):=by
 intro pins s σ H x y v u Q I rx ry h;obtain⟨p,xs,rfl,hq,fx,fs,q⟩:=h;cases ry;rcases hq with hq|hq
 ·obtain⟨its,r,pl,hz⟩:=I.list hq
  refine SeqAt.in_listAt (va x) pl.isList (λw hw=>iZ rx fx r fs w (by simpa using hw)) ⟨.bl _,H,I,rfl,?_⟩;rw[show its.toArray.any (va x)=its.any (va x) by simp,lq r fs];exact q
 ·obtain⟨its,r,pl,hz⟩:=I.tuple hq
  refine SeqAt.in_tupleAt (va x) pl (λw hw=>iZ rx fx r fs w (by simpa using hw)) ⟨.bl _,H,I,rfl,?_⟩;rw[show its.toArray.any (va x)=its.any (va x) by simp,lq r fs];exact q
theorem fN:iq X (compareOp .NotIn) (Jo X.K true):=by
 intro pins s σ H x y v u Q I rx ry h;obtain⟨p,xs,rfl,hq,fx,fs,q⟩:=h;cases ry;rcases hq with hq|hq
 ·obtain⟨its,r,pl,hz⟩:=I.list hq
  refine SeqAt.notIn_listAt (va x) pl.isList (λw hw=>iZ rx fx r fs w (by simpa using hw)) ⟨.bl _,H,I,rfl,?_⟩;rw[show its.toArray.any (va x)=its.any (va x) by simp,lq r fs];exact q
 ·obtain⟨its,r,pl,hz⟩:=I.tuple hq
  refine SeqAt.notIn_tupleAt (va x) pl (λw hw=>iZ rx fx r fs w (by simpa using hw)) ⟨.bl _,H,I,rfl,?_⟩;rw[show its.toArray.any (va x)=its.any (va x) by simp,lq r fs];exact q
inductive D7(K:PySem.W.Frag)(xs:List V)(H:Hp)(Q:VK):Prop
 |mk(p:Addr)(ys:List V)(e:xs=[.ref p])(s:cH K H p ys\/cU K H p ys)(q:Q (.int ys.length) H)
theorem kF:eG X (.builtin "len") (λxs H Q=>L2.D7 X.K xs H Q):=by
 intro pins s σ H xs us Q I r h;obtain⟨p,ys,rfl,hq,q⟩:=h;obtain⟨u,rfl,rx⟩:=vals1 r;cases rx;have hn:=n6;rcases hq with hq|hq
 ·obtain⟨its,r',pl,hz⟩:=I.list hq
  have hlen:=r'.length;exact Calls.call_len_list pl.isList (by simp only[size_toArray]<;>omega) ⟨.int ys.length,H,I.tok _,⟨s.toks+1,by rw[size_toArray,hlen]⟩,q⟩
 ·obtain⟨its,r',pl,hz⟩:=I.tuple hq
  have hlen:=r'.length;exact len_tuple pl (by simp only[size_toArray]<;>omega) ⟨.int ys.length,H,I.tok _,⟨s.toks+1,by rw[size_toArray,hlen]⟩,q⟩
theorem qQ:eG X (.builtin "len") (λxs H Q=>∃z,xs=[.str z]/\z.length<=sizeLine/\Q (.int z.length) H):=by
 intro pins s σ H xs us Q I r h;obtain⟨z,rfl,hz,q⟩:=h;obtain⟨u,rfl,t,rfl⟩:=vals1 r;have hn:=n6;exact len_str (by omega) ⟨.int z.length,H,I.tok _,⟨_,rfl⟩,q⟩
theorem r8:eG X (.type "list") (λxs H Q=>∃p ys,xs=[.ref p]/\(cH X.K H p ys\/cU X.K H p ys)/\∀l,H l=none->Q (.ref l) (upd H l (.lst ys))):=by
 intro pins s σ H xs us Q I r h;obtain⟨p,ys,rfl,hq,q⟩:=h;obtain⟨u,rfl,rx⟩:=vals1 r;cases rx;have fin:∀(its:List Value),Vals ys its->ys.length<=sizeLine->∀(h':Heap) (c':Nat),(∀b o',s.heap.get? b=some o'->h'.get? b=some o')->
   h'.get? s.heap.objs.size=some { cls:=.type "list",dict:=none,data:=.seq its.toArray c',slots:= #[] }->EP X pins σ Q (.ref s.heap.objs.size) { s with heap:=h' }:=λits r' hz h' c' kp e=>
  ⟨.ref s.heap.objs.size,_,I.laid (t':=s.toks) kp (le_refl _) (show cZ X.prog X.w _ h' _ (.lst ys) from ⟨hz,its,c',r',e⟩),rfl,q _ (I.hok.fresh (le_refl _))⟩
 rcases hq with hq|hq
 ·obtain⟨its,r',pl,hz⟩:=I.list hq
  have hlen:=r'.length;obtain⟨o,ho,hc,n,hd⟩:=pl.isList;exact call_list_seq p (.inl rfl) ho hc hd (λh' c' kp e=>fin its r' hz h' c' kp e) (by simp only[size_toArray]<;>omega)
 ·obtain⟨its,r',pl,hz⟩:=I.tuple hq
  have hlen:=r'.length;obtain⟨o,ho,hc,n,hd⟩:=pl;exact call_list_seq p (.inr rfl) ho hc hd (λh' c' kp e=>fin its r' hz h' c' kp e) (by simp only[size_toArray]<;>omega)
def Kh(K:PySem.W.Frag)(T:String)(x:V)(H:Hp):Prop:=match x with
 |.str _=>T= "str"
 |.int _=>T= "int"
 |.ref p=>(T= "list" /\∃xs,cH K H p xs)\/(T= "tuple" /\∃o,K.lookup p=some o/\o.cls=.type "tuple" /\o.dict=none)\/
   (T= "dict" /\((∃kvs,H p=some (.dK kvs))\/∃kvs,H p=some (.dT kvs)))\/(T= "set" /\∃S n,H p=some (.set S n))
 |_=>False
theorem zV{pins:List (Addr×Obj)}{σ:St}{H:Hp}{s:Shared}{T:String}{x:V}{v:Value}(I:Inv X pins σ H s)(r:RelV x v)(ty:Kh X.K T x H):
  s.TypeIs v T/\∀a,v=.ref a->∃ob,s.heap.get? a=some ob/\ob.dict=none:=by
 cases x with
 |str z=>
  obtain⟨t,rfl⟩:=r;cases (show T= "str" from ty);exact⟨typeIs_str s z t,λ_ e=>nomatch e⟩
 |int i=>
  obtain⟨t,rfl⟩:=r;cases (show T= "int" from ty);exact⟨typeIs_int s i t,λ_ e=>nomatch e⟩
 |ref p=>
  cases r;rcases ty with ⟨rfl,xs,hq⟩|⟨rfl,o,hk,hc,hd⟩|⟨rfl,hk⟩|⟨rfl,S,n,hk⟩
  ·obtain⟨its,_,pl,_⟩:=I.list hq
   refine⟨pl.isList.typeIs,λa e=>?_⟩;cases e;obtain⟨o,n,e,c,hd,_⟩:=pl;exact⟨o,e,hd⟩
  ·refine⟨⟨o,I.ip p o hk,hc⟩,λa e=>?_⟩
   cases e;exact⟨o,I.ip _ o hk,hd⟩
  ·have z:∃o,s.heap.get? p=some o/\o.ExactDict:=by
    rcases hk with ⟨kvs,hk⟩|⟨kvs,hk⟩
    ·obtain⟨_,_,_,_,o,_,_,e,ex,_⟩:=I.hok p _ hk
     exact⟨o,e,ex⟩
    ·obtain⟨_,_,_,_,o,_,_,e,ex,_⟩:=I.hok p _ hk
     exact⟨o,e,ex⟩
   obtain⟨o,e,ex⟩:=z;refine⟨⟨o,e,ex.1⟩,λa e2=>?_⟩;cases e2;exact⟨o,e,ex.2.1⟩
  ·obtain⟨o,_,_,_,e,ex,_⟩:=I.hok p _ hk
   refine⟨⟨o,e,ex.1⟩,λa e2=>?_⟩;cases e2;exact⟨o,e,ex.2.1⟩
 |_=>exact False.elim ty
def GJ(K:PySem.W.Frag)(T:String)(r:V->List V->Hp->VK->Prop)(to:TE):TE:=λσ H Q=>to σ H λx H1=>Kh K T x H1/\r x [] H1 Q
def Lu(K:PySem.W.Frag)(T:String)(r:V->List V->Hp->VK->Prop)(to:TE)(t:TA):TE:=λσ H Q=>to σ H λx H1=>Kh K T x H1/\t σ H1 λxs H2=>r x xs H2 Q
variable {o e:Expr}{es:List Expr}{to:TE}{t:TA}{name:Str}{apos cpos:Pos}{T id:String}{r:V->List V->Hp->VK->Prop}
theorem Fp (pa:PlainAttrs T) (slot:Slot T name id) (hty:typeOf (.builtin id)=pure (.type "method_descriptor")) (hm:JR X id r) (ho:PE X o to)
  (hbase:attributeBase o name X.env (eval o X.env)=eval o X.env:=by rfl)(hline:(apos.endLine == cpos.line)=true:=by rfl):PE X (.Call (.Attribute o name apos) [] [] cpos) (GJ X.K T r to):=by
 intro pins s σ H Q I h;refine wpAny_Call_method0_late hbase hline (cY (ho pins s σ H _ I h) λv s1 hpat=>?_);obtain⟨x,H1,I1,r1,ty,q1⟩:=hpat;obtain⟨h1,h2⟩:=zV I1 r1 ty;exact⟨T,id,pa,slot,hty,h1,h2,Calls.callWith_builtin rfl (PySem.evalArgs_none (hm pins s1 σ H1 x [] v [] Q I1 r1 .nil q1))⟩
theorem GN (pa:PlainAttrs T) (slot:Slot T name id) (hty:typeOf (.builtin id)=pure (.type "method_descriptor")) (hm:JR X id r) (ho:PE X o to) (ha:PA X (e::es) t)
  (hbase:attributeBase o name X.env (eval o X.env)=eval o X.env:=by rfl)
  (hfew:((backTo cpos (starEach (e::es) X.env)).all (λx=> !x.1) && (backToKw cpos (keywordEach [] X.env)).all (λx=>x.1.isSome)
   && decide ((e::es).length+([]:List Keyword).length+(if([]:List Keyword).isEmpty then 0 else 1) < 30))=true:=by rfl)
  (hline:(apos.endLine == cpos.line)=true:=by rfl) (hs:starEach (e::es) X.env=(false,eval e X.env)::starEach es X.env:=by rfl) (hplain:(backTo cpos (starEach es X.env)).any (·.1)=false:=by rfl):
  PE X (.Call (.Attribute o name apos) (e::es) [] cpos) (Lu X.K T r to t):=by
 intro pins s σ H Q I h;refine wpAny_Call_method_late hbase hfew hline rfl (cY (ho pins s σ H _ I h) λv s1 hpat=>?_);obtain⟨x,H1,I1,r1,ty,q1⟩:=hpat;obtain⟨h1,h2⟩:=zV I1 r1 ty;refine⟨T,id,pa,slot,hty,h1,h2,?_⟩;have hA:=ha cpos pins s1 σ H1 _ I1 q1;rw[hs]at hA ⊢;refine Calls.callWith_builtin (by show(false || (backTo cpos (starEach es X.env)).any (·.1))=false;rw[hplain]<;>rfl) (Calls.evalArgs_plain ?_);exact cY hA λus s2 ⟨vs,H2,I2,r2,q2⟩=>hm pins s2 σ H2 x vs v us Q I2 r1 r2 q2
end
end L2
namespace L2
open PySem PySem.Spec PyProof.Rows
def LS(X:Cx)(id:String)(r:V->List V->Hp->VK->Prop):Prop:=
 ∀(pins:List (Addr×Obj)) (s:Shared) (σ:St) (H:Hp) (x:V) (xs:List V) (v:Value) (us:List Value) (Q:VK),Inv X pins σ H s->RelV x v->Vals xs us->r x xs H Q->
  wpAny (model X.prog X.w) X.A (call (.builtin id) (v::us)) (EP X pins σ Q) X.xe s
theorem Vals.one:∀{x:V}{us:List Value},Vals [x] us->∃u,us=[u]/\RelV x u
 |_,_,.cons r .nil=>⟨_,rfl,r⟩
theorem Vals.zero:∀{us:List Value},Vals [] us->us=[]
 |_,.nil=>rfl
theorem Vals.reverse{xs:List V}{us:List Value}(h:Vals xs us):Vals xs.reverse us.reverse:=by
 induction h with
 |nil=>exact .nil
 |cons r t ih=>rw[List.reverse_cons,List.reverse_cons];exact Vals.append ih (.cons r .nil)
theorem Vals.rep{xs:List V}{us:List Value}(h:Vals xs us):∀k:Nat,Vals (List.replicate k xs).flatten (List.replicate k us).flatten
 |0=>.nil
 |k+1=>by
  rw[replicate_succ,replicate_succ,flatten_cons,flatten_cons];exact Vals.append h (Vals.rep h k)
theorem foldl_rep(its:List Value):∀(k:Nat) (acc:List Value),
  List.foldl (λx1 x2=>x1++x2) acc.toArray (List.replicate k its.toArray)=(acc++(List.replicate k its).flatten).toArray
 |0,acc=>by simp
 |k+1,acc=>by
  have e:acc.toArray++its.toArray=(acc++its).toArray:=by simp
  have e2:(acc++its)++(List.replicate k its).flatten=acc++(List.replicate (k+1) its).flatten:=by
   rw[replicate_succ,flatten_cons,append_assoc]
  rw[<-e2,<-foldl_rep its k (acc++its),<-e,replicate_succ,foldl_cons]
section
variable {X:Cx}{pins:List (Addr×Obj)}{σ:St}{H:Hp}{s:Shared}{l b:Addr}{xs ys zs:List V}
theorem Inv.Hy{its its':List Value}{n:Nat}{f:Array Value->Array Value}{t':Nat}(I:Inv X pins σ H s)(hH:H l=some (.lst xs))
  (e:s.heap.get? l=some { cls:=.type "list",data:=.seq its.toArray n }) (hf:f its.toArray=its'.toArray) (hv:Vals ys its') (hz:ys.length<=sizeLine):
  Inv X pins σ (upd H l (.lst ys)) { s with heap:=s.heap.update l (Obj.mapSeq f),toks:=t' }:=by
 have q:=PySem.IsL.update e f;rw[hf]at q;refine I.write (x:=l) (e:=l) (by rw[hH];exact trivial) (.inl rfl) (λb' u hb hu=>(Heap.get?_update_other s.heap (Obj.mapSeq f) (Ne.symm hb)).trans hu) ⟨_,q⟩ ?_;exact⟨hz,its',_,hv,q⟩
theorem Inv.Jk{its:List Value}{t':Nat}(I:Inv X pins σ H s)(hv:Vals ys its)(hz:ys.length<=sizeLine):
  Inv X pins σ (upd H s.heap.objs.size (.lst ys)) { s with heap:=s.heap.push { cls:=.type "list",data:=.seq its.toArray },toks:=t' }:=
 I.laid (λ_ _ q=>get?_push_of_some _ q) (le_refl _) ⟨hz,its,0,hv,get?_push_size _ rfl⟩
theorem Inv.fresh(I:Inv X pins σ H s):H s.heap.objs.size=none:=I.hok.fresh (le_refl _)
theorem Inv.D8(I:Inv X pins σ H s)(hH:H l=some (.lst xs)):xs.length<=sizeLine/\∃(its:List Value) (n:Nat),Vals xs its/\xs.length=its.length/\s.heap.get? l=some { cls:=.type "list",data:=.seq its.toArray n }:=by
 obtain⟨z,its,n,r,e⟩:=I.hok l _ hH;exact⟨z,its,n,r,r.length,e⟩
theorem AM{n:Nat}(h:n<=sizeLine):Builtin.List.listTooLong n=false:=by
 unfold Builtin.List.listTooLong;exact decide_eq_false (by omega)
end
section
variable {X:Cx}
inductive Kt(x:V)(vs:List V)(H:Hp)(Q:VK):Prop
 |mk(l:Addr)(xs:List V)(y:V)(hx:x=.ref l)(hv:vs=[y])(s:H l=some (.lst xs))(b:xs.length < sizeLine)(q:Q .non (upd H l (.lst (xs++[y]))))
def xC:V->List V->Hp->VK->Prop:=λx vs H Q=>Kt x vs H Q
theorem qj:LS X "list.append" xC:=by
 intro pins s σ H x vs v us Q I rx rv h;obtain⟨l,xs,y,rfl,rfl,hH,hz,q⟩:=h;cases rx;obtain⟨u,rfl,ru⟩:=rv.one;obtain⟨z,its,n,r,hl,e⟩:=I.D8 hH;refine call_meets F.slot_list_append ⟨_,e,rfl⟩ F.entry_list_append (F.args_list_append_2 _ _) (PySem.list_append l its.toArray n u (by rw[size_toArray];omega)) ⟨e,?_⟩;refine⟨.non,_,I.Hy (its':=its++[u]) hH e (by simp) (r.append (.cons ru .nil)) ?_,rfl,q⟩;rw[length_append,List.length_singleton];omega
def JN:V->List V->Hp->VK->Prop:=λx vs H Q=>∃l b xs zs,x=.ref l/\vs=[.ref b]/\H l=some (.lst xs)/\H b=some (.lst zs)/\xs.length+zs.length<=sizeLine/\Q .non (upd H l (.lst (xs++zs)))
def L4:V->List V->Hp->VK->Prop:=λx vs H Q=>∃l xs y,x=.ref l/\vs=[]/\H l=some (.lst xs)/\xs[xs.length - 1]? =some y/\Q y (upd H l (.lst xs.dropLast))
def KN:V->List V->Hp->VK->Prop:=λx vs H Q=>∃l xs i k y,x=.ref l/\vs=[.int i]/\H l=some (.lst xs)/\ -(2 ^ 63)<=i/\i < 2 ^ 63/\seqIndex? i xs.length=some k/\xs[k]? =some y/\Q y (upd H l (.lst (xs.eraseIdx k)))
def tw:V->List V->Hp->VK->Prop:=λx vs H Q=>∃l xs,x=.ref l/\vs=[]/\H l=some (.lst xs)/\Q .non (upd H l (.lst xs.reverse))
theorem jW:LS X "list.reverse" tw:=by
 intro pins s σ H x vs v us Q I rx rv h;obtain⟨l,xs,rfl,rfl,hH,q⟩:=h;cases rx;have hus:=rv.zero;subst hus;obtain⟨z,its,n,r,hl,e⟩:=I.D8 hH;refine call_meets F.slot_list_reverse ⟨_,e,rfl⟩ F.entry_list_reverse (F.args_list_reverse_1 _) (AutoSeq1.list_reverse_list_0 l its.toArray n (by rw[size_toArray];omega)) ⟨e,?_⟩;refine⟨.non,_,I.Hy (its':=its.reverse) hH e (by simp) r.reverse ?_,rfl,q⟩;rw[length_reverse];omega
def Ky:V->List V->Hp->VK->Prop:=λx vs H Q=>∃l xs,x=.ref l/\vs=[]/\H l=some (.lst xs)/\Q .non (upd H l (.lst []))
def LX:R2:=λx y H Q=>∃l b xs zs,x=.ref l/\y=.ref b/\H l=some (.lst xs)/\H b=some (.lst zs)/\xs.length+zs.length<=sizeLine/\∀p,H p=none->Q (.ref p) (upd H p (.lst (xs++zs)))
def Ho:R2:=λx y H Q=>∃l k xs,x=.ref l/\y=.int k/\H l=some (.lst xs)/\ -(2 ^ 63)<=k/\k < 2 ^ 63/\xs.length * k.toNat<=sizeLine/\
 ∀p,H p=none->Q (.ref p) (upd H p (.lst (List.replicate k.toNat xs).flatten))
theorem len_rep{α:Type}(xs:List α)(k:Nat):(List.replicate k xs).flatten.length=k * xs.length:=by
 induction k with
 |zero=>simp
 |succ k ih=>rw[replicate_succ,flatten_cons,length_append,ih,Nat.succ_mul,Nat.add_comm]
theorem uQ:iq X (binaryOp .Mult) Ho:=by
 intro pins s σ H x y v u Q I rx ry h;obtain⟨l,k,xs,rfl,rfl,hH,h1,h2,hz,q⟩:=h;cases rx;obtain⟨t,rfl⟩:=ry;obtain⟨z,its,n,r,hl,e⟩:=I.D8 hH;have hlen:its.toArray.size * k.toNat<=sizeLine:=by rw[size_toArray,<-hl];exact hz
 have hcap:¬its.toArray.size * k.toNat > (2 ^ 63 - 1) / 8:=by
  have:(sizeLine:Nat)<=(2 ^ 63 - 1) / 8:=by decide
  omega
 have hfit:¬(!Builtin.List.listFitsIndex k)=true:=by
  rw[fitsIndex_both h1 h2];exact Bool.false_ne_true
 have hlong:¬Builtin.List.listTooLong (its.toArray.size * k.toNat)=true:=by
  rw[AM hlen];exact Bool.false_ne_true
 have hnew:List.foldl (λx1 x2=>x1++x2) #[] (List.replicate (if its.toArray.isEmpty=true then 0 else k.toNat) its.toArray)=(List.replicate k.toNat its).flatten.toArray:=by
  have f0:∀m:Nat,List.foldl (λx1 x2=>x1++x2) #[] (List.replicate m its.toArray)=(List.replicate m its).flatten.toArray:=λm=>by
   have:=foldl_rep its m [];rw[nil_append]at this;exact this
  rw[f0];cases its with
  |nil=>simp
  |cons a r'=>rw[if_neg (by simp)]
 refine wpAny_binaryOp_repeat_ref (T:= "list") (U:= "int") (by decide) ⟨_,e,rfl⟩ (λs'=>typeIs_int s' k t) noFill_list_mul F.fills_int_mul F.slot_int_rmul repeat_list F.slot_int_index.lookup
  (call_meets F.slot_int_rmul (typeIs_int s k t) F.entry_int_rmul (F.args_int_rmul_2 _ _) (int___rmul___int_list k t l its.toArray n)
   ⟨e,rfl,⟨_,e,rfl⟩,call_meets F.slot_list_mul ⟨_,e,rfl⟩ F.entry_list_mul (F.args_list_mul_2 _ _) (AutoListH.list___mul___list_int_3 l its.toArray n k t hfit hcap hlong) ⟨e,?_⟩⟩)
 rw[hnew];exact⟨.ref _,_,I.Jk (t':=s.toks) (r.rep k.toNat) (by rw[len_rep,Nat.mul_comm];exact hz),rfl,q _ I.fresh⟩
end
section
variable {prog:Program}{w:World}{A:Around}{E:Value->Shared->Prop}{s:Shared}
set_option maxRecDepth 100000 in
end
section
variable {X:Cx}
end
end L2
namespace Att
open PySem PySem.W PySem.Calls PyProof.Rows
theorem m9{P:Params}{h:Heap}:∀(ns:List Int) (vs:List Value),WellAll P h vs (ns.map WData.int)->IntsAre vs ns:=by
 intro ns
 induction ns with
 |nil=>
  intro vs w;rw[map_nil]at w;cases w;exact .nil
 |cons n ns ih=>
  intro vs w;rw[map_cons]at w;cases w with
  |cons a b=>
   cases a;exact .cons _ _ (ih _ b)
theorem yZ{l:OpenLaw}{n:Nat}(hn:l.most=some n){P:Params}{h:Heap}{args:List WData}{vals:List Value}
  (hpre:l.row.toRowW.claim.pre args=true)(hwl:WellAll P h vals args):
  ∃a vs ns,vals=[Value.ref a]/\args=[WData.list (ns.map WData.int)]/\h.get? a=some { cls:=.type "list",data:=.seq vs.toArray }/\IntsAre vs ns/\ns.length<=n:=by
 have hsh:WShape.hasAll [] args [.list .int]=true:=(pre_splitW hpre).1;have hc:l.pre.holds [] { args:=args }=true:=(pre_splitW hpre).2;obtain⟨d,r,rfl,h1,h2⟩:=hasAllW_cons hsh;obtain rfl:=hasAllW_nil h2;obtain⟨xs,rfl,h3⟩:=hasW_list h1;obtain⟨ns,rfl⟩:=items_int h3;have hlen:ns.length<=n:=by
  unfold OpenLaw.pre at hc;have h4:(WTm.not (.lt (.lit (.int (n:Int))) (.len (.arg 0)))).holds [] { args:=[.list (ns.map .int)] }=true:=by
   have h4:=(holds_andW hc).1;rw[hn]at h4;exact h4
  have h5:=condW_of h4 (w_not (w_lt w_lit (w_len_list (w_arg rfl))));rw[length_map]at h5;refine Nat.le_of_not_lt λq=>?_;have q':(n:Int) < ((ns.length:Nat):Int):=by omega
  first
   | (rw[decide_eq_true q']at h5;exact absurd h5 (by decide))
   | (simp at h5;omega)
 cases hwl with
 |cons w1 w2=>
  cases w2;cases w1 with
  |list ho hall=>exact⟨_,_,ns,rfl,rfl,ho,m9 ns _ hall,hlen⟩
theorem xX(l:OpenLaw)(args:List WData):l.row.toRowW.claim.post args (.bool true) args=true:=
 postW_of (r:=l.row.toRowW) (X:=(true == true))
  (show WShape.has [] (.bool true) .bool=true by first|rfl|decide|simp[WShape.has,WShape.arms,WShape.armsAll])
  (show(WTm.eq .res (.lit (.bool true))).value [] { args:=args,res:=some (.bool true),after:=args }=some (.bool (true == true)) from w_eq_bool (w_res rfl) w_lit) rfl
theorem uh{l:OpenLaw}{n:Nat}{q:Program}{loose:List Str}{XP:(Str->Option Value)->Heap->Prop}{YP:World->Heap->Prop}{d:DefRec}
  (hn:l.most=some n)(hdf:d.params.defaults=[])
  (call:∀(w:World)(s₀ s₁:Shared)(mg mb:Str->Option Value)(fa:Addr)(o:Obj)(pm cd doc:Value)(a:Addr)(vs:List Value)(ns:List Int),
   Ground q loose [] XP w s₀ mg mb s₁.heap->YP w s₁.heap->
   s₁.heap.get? fa=some o->o.data=.func (docDef d.name d.params d.body d.scope pm cd doc)->s₁.heap.CodeRec cd d.name->mg d.name=some (.ref fa)->
   s₁.heap.get? a=some { cls:=.type "list",data:=.seq vs.toArray }->IntsAre vs ns->ns.length<=n->s₁.gens= #[]->
   codeAny (model l.prog w) callerA (.call (.ref fa) ⟨[.ref a],[]⟩) (λr s'=>r=.ok (.ret (.bool true))/\OldK s₁.heap s'.heap/\s'.os=s₁.os/\AllBare s'.gens) s₁):
  WalkO q loose XP YP l.row.toRowW d [] (λf vs=>PySem.call f vs):=by
 intro w s₀ s₁ mg mb G Y fa o pm cd doc dV kV ho hd hcd hD hmg hg args vals as hpre hlay hrd hwl hlo;obtain rfl:dV=.none:=Dflts.none hD hdf;obtain rfl:kV=.none:=Dflts.noKw hD;obtain⟨a,vs,ns,rfl,rfl,hobj,hints,hlen⟩:=yZ hn hpre hwl;refine enter_call (codeAny_mono (call w s₀ s₁ mg mb fa o pm cd doc a vs ns G Y ho (fd_plain hd) hcd hmg hobj hints hlen hg) λr s' hq=>?_);obtain⟨rfl,h2,h3,h4⟩:=hq;exact⟨.inl ⟨.bool true,.bool true,[],rfl,λ_=>rfl,.bool true,xX l _,λ_=>⟨List.Pairwise.nil,λ_ hm=>(nomatch hm)⟩⟩,h2,h3,h4⟩
section
variable {prog:Program}{w:World}{A:Around}{E:Value->Shared->Prop}{s:Shared}{K:Frag}
def KJ(h:Heap):Heap:={ h with objs:= #[] }
def ledger(h:Heap)(L d:Addr):List (Addr×Obj):=(List.range h.objs.size).filterMap λa=>if a=L\/a=d then none else(h.get? a).map λo=>(a,o)
end
end Att
namespace L2
open PySem PySem.Spec PyProof.Rows
theorem pY:∀{vs:List Value}{ns:List Int},IntsAre vs ns->Vals (ns.map V.int) vs
 |_,_,.nil=>.nil
 |_,_,.cons n t h=>.cons ⟨t,rfl⟩ (pY h)
def Gk(H:Hp):Prop:=∀b,H b=none\/∃o xs,H b=some (.frz o (.lst xs))
theorem Ba{P:Program}{w:World}{K:PySem.W.Frag}{mg mb:Str->Option Value}{CX:zd}{k:Nat}{fa a:Addr}{fd:FuncData}{x:Str}{sp:Sp}{s₁:Shared}{vs:List Value}{ns:List Int}
  (KX:K.In s₁.heap) (hns:s₁.heap.Ns mainGlobals mg) (hb:s₁.heap.Ns builtinsNs mb) (hbb:∀x:Str,x≠ "__name__" ->mb x=bootBuiltins x) (hlim:s₁.heap.NoLimit) (hg:s₁.gens= #[])
  (ha:s₁.heap.get? a=some { cls:=.type "list",data:=.seq vs.toArray }) (hi:IntsAre vs ns) (hl:ns.length<=sizeLine) (hr:dr k callerA)
  (F:∀base:Heap,K.In base->base.Ns mainGlobals mg->dO P w K mg base CX k fa fd [x] sp)(hbind:∀(s:Shared)(u:Value),BindsTo s fd ⟨[u],[]⟩ [(x,u)])
  (hsp:∀H:Hp,Gk H->cH K H a (ns.map V.int)->sp [.ref a] H (λv _=>v=.bl true) λ_ _ _=>False)
  (hCX:∀H e s',CX [] H s₁ (λ_ _ _=>False) e s'->False):
  codeAny (model P w) callerA (.call (.ref fa) ⟨[.ref a],[]⟩) (λr s'=>r=.ok (.ret (.bool true))/\OldK s₁.heap s'.heap/\s'.os=s₁.os/\AllBare s'.gens) s₁:=by
 have rv:=pY hi;have lenV:=hi.length;have core:∀H:Hp,Gk H->cH K H a (ns.map V.int)->gz P w H s₁.heap->(∀b,H b≠none->b=a)->(H a≠none->K.lookup a=none)->
   codeAny (model P w) callerA (.call (.ref fa) ⟨[.ref a],[]⟩) (λr s'=>r=.ok (.ret (.bool true))/\OldK s₁.heap s'.heap/\s'.os=s₁.os/\AllBare s'.gens) s₁:=by
  intro H hO hS hok hA hK;have base_of:∀{b:Addr}{o:Obj},s₁.heap.get? b=some o->H b=none->(rn s₁.heap H).get? b=some o:=λe n=>AE e n;have noA:∀{b:Addr}{o:Obj}{es:Array DictEntry}{ep:Nat},s₁.heap.get? b=some o->o.data=.dict es ep->H b=none:=λ{b o es ep} e d=>by
   cases q:H b with
   |none=>rfl
   |some u=>
    have e':b=a:=hA b (by rw[q];simp);subst e';rw[ha]at e;cases e;have d':Data.seq vs.toArray _=Data.dict es ep:=d;cases d'
  have nsK:∀{b:Addr}{m:Str->Option Value},s₁.heap.Ns b m->(rn s₁.heap H).Ns b m:=λ{b m} ⟨o,es,ep,e,d,r⟩=>⟨o,es,ep,base_of e (noA e d),d,r⟩;have hKb:K.In (rn s₁.heap H):=λb o e=>base_of (KX b o e) (by
   cases q:H b with
   |none=>rfl
   |some u=>
    have e':b=a:=hA b (by rw[q];simp);subst e';rw[hK (by rw[q];simp)]at e;cases e)
  have hM:Mod K mg (rn s₁.heap H):=⟨hKb,nsK hns,⟨mb,nsK hb,hbb⟩,let ⟨mc,h1,h2⟩:=hlim;⟨mc,nsK h1,h2⟩⟩;have e0:pT P w K mg (rn s₁.heap H) callerA [] s₁ H:=⟨rfl,hM,λb o e=>Dd e,le_of_eq (yp _ _),trivial,λb hb=>absurd (show b∈([]:List Addr) from hb) (by simp),hok,.of_eq hg⟩;refine codeAny_mono ((F _ hKb (nsK hns)).run callerA [] s₁ H ⟨[.ref a],[]⟩ [.ref a] [.ref a] _ _ hr e0 (hbind s₁ (.ref a)) (.cons rfl .nil) (hsp H hO hS)) λr s' h=>?_;cases r with
  |error e=>exact(hCX H e s' h).elim
  |ok fl=>
   cases fl with
   |next=>exact False.elim h
   |brk=>exact False.elim h
   |cont=>exact False.elim h
   |ret u=>
    obtain⟨v,H',os,bare,un,hok',r',q⟩:=h;have q':v=.bl true:=q;subst q';obtain rfl:u=Value.bool true:=r';refine⟨rfl,OldK.of_keep λb o e=>?_,os,bare⟩;cases q:H b with
    |none=>exact un.keep b o e q (by intro z;exact absurd (show b∈([]:List Addr) from z) (by simp)) (by simp)
    |some u=>
     rcases hO b with z|⟨ob,xs,z⟩
     ·rw[q]at z;cases z
     ·have z2:=un.frzs b ob _ z
      obtain⟨e1,_⟩:=hok b _ z;obtain⟨e2,_⟩:=hok' b _ z2;rw[e]at e1;cases e1;exact e2
 cases hk:K.lookup a with
 |some o=>
  have e:=KX a o hk;rw[ha]at e;cases e;refine core (λ_=>none) (λ_=>.inl rfl) (.inr ⟨_,vs.toArray,_,hk,rfl,rfl,rfl,by rw[size_toArray,lenV];exact hl,by simpa using rv⟩) (λb u z=>by have z':(none:Option HO)=some u:=z;cases z') (λb z=>absurd rfl z) λz=>absurd rfl z
 |none=>
  refine core (λb=>if b=a then some (.frz { cls:=.type "list",data:=.seq vs.toArray } (.lst (ns.map V.int))) else none) (λb=>?_) (.inl (.inr ⟨{ cls:=.type "list",data:=.seq vs.toArray },if_pos rfl⟩)) (λb u z=>?_) (λb z=>?_) λ_=>hk
  ·by_cases hb:b=a
   ·exact .inr ⟨_,_,if_pos hb⟩
   ·exact .inl (if_neg hb)
  ·by_cases hb:b=a
   ·have z':=(if_pos hb).symm.trans z
    cases z';subst hb;exact⟨ha,by rw[length_map];exact hl,vs,_,rv,ha⟩
   ·have z':=(if_neg hb).symm.trans z
    cases z'
  ·by_cases hb:b=a
   ·exact hb
   ·exact absurd (if_neg hb) z
end L2
namespace L2
open PySem PySem.Spec PyProof.Rows
abbrev Ng{K:PySem.W.Frag}{h:Heap}(_:K.In h):PySem.W.Frag:=K
theorem B5{l:PySem.W.OpenLaw}{n k:Nat}{q:Program}{loose:List Str}{XP:(Str->Option Value)->Heap->Prop}{YP:World->Heap->Prop}{d:DefRec}{K:Params->PySem.W.Frag}{CX:World->zd}{sp:World->Sp}{x:Str}
  (hn:l.most=some n)(hn2:n<=sizeLine)(hdf:d.params.defaults=[])(hr:dr k callerA)
  (hY:∀(w:World)(h:Heap),YP w h->(K w.params).In h)
  (F:∀(w:World)(mg:Str->Option Value)(fa:Addr)(h:Heap),(K w.params).In h->h.Ns mainGlobals mg->mg d.name=some (.ref fa)->
   ∃fd:FuncData,(∀(s:Shared) (u:Value),BindsTo s fd ⟨[u],[]⟩ [(x,u)])/\
    ∀base:Heap,(K w.params).In base->base.Ns mainGlobals mg->dO l.prog w (K w.params) mg base (CX w) k fa fd [x] (sp w))
  (hsp:∀(w:World) (H:Hp) (a:Addr) (ns:List Int),ns.length<=n->Gk H->cH (K w.params) H a (ns.map V.int)->sp w [.ref a] H (λv _=>v=.bl true) λ_ _ _=>False)
  (hCX:∀(w:World) (H:Hp) (s:Shared) (e:Value) (s':Shared),CX w [] H s (λ_ _ _=>False) e s'->False):
  PySem.W.WalkO q loose XP YP l.row.toRowW d [] (λf vs=>PySem.call f vs):=by
 refine Att.uh hn hdf λw s₀ s₁ mg mb fa o pm cd doc a vs ns G Y ho hd hcd hmg hobj hints hlen hg=>?_;have KX:=hY w _ Y;obtain⟨fd,hb,hF⟩:=F w mg fa _ KX G.T.g hmg;exact Ba KX G.T.g G.T.b G.T.builtins G.T.nolimit hg hobj hints (le_trans hlen hn2) hr hF hb (λH hO hS=>hsp w H a ns hlen hO hS) λH e s'=>hCX w H s₁ e s'
end L2
namespace L2
open PySem PySem.Spec PyProof.Rows
abbrev mG:zd:=λ_ _ _ _ _ _=>False
abbrev E0:XK:=λ_ _ _=>False
theorem wx{X:Cx}:Passes mG X E0:=λ_ _ _ _ _ _ _ h=>h.elim
structure oj(K:PySem.W.Frag)(x qual:Str)(st:Stmt)(f:Addr)(fd:FuncData):Prop where
 ex:∃(oc:Value) (od:Option Addr) (kV doc pm:Value) (an:Option Addr) (cdv ct:Value) (osl:Array (Option Value)),
  fd=fnOf x qual (dW st) (cS st) (cB st) .none kV doc pm an cdv ct/\K.lookup f=some ⟨oc,od,.func fd,osl⟩/\codeIn K cdv qual=true
 kp:keepIn K (.ref f)=true
section
variable {P:Program}{w:World}{K:PySem.W.Frag}{mg:Str->Option Value}{base:Heap}
theorem oj.ok{x qual:Str}{st:Stmt}{f:Addr}{fd:FuncData}{N ps:List Str}{k:Nat}{sp:Sp}(F:oj K x qual st f fd)(S:cE N ps (cB st))(len:∀vs H Q E,sp vs H Q E->vs.length=ps.length)
  (hbody:∀(cdv:Value)(A:Around)(outer:List Env)(s:Shared)(H:Hp)(vs:List V)(Q:VK)(E:XK),dr k (A.deeper (envOfC qual (cB st) s.heap.objs.size f cdv))->sp vs H Q E->
   ∃t,vT (jH mG P w K mg base N qual (cB st) f cdv A outer s H E).iT (cS st) t/\t { nx:=λ_ H'=>Q .non H',rt:=Q } (start N vs) H):dO P w K mg base mG (k+1) f fd ps sp:=by
 obtain⟨oc,od,kV,doc,pm,an,cdv,ct,osl,rfl,lk,hcd⟩:=F.ex;refine zM lk hcd S len λA outer s H vs Q E hr hsp=>?_;obtain⟨t,h,q⟩:=hbody cdv A outer s H vs Q E hr hsp;exact⟨t,h.iT,q⟩
theorem oj.binds{x qual:Str}{st:Stmt}{f:Addr}{fd:FuncData}{ps:List Str}(F:oj K x qual st f fd)
  (h:∀(kV doc pm:Value)(an:Option Addr)(cdv ct:Value)(us:List Value),us.length=ps.length->bindArgs (fnOf x qual (dW st) (cS st) (cB st) .none kV doc pm an cdv ct) ⟨us,[]⟩=pure (ps.zip us)):Binds K fd ps []:=by
 obtain⟨oc,od,kV,doc,pm,an,cdv,ct,osl,rfl,lk,hcd⟩:=F.ex;exact .all (h kV doc pm an cdv ct)
theorem js{x qual:Str}{st:Stmt}{f:Addr}{oc:Value}{od an:Option Addr}{osl:Array (Option Value)}{kV doc pm cdv ct:Value}(l:K.lookup f=some ⟨oc,od,.func (fnOf x qual (dW st) (cS st) (cB st) .none kV doc pm an cdv ct),osl⟩)
  (c:codeIn K cdv qual=true)(k:keepIn K (.ref f)=true):oj K x qual st f (fnOf x qual (dW st) (cS st) (cB st) .none kV doc pm an cdv ct):=⟨⟨oc,od,kV,doc,pm,an,cdv,ct,osl,rfl,l,c⟩,k⟩
end
theorem eS{A:Around}{k:Nat}(hr:dr k A):A.units+1 < cLine:=Nat.lt_of_le_of_lt (Nat.add_le_add_left (by decide:1<=64) _) hr.units
section
variable {X:Cx}
theorem pv (i:Nat){x:Str}{pos:Pos}(hN:X.N[i]? =some x:=by rfl) (hv:KU X.env.scope x:=by first|exact Or.inl rfl|exact Or.inr (Or.inl rfl)|exact Or.inr (Or.inr rfl)) (hd:(x == ("__debug__" :Str))=false:=by decide)
  (hcd:(x == ("__classdict__" :Str))=false:=by decide):PE X (.Name x pos) (kJ i):=mE hN hv hd hcd
end
theorem cR{A B:Prop}(h:B):if false=true then A else B:=by
 rw[if_neg Bool.false_ne_true];exact h
theorem dv{A B:Prop}(h:A):if true=true then A else B:=by
 rw[if_pos rfl];exact h
theorem c8{c A B:Prop} [Decidable c] (h1:c->A)(h2:¬c->B):if c then A else B:=by
 by_cases h:c
 ·rw[if_pos h]
  exact h1 h
 ·rw[if_neg h]
  exact h2 h
def cC(H H':Hp):Prop:=∀b o,H b=some o->H' b=some o
theorem cC.refl(H:Hp):cC H H:=λ_ _ h=>h
theorem cC.trans{H H1 H2:Hp}(a:cC H H1)(b:cC H1 H2):cC H H2:=λc o h=>b c o (a c o h)
theorem cC.free{H H':Hp}(e:cC H H'){l:Addr}(h:H' l=Option.none):H l=Option.none:=by
 cases q:H l with
 |none=>rfl
 |some o=>
  rw[e l o q]at h;cases h
theorem cC.seq{K:PySem.W.Frag}{H H':Hp}{a:Addr}{xs:List V}(e:cC H H')(h:cH K H a xs):cH K H' a xs:=by
 rcases h with (h|⟨o,h⟩)|h
 ·exact .inl (.inl (e _ _ h))
 ·exact .inl (.inr ⟨o,e _ _ h⟩)
 ·exact .inr h
end L2
namespace L2
open PySem PySem.Builtin.Str
end L2
namespace L2
open PySem PySem.Spec PyProof.Rows
theorem o4{env:Env}{scope:Scope}(h:∀y∈scope.names,y.2=.free->∃c,env.cells.lookup y.1=some c):
  ∃cl,closureFor scope env=pure cl/\(∀y c,cl.lookup y=some c->env.cells.lookup y=some c)/\(∀y∈scope.names,y.2=.free->cl.lookup y.1=env.cells.lookup y.1):=by
 have gen:∀(names:List (Str×NameKind)) (acc:List (Str×Addr)),(∀y∈names,y.2=.free->∃c,env.cells.lookup y.1=some c)->(∀y c,acc.lookup y=some c->env.cells.lookup y=some c)->
   ∃cl,(forIn (m:=Sem) names acc λx r=>match x with
    | (name,kind)=>if(kind == NameKind.free)=true then do
      let a <-cellOf env name
      pure (ForInStep.yield ((name,a)::r))
     else pure (ForInStep.yield r))=pure cl/\(∀y c,cl.lookup y=some c->env.cells.lookup y=some c)/\(∀y c,acc.lookup y=some c->cl.lookup y=some c)/\(∀y∈names,y.2=.free->cl.lookup y.1=env.cells.lookup y.1):=by
  intro names
  induction names with
  |nil=>intro acc _ ha;exact⟨acc,rfl,ha,λ_ _ e=>e,λy hy=>nomatch hy⟩
  |cons x r ih=>
   intro acc hn ha;obtain⟨n,k⟩:=x;by_cases hk:k=.free
   ·subst hk
    obtain⟨c,hc⟩:=hn (n,.free) mem_cons_self rfl;have hc':cellOf env n=pure c:=by
     unfold cellOf;rw[show env.cells.lookup n=some c from hc]
    have ha':∀y d,((n,c)::acc).lookup y=some d->env.cells.lookup y=some d:=λy d e=>by
     rw[lookup_cons]at e;cases q:y == n with
     |true=>rw[q]at e;cases e;rw[eq_of_beq q];exact hc
     |false=>rw[q]at e;exact ha y d e
    obtain⟨cl,e,h1,h2,h3⟩:=ih ((n,c)::acc) (λy hy=>hn y (mem_cons_of_mem _ hy)) ha';refine⟨cl,?_,h1,λy d q=>?_,λy hy hf=>?_⟩
    ·rw[forIn_cons]
     simp only[beq_self_eq_true,if_true,hc'];exact e
    ·cases z:y == n with
     |true=>
      have:y=n:=eq_of_beq z;subst this;have q1:=ha y d q;rw[hc]at q1;cases q1;exact h2 y c (by rw[lookup_cons,z])
     |false=>exact h2 y d (by rw[lookup_cons,z];exact q)
    ·rcases mem_cons.mp hy with rfl|hy
     ·have:=h2 n c (by rw[lookup_cons,beq_self_eq_true])
      rw[this,hc]
     ·exact h3 y hy hf
   ·have hb:(k == NameKind.free)=false:=by simpa using hk
    obtain⟨cl,e,h1,h2,h3⟩:=ih acc (λy hy=>hn y (mem_cons_of_mem _ hy)) ha;refine⟨cl,?_,h1,h2,λy hy hf=>?_⟩
    ·rw[forIn_cons]
     simp only[hb,false_eq_true,if_false];exact e
    ·rcases mem_cons.mp hy with rfl|hy
     ·exact absurd hf hk
     ·exact h3 y hy hf
 obtain⟨cl,e,h1,_,h3⟩:=gen scope.names [] h (λy c e=>by cases e);refine⟨cl,?_,h1,h3⟩;simp only[closureFor];rw[show(forIn scope.names ([]:List (Str×Addr)) _:Sem _)=pure cl from e];rfl
theorem iu{env:Env}(hk:env.scope.kind=.function):∀{names:List (Str×NameKind)}{x:Str},names.lookup x=some .free->env.kindOf x=some .cell->
  (names.map λ(n,k)=>if(k == NameKind.free && env.scope.kind == .function && env.kindOf n == some .cell) then(n,NameKind.cell) else(n,k)).lookup x=some .cell
 |[],_,h,_=>by simp at h
 | (n,k)::r,x,h,hc=>by
  have ih:=@iu env hk r x;show List.lookup x ((if(k == NameKind.free && env.scope.kind == .function && env.kindOf n == some .cell)=true then(n,NameKind.cell) else(n,k))::_)=_;cases hx:x == n with
  |true=>
   simp only[lookup_cons,hx]at h;cases h;have e:x=n:=eq_of_beq hx;subst e;rw[if_pos (by simp[hk,hc])];simp[lookup_cons]
  |false=>
   simp only[lookup_cons,hx]at h;by_cases hc':(k == NameKind.free && env.scope.kind == .function && env.kindOf n == some .cell)=true
   ·rw[if_pos hc'];simp only[lookup_cons,hx];exact ih h hc
   ·rw[if_neg hc'];simp only[lookup_cons,hx];exact ih h hc
theorem fM{env:Env}{scope:Scope}{y:Str}{k':NameKind}(h:(relabel scope env).names.lookup y=some k')(hk':k'=.cell\/k'=.free)(nocell:∀z∈scope.names,z.2≠.cell):(y,NameKind.free)∈scope.names:=by
 have hm:=PySem.mem_of_lookup h;obtain⟨⟨n,k⟩,hm',e⟩:=mem_map.mp hm;dsimp only at e;split at e
 ·rename_i c
  cases e;rw[and_eq_true,and_eq_true]at c;have e2:k=.free:=by simpa using c.1.1
  subst e2;exact hm'
 ·cases e
  rcases hk' with rfl|rfl
  ·exact absurd rfl (nocell _ hm')
  ·exact hm'
def cV(X:Cx)(N':List Str)(scope:Scope)(cl:List (Str×Addr))(fp:List Addr)(s3:Shared)(H3:Hp)(C:Addr):Cx:=
 { X with N:=N',s₀:=s3,H₀:=H3,env:=compEnvC scope cl C X.env,outer:=X.stack,ex:=fp,fn:=λ_=>false,pn:=[],xe:=λ_ _=>False }
def dw(is:List Nat)(σ:St):St:=is.map λi=>(σ[i]?).join
def iF(J:It)(is:List Nat)(te:TE)(σ:St)(H1:Hp)(Q:VK):Prop:=∀D,H1 D=none->∃W:Nat->Nat->List V->Hp->Prop,(∃m,W 0 m [] (upd H1 D (.lst [])))/\
 ∀i m ys H2,W i m ys H2->H2 D=some (.lst ys)/\((J.stop i H2/\Q (.ref D) H2)\/(J.go i H2/\∀v H3,J.yld i H2 v H3->te (some v::dw is σ) H3 λy H4=>
  H4 D=some (.lst ys)/\ys.length < sizeLine/\∃m',m' < m/\W (i+1) m' (ys++[y]) (upd H4 D (.lst (ys++[y])))))
def LR(wi:TI)(is:List Nat)(te:TE):TE:=λσ H Q=>wi σ H λJ H1=>iF J is te σ H1 Q
structure Jb(sc:Scope)(N:List Str)(x:Str)(scope:Scope)(is:List Nat)(ns:List Str):Prop where
 kind:scope.kind=.function:=by rfl
 nocell:∀y∈scope.names,y.2≠.cell:=by decide+kernel
 names:∀y∈scope.names,y.2=.local->scope.names.lookup y.1=some .local:=by decide+kernel
 free:∀y∈scope.names,y.2=.free->sc.names.lookup y.1=some .cell:=by decide+kernel
 hx:scope.names.lookup x=some .local:=by rfl
 cap:ns.map some=is.map λi=>N[i]? :=by rfl
 nd:(x::ns).Nodup:=by decide+kernel
 capf:∀y∈ns,scope.names.lookup y=some .free/\sc.names.lookup y=some .cell:=by decide+kernel
section
variable {X:Cx}{x:Str}{px pos:Pos}{elt iter:Expr}{scope:Scope}{wi:TI}{te:TE}{is:List Nat}{ns:List Str}
end
end L2
namespace L2
open PySem PySem.Spec PyProof.Rows
section
variable {K:PySem.W.Frag}{is:List Nat}{te:TE}{σ:St}{H:Hp}{Q:VK}
theorem cC.upd{H:Hp}{D:Addr}{o:HO}(h:H D=none):cC H (upd H D o):=λb u e=>by
 rw[cD (cA e h)];exact e
theorem Aj{J:It}{xs:List V}(f:V->V)(hz:xs.length<=sizeLine)(hgo:∀i H2,cC H H2->i < xs.length->J.go i H2)(hstop:∀H2,cC H H2->J.stop xs.length H2)
  (hy:∀i H2 v H3,cC H H2->i < xs.length->J.yld i H2 v H3->H3=H2/\xs[i]? =some v)
  (he:∀v H2 Q',v∈xs->cC H H2->Q' (f v) H2->te (some v::dw is σ) H2 Q')(q:∀D,H D=none->Q (.ref D) (upd H D (.lst (xs.map f)))):iF J is te σ H Q:=by
 intro D hD;refine⟨λi m ys H2=>m=xs.length - i/\i<=xs.length/\ys=(xs.take i).map f/\H2=upd H D (.lst ys),⟨_,rfl,zero_le _,by simp,rfl⟩,?_⟩;rintro i m ys H2 ⟨rfl,hi,hys,rfl⟩;have sm:cC H (upd H D (.lst ys)):=cC.upd hD;refine⟨cz,?_⟩;by_cases hlt:i < xs.length
 ·refine .inr ⟨hgo i _ sm hlt,λv H3 y=>?_⟩
  obtain⟨rfl,hv⟩:=hy i _ v H3 sm hlt y;refine he v _ _ (mem_of_getElem? hv) sm ⟨cz,?_,xs.length - (i+1),by omega,rfl,hlt,?_,BJ⟩
  ·rw[hys,length_map,length_take]
   omega
  ·rw[hys,take_add_one,hv,map_append]
   rfl
 ·have e:i=xs.length:=by omega
  subst e;refine .inl ⟨hstop _ sm,?_⟩;rw[hys,take_length];exact q D hD
theorem cC.Ez{K:PySem.W.Frag}{H H':Hp}{a:Addr}{xs:List V}(e:cC H H')(h:cU K H a xs):cU K H' a xs:=by
 rcases h with (h|⟨o,h⟩)|h
 ·exact .inl (.inl (e _ _ h))
 ·exact .inl (.inr ⟨o,e _ _ h⟩)
 ·exact .inr h
theorem AO{lo:Int}{n:Nat}(f:V->V)(hz:n<=sizeLine)(he:∀(i:Nat) H2 Q',i < n->cC H H2->Q' (f (.int (lo+i))) H2->te (some (.int (lo+i))::dw is σ) H2 Q')
  (q:∀D,H D=none->Q (.ref D) (upd H D (.lst ((List.range n).map λ(i:Nat)=>f (.int (lo+i)))))):iF (CW lo n) is te σ H Q:=by
 refine Aj (xs:=(List.range n).map λ(i:Nat)=>V.int (lo+i)) f (by simpa using hz) (λi H2 _ hi=>?_) (λH2 _=>?_) (λi H2 v H3 _ hi y=>?_) (λv H2 Q' hv sm q'=>?_) (λD hD=>?_)
 ·show i < n
  simpa using hi
 ·show n<=_
  simp
 ·obtain⟨rfl,rfl⟩:=y
  have hi':i < n:=by simpa using hi
  exact⟨rfl,by simp[hi']⟩
 ·obtain⟨i,hi,rfl⟩:=mem_map.mp hv
  exact he i H2 Q' (mem_range.mp hi) sm q'
 ·rw[map_map]
  exact q D hD
end
def signs(z:Str):List V:=z.cps.toList.map λc=>V.str ⟨#[c]⟩
theorem signs_length(z:Str):(signs z).length=z.cps.size:=by simp[signs]
def Ku(z:Str):It:=⟨λi _=>i < z.cps.size,λi H x H'=>H'=H/\(signs z)[i]? =some x,λi _=>i=z.cps.size⟩
theorem Bg{P:Program}{w:World}{K:PySem.W.Frag}{tg:Expr}{ty:String}{z:Str}{t:Tok}(it:Addr)(hW:∀A:Around,A.handled=none->Walks P w A it [it] [it] z.cps.size (SignAt z) (λi h=>h.IsStrIter it ty z t i))
  (hS:∀(A:Around)(i:Nat)(s:Shared)(Q:Value->Shared->Prop)(E:Value->Shared->Prop),s.heap.IsStrIter it ty z t i->Q (.ref it) s->wpAny (model P w) A (pyIter (.ref it)) Q E s)
  (hn:["enumerate", "zip", "dict_itemiterator", "dict_reverseitemiterator", "odict_iterator", "itertools.zip_longest", "itertools.pairwise"].contains ty=false):Turn P w K tg (Ku z) [it] it (λi h=>h.IsStrIter it ty z t i) where
 mem:=by simp
 obj:=λi h st b hb=>by
  have e:b=it:=by simpa using hb
  subst e;obtain⟨o,e,c,d⟩:=st;exact⟨o,e,λv z=>by rw[d]at z;cases z⟩
 keep:=λi h h' st k=>by
  obtain⟨o,e,r⟩:=st;exact⟨o,k it (by simp) o e,r⟩
 item:=by
  intro X hP hw hK hc i pins s σ H E I hf st hg;subst hP hw hK;obtain⟨f0,f1,f2,f3,f4,f5⟩:=hf it (by simp);refine(hW X.A (I.ok.hd hc)).item i s _ _ hg st λv h' tk hv st' kk=>?_;obtain⟨c,u,hcp,rfl⟩:=hv;have I1:Inv X pins σ H { s with heap:=h',toks:=tk }:=I.turned (λb o hb e=>kk b o (by simpa using hb) e) f0 f1 f3 f4 f5;obtain⟨o,e,cc,d⟩:=id st';refine⟨_,rfl,xn (s:={ s with heap:=h',toks:=tk }) e cc d hn ⟨.str ⟨#[c]⟩,H,I1,⟨u,rfl⟩,⟨rfl,?_⟩,st',λb hb=>(hf b hb).1⟩⟩;unfold signs;rw[getElem?_map,getElem?_toList,hcp];rfl
 done:=by
  intro X hP hw hK hc i pins s σ H E I hf st hg;subst hP hw hK;obtain⟨f0,f1,f2,f3,f4,f5⟩:=hf it (by simp);have hg':i=z.cps.size:=hg;subst hg';exact(hW X.A (I.ok.hd hc)).done s _ _ st λh' tk kk=>⟨rfl,I.turned (λb o hb e=>kk b o (by simpa using hb) e) f0 f1 f3 f4 f5⟩
 self:=hS
section
variable {X:Cx}{tg:Expr}
def KG(tl:TE):TI:=λσ H R=>tl σ H λx H1=>∃z,x=.str z/\R (Ku z) H1
theorem F3{l:Expr}{tl:TE}(hl:PE X l tl):PI X tg l (KG tl):=by
 intro pins s σ H R I h;refine cY (hl pins s σ H _ I h) λv s1 hpat=>?_;obtain⟨x,H1,I1,r1,q1⟩:=hpat;obtain⟨z,e,q⟩:=q1;subst e;obtain⟨t,rfl⟩:=r1;have fin:∀(ty:String) (hW:∀A:Around,A.handled=none->Walks X.prog X.w A s1.heap.objs.size [s1.heap.objs.size] [s1.heap.objs.size] z.cps.size (SignAt z) (λi h=>h.IsStrIter s1.heap.objs.size ty z t i))
   (hS:∀(A:Around) (i:Nat) (s:Shared) (Q:Value->Shared->Prop) (E:Value->Shared->Prop),s.heap.IsStrIter s1.heap.objs.size ty z t i->Q (.ref s1.heap.objs.size) s->wpAny (model X.prog X.w) A (pyIter (.ref s1.heap.objs.size)) Q E s)
   (hn:["enumerate", "zip", "dict_itemiterator", "dict_reverseitemiterator", "odict_iterator", "itertools.zip_longest", "itertools.pairwise"].contains ty=false),
   J9 X pins σ tg R (.ref s1.heap.objs.size) { s1 with heap:=s1.heap.push { cls:=.type ty,data:=.fields #[.str z t,.int 0 0] } }:=λty hW hS hn=>by
  refine⟨s1.heap.objs.size,[s1.heap.objs.size],_,_,H1,rfl,I1.kept (t':=s1.toks) λb o e=>get?_push_of_some _ e,Bg _ hW hS hn,⟨_,get?_push_size _ rfl,rfl,rfl⟩,λb hb=>?_,q⟩;have e:b=s1.heap.objs.size:=by simpa using hb
  subst e;exact I1.yo (le_refl _) (I1.hok.fresh (le_refl _))
 cases ha:z.cps.all (· < 128)
 ·exact wpAny_pyIter_wide ha (fin "str_iterator" (λA hA=>Walks.strWide hA _ z t) (λA i s Q E st h=>wpAny_pyIter_striter_wide st h) (by decide))
 ·exact wpAny_pyIter_ascii ha (fin "str_ascii_iterator" (λA hA=>Walks.strAscii hA _ z t) (λA i s Q E st h=>wpAny_pyIter_striter_ascii st h) (by decide))
theorem Eu{z:Str}{is:List Nat}{te:TE}{σ:St}{H:Hp}{Q:VK}(f:V->V)(hz:z.length<=sizeLine)(he:∀v H2 Q',v∈signs z->cC H H2->Q' (f v) H2->te (some v::dw is σ) H2 Q')
  (q:∀D,H D=none->Q (.ref D) (upd H D (.lst ((signs z).map f)))):iF (Ku z) is te σ H Q:=
 Aj f (by rw[signs_length];exact hz) (λi H2 _ hi=>by rw[signs_length]at hi;exact hi) (λH2 _=>signs_length z) (λi H2 v H3 _ hi y=>y) he q
theorem uv:∀bs:List Bool,((List.range bs.length).all λi=>bs.getD i false)=bs.all id
 |[]=>rfl
 |b::r=>by
  rw[length_cons,List.range_succ_eq_map,all_cons,all_map,all_cons,<-uv r];rfl
theorem qx(hc:X.calm=true):eG X (.builtin "all") (λxs H Q=>∃(p:Addr) (bs:List Bool),xs=[.ref p]/\cH X.K H p (bs.map V.bl)/\Q (.bl (bs.all id)) H):=by
 intro pins s σ H xs us Q I r h;obtain⟨p,bs,rfl,hq,q⟩:=h;obtain⟨u,rfl,rx⟩:=vals1 r;cases rx;obtain⟨its,rv,pl,hz⟩:=I.list hq;have hl:=rv.length;rw[length_map]at hl;have hlt:p < s.heap.objs.size:=by obtain⟨o,n,e,_⟩:=pl;exact lt_size e
 refine call_all_walk (wpAny_pyIter_list pl.isList ?_);refine⟨s.heap.objs.size,[s.heap.objs.size,p],[s.heap.objs.size],its.toArray.size,_,_,λi=>bs.getD i false,rfl,Walks.list (show X.A.in1.handled=none from I.ok.hd hc) s.heap.objs.size p (ne_of_lt hlt) its.toArray,
  ⟨⟨_,get?_push_size _ rfl,rfl,rfl⟩,?_⟩,λi v s' Q' E' hv hQ=>?_,λh' tk kk=>?_⟩
 ·obtain⟨o,e,r⟩:=pl.isList
  exact⟨o,get?_push_of_some _ e,r⟩
 ·have hi:i < bs.length:=by
   have:i < its.length:=by
    have:=(Array.getElem?_eq_some_iff.mp hv).1
    simpa using this
   omega
  have hb:(bs.map V.bl)[i]? =some (V.bl bs[i]):=by simp[hi]
  obtain⟨u,hu,ru⟩:=rv.get hb;have hv':its[i]? =some v:=by simpa using hv
  rw[hu]at hv';cases hv';obtain rfl:v=Value.bool bs[i]:=ru;refine wpAny_truthy_bool ?_;have e:bs.getD i false=bs[i]:=by simp[List.getD,hi]
  rw[<-e];exact hQ
 ·refine⟨.bl (bs.all id),H,?_,?_,q⟩
  ·have I1:Inv X pins σ H { s with heap:=s.heap.push { cls:=.type "list_iterator",data:=.fields #[.ref p,.int 0 0] } }:=I.kept (t':=s.toks) λb o e=>get?_push_of_some _ e
   have I2:Inv X pins σ H { s with heap:=h',toks:=tk }:=I.kept (t':=tk) λb o e=>kk b o (by
    intro z;have z':b=s.heap.objs.size:=by simpa using z
    exact absurd (lt_size e) (by rw[z'];exact lt_irrefl _)) (get?_push_of_some _ e)
   exact I2
  ·show Value.bool _=Value.bool _
   congr 1
   rw[size_toArray,<-hl];exact uv bs
inductive EN(K:PySem.W.Frag)(xs:List V)(H:Hp)(Q:VK):Prop
 |mk(x:V)(t:Value)(n:String)(b:Bool)(e:xs=[x,.ty n])(ty:dQ K H x t)(k:kitOne K t (.type n)=some b)(q:Q (.bl b) H)
theorem i6:eG X (.builtin "isinstance") (λxs H Q=>L2.EN X.K xs H Q):=by
 intro pins s σ H xs us Q I r h;obtain⟨x,t,n,b,rfl,ty,e,q⟩:=h;obtain⟨u,c,rfl,rx,rc⟩:=vals2 r;obtain rfl:c=Value.type n:=rc;exact yH I rx ty e λtk=>⟨.bl b,H,I.tok _,rfl,q⟩
theorem qi:iq X (compareOp .LtE) (λx y H Q=>∃i j,x=.str i/\y=.str j/\Q (.bl (!decide (j.cps.toList < i.cps.toList))) H):=by
 intro pins s σ H x y v u Q I rx ry h;obtain⟨i,j,rfl,rfl,q⟩:=h;obtain⟨t,rfl⟩:=rx;obtain⟨t',rfl⟩:=ry;exact PySem.P.le_str ⟨.bl _,H,I,rfl,q⟩
def E1(z:Str)(lo hi:Option Int):Str:=⟨((z.cps.toList.drop (HT.d9 z.length 0 lo)).take (HT.d9 z.length z.length hi - HT.d9 z.length 0 lo)).toArray⟩
inductive KD(x:V)(lo hi:Option Int)(H:Hp)(Q:VK):Prop
 |mk(z:Str)(hx:x=.str z)(b:z.length<=sizeLine)(q:Q (.str (E1 z lo hi)) H)
def Mb:V->Option Int->Option Int->Hp->VK->Prop:=λx lo hi H Q=>KD x lo hi H Q
end
end L2
namespace L2
open PySem PySem.Spec PyProof.Rows
theorem Inv.Kv{X:Cx}{pins:List (Addr×Obj)}{σ:St}{H:Hp}{s:Shared}(I:Inv X pins σ H s):sysModules < s.heap.objs.size:=by
 have h:mainGlobals < s.heap.objs.size:=(I.mod.glob.keeps I.bk).lt;exact Nat.lt_trans (by decide) h
theorem BQ{P:Program}{w:World}{H:Hp}(h:Heap)(hb:sysModules < h.objs.size):cZ P w H (h.push { cls:=.type "dict",data:=.dict #[] }) h.objs.size (.dK []):=
 ⟨zero_le _,beq_eq_false_iff_ne.mpr (Ne.symm (ne_of_lt hb)),[],.nil,Heap.DictOf.new h⟩
def D6:TE:=λ_ H Q=>∀p,H p=none->Q (.ref p) (upd H p (.dK []))
theorem Di{X:Cx}{pos:Pos}:PE X (.Dict [] [] pos) D6:=λpins s σ H Q I h=>
 wpAny_Dict_empty ⟨.ref s.heap.objs.size,_,I.laid (a:=s.heap.objs.size) (o:=.dK []) (t':=s.toks) (λ_ _ q=>get?_push_of_some _ q) (le_refl _) (BQ s.heap I.Kv),rfl,h _ (I.hok.fresh (le_refl _))⟩
structure Df(K:PySem.W.Frag)(mg:Str->Option Value)(x:Str)(st:Stmt)(ps:List Str)(f:Addr)(fd:FuncData):Prop where
 fn:oj K x x st f fd
 nm:mg x=some (.ref f)
 bi:Binds K fd ps []
def tys:List String:=["NoneType", "bool", "int", "str", "list", "tuple", "dict"]
def yh(T n:String):Bool:=T == n || (T == "bool" && n == "int")
theorem dz {K:PySem.W.Frag}{T n:String}(hT:T∈tys) (hn:n∈["int", "bool", "str", "list", "tuple"]):kitOne K (.type T) (.type n)=some (yh T n):=by
 simp only[tys,mem_cons,not_mem_nil,or_false]at hT hn;rcases hT with rfl|rfl|rfl|rfl|rfl|rfl|rfl<;>rcases hn with rfl|rfl|rfl|rfl|rfl<;>rfl
section
variable {K:PySem.W.Frag}{H:Hp}{x:V}{T:String}
theorem ty_int (ty:dQ K H x (.type "int")):∃i,x=.int i:=by
 generalize h:Value.type "int" =t at ty;cases ty<;>first|exact⟨_,rfl⟩| (injection h with h';exact absurd h' (by decide))|cases h
theorem ty_str (ty:dQ K H x (.type "str")):∃z,x=.str z:=by
 generalize h:Value.type "str" =t at ty;cases ty<;>first|exact⟨_,rfl⟩| (injection h with h';exact absurd h' (by decide))|cases h
theorem xV{i:Int}(ty:dQ K H (.int i) (.type T)):T= "int" :=by
 generalize h:Value.type T=t at ty;cases ty;injection h
theorem xI{z:Str}(ty:dQ K H (.str z) (.type T)):T= "str" :=by
 generalize h:Value.type T=t at ty;cases ty;injection h
end
theorem cG:bootBuiltins "isinstance" =some (.builtin "isinstance"):=by decide+kernel
theorem rG:bootBuiltins "int" =some (.type "int"):=by decide+kernel
theorem rT:bootBuiltins "bool" =some (.type "bool"):=by decide+kernel
theorem vJ:bootBuiltins "str" =some (.type "str"):=by decide+kernel
theorem mR:bootBuiltins "all" =some (.builtin "all"):=by decide+kernel
theorem dD:bootBuiltins "len" =some (.builtin "len"):=by decide+kernel
theorem dy:bootBuiltins "list" =some (.type "list"):=by decide+kernel
theorem i7:bootBuiltins "tuple" =some (.type "tuple"):=by decide+kernel
end L2
namespace L2
open PySem PySem.Spec PyProof.Rows
def notStar(e:Expr):Bool:=match e with
 |.Starred _ _=>false
 |_=>true
theorem cO{e:Expr}{rest:List Expr}{env:Env}(h:notStar e=true):starEach (e::rest) env=(false,eval e env)::starEach rest env:=by
 cases e<;>first|rfl|cases h
theorem eI{env:Env}{pos:Pos}:∀{es:List Expr},es.all notStar=true->(backTo pos (starEach es env)).any (·.1)=false
 |[],_=>rfl
 |e::es,h=>by
  rw[all_cons,and_eq_true]at h;rw[cO h.1];exact eI h.2
theorem uS{X:Cx}{e:Expr}{es:List Expr}{te:TE}{t:TA}(ha:PE X e te)(hr:PA X es t)(h:notStar e=true:=by rfl):PA X (e::es) (dH te t):=fc ha hr (cO h)
def jN(e:Expr):Bool:=match e with
 |.ListComp .. =>true
 |.SetComp .. =>true
 |.DictComp .. =>true
 |_=>false
theorem jc{e:Expr}{tg:Option Expr}{n:Nat}{env:Env}(h:jN e=false):swapsWith e tg n env=pure false:=by
 cases e<;>first|rfl|cases h
theorem Cs{X:Cx}{f:Expr}{as:List Expr}{kw:List Keyword}{p:Pos}{t:TE}(h:PE X (.Call f as kw p) t):PT X (.Call f as kw p) (tB t):=u4 h (λ_=>rfl)
theorem Jj{l r:Expr}{op:Operator}{p:Pos}:dY (.BinOp l op r p):=λ_ _=>rfl
theorem Cc{x:Str}{p:Pos}:dY (.Name x p):=λ_ _=>rfl
theorem EI{c:Const}{k:Nat}{p:Pos}:dY (.Constant c k p):=λ_ _=>rfl
theorem j6{op op':CmpOp}{b c:Expr}(h:op'≠.In:=by decide)(h2:op'≠.NotIn:=by decide):lastMarks [op,op'] [b,c]=false:=by
 have e:lastMarks [op,op'] [b,c]=behindInMarks op' c:=by rfl
 rw[e];exact cF c h h2
theorem G0{X:Cx}{e:Expr}{te:TE}{p:Pos}(he:PE X e te)(h:jN e=false:=by rfl):PS X (.Expr e p) (sL te):=Dv he (jc h)
structure Slot(X:Cx)(i:Nat)(x:Str):Prop where
 hN:X.N[i]? =some x
 lc:Loc X.env.scope x
 fn:X.fn x=true\/X.env.scope.names.lookup x=some .local
 db:(x == ("__debug__" :Str))=false
 cd:(x == ("__classdict__" :Str))=false
structure Bt(X:Cx)(x:Str):Prop where
 gl:Gl X x
 nm:X.mg x=none
 hn:x≠ "__name__"
 db:(x == ("__debug__" :Str))=false
structure Fg(X:Cx)(x:Str)(sp:Sp):Prop where
 ex:∃(k:Nat) (f:Addr) (fd:FuncData) (ps:List Str),dO X.prog X.w X.K X.mg X.base mG k f fd ps sp/\dr k X.A/\X.mg x=some (.ref f)/\keepIn X.K (.ref f)=true/\Binds X.K fd ps []
 gl:Gl X x
 db:(x == ("__debug__" :Str))=false
section
variable {X:Cx}{i:Nat}{x:Str}{sp:Sp}{p pos pos':Pos}{e:Expr}{es:List Expr}{te:TE}{t:TA}
theorem Slot.rd(S:Slot X i x):PE X (.Name x p) (kJ i):=mE S.hN (S.lc.elim .inl λh=>.inr (.inl h)) S.db S.cd
theorem Slot.set(S:Slot X i x)(nd:X.N.Nodup)(he:PE X e te)(h:jN e=false:=by rfl):PS X (.Assign [.Name x pos'] e pos) (uD te (eQ i)):=Eo nd S.hN S.lc he (jc h) S.fn
theorem Slot.tg(S:Slot X i x)(nd:X.N.Nodup):PG X (.Name x p) (eQ i):=nL nd S.hN S.lc S.fn
theorem Bt.call{id:String}{r:List V->Hp->VK->Prop}(B:Bt X x)(hc:eG X (.builtin id) r)(hv:bootBuiltins x=some (.builtin id))(ha:PA X (e::es) t)(h1:notStar e=true:=by rfl)
  (h2:es.all notStar=true:=by rfl):PE X (.Call (.Name x p) (e::es) [] pos) (GG r t):=ig hc B.gl B.nm hv ha B.hn B.db (cO h1) (eI h2)
theorem Bt.Hk{T:String}{r:List V->Hp->VK->Prop}(B:Bt X x)(hc:eG X (.type T) r)(hv:bootBuiltins x=some (.type T))(ha:PA X (e::es) t)(h1:notStar e=true:=by rfl)
  (h2:es.all notStar=true:=by rfl):PE X (.Call (.Name x p) (e::es) [] pos) (GG r t):=yj hc B.gl B.nm hv ha B.hn B.db (cO h1) (eI h2)
theorem Bt.ty{n:String}(B:Bt X x)(hv:bootBuiltins x=some (.type n)):PE X (.Name x p) (tC (.ty n)):=nj (v:=.ty n) B.gl B.nm hv rfl B.hn B.db
theorem Fg.call(C:Fg X x sp)(ha:PA X (e::es) t)(h1:notStar e=true:=by rfl)
  (h2:es.all notStar=true:=by rfl):PE X (.Call (.Name x p) (e::es) [] pos) (kj sp [] E0 t):=by
 obtain⟨k,f,fd,ps,G,hr,nm,kp,bi⟩:=C.ex;exact xx G hr C.gl nm kp bi .nil wx ha C.db (cO h1) (eI h2)
end
end L2
namespace J
open PySem PySem.Spec PyProof.Rows
open L2 (Cx V Hp St VK TE TT TA TS TG o7 TI TO R2 Sp XK E0 mG dO dr Gl Binds RelV Vals cH cU dQ)
structure JE(X:Cx)(e:Expr)(t:TE):Prop where
 out:L2.PE X e t
structure JT(X:Cx)(e:Expr)(t:TT):Prop where
 out:L2.PT X e t
structure JW(X:Cx)(e:Expr)(t:TT):Prop where
 out:L2.PW X e t
structure JA(X:Cx)(es:List Expr)(t:TA):Prop where
 out:L2.PA X es t
structure JS(X:Cx)(st:Stmt)(t:TS):Prop where
 out:L2.PS X st t
structure sJ(X:Cx)(st:List Stmt)(t:TS):Prop where
 out:L2.vT X st t
structure JG(X:Cx)(tg:Expr)(g:TG):Prop where
 out:L2.PG X tg g
structure GV(X:Cx)(ts:List Expr)(g:o7):Prop where
 out:L2.Hv X ts g
structure JI(X:Cx)(tg it:Expr)(wi:TI):Prop where
 out:L2.PI X tg it wi
structure JO(X:Cx)(e:Option Expr)(t:TO):Prop where
 out:L2.PO X e t
structure JB(X:Cx)(op:Operator)(r:R2):Prop where
 out:L2.iq X (binaryOp op) r
structure JC(X:Cx)(op:CmpOp)(r:R2):Prop where
 out:L2.iq X (compareOp op) r
structure JU(X:Cx)(op:UnaryOp)(r:V->Hp->VK->Prop):Prop where
 out:L2.JQ X (unaryOp op) r
structure JF(X:Cx)(f:Value)(r:List V->Hp->VK->Prop):Prop where
 out:L2.eG X f r
structure JX(X:Cx)(r:R2):Prop where
 out:L2.IL X r
structure JM(X:Cx)(id:String)(r:V->List V->Hp->VK->Prop):Prop where
 out:L2.JR X id r
structure JL(X:Cx)(r:V->Option Int->Option Int->Hp->VK->Prop):Prop where
 out:L2.Jx X r
structure dY(b:Expr):Prop where
 out:L2.dY b
section
variable {X:Cx}{a b c e:Expr}{es:List Expr}{ta tb tc te:TE}{t:TA}{tA tB':TT}{pos p2:Pos}{r r':R2}{u v:TS}{st:Stmt}{sts:List Stmt}{tg:Expr}
theorem _root_.bw:JB X .Add (L2.ze λi j=>.int (i+j)):=⟨L2.Fu⟩
theorem pf:JB X .Sub (L2.ze λi j=>.int (i - j)):=⟨L2.pf⟩
theorem _root_.bO:JB X .Mult (L2.rI L2.C4 λi j=>.int (i * j)):=⟨L2.Fh⟩
theorem _root_.ba:JB X .FloorDiv (L2.rI L2.HM λi j=>.int (i / j)):=⟨L2.BX⟩
theorem _root_.a7:JB X .Mod (L2.rI (λ_ j=>0 < j) λi j=>.int (i % j)):=⟨L2.FG⟩
theorem ma:JB X .Pow (L2.rI L2.Hw λi j=>.int (i ^ j.toNat)):=⟨L2.ma⟩
theorem iM:JB X .Add (λx y H Q=>∃i j,x=.str i/\y=.str j/\i.length+j.length<=sizeLine/\Q (.str (i++j)) H):=⟨L2.iM⟩
theorem vC:JU X .USub (L2.rU λi=>.int (-i)):=⟨L2.vC⟩
theorem _root_.aL:JC X .Eq L2.Lr:=⟨L2.HJ⟩
theorem _root_.bU:JC X .NotEq L2.LK:=⟨L2.Hc⟩
theorem _root_.bS:JC X .Lt (L2.ze λi j=>.bl (decide (i < j))):=⟨L2.GS⟩
theorem _root_.bH:JC X .LtE (L2.ze λi j=>.bl (decide (i<=j))):=⟨L2.tG⟩
theorem _root_.bT:JC X .Gt (L2.ze λi j=>.bl (decide (j < i))):=⟨L2.Jg⟩
theorem _root_.b5:JC X .Is (λx y H Q=>y=.non/\Q (.bl (decide (x=.non))) H):=⟨L2.Fq⟩
theorem kW:JC X .IsNot (λx y H Q=>y=.non/\Q (.bl (!decide (x=.non))) H):=⟨L2.kW⟩
theorem fQ:JC X .In (L2.Jo X.K false):=⟨L2.fQ⟩
theorem fN:JC X .NotIn (L2.Jo X.K true):=⟨L2.fN⟩
theorem _root_.bq:JF X (.builtin "len") (λxs H Q=>L2.D7 X.K xs H Q):=⟨L2.kF⟩
theorem _root_.bE:JF X (.type "list") (λxs H Q=>∃p ys,xs=[.ref p]/\(cH X.K H p ys\/cU X.K H p ys)/\∀l,H l=none->Q (.ref l) (L2.upd H l (.lst ys))):=⟨L2.r8⟩
theorem _root_.bK:JF X (.builtin "isinstance") (λxs H Q=>L2.EN X.K xs H Q):=⟨L2.i6⟩
theorem _root_.cm(hc:X.calm=true):JF X (.builtin "all") (λxs H Q=>∃(p:Addr) (bs:List Bool),xs=[.ref p]/\cH X.K H p (bs.map V.bl)/\Q (.bl (bs.all id)) H):=⟨L2.qx hc⟩
theorem jE:JF X (.type "int") (λxs H Q=>(∃i,xs=[.int i]/\Q (.int i) H)\/∃k,xs=[.bl k]/\Q (.int (if k then 1 else 0)) H):=⟨L2.jE⟩
theorem gS(hc:X.calm=true):JF X (.builtin "max") (λxs H Q=>∃i j,xs=[.int i,.int j]/\Q (.int (if j > i then j else i)) H):=⟨L2.gS hc⟩
theorem fP(hc:X.calm=true):JF X (.builtin "min") (λxs H Q=>∃i j,xs=[.int i,.int j]/\Q (.int (if j < i then j else i)) H):=⟨L2.fP hc⟩
theorem _root_.aT:JX X (L2.BS X.K):=⟨L2.wF⟩
theorem _root_.ao:JX X (L2.C1 X.K):=⟨L2.zS⟩
theorem vo:JX X L2.FN:=⟨L2.vo⟩
theorem _root_.cb{l r:Expr}{op:Operator}{p:Pos}:dY (.BinOp l op r p):=⟨L2.Jj⟩
theorem _root_.a8{x:Str}{p:Pos}:dY (.Name x p):=⟨L2.Cc⟩
theorem _root_.aj{c:Const}{k:Nat}{p:Pos}:dY (.Constant c k p):=⟨L2.EI⟩
theorem qL{f:Expr}{as:List Expr}{kw:List Keyword}{p:Pos}:dY (.Call f as kw p):=⟨λ_ _=>rfl⟩
theorem _root_.cj:JL X (L2.Jd X.K):=⟨L2.CF⟩
theorem _root_.bZ:JO X none L2.wG:=⟨L2.BG⟩
theorem _root_.b6(h:JE X e te):JO X (some e) (L2.DS te):=⟨L2.CV h.out⟩
theorem _root_.ae{i j pos}:JE X (.Constant (.int i) j pos) (L2.tC (.int i)):=⟨L2.mK⟩
theorem _root_.a5{b j pos}:JE X (.Constant (.bool b) j pos) (L2.tC (.bl b)):=⟨L2.DE⟩
theorem _root_.bC{j pos}:JE X (.Constant .none j pos) (L2.tC .non):=⟨L2.E7⟩
theorem _root_.aO{x j pos}:JE X (.Constant (.str x) j pos) (L2.tC (.str x)):=⟨L2.vM⟩
theorem _root_.az{op:Operator}(ho:JB X op r)(ha:JE X a ta)(hb:JE X b tb):JE X (.BinOp a op b pos) (L2.Dy r ta tb):=⟨L2.D5 ho.out ha.out hb.out⟩
theorem Bu{op:UnaryOp}{r:V->Hp->VK->Prop}(ho:JU X op r)(ha:JE X a ta):JE X (.UnaryOp op a pos) (L2.Lj r ta):=⟨L2.Bu ho.out ha.out⟩
theorem _root_.af(hr:JX X r)(ha:JE X a ta)(hb:JE X b tb)(hs:dY b):JE X (.Subscript a b pos) (L2.Dy r ta tb):=⟨L2.HU hr.out ha.out hb.out hs.out⟩
theorem _root_.bX{r:V->Option Int->Option Int->Hp->VK->Prop}{lo hi:Option Expr}{tl th:TO}(hr:JL X r)(he:JE X e te)(hl:JO X lo tl)(hu:JO X hi th):JE X (.Subscript e (.Slice lo hi none p2) pos) (L2.LF r te tl th):=⟨L2.AI hr.out he.out hl.out hu.out⟩
theorem _root_.aR{op:CmpOp}(ho:JC X op r)(ha:JE X a ta)(hb:JE X b tb)(hm:behindInMarks op b=false):JE X (.Compare a [op] [b] pos) (L2.Dy r ta tb):=⟨L2.wB ho.out ha.out hb.out hm⟩
theorem _root_.aB{op:CmpOp}(ho:JC X op r)(ha:JE X a ta)(hb:JE X b tb)(hm:behindInMarks op b=false):JT X (.Compare a [op] [b] pos) (L2.xf (L2.Dy r ta tb)):=⟨L2.BM ho.out ha.out hb.out hm⟩
theorem ic{op op':CmpOp}(ho:JC X op r)(ho':JC X op' r')(ha:JE X a ta)(hb:JE X b tb)(hc:JE X c tc)(hm:lastMarks [op,op'] [b,c]=false):JE X (.Compare a [op,op'] [b,c] pos) (L2.qY r r' ta tb tc):=⟨L2.ic ho.out ho'.out ha.out hb.out hc.out hm⟩
theorem kO{op op':CmpOp}(ho:JC X op r)(ho':JC X op' r')(ha:JE X a ta)(hb:JE X b tb)(hc:JE X c tc)(hm:lastMarks [op,op'] [b,c]=false):JT X (.Compare a [op,op'] [b,c] pos) (L2.xf (L2.qY r r' ta tb tc)):=⟨L2.kO ho.out ho'.out ha.out hb.out hc.out hm⟩
theorem _root_.cw{op:CmpOp}{x:Str}{p:Pos}:behindInMarks op (.Name x p)=false:=rfl
theorem Ar{op:CmpOp}{es:List Expr}{k:Nat}{p:Pos}:behindInMarks op (.Tuple es k p)=false:=rfl
theorem _root_.aZ{op}(h:JE X a te):JE X (.BoolOp op [a] pos) te:=⟨L2.rm h.out⟩
theorem _root_.aS(ha:JE X a ta)(hb:JE X (.BoolOp .And (b::es) pos) tb):JE X (.BoolOp .And (a::b::es) pos) (L2.Dx ta tb):=⟨L2.rK ha.out hb.out⟩
theorem qv(ha:JE X a ta)(hb:JE X (.BoolOp .Or (b::es) pos) tb):JE X (.BoolOp .Or (a::b::es) pos) (L2.C6 ta tb):=⟨L2.qv ha.out hb.out⟩
theorem l9(ha:JE X a ta):JE X (.UnaryOp .Not a pos) (L2.DQ ta):=⟨L2.l9 ha.out⟩
theorem _root_.bB(ha:JT X a tA):JW X (.BoolOp .And [a] pos) tA:=⟨L2.Dj ha.out⟩
theorem _root_.bz(ha:JT X a tA):JW X (.BoolOp .Or [a] pos) tA:=⟨L2.Ak ha.out⟩
theorem _root_.bo(ha:JT X a tA)(hb:JW X (.BoolOp .And (b::es) pos) tB'):JW X (.BoolOp .And (a::b::es) pos) (L2.HS tA tB'):=⟨L2.FO ha.out hb.out⟩
theorem _root_.bg(ha:JT X a tA)(hb:JW X (.BoolOp .Or (b::es) pos) tB'):JW X (.BoolOp .Or (a::b::es) pos) (L2.LO tA tB'):=⟨L2.D0 ha.out hb.out⟩
theorem _root_.aU(h:JW X e tA):JT X e tA:=⟨h.out.pt⟩
theorem _root_.aY(ha:JT X a tA):JT X (.UnaryOp .Not a pos) (L2.IJ tA):=⟨L2.vn ha.out⟩
theorem _root_.aQ{f:Expr}{as:List Expr}{kw:List Keyword}{p:Pos}(h:JE X (.Call f as kw p) te):JT X (.Call f as kw p) (L2.tB te):=⟨L2.Cs h.out⟩
theorem _root_.bJ:JA X [] L2.oW:=⟨L2.jR⟩
theorem uS(ha:JE X e te)(hr:JA X es t)(h:L2.notStar e=true:=by rfl):JA X (e::es) (L2.dH te t):=⟨L2.uS ha.out hr.out h⟩
theorem _root_.ak(a:JE X e te)(i:L2.notStar e=true:=by rfl):JA X [e] (L2.dH te L2.oW):=uS a bJ i
theorem _root_.aA{e₁:Expr}{t₁:TE}(a0:JE X e te)(a1:JE X e₁ t₁)(i0:L2.notStar e=true:=by rfl)(i1:L2.notStar e₁=true:=by rfl):JA X [e,e₁] (L2.dH te (L2.dH t₁ L2.oW)):=uS a0 (ak a1 i1) i0
theorem _root_.aM{e₁ e₂:Expr}{t₁ t₂:TE}(a0:JE X e te)(a1:JE X e₁ t₁)(a2:JE X e₂ t₂)(i0:L2.notStar e=true:=by rfl)(i1:L2.notStar e₁=true:=by rfl)(i2:L2.notStar e₂=true:=by rfl):JA X [e,e₁,e₂] (L2.dH te (L2.dH t₁ (L2.dH t₂ L2.oW))):=uS a0 (aA a1 a2 i1 i2) i0
theorem _root_.b8{e₁ e₂ e₃:Expr}{t₁ t₂ t₃:TE}(a0:JE X e te)(a1:JE X e₁ t₁)(a2:JE X e₂ t₂)(a3:JE X e₃ t₃)(i0:L2.notStar e=true:=by rfl)(i1:L2.notStar e₁=true:=by rfl)(i2:L2.notStar e₂=true:=by rfl)(i3:L2.notStar e₃=true:=by rfl):JA X [e,e₁,e₂,e₃] (L2.dH te (L2.dH t₁ (L2.dH t₂ (L2.dH t₃ L2.oW)))):=uS a0 (aM a1 a2 a3 i1 i2 i3) i0
theorem MC{e₁ e₂ e₃ e₄:Expr}{t₁ t₂ t₃ t₄:TE}(a0:JE X e te)(a1:JE X e₁ t₁)(a2:JE X e₂ t₂)(a3:JE X e₃ t₃)(a4:JE X e₄ t₄)(i0:L2.notStar e=true:=by rfl)(i1:L2.notStar e₁=true:=by rfl)(i2:L2.notStar e₂=true:=by rfl)(i3:L2.notStar e₃=true:=by rfl)(i4:L2.notStar e₄=true:=by rfl):JA X [e,e₁,e₂,e₃,e₄] (L2.dH te (L2.dH t₁ (L2.dH t₂ (L2.dH t₃ (L2.dH t₄ L2.oW))))):=uS a0 (b8 a1 a2 a3 a4 i1 i2 i3 i4) i0
theorem _root_.bh(h:JA X es t):JE X (.List es pos) (L2.HX t):=⟨L2.EK h.out⟩
theorem _root_.aV{k}(h:JA X es t):JE X (.Tuple es k pos) (L2.GP t):=⟨L2.ES h.out⟩
theorem _root_.cv:JE X (.Dict [] [] pos) L2.D6:=⟨L2.Di⟩
theorem lG {x:Str}{v:V}{u:Value}(hg:Gl X x) (hm:X.mg x=some u) (r:RelV v u) (hd:(x == ("__debug__" :Str))=false):JE X (.Name x pos) (L2.tC v):=⟨L2.lG hg hm r hd⟩
theorem _root_.aP(h:JE X e te):JI X tg e (L2.DY X.K te):=⟨L2.Cw h.out⟩
theorem wo(h:JE X e te):JI X tg e (L2.IM X.K te):=⟨L2.wo h.out⟩
theorem _root_.aJ:sJ X [] L2.oi:=⟨L2.wO⟩
theorem _root_.ah(h1:JS X st u)(h2:sJ X sts v):sJ X (st::sts) (L2.vR u v):=⟨L2.uF h1.out h2.out⟩
theorem _root_.ag(h1:JS X st u):sJ X [st] u:=⟨L2.jC h1.out⟩
theorem fV:sJ X sts L2.Al:=⟨L2.fV⟩
theorem _root_.au(h:JE X e te):JS X (.Return (some e) pos) (L2.Iy te):=⟨L2.oU h.out⟩
theorem _root_.bG(h:JE X e te)(hc:L2.jN e=false:=by rfl):JS X (.Expr e pos) (L2.sL te):=⟨L2.G0 h.out hc⟩
theorem _root_.aH{c:Expr}{x y:List Stmt}{tc:TT}(hc:JT X c tc)(ha:sJ X x u)(hb:sJ X y v):JS X (.If c x y pos) (L2.rY tc u v):=⟨L2.DM hc.out ha.out hb.out⟩
theorem _root_.bp{it:Expr}{body:List Stmt}{wi:TI}{g:TG}{tb:TS}(hp:PassesOwn (model X.prog X.w) X.A X.env X.xe)(hc:X.calm=true)(hi:JI X tg it wi)(hg:JG X tg g)(hb:sJ X body tb)
  (hs:∀x,foldedSetIterable it X.env x=pure x:=by intro _;rfl):JS X (.For tg it body [] pos) (L2.HL wi g tb):=⟨L2.Ew hp hc hi.out hg.out hb.out hs⟩
end
section
variable {X:Cx}{i:Nat}{x:Str}{sp:Sp}{p pos pos':Pos}{e:Expr}{es:List Expr}{te:TE}{t:TA}{tg:Expr}
theorem _root_.aa(S:L2.Slot X i x):JE X (.Name x p) (L2.kJ i):=⟨S.rd⟩
theorem _root_.aE(S:L2.Slot X i x)(nd:X.N.Nodup)(he:JE X e te)(h:L2.jN e=false:=by rfl):JS X (.Assign [.Name x pos'] e pos) (L2.uD te (L2.eQ i)):=⟨S.set nd he.out h⟩
theorem _root_.aG(S:L2.Slot X i x)(nd:X.N.Nodup):JG X (.Name x p) (L2.eQ i):=⟨S.tg nd⟩
theorem _root_.aD{id:String}{r:List V->Hp->VK->Prop}(B:L2.Bt X x)(hc:JF X (.builtin id) r)(hv:bootBuiltins x=some (.builtin id))(ha:JA X (e::es) t)(h1:L2.notStar e=true:=by rfl)(h2:es.all L2.notStar=true:=by rfl):
  JE X (.Call (.Name x p) (e::es) [] pos) (L2.GG r t):=⟨B.call hc.out hv ha.out h1 h2⟩
theorem _root_.br{T:String}{r:List V->Hp->VK->Prop}(B:L2.Bt X x)(hc:JF X (.type T) r)(hv:bootBuiltins x=some (.type T))(ha:JA X (e::es) t)(h1:L2.notStar e=true:=by rfl)(h2:es.all L2.notStar=true:=by rfl):
  JE X (.Call (.Name x p) (e::es) [] pos) (L2.GG r t):=⟨B.Hk hc.out hv ha.out h1 h2⟩
theorem ty{n:String}(B:L2.Bt X x)(hv:bootBuiltins x=some (.type n)):JE X (.Name x p) (L2.tC (.ty n)):=⟨B.ty hv⟩
theorem _root_.aw(C:L2.Fg X x sp)(ha:JA X (e::es) t)(h1:L2.notStar e=true:=by rfl)(h2:es.all L2.notStar=true:=by rfl):JE X (.Call (.Name x p) (e::es) [] pos) (L2.kj sp [] E0 t):=⟨C.call ha.out h1 h2⟩
theorem _root_.b9 (B:L2.Bt X "range") (ha:JA X [e] t) (h:L2.notStar e=true:=by rfl):JI X tg (.Call (.Name "range" p) [e] [] pos) (L2.DT t):=⟨L2.xK B.gl B.nm ha.out (L2.cO h)⟩
end
theorem DO{P:Program}{w:World}{K:PySem.W.Frag}{mg:Str->Option Value}{base:Heap}{x qual:Str}{st:Stmt}{f:Addr}{fd:FuncData}{N ps:List Str}{k:Nat}{sp:Sp}(F:L2.oj K x qual st f fd)(S:L2.cE N ps (L2.cB st))(len:∀vs H Q E,sp vs H Q E->vs.length=ps.length)
  (hbody:∀(X:Cx)(cdv:Value)(A:Around)(outer:List Env)(s:Shared)(H:Hp)(vs:List V)(Q:VK)(E:XK),X=(L2.jH mG P w K mg base N qual (L2.cB st) f cdv A outer s H E).iT->dr k X.A->sp vs H Q E->
   ∃t,sJ X (L2.cS st) t/\t { nx:=λ_ H'=>Q .non H',rt:=Q } (L2.start N vs) H):dO P w K mg base mG (k+1) f fd ps sp:=by
 refine F.ok S len (λcdv A outer s H vs Q E hr h=>?_);obtain⟨t,h1,h2⟩:=hbody _ cdv A outer s H vs Q E rfl hr h;exact⟨t,h1.out,h2⟩
end J
namespace Z
open PySem PySem.Spec PyProof.Rows
section
variable {prog:Program}{w:World}{A:Around}{E:Value->Shared->Prop}{s:Shared}
end
structure Ap(z TI TO i1 i2:Addr)(fp1 fp2:List Addr):Prop where
 TIz:TI≠z
 TOz:TO≠z
 TITO:TI≠TO
 TI1:TI≠i1
 TI2:TI≠i2
 z1:z ∉ fp1
 z2:z ∉ fp2
 o1:TO ∉ fp1
 o2:TO ∉ fp2
 m1:i1∈fp1
 m2:i2∈fp2
 x12:i1 ∉ fp2
 x21:i2 ∉ fp1
section
variable {prog:Program}{w:World}{A:Around}{E:Value->Shared->Prop}{s:Shared}{z TI TO i1 i2:Addr}{fp1 fp2:List Addr}{n1 n2:Nat}{P1 P2:Nat->Value->Prop}{S1 S2:Nat->Heap->Prop}
end
end Z
namespace L2
open PySem PySem.Spec PyProof.Rows
theorem Inv.yw{X:Cx}{pins:List (Addr×Obj)}{σ:St}{H:Hp}{s:Shared}{g:Heap}{t':Nat}{fp:List Addr}{T:Addr}{o:HO}(I:Inv X pins σ H s)(hf:∀b∈fp,kq X pins H b)
  (k:∀b u,b ∉ fp->s.heap.get? b=some u->g.get? b=some u)(hT:s.heap.objs.size<=T)(nf:∀b∈fp,∃u,s.heap.get? b=some u)(new:cZ X.prog X.w (upd H T o) g T o):Inv X pins σ (upd H T o) { s with heap:=g,toks:=t' }:=by
 have hn:H T=none:=I.hok.fresh hT;have Bz:∀b u,H b=some u->b ∉ fp:=λb u e z=>by rw[(hf b z).1]at e;cases e
 refine I.step (g':=s.gens) (d':=s.drawn) (ch:=fp) (λb hb=>⟨(hf b hb).2.2.2.1,(hf b hb).2.1,(hf b hb).2.2.2.2.1,(hf b hb).2.2.2.2.2⟩) (λb u _ _ hc e _=>k b u hc e) (λb u _ _ hc e _=>⟨u.slots,k b u hc e⟩) (λb u _ e n=>?_)
  (λb u hc e=>⟨u,k b u hc e⟩) (λb xs e=>?_) (λb u xs e=>?_) (λb ps e=>⟨#[],?_⟩) (λm hm=>?_) (λb u e=>?_) I.bare
 ·rw[cD (ne_of_lt (lt_of_lt_of_le (lt_size e) hT))]
  exact n
 ·rw[cD (cA e hn)]
  exact e
 ·rw[cD (cA e hn)]
  exact e
 ·rw[cD (cA e hn),e]
  simp
 ·obtain⟨ob,es,ep,ho,r⟩:=hm
  exact⟨ob,es,ep,k _ ob (λz=>(hf _ z).2.1 rfl) ho,r⟩
 ·by_cases hb:b=T
  ·subst hb
   rw[cz]at e;cases e;exact new
  ·rw[cD hb]at e
   refine(I.hok b u e).fB (λc v hc q=>k c v ?_ q) (λc q=>by rw[cD (cA q hn)];exact q) λc xs q=>by rw[cD (cA q hn)];exact q
   rcases hc with rfl|hc
   ·exact Bz c u e
   ·exact Bz c _ hc
theorem Inv.l6{X:Cx}{pins:List (Addr×Obj)}{σ:St}{H:Hp}{s:Shared}{g:Heap}{t':Nat}{fp:List Addr}(I:Inv X pins σ H s)(hf:∀b∈fp,kq X pins H b)
  (k:∀b u,b ∉ fp->s.heap.get? b=some u->g.get? b=some u):Inv X pins σ H { s with heap:=g,toks:=t' }:=by
 have Bz:∀b u,H b=some u->b ∉ fp:=λb u e z=>by rw[(hf b z).1]at e;cases e
 refine I.step (g':=s.gens) (d':=s.drawn) (ch:=fp) (λb hb=>⟨(hf b hb).2.2.2.1,(hf b hb).2.1,(hf b hb).2.2.2.2.1,(hf b hb).2.2.2.2.2⟩) (λb u _ _ hc e _=>k b u hc e) (λb u _ _ hc e _=>⟨u.slots,k b u hc e⟩) (λ_ _ _ _ n=>n)
  (λb u hc e=>⟨u,k b u hc e⟩) (λ_ _ e=>e) (λ_ _ _ e=>e) (λb ps e=>⟨#[],by rw[e];simp⟩) (λm hm=>?_) (λb u e=>?_) I.bare
 ·obtain⟨ob,es,ep,ho,r⟩:=hm
  exact⟨ob,es,ep,k _ ob (λz=>(hf _ z).2.1 rfl) ho,r⟩
 ·refine(I.hok b u e).fB (λc v hc q=>k c v ?_ q) (λ_ q=>q) λ_ _ q=>q
  rcases hc with rfl|hc
  ·exact Bz c u e
  ·exact Bz c _ hc
def sN(q:Bool)(K:PySem.W.Frag)(H:Hp)(a:Addr)(xs:List V):Prop:=match q with
 |true=>cH K H a xs
 |false=>cU K H a xs
def Gu(q:Bool)(h:Heap)(it a:Addr)(i:Nat):Prop:=match q with
 |true=>h.IsListIter it a i
 |false=>h.IsTupleIter it a i
def isAt(q:Bool)(h:Heap)(a:Addr)(its:Array Value):Prop:=match q with
 |true=>h.IsList a its
 |false=>h.IsTuple a its
def Gr(q:Bool):String:=match q with
 |true=> "list_iterator"
 |false=> "tuple_iterator"
theorem tZ{q:Bool}{h:Heap}{it a:Addr}{i:Nat}(p:Gu q h it a i):∃o,h.get? it=some o/\∀v,o.data≠.cell v:=by
 cases q with
 |true=>obtain⟨o,e,c,d⟩:=p;exact⟨o,e,λv z=>by rw[d]at z;cases z⟩
 |false=>obtain⟨o,e,c,d⟩:=p;exact⟨o,e,λv z=>by rw[d]at z;cases z⟩
theorem yz{q:Bool}{h g:Heap}{it a:Addr}{i:Nat}(p:Gu q h it a i)(k:∀o,h.get? it=some o->g.get? it=some o):Gu q g it a i:=by
 cases q with
 |true=>obtain⟨o,e,r⟩:=p;exact⟨o,k o e,r⟩
 |false=>obtain⟨o,e,r⟩:=p;exact⟨o,k o e,r⟩
def L3(K:PySem.W.Frag)(q1 q2:Bool)(a1 a2:Addr):It:=
 ⟨λi H=>∃xs ys x y,sN q1 K H a1 xs/\sN q2 K H a2 ys/\xs[i]? =some x/\ys[i]? =some y,
  λi H v H'=>∃p x y,H p=none/\v=.ref p/\H'=upd H p (.tup [x,y])/\(∀xs,sN q1 K H a1 xs->xs[i]? =some x)/\(∀ys,sN q2 K H a2 ys->ys[i]? =some y),
  λi H=>∃xs,sN q1 K H a1 xs/\xs.length=i⟩
end L2
namespace L2
open PySem PySem.Spec PyProof.Rows
abbrev IF(q:Bool)(h:Heap)(a:Addr):Heap:=h.push { cls:=.type (Gr q),data:=.fields #[.ref a,.int 0 0] }
abbrev LL(q1 q2:Bool)(h:Heap)(a b:Addr):Heap:=(IF q2 (IF q1 h a) b).push { cls:=.type "tuple",data:=.seq #[.ref h.objs.size,.ref (IF q1 h a).objs.size] }
abbrev Mi(q1 q2:Bool)(h:Heap)(a b:Addr):Heap:=(LL q1 q2 h a b).push { cls:=.type "tuple",data:=.seq #[.none,.none] }
abbrev M8(q1 q2:Bool)(h:Heap)(a b:Addr):Heap:=(Mi q1 q2 h a b).push { cls:=.type "zip",data:=.fields #[.none,.bool false,.bool false,.ref (IF q2 (IF q1 h a) b).objs.size,.ref (LL q1 q2 h a b).objs.size] }
theorem K0(n b:Nat)(h:b∈[n+1,n]):n<=b:=by
 simp only[mem_cons,not_mem_nil,or_false]at h;omega
theorem qP:bootBuiltins "enumerate" =some (.type "enumerate"):=by decide+kernel
def MO(K:PySem.W.Frag)(ta:TA):TI:=λσ H R=>ta σ H λvs H1=>∃q a1 a2,vs=[.ref a1,.ref a2]/\(∃xs,sN q K H1 a1 xs)/\(∃ys,sN q K H1 a2 ys)/\R (L3 K q q a1 a2) H1
theorem Cj{X:Cx}{pins:List (Addr×Obj)}{σ:St}{H:Hp}{s:Shared}{q:Bool}{a:Addr}{xs:List V}(I:Inv X pins σ H s)(h:sN q X.K H a xs):a < s.heap.objs.size:=by
 cases q with
 |true=>obtain⟨its,r,⟨o,n,e,_⟩,z⟩:=I.list h;exact lt_size e
 |false=>obtain⟨its,r,⟨o,e,_⟩,z⟩:=I.tuple h;exact lt_size e
section
variable {X:Cx}
end
def GC(K:PySem.W.Frag)(a:Addr):It:=
 ⟨λi H=>∃xs x,cH K H a xs/\xs[i]? =some x,λi H v H'=>∃p x,H p=none/\v=.ref p/\H'=upd H p (.tup [.int i,x])/\∀xs,cH K H a xs->xs[i]? =some x,λi H=>∃xs,cH K H a xs/\xs.length=i⟩
theorem yE{P:Program}{w:World}{K:PySem.W.Frag}{es:List Expr}{kk:Nat}{tp:Pos}{a:Addr}(e it:Addr)(ne:e≠it)(n1:a≠e)(n2:a≠it):
  Turn P w K (.Tuple es kk tp) (GC K a) [e,it] e (λi h=>(∃old,IsEnum h e it i old)/\h.IsListIter it a i):=by
 refine⟨by simp,λi h st b hb=>?_,λi h g st k=>?_,?_,?_,λA i s Q E st h=>?_⟩
 ·obtain⟨⟨old,ce⟩,c1⟩:=st
  simp only[mem_cons,not_mem_nil,or_false]at hb;rcases hb with rfl|rfl
  ·exact⟨_,ce,λv e=>by cases e⟩
  ·exact tZ (q:=true) c1
 ·obtain⟨⟨old,ce⟩,c1⟩:=st
  exact⟨⟨old,k _ (by simp) _ ce⟩,yz (q:=true) c1 λo e=>k _ (by simp) o e⟩
 ·intro X hP hw hK hc i pins s σ H E I hf st hg
  subst hP hw hK;obtain⟨⟨old,ce⟩,c1⟩:=st;obtain⟨xs,x,hx,ex⟩:=hg;obtain⟨its,r,p,l⟩:=I.list hx;obtain⟨u,eu,ru⟩:=r.get ex;have W:=WalksT.enumerate (prog:=X.prog) (w:=X.w) (A:=X.A) (I.ok.hd hc) e it a ne n1 n2 its.toArray;have hi:i < its.toArray.size:=by
   have:=(List.getElem?_eq_some_iff.mp eu).1
   simpa using this
  refine W.item i s _ _ hi ⟨⟨old,ce⟩,c1,p.isList⟩ λT vals g tk hP hT hTup hM kp=>?_;obtain⟨t,v,hv,rfl⟩:=hP;have hvu:v=u:=by
   have:its[i]? =some v:=by simpa using hv
   rw[eu]at this;exact(Option.some.inj this).symm
  subst hvu;have hTw:T ∉ [e,it]:=W.apart i T g hM;refine⟨_,rfl,W.go es kk tp i T { s with heap:=g,toks:=tk } _ _ hM λg2 st2 kp2=>?_⟩;have hn:H T=none:=I.hok.fresh hT;have kk2:∀b u,b ∉ [e,it]->s.heap.get? b=some u->g2.get? b=some u:=λb u hb q=>kp2 b u hb (kp b u hb q);have I2:Inv X pins σ (upd H T (.tup [.int i,x])) { s with heap:=g2,toks:=tk }:=by
   refine I.yw hf kk2 hT (λb hb=>?_) ⟨by show 2<=sizeLine;decide,[.int i t,v],.cons ⟨t,rfl⟩ (.cons ru .nil),?_⟩
   ·simp only[mem_cons,not_mem_nil,or_false]at hb
    rcases hb with rfl|rfl
    ·exact⟨_,ce⟩
    ·obtain⟨o,q,_⟩:=tZ (q:=true) c1;exact⟨o,q⟩
   ·obtain⟨o,q,rest⟩:=hTup
    exact⟨o,kp2 T o hTw q,rest⟩
  refine⟨.ref T,_,I2,rfl,⟨T,x,hn,rfl,rfl,λzs hz=>by rw[I.tP hz hx];exact ex⟩,⟨by simpa using st2.1,st2.2.1⟩,λb hb=>?_⟩;have hbT:b≠T:=by
   rintro rfl;exact hTw hb
  rw[cD hbT];exact(hf b hb).1
 ·intro X hP hw hK hc i pins s σ H E I hf st hg
  subst hP hw hK;obtain⟨⟨old,ce⟩,c1⟩:=st;obtain⟨xs,hx,rfl⟩:=hg;obtain⟨its,r,p,l⟩:=I.list hx;have W:=WalksT.enumerate (prog:=X.prog) (w:=X.w) (A:=X.A) (I.ok.hd hc) e it a ne n1 n2 its.toArray;have e1:xs.length=its.toArray.size:=by rw[size_toArray];exact r.length
  rw[e1]at ce c1;exact W.done s _ _ ⟨⟨old,ce⟩,c1,p.isList⟩ λg tk kp=>⟨rfl,I.l6 hf kp⟩
 ·obtain⟨⟨old,ce⟩,c1⟩:=st
  exact wpAny_pyIter_enum ce h
def DJ(K:PySem.W.Frag)(ta:TA):TI:=λσ H R=>ta σ H λvs H1=>∃a,vs=[.ref a]/\(∃xs,cH K H1 a xs)/\R (GC K a) H1
section
variable {X:Cx}
theorem lD {e1:Expr}{es:List Expr}{kk:Nat}{tp p pos:Pos}{ta:TA}(B:Bt X "enumerate") (ha:PA X [e1] ta) (h1:notStar e1=true:=by rfl):PI X (.Tuple es kk tp) (.Call (.Name "enumerate" p) [e1] [] pos) (DJ X.K ta):=by
 intro pins s σ H R I h;refine wpAny_Call_Name_kw (lQ I B.gl B.nm qP ?_ B.hn B.db);refine PyProof.Rows.callWith_type1 (cY (ha pos pins s σ H _ I h) λus s1 hpat=>?_) (cO h1) (eI rfl);obtain⟨vs,H1,I1,r1,a,e,⟨xs,m1⟩,q⟩:=hpat;subst e;obtain⟨u1,rfl,rx⟩:=vals1 r1;cases rx;obtain⟨its,v1,p1,l1⟩:=I1.list m1;have b1:a < s1.heap.objs.size:=Cj (q:=true) I1 m1;refine call_enumerate_list p1.isList λg ge gi _ kp=>?_;refine wpAny_pyIter_enum ge ?_;refine⟨_,_,_,_,H1,rfl,I1.kept (t':=s1.toks) kp,yE (a:=a) (s1.heap.objs.size+1) s1.heap.objs.size (ne_of_gt (lt_succ_self _)) (ne_of_lt (lt_succ_of_lt b1)) (ne_of_lt b1),⟨⟨_,ge⟩,gi⟩,λb hb=>?_,q⟩;have hle:s1.heap.objs.size<=b:=K0 _ _ hb;exact I1.yo hle (I1.hok.fresh hle)
end
theorem AV{K:PySem.W.Frag}{a:Addr}{xs:List V}{g:TG}{tb:TS}{D:Ends}{σ:St}{H:Hp}(Pv:Nat->St->Hp->Prop)(h0:Pv 0 σ H)(hq:∀i σ H,Pv i σ H->cH K H a xs)
  (hs:∀(i:Nat) x p σ H,xs[i]? =some x->H p=none->Pv i σ H->g (.ref p) σ (upd H p (.tup [.int i,x])) λσ2 H2=>tb { D with nx:=Pv (i+1),ct:=Pv (i+1),bk:=D.nx } σ2 H2)(hd:∀σ H,Pv xs.length σ H->D.nx σ H):
  ∃W:Nat->Nat->St->Hp->Prop,(∃m,W 0 m σ H)/\∀i m σ H,W i m σ H->
   ((GC K a).stop i H/\D.nx σ H)\/((GC K a).go i H/\∃N:St->Hp->Prop,(∀σ' H',N σ' H'->∃m',m' < m/\W (i+1) m' σ' H')/\∀x H',(GC K a).yld i H x H'->g x σ H' λσ2 H2=>tb { D with nx:=N,ct:=N,bk:=D.nx } σ2 H2):=by
 refine⟨λi m σ H=>m=xs.length - i/\i<=xs.length/\Pv i σ H,⟨xs.length,by simp,zero_le _,h0⟩,?_⟩;rintro i m σ H ⟨rfl,hi,p⟩;have m1:=hq i σ H p;by_cases hlt:i < xs.length
 ·refine .inr ⟨⟨xs,xs[i],m1,by simp[hlt]⟩,Pv (i+1),λσ' H' p'=>⟨xs.length - (i+1),by omega,rfl,hlt,p'⟩,λv H' y=>?_⟩
  obtain⟨pp,x,hn,rfl,rfl,e1⟩:=y;exact hs i x pp σ H (e1 xs m1) hn p
 ·have e:i=xs.length:=by omega
  subst e;exact .inl ⟨⟨xs,m1,rfl⟩,hd σ H p⟩
theorem n9:∀{zs:List Str}{us:List Value},Vals (zs.map V.str) us->StrsAre us zs
 |[],_,r=>by cases r;exact .nil
 |z::zs,_,r=>by
  cases r with
  |cons r1 r2=>
   obtain⟨t,rfl⟩:=r1;exact .cons z t (n9 r2)
end L2
namespace L2
open PySem PySem.Spec PyProof.Rows
local instance keyBEq:BEq Key:=instBEqOfDecidableEq
local instance keyLBEq:@LawfulBEq Key keyBEq:=inferInstanceAs (@LawfulBEq Key instBEqOfDecidableEq)
theorem kR{prog:Program}{w:World}{h:Heap}{a:Addr}{S S':Key->Bool}{n n':Nat}(hS:h.SetOf (cJ prog w) a S n)(e:∀k,S k=S' k)(en:n=n'):h.SetOf (cJ prog w) a S' n':=by
 have:S=S':=funext e;subst this;subst en;exact hS
section
variable {prog:Program}{w:World}{A:Around}{R:Result->Shared->Prop}{I:Addr}{fp wr:List Addr}{G:Array GenState->Array GenState->Prop}{n:Nat}{P:Nat->Value->Prop}{St:Nat->Shared->Prop}
theorem setLoop(W:WalksS prog w A.in1 I fp wr G n P St)(S:Addr)(hSf:S ∉ fp)(key:Nat->Key)(hval:∀i v,P i v->jf (key i) v=true/\v.scannable=true)
  (hnd:∀i j,i < j->j < n->key i≠key j)(hb:n+1 < scanBound):∀(k i:Nat) (s:Shared),n - i=k->i<=n->St i s->s.heap.SetOf (cJ prog w) S (λc=>(List.range i).any λj=>decide (c=key j)) i->
   (∀s',Moved (S::wr) G s s'->s'.heap.SetOf (cJ prog w) S (λc=>(List.range n).any λj=>decide (c=key j)) n->R (.ok (.ret .none)) s')->
   codeAny (model prog w) A (.builtin "set.update.loop" ⟨[.ref S,.ref I],[]⟩) R s:=by
 have hSw:S ∉ wr:=λh=>hSf (W.sub _ h);have hsub:∀b∈wr,b∈S::wr:=λb hb=>mem_cons_of_mem _ hb;have fB:∀{s s':Shared}{T:Key->Bool}{m:Nat},Moved wr G s s'->s.heap.SetOf (cJ prog w) S T m->s'.heap.SetOf (cJ prog w) S T m:=λhm ⟨o,es,ep,tb,ho,rest⟩=>⟨o,es,ep,tb,hm.heap S _ hSw ho,rest⟩;intro k
 induction k with
 |zero=>
  intro i s hk hi hst hS hR;obtain rfl:i=n:=by omega
  refine codeAny_builtin PyProof.Rows.F.entry_set_update_loop ?_;rw[Around.under_plainId PyProof.Rows.F.plain_set_update_loop _];show wpAny _ A.in1 (pyNext (.ref I) >>= _) _ _ s;refine wpAny_bind (W.done s _ _ hst λs' hm=>?_);show wpAny _ A.in1 (ret Value.none) _ _ s';exact wpAny_pure (hR s' (hm.mono hsub) (fB hm hS))
 |succ k ih=>
  intro i s hk hi hst hS hR;have hlt:i < n:=by omega
  refine codeAny_builtin PyProof.Rows.F.entry_set_update_loop ?_;rw[Around.under_plainId PyProof.Rows.F.plain_set_update_loop _];show wpAny _ A.in1 (pyNext (.ref I) >>= _) _ _ s;refine wpAny_bind (W.item i s _ _ hlt hst λv s' hP hst' hm=>?_);obtain⟨hkv,hsc⟩:=hval i v hP;have hS1:=fB hm hS;show wpAny _ A.in1 (holding [v] (setAdd S v) >>= _) _ _ s';refine wpAny_bind (wpAny_holding ?_);unfold setAdd;refine wpAny_holding ?_;refine wpAny_bind ((cJ prog w).pyHash (k:=key i) hkv ?_);refine wpAny_setAddHashed_of (knd:=cJ prog w) (s:={ s' with toks:=s'.toks+1 }) hkv hsc hS1 (by omega) λg hsb hS2=>?_;have hno:((List.range i).any λj=>decide (key i=key j))=false:=by
   rw[any_eq_false];intro j hj;have hj':=mem_range.mp hj;simp only[decide_eq_true_eq];exact λe=>hnd j i hj' hlt e.symm
  have hS3:g.SetOf (cJ prog w) S (λc=>(List.range (i+1)).any λj=>decide (c=key j)) (i+1):=by
   refine kR hS2 (λc=>?_) (by rw[hno];rfl);rw[range_succ,List.any_append];simp
  refine wpAny_pure ⟨plainId_quiet PyProof.Rows.F.plain_set_update_loop _,ih (i+1) _ (by omega) hlt (W.frame _ s' _ _ hst' (le_succ _) λb hb o e=>?_) hS3 λs'' hm'' hS''=>?_⟩
  ·rw[hsb.2 b (by rintro rfl;exact hSf hb)]
   exact e
  ·refine hR s'' (Moved.trans W.gtrans ((hm.mono hsub).then_heap (le_succ _) λb o hb e=>?_) hm'') hS''
   rw[hsb.2 b (by rintro rfl;exact hb mem_cons_self)];exact e
end
section
variable {prog:Program}{w:World}{A:Around}{E:Value->Shared->Prop}{s:Shared}
theorem xG{l:Addr}{items:Array Value}{key:Nat->Key}{Q:Value->Shared->Prop}(hh:A.handled=none)(hl:s.heap.IsList l items)(hv:∀i v,items[i]? =some v->jf (key i) v=true/\v.scannable=true)
  (hnd:∀i j,i < j->j < items.size->key i≠key j)(hb:items.size+1 < scanBound)
  (h:∀(g:Heap)(tk:Nat)(T:Key->Bool),g.SetOf (cJ prog w) s.heap.objs.size T items.size->(∀b o,b < s.heap.objs.size->s.heap.get? b=some o->g.get? b=some o)->Q (.ref s.heap.objs.size) { s with heap:=g,toks:=tk }):
  wpAny (model prog w) A (call (.type "set") [.ref l]) Q E s:=by
 obtain⟨c,tl,hmro⟩:=called_set.mro;have hmade:=called_set.made;have hsub:=called_set.sub;refine wpAny_call (codeAny_of_tree ?_);show wpAny _ _ (callAny (.type "set") _) _ _ _;refine wpAny_pure ⟨Code.quiet_builtin _ (by decide+kernel),codeAny_builtin PySem.F.entry_type_call ?_⟩;rw[Around.under_plain (weight_type_call_type "set" [.ref l] []) rfl];have f1:=called_set.notType;have f2:=called_set.canCreate;have f3:=PySem.F.typeCall_set_1 (.ref l)
 repeat (any_goals (first|assumption|wp_step))
 refine codeAny_mono (code_set_new_1 (.ref l) (E:=E) (Q₁:=λobj u=>∃led:Bool,obj=.ref s.heap.objs.size/\u={ s with heap:=s.heap.push { cls:=.type "set",dict:=none,data:=.set #[] 0 (.fresh 0 0 led) } }) λled=>⟨led,rfl,rfl⟩) λr u hr=>?_;cases r with
 |error e=>exact hr
 |ok fl=>
  cases fl with
  |ret obj=>
   obtain⟨led,rfl,rfl⟩:=hr;have hS:(s.heap.push { cls:=.type "set",dict:=none,data:=.set #[] 0 (.fresh 0 0 led) }).get? s.heap.objs.size=some { cls:=.type "set",dict:=none,data:=.set #[] 0 (.fresh 0 0 led) }:=get?_push_size _ rfl;have hT:Shared.TypeIs { s with heap:=s.heap.push { cls:=.type "set",dict:=none,data:=.set #[] 0 (.fresh 0 0 led) } } (.ref s.heap.objs.size) "set" :=⟨_,hS,rfl⟩;have hli:=called_set.init.lookup;have hbi:=called_set.init.bind (.ref s.heap.objs.size)
   repeat (any_goals (first|assumption|wp_step))
   refine codeAny_mono (codeAny_call_builtin (R:=wants (λr u=>r=.none/\∃g tk T,u={ s with heap:=g,toks:=tk }/\g.SetOf (cJ prog w) s.heap.objs.size T items.size/\(∀b o,b < s.heap.objs.size->s.heap.get? b=some o->g.get? b=some o)) E)
    called_set.init.plain PySem.F.entry_set_init (check_set_init_1 hT ?_)) λr2 u hr2=>?_
   ·obtain⟨⟨ocls,odict,odata,oslots⟩,hol,hcl,nl,hdl⟩:=hl
    simp only at hcl hdl;subst hcl;subst hdl;have hol':(s.heap.push { cls:=.type "set",dict:=none,data:=.set #[] 0 (.fresh 0 0 led) }).get? l=some { cls:=.type "list",dict:=odict,data:=.seq items nl,slots:=oslots }:=get?_push_of_some _ hol;have k1:=PySem.F.sub_list_set;have k2:=PySem.F.sub_list_frozenset;have k3:(Value.type "list" == Value.type "dict")=false:=by decide
    have hl1:(s.heap.push { cls:=.type "set",dict:=none,data:=.set #[] 0 (.fresh 0 0 led) }).IsList l items:=⟨_,hol',rfl,nl,rfl⟩;unfold Builtin.«set.__init__» noKeywords Builtin.Frozenset.updateFrom;generalize hPI:pyIter=PI
    wp_walk
    subst hPI;refine wpAny_pyIter_list hl1 ?_;refine wpAny_bind (wpAny_runValue ?_);have hlS:l < s.heap.objs.size:=lt_size hol;have hneI:l≠(s.heap.push { cls:=.type "set",dict:=none,data:=.set #[] 0 (.fresh 0 0 led) }).objs.size:=by
     rw[size_push];exact ne_of_lt (lt_succ_of_lt hlS)
    have hSf:s.heap.objs.size ∉ [(s.heap.push { cls:=.type "set",dict:=none,data:=.set #[] 0 (.fresh 0 0 led) }).objs.size,l]:=by
     rw[size_push];simp only[mem_cons,not_mem_nil,or_false,not_or];exact⟨ne_of_lt (lt_succ_self _),ne_of_gt hlS⟩
    refine setLoop ((Walks.list (show A.in1.in1.in1.handled=none by simp[hh]) _ l hneI items).toS) s.heap.objs.size hSf key hv hnd hb (items.size - 0) 0 _ (by omega) (zero_le _) ⟨⟨_,get?_push_size _ rfl,rfl,rfl⟩,(hl1.push _)⟩ ?_ ?_
    ·refine kR ((PyProof.Rows.setObjOf_fresh (knd:=cJ prog w) led).setOf (get?_push_of_some _ hS) (by unfold scanBound;omega)) (λ_=>rfl) rfl
    ·intro s' hm hS'
     obtain⟨g,g',d',tk',os'⟩:=s';have eg:g'=s.gens:=hm.gens;have ed:d'=s.drawn:=hm.drawn;have eo:os'=s.os:=hm.os;subst eg ed eo;show wpAny _ _ _ _ _ _;refine wpAny_pure ?_;show wpAny _ _ (ret Value.none) _ _ _;refine wpAny_pure ⟨rfl,g,tk',_,rfl,hS',λb o hb e=>?_⟩;have hb2:b≠(s.heap.push { cls:=.type "set",dict:=none,data:=.set #[] 0 (.fresh 0 0 led) }).objs.size:=by
      rw[size_push];exact ne_of_lt (lt_succ_of_lt hb)
     exact hm.heap b o (by simp only[mem_cons,not_mem_nil,or_false,not_or];exact⟨ne_of_lt hb,hb2⟩) (get?_push_of_some _ (get?_push_of_some _ e))
   ·cases r2 with
    |error e=>exact hr2
    |ok fl2=>
     cases fl2 with
     |ret r=>
      obtain⟨rfl,g,tk,T,rfl,hS',hk'⟩:=hr2
      repeat (any_goals (first|assumption|wp_step))
      exact h _ _ _ hS' hk'
     |_=>exact hr2.elim
  |_=>exact hr.elim
end
def setM(P:Program)(w:World)(a:Addr)(n:Nat):HO:=.ext λh=>∃T,h.SetOf (cJ P w) a T n
theorem lN{X:Cx}(hc:X.calm=true):eG X (.type "set") (λxs H Q=>∃(p:Addr) (zs:List Str),xs=[.ref p]/\cH X.K H p (zs.map V.str)/\zs.Nodup/\zs.length < 1000/\∀q,H q=none->Q (.ref q) (upd H q (setM X.prog X.w q zs.length))):=by
 intro pins s σ H xs us Q I r h;obtain⟨p,zs,rfl,hq,nd,hz,q⟩:=h;obtain⟨u,rfl,rx⟩:=vals1 r;cases rx;obtain⟨its,rv,pl,_⟩:=I.list hq;have hl:=rv.length;rw[length_map]at hl;refine xG (key:=λi=>Sum.inr (zs.getD i "")) (I.ok.hd hc) pl.isList (λi v e=>?_) (λi j hij hj=>?_) (by rw[size_toArray,<-hl];unfold scanBound;omega) λg tk T hS kp=>?_
 ·have e':its[i]? =some v:=by simpa using e
  have hi:i < zs.length:=by
   have:=(List.getElem?_eq_some_iff.mp e').1;omega
  obtain⟨u,eu,t,rfl⟩:=rv.get (show(zs.map V.str)[i]? =some (V.str zs[i]) by simp[hi]);rw[eu]at e';cases e';have e2:zs.getD i "" =zs[i]:=by simp[List.getD,hi]
  show jf (Sum.inr (zs.getD i "")) _=true/\_;rw[e2];exact⟨qu _ _,rfl⟩
 ·have hj':j < zs.length:=by
   rw[size_toArray,<-hl]at hj;exact hj
  have hi':i < zs.length:=by omega
  intro e;have e1:zs.getD i "" =zs.getD j "" :=Sum.inr.inj e;have e2:zs[i]=zs[j]:=by simpa [List.getD,hi',hj'] using e1
  exact absurd ((List.getElem_inj nd).mp e2) (by omega)
 ·have hn:H s.heap.objs.size=none:=I.hok.fresh (le_refl _)
  have e3:its.toArray.size=zs.length:=by rw[size_toArray,hl]
  rw[e3]at hS;refine⟨.ref s.heap.objs.size,_,I.laid (t':=tk) (o:=setM X.prog X.w s.heap.objs.size zs.length) (λb o e=>kp b o (lt_size e) e) (le_refl _) ⟨⟨T,hS⟩,?_,λh1 h2 p k=>?_⟩,rfl,q _ hn⟩
  ·obtain⟨o,_,_,_,e,_⟩:=hS
   exact⟨o,e⟩
  ·obtain⟨T,o,es,ep,t,e,rest⟩:=p
   exact⟨T,o,es,ep,t,k o e,rest⟩
theorem gI{X:Cx}:eG X (.builtin "len") (λxs H Q=>∃(p:Addr) (n:Nat),xs=[.ref p]/\H p=some (setM X.prog X.w p n)/\Q (.int n) H):=by
 intro pins s σ H xs us Q I r h;obtain⟨p,n,rfl,hp,q⟩:=h;obtain⟨u,rfl,rx⟩:=vals1 r;cases rx;obtain⟨⟨T,o,es,ep,t,e,ex,d,_,_,hsz,hf,rfl⟩,_⟩:=I.hok p _ hp;have hb:es.size < 4096:=hsz;exact call_len_set e ex d hf (by omega) ⟨.int es.size,H,I.tok _,⟨_,rfl⟩,q⟩
end L2
namespace L2
open PySem PySem.Spec PyProof.Rows
section
variable {K:PySem.W.Frag}{is:List Nat}{te:TE}{σ:St}{H:Hp}{Q:VK}
theorem FI{J:It}{n:Nat}(Pv:Addr->Nat->List V->Hp->Prop)(hz:n<=sizeLine)(h0:∀D,H D=none->Pv D 0 [] (upd H D (.lst [])))
  (hD:∀D i ys H2,Pv D i ys H2->H2 D=some (.lst ys)/\ys.length=i)(hgo:∀D i ys H2,Pv D i ys H2->i < n->J.go i H2)(hstop:∀D ys H2,Pv D n ys H2->J.stop n H2)
  (he:∀D i ys H2 v H3 (Q':VK),Pv D i ys H2->i < n->J.yld i H2 v H3->(∀y H4,H4 D=some (.lst ys)->Pv D (i+1) (ys++[y]) (upd H4 D (.lst (ys++[y])))->Q' y H4)->te (some v::dw is σ) H3 Q')
  (q:∀D ys H2,H D=none->Pv D n ys H2->Q (.ref D) H2):iF J is te σ H Q:=by
 intro D hDn;refine⟨λi m ys H2=>m=n - i/\i<=n/\Pv D i ys H2,⟨_,rfl,zero_le _,h0 D hDn⟩,?_⟩;rintro i m ys H2 ⟨rfl,hi,p⟩;obtain⟨d1,d2⟩:=hD D i ys H2 p;refine⟨d1,?_⟩;by_cases hlt:i < n
 ·refine .inr ⟨hgo D i ys H2 p hlt,λv H3 y=>?_⟩
  refine he D i ys H2 v H3 _ p hlt y λy' H4 e4 p4=>⟨e4,by omega,n - (i+1),by omega,rfl,hlt,p4⟩
 ·have e:i=n:=by omega
  subst e;exact .inl ⟨hstop D ys H2 p,q D ys H2 hDn p⟩
theorem wQ{J:It}{xs:List V}(f:V->V)(hz:xs.length<=sizeLine)(hgo:∀i H2,cC H H2->i < xs.length->J.go i H2)(hstop:∀H2,cC H H2->J.stop xs.length H2)
  (hy:∀i H2 v H3,cC H H2->i < xs.length->J.yld i H2 v H3->H3=H2/\xs[i]? =some v)
  (he:∀v H2 (Q':VK),v∈xs->cC H H2->(∀H3,cC H2 H3->Q' (f v) H3)->te (some v::dw is σ) H2 Q')
  (q:∀D H',H D=none->cC H H'->H' D=some (.lst (xs.map f))->Q (.ref D) H'):iF J is te σ H Q:=by
 refine FI (n:=xs.length) (λD i ys H2=>H D=none/\cC H H2/\H2 D=some (.lst ys)/\i<=xs.length/\ys=(xs.take i).map f) hz (λD hD=>⟨hD,cC.upd hD,cz,zero_le _,by simp⟩)
  (λD i ys H2 p=>⟨p.2.2.1,by rw[p.2.2.2.2,length_map,length_take];have:=p.2.2.2.1;omega⟩) (λD i ys H2 p hi=>hgo i H2 p.2.1 hi) (λD ys H2 p=>hstop H2 p.2.1) ?_ ?_
 ·rintro D i ys H2 v H3 Q' ⟨hD,sm,hl,hi,hys⟩ hlt y k
  obtain⟨rfl,hv⟩:=hy i H2 v H3 sm hlt y;refine he v _ _ (mem_of_getElem? hv) sm λH4 s4=>?_;refine k _ _ (s4 _ _ hl) ⟨hD,λb o e=>?_,cz,hlt,?_⟩
  ·rw[cD (cA e hD)]
   exact s4 _ _ (sm _ _ e)
  ·rw[hys,take_add_one,hv,map_append]
   rfl
 ·rintro D ys H2 hD ⟨_,sm,hl,_,hys⟩
  rw[take_length]at hys;rw[hys]at hl;exact q D H2 hD sm hl
theorem kC{a:Addr}{xs:List V}(f:V->V)(hq:cH K H a xs)(hz:xs.length<=sizeLine)(he:∀v H2 (Q':VK),v∈xs->cC H H2->(∀H3,cC H2 H3->Q' (f v) H3)->te (some v::dw is σ) H2 Q')
  (q:∀D H',H D=none->cC H H'->H' D=some (.lst (xs.map f))->Q (.ref D) H'):iF (BK K a) is te σ H Q:=
 wQ f hz (λi H2 sm hi=>⟨xs,xs[i],sm.seq hq,by simp[hi]⟩) (λH2 sm=>⟨xs,sm.seq hq,le_refl _⟩) (λi H2 v H3 sm hi y=>⟨y.1,y.2 xs (sm.seq hq)⟩) he q
theorem BB{a:Addr}{xs:List V}(f:V->V)(hq:cU K H a xs)(hz:xs.length<=sizeLine)(he:∀v H2 (Q':VK),v∈xs->cC H H2->(∀H3,cC H2 H3->Q' (f v) H3)->te (some v::dw is σ) H2 Q')
  (q:∀D H',H D=none->cC H H'->H' D=some (.lst (xs.map f))->Q (.ref D) H'):iF (KW K a) is te σ H Q:=
 wQ f hz (λi H2 sm hi=>⟨xs,xs[i],sm.Ez hq,by simp[hi]⟩) (λH2 sm=>⟨xs,sm.Ez hq,le_refl _⟩) (λi H2 v H3 sm hi y=>⟨y.1,y.2 xs (sm.Ez hq)⟩) he q
end
theorem eP{env:Env}{k:NameKind}(hk:k≠.free):∀{names:List (Str×NameKind)}{x:Str},names.lookup x=some k->
  (names.map λ(n,k)=>if(k == NameKind.free && env.scope.kind == .function && env.kindOf n == some .cell) then(n,NameKind.cell) else(n,k)).lookup x=some k
 |[],_,h=>by simp at h
 | (n,j)::r,x,h=>by
  have ih:=@eP env k hk r x;show List.lookup x ((if(j == NameKind.free && env.scope.kind == .function && env.kindOf n == some .cell)=true then(n,NameKind.cell) else(n,j))::_)=_;cases hx:x == n with
  |true=>
   simp only[lookup_cons,hx]at h;cases h;rw[if_neg (by simp[hk])];simp only[lookup_cons,hx]
  |false=>
   simp only[lookup_cons,hx]at h;by_cases hc':(j == NameKind.free && env.scope.kind == .function && env.kindOf n == some .cell)=true
   ·rw[if_pos hc'];simp only[lookup_cons,hx];exact ih h
   ·rw[if_neg hc'];simp only[lookup_cons,hx];exact ih h
theorem i5{env:Env}:∀{names:List (Str×NameKind)}{x:Str},names.lookup x=some .free->
  (names.map λ(n,k)=>if(k == NameKind.free && env.scope.kind == .function && env.kindOf n == some .cell) then(n,NameKind.cell) else(n,k)).lookup x=some .cell\/
  (names.map λ(n,k)=>if(k == NameKind.free && env.scope.kind == .function && env.kindOf n == some .cell) then(n,NameKind.cell) else(n,k)).lookup x=some .free
 |[],_,h=>by simp at h
 | (n,j)::r,x,h=>by
  have ih:=@i5 env r x;show List.lookup x ((if(j == NameKind.free && env.scope.kind == .function && env.kindOf n == some .cell)=true then(n,NameKind.cell) else(n,j))::_)=_\/List.lookup x ((if(j == NameKind.free && env.scope.kind == .function && env.kindOf n == some .cell)=true then(n,NameKind.cell) else(n,j))::_)=_;cases hx:x == n with
  |true=>
   simp only[lookup_cons,hx]at h;cases h;by_cases hc':(NameKind.free == NameKind.free && env.scope.kind == .function && env.kindOf n == some .cell)=true
   ·rw[if_pos hc'];simp only[lookup_cons,hx];first|exact .inl rfl|exact .inl trivial
   ·rw[if_neg hc'];simp only[lookup_cons,hx];first|exact .inr rfl|exact .inr trivial
  |false=>
   simp only[lookup_cons,hx]at h;by_cases hc':(j == NameKind.free && env.scope.kind == .function && env.kindOf n == some .cell)=true
   ·rw[if_pos hc'];simp only[lookup_cons,hx];exact ih h
   ·rw[if_neg hc'];simp only[lookup_cons,hx];exact ih h
section
variable {X:Cx}{x y:Str}{ns:List Str}{scope:Scope}{cl:List (Str×Addr)}{fp:List Addr}{s3:Shared}{H3:Hp}{C:Addr}{sp:Sp}
structure yC(X:Cx)(x:Str)(sp:Sp):Prop where
 ex:∃(k:Nat) (f:Addr) (fd:FuncData) (ps:List Str),dO X.prog X.w X.K X.mg X.base mG k f fd ps sp/\dr k X.A/\X.mg x=some (.ref f)/\keepIn X.K (.ref f)=true/\Binds X.K fd ps []
 db:(x == ("__debug__" :Str))=false
structure GH(X:Cx)(x:Str):Prop where
 nm:X.mg x=none
 hn:x≠ "__name__"
 db:(x == ("__debug__" :Str))=false
theorem yC.lc(B:yC X y sp)(h:scope.names.lookup y=some .globalImplicit):Fg (cV X (x::ns) scope cl fp s3 H3 C) y sp:=⟨B.ex,eP (by decide) h,B.db⟩
end
structure Gd(P:Program)(w:World)(K:PySem.W.Frag)(mg:Str->Option Value)(base:Heap)(k:Nat)(x:Str)(sp:Sp):Prop where
 ex:∃(f:Addr) (fd:FuncData) (ps:List Str),dO P w K mg base mG k f fd ps sp/\mg x=some (.ref f)/\keepIn K (.ref f)=true/\Binds K fd ps []
structure Md(P:Program)(w:World)(K:PySem.W.Frag)(mg:Str->Option Value)(base:Heap)(k:Nat)(C:Addr)(m:Str)(sp:Sp):Prop where
 ex:∃(f:Addr) (fd:FuncData) (ps:List Str),dO P w K mg base mG k f fd ps sp/\Meth K C m f/\Binds K fd ps []
 cl:uL K C
structure Kd(P:Program)(w:World)(K:PySem.W.Frag)(mg:Str->Option Value)(base:Heap)(k:Nat)(x:Str)(C:Addr)(sp:Sp):Prop where
 ex:∃(f:Addr) (fd:FuncData) (ps:List Str),dO P w K mg base mG k f fd ps sp/\Mk K C f/\Binds K fd ps []
 nm:mg x=some (.ref C)
structure KQ(X:Cx)(x:Str)(C:Addr)(sp:Sp):Prop where
 ex:∃(k:Nat) (f:Addr) (fd:FuncData) (ps:List Str),dO X.prog X.w X.K X.mg X.base mG k f fd ps sp/\dr (k+1) X.A/\Mk X.K C f/\Binds X.K fd ps []
 nm:X.mg x=some (.ref C)
 gl:Gl X x
 db:(x == ("__debug__" :Str))=false
structure Met(X:Cx)(C:Addr)(m:Str)(sp:Sp):Prop where
 ex:∃(k:Nat) (f:Addr) (fd:FuncData) (ps:List Str),dO X.prog X.w X.K X.mg X.base mG k f fd ps sp/\dr k X.A/\Meth X.K C m f/\Binds X.K fd ps []
 cl:uL X.K C
structure Here(X:Cx)(P:Program)(w:World)(K:PySem.W.Frag)(mg:Str->Option Value)(base:Heap)(sc:Scope)(N:List Str)(k:Nat):Prop where
 pr:X.prog=P
 wd:X.w=w
 fK:X.K=K
 gm:X.mg=mg
 bs:X.base=base
 calm:X.calm=true
 own:PassesOwn (model X.prog X.w) X.A X.env X.xe
 hsc:X.env.scope=sc
 hN:X.N=N
 nd:X.N.Nodup
 room:dr k X.A
 fn:∀x,X.fn x=true
section
variable {X:Cx}{P:Program}{w:World}{K:PySem.W.Frag}{mg:Str->Option Value}{base:Heap}{sc:Scope}{N:List Str}{k j:Nat}{x m:Str}{sp:Sp}{C:Addr}
theorem Here.slot (h:Here X P w K mg base sc N k) (i:Nat) (hN:N[i]? =some x) (lc:Loc sc x) (db:(x == ("__debug__" :Str))=false) (cd:(x == ("__classdict__" :Str))=false):Slot X i x:=
 ⟨by rw[h.hN];exact hN,by rw[h.hsc];exact lc,.inl (h.fn x),db,cd⟩
theorem Here.sl (h:Here X P w K mg base sc N k) (i:Nat) (x:Str) (hN:N[i]? =some x:=by rfl) (lc:Loc sc x:=by first|exact .inl rfl|exact .inr rfl) (db:(x == ("__debug__" :Str))=false:=by decide) (cd:(x == ("__classdict__" :Str))=false:=by decide):Slot X i x:=h.slot i hN lc db cd
def KP(X:Cx):List Nat->List Str->Prop
 |i::is,x::r=>Slot X i x/\KP X is r
 |_,_=>True
theorem Here.GO(h:Here X P w K mg base sc N k):∀(is:List Nat) (r:List Str),(∀(j i:Nat) x,is[j]? =some i->r[j]? =some x->N[i]? =some x)->(∀x∈r,(sc.names.lookup x=some .local\/sc.names.lookup x=some .cell)/\(x == ("__debug__" :Str))=false/\(x == ("__classdict__" :Str))=false)->KP X is r
 |[],_,_,_=>trivial
 |_::_,[],_,_=>trivial
 |i::is,x::r,e,c=>⟨h.slot i (e 0 i x rfl rfl) (c x mem_cons_self).1 (c x mem_cons_self).2.1 (c x mem_cons_self).2.2,Here.GO h is r (λj i x a b=>e (j+1) i x a b) λy hy=>c y (mem_cons_of_mem _ hy)⟩
theorem Here.d7 (h:Here X P w K mg base sc N k) (is:List Nat) (e:is=List.range N.length:=by rfl) (c:∀x∈N,(sc.names.lookup x=some .local\/sc.names.lookup x=some .cell)/\(x == ("__debug__" :Str))=false/\(x == ("__classdict__" :Str))=false:=by decide+kernel):KP X is N:=h.GO is N (λj i x a b=>by
 subst e;obtain⟨h1,h2⟩:=List.getElem?_eq_some_iff.mp a;rw[List.getElem_range]at h2;exact h2 ▸ b) c
theorem Here.gl(h:Here X P w K mg base sc N k)(hg:sc.names.lookup x=some .globalImplicit):Gl X x:=by
 show X.env.scope.names.lookup x=_;rw[h.hsc];exact hg
theorem Here.bt (h:Here X P w K mg base sc N k) (hm:mg x=none) (hg:sc.names.lookup x=some .globalImplicit) (hn:x≠ "__name__") (db:(x == ("__debug__" :Str))=false):Bt X x:=⟨h.gl hg,by rw[h.gm];exact hm,hn,db⟩
theorem Here.b (h:Here X P w K mg base sc N k) (hm:mg x=none) (hg:sc.names.lookup x=some .globalImplicit:=by rfl) (hn:x≠ "__name__" :=by decide) (db:(x == ("__debug__" :Str))=false:=by decide):Bt X x:=h.bt hm hg hn db
theorem Here.MQ (h:Here X P w K mg base sc N k) (G:Gd P w K mg base j x sp) (hg:sc.names.lookup x=some .globalImplicit) (hj:j<=k) (db:(x == ("__debug__" :Str))=false):Fg X x sp:=by
 obtain⟨f,fd,ps,h1,h2,h3,h4⟩:=G.ex;obtain⟨rfl,rfl,rfl,rfl,rfl⟩:=And.intro h.pr (And.intro h.wd (And.intro h.fK (And.intro h.gm h.bs)));exact⟨⟨j,f,fd,ps,h1,h.room.mono hj,h2,h3,h4⟩,h.gl hg,db⟩
theorem Here.c (h:Here X P w K mg base sc N k) (G:Gd P w K mg base j x sp) (hg:sc.names.lookup x=some .globalImplicit:=by rfl) (hj:j<=k:=by first|decide|exact le_refl _) (db:(x == ("__debug__" :Str))=false:=by decide):Fg X x sp:=h.MQ G hg hj db
theorem Here.KH (h:Here X P w K mg base sc N k) (hm:mg x=none) (hn:x≠ "__name__") (db:(x == ("__debug__" :Str))=false):GH X x:=⟨by rw[h.gm];exact hm,hn,db⟩
theorem Here.Kk (h:Here X P w K mg base sc N k) (G:Gd P w K mg base j x sp) (hj:j<=k) (db:(x == ("__debug__" :Str))=false):yC X x sp:=by
 obtain⟨f,fd,ps,h1,h2,h3,h4⟩:=G.ex;obtain⟨rfl,rfl,rfl,rfl,rfl⟩:=And.intro h.pr (And.intro h.wd (And.intro h.fK (And.intro h.gm h.bs)));exact⟨⟨j,f,fd,ps,h1,h.room.mono hj,h2,h3,h4⟩,db⟩
theorem Here.ci (h:Here X P w K mg base sc N k) (G:Gd P w K mg base j x sp) (hj:j<=k:=by first|decide|exact le_refl _) (db:(x == ("__debug__" :Str))=false:=by decide):yC X x sp:=h.Kk G hj db
theorem Here.La (h:Here X P w K mg base sc N k) (G:Kd P w K mg base j x C sp) (hg:sc.names.lookup x=some .globalImplicit) (hj:j+1<=k) (db:(x == ("__debug__" :Str))=false):KQ X x C sp:=by
 obtain⟨f,fd,ps,h1,h2,h3⟩:=G.ex;have nm:=G.nm;obtain⟨rfl,rfl,rfl,rfl,rfl⟩:=And.intro h.pr (And.intro h.wd (And.intro h.fK (And.intro h.gm h.bs)));exact⟨⟨j,f,fd,ps,h1,h.room.mono hj,h2,h3⟩,nm,h.gl hg,db⟩
theorem Here.met(h:Here X P w K mg base sc N k)(G:Md P w K mg base j C m sp)(hj:j<=k):Met X C m sp:=by
 obtain⟨f,fd,ps,h1,h2,h3⟩:=G.ex;have c:=G.cl;obtain⟨rfl,rfl,rfl,rfl,rfl⟩:=And.intro h.pr (And.intro h.wd (And.intro h.fK (And.intro h.gm h.bs)));exact⟨⟨j,f,fd,ps,h1,h.room.mono hj,h2,h3⟩,c⟩
end
section
variable {X:Cx}{x y:Str}{ns:List Str}{scope:Scope}{cl:List (Str×Addr)}{fp:List Addr}{s3:Shared}{H3:Hp}{C D:Addr}{sp:Sp}{m:Str}
end
theorem EV:bootBuiltins "set" =some (.type "set"):=by decide+kernel
theorem rb:bootBuiltins "min" =some (.builtin "min"):=by decide+kernel
theorem wg:bootBuiltins "max" =some (.builtin "max"):=by decide+kernel
theorem fh{c A B:Prop} [Decidable c] (hc:c)(h:A):if c then A else B:=by
 rw[if_pos hc];exact h
theorem gY{c A B:Prop} [Decidable c] (hc:¬c)(h:B):if c then A else B:=by
 rw[if_neg hc];exact h
inductive J4(K:PySem.W.Frag)(x y:V)(H:Hp)(Q:VK):Prop
 |mk(l b:Addr)(xs zs:List V)(hx:x=.ref l)(hy:y=.ref b)(s:cH K H l xs)(t:cH K H b zs)(e:xs.length+zs.length<=sizeLine)(q:∀p,H p=none->Q (.ref p) (upd H p (.lst (xs++zs))))
def DH(K:PySem.W.Frag):R2:=λx y H Q=>J4 K x y H Q
theorem qS{X:Cx}:iq X (binaryOp .Add) (DH X.K):=by
 intro pins s σ H x y v u Q I rx ry h;obtain⟨l,b,xs,zs,rfl,rfl,hH,hB,hz,q⟩:=h;cases rx;cases ry;obtain⟨its,r,pl,z⟩:=I.list hH;obtain⟨its2,r2,pl2,z2⟩:=I.list hB;have hl:=r.length;have hl2:=r2.length;obtain⟨⟨cls,dd,data,sl⟩,ho,hc,n,hd⟩:=pl.isList;obtain⟨⟨cls2,dd2,data2,sl2⟩,ho2,hc2,n2,hd2⟩:=pl2.isList;simp only at hc hd hc2 hd2;subst hc hd hc2 hd2;have e:its.toArray++its2.toArray=(its++its2).toArray:=by simp
 refine concat_meets ⟨_,ho,rfl⟩ ⟨_,ho2,rfl⟩ noFill_list_add seq_list_add PySem.F.slot_list_add PySem.F.entry_list_add (PySem.F.args_list_add_2 _ _) (list_addW l b its.toArray its2.toArray n n2 dd dd2 sl sl2 (by simp only[size_toArray];omega)) ⟨ho,ho2,?_⟩;rw[e];exact⟨.ref _,_,I.Jk (t':=s.toks) (r.append r2) (by rw[length_append];omega),rfl,q _ I.fresh⟩
end L2
namespace J
open PySem PySem.Spec PyProof.Rows
open L2 (Cx V Hp St VK TE TT TA TS TG o7 TI TO R2 Sp XK E0 mG dO dr Gl Binds RelV Vals cH cU dQ Here Gd Md Kd KQ Met Df oj cE Meth Mk uL)
structure Jp(X:Cx)(id:String)(r:V->List V->Hp->VK->Prop):Prop where
 out:L2.JR X id r
section
variable {X:Cx}{x y:Str}{ns:List Str}{scope:Scope}{cl:List (Str×Addr)}{fp:List Addr}{s3:Shared}{H3:Hp}{C:Addr}{sp:Sp}{p pos apos pos':Pos}{e o value:Expr}{es:List Expr}{ta te tv:TE}{t:TA}{m f:Str}{tg:Expr}
theorem _root_.bY (h:scope.names.lookup x=some .local) (db:(x == ("__debug__" :Str))=false) (cd:(x == ("__classdict__" :Str))=false):JE (L2.cV X (x::ns) scope cl fp s3 H3 C) (.Name x p) (L2.kJ 0):=
 ⟨L2.mE (i:=0) rfl (.inl (PySem.lookup_relabel_local h)) db cd⟩
theorem _root_.cy {i:Nat}(h:scope.names.lookup y=some .free) (hi:ns[i]? =some y) (db:(y == ("__debug__" :Str))=false) (cd:(y == ("__classdict__" :Str))=false):JE (L2.cV X (x::ns) scope cl fp s3 H3 C) (.Name y p) (L2.kJ (i+1)):=
 ⟨L2.mE (i:=i+1) hi (.inr (L2.i5 h)) db cd⟩
theorem La(M:KQ X x C sp)(ha:JA X (e::es) t)(h1:L2.notStar e=true:=by rfl)(h2:es.all L2.notStar=true:=by rfl):JE X (.Call (.Name x p) (e::es) [] pos) (L2.D1 C sp [] E0 t):=by
 obtain⟨k,f,fd,ps,F,hr,mk,bi⟩:=M.ex;exact⟨L2.CG mk F hr M.gl M.nm bi .nil L2.wx ha.out M.db (L2.cO h1) (L2.eI h2)⟩
theorem _root_.bM{pl:Sem Bool}(M:Met X C m sp)(he:JE X o ta)(ht:eval (.Call (.Attribute o m apos) [] [] pos) X.env=(do
   let ov <-eval o X.env
   standAt apos.atName
   let (f,first) <-holding [ov] (getMethod ov m pl)
   callWith pos f first (backTo pos (starEach [] X.env)) (backToKw pos (keywordEach [] X.env)))):JE X (.Call (.Attribute o m apos) [] [] pos) (L2.DL C m sp [] E0 ta L2.oW):=by
 obtain⟨k,f,fd,ps,F,hr,me,bi⟩:=M.ex;exact⟨L2.zw he.out M.cl me F hr bi .nil L2.wx ht⟩
theorem _root_.cn(he:JE X (.Name x p) ta):JE X (.Attribute (.Name x p) f pos) (L2.He X.K ta f):=⟨L2.F6 he.out rfl⟩
theorem mh(ha:JE X o ta)(hv:JE X value tv)(h:L2.jN value=false:=by rfl):JS X (.Assign [.Attribute o f pos'] value pos) (L2.Iw X.K ta tv f):=⟨L2.mh ha.out hv.out (L2.jc h)⟩
theorem _root_.bL:Jp X "list.append" L2.xC:=⟨L2.qj⟩
theorem jW:Jp X "list.reverse" L2.tw:=⟨L2.jW⟩
def rF(o:Expr):Bool:=match o with
 |.Call .. =>false
 |_=>true
theorem jd{o:Expr}{name:Str}{env:Env}{v:Sem Value}(h:rF o=true):attributeBase o name env v=v:=by
 cases o<;>first|rfl|cases h
theorem JH{cpos:Pos}{env:Env}(h1:L2.notStar e=true):((backTo cpos (starEach [e] env)).all (λx=> !x.1) && (backToKw cpos (keywordEach [] env)).all (λx=>x.1.isSome)
   && decide ([e].length+([]:List Keyword).length+(if([]:List Keyword).isEmpty then 0 else 1) < 30))=true:=by
 rw[L2.cO h1];rfl
theorem MR {T id:String}{r:V->List V->Hp->VK->Prop}{name:Str}(pa:PlainAttrs T) (slot:Slot T name id) (hty:typeOf (.builtin id)=pure (.type "method_descriptor")) (hm:Jp X id r) (ho:JE X o te)
  (h:rF o=true:=by rfl)(hline:(apos.endLine == pos.line)=true:=by rfl):JE X (.Call (.Attribute o name apos) [] [] pos) (L2.GJ X.K T r te):=⟨L2.Fp pa slot hty hm.out ho.out (jd h) hline⟩
theorem _root_.bI {T id:String}{r:V->List V->Hp->VK->Prop}{name:Str}(pa:PlainAttrs T) (slot:Slot T name id) (hty:typeOf (.builtin id)=pure (.type "method_descriptor")) (hm:Jp X id r) (ho:JE X o te) (ha:JA X [e] t)
  (h:rF o=true:=by rfl)(h1:L2.notStar e=true:=by rfl)(hline:(apos.endLine == pos.line)=true:=by rfl):JE X (.Call (.Attribute o name apos) [e] [] pos) (L2.Lu X.K T r te t):=
 ⟨L2.GN pa slot hty hm.out ho.out ha.out (jd h) (JH h1) hline (L2.cO h1) rfl⟩
theorem lD {e1:Expr}{kk:Nat}{tp:Pos}(B:L2.Bt X "enumerate") (ha:JA X [e1] t) (h1:L2.notStar e1=true:=by rfl):JI X (.Tuple es kk tp) (.Call (.Name "enumerate" p) [e1] [] pos) (L2.DJ X.K t):=⟨L2.lD B ha.out h1⟩
theorem lN(hc:X.calm=true):JF X (.type "set") (λxs H Q=>∃(p:Addr) (zs:List Str),xs=[.ref p]/\cH X.K H p (zs.map V.str)/\zs.Nodup/\zs.length < 1000/\∀q,H q=none->Q (.ref q) (L2.upd H q (L2.setM X.prog X.w q zs.length))):=⟨L2.lN hc⟩
theorem gI:JF X (.builtin "len") (λxs H Q=>∃(p:Addr) (n:Nat),xs=[.ref p]/\H p=some (L2.setM X.prog X.w p n)/\Q (.int n) H):=⟨L2.gI⟩
theorem _root_.bj:GV X [] L2.Ip:=⟨L2.CN⟩
theorem _root_.aI{g:TG}{u:o7}(S:JG X (.Name x p) g)(h:GV X es u):GV X (.Name x p::es) (L2.DN g u):=⟨L2.Bq S.out h.out rfl⟩
theorem _root_.bu{k n:Nat}{u:o7}(hc:X.calm=true)(h:GV X es u)(hn:(assignEach es X.env).length=n:=by rfl)(hst:(assignEach es X.env).findIdx? (·.1)=none:=by rfl):JG X (.Tuple es k pos) (L2.EX X.K n u):=⟨L2.AJ hc h.out hn hst⟩
theorem _root_.bN{g:TG}(he:JE X e te)(hg:JG X tg g)(hs:swapsWithSole [tg] e pos.line X.env=pure false:=by rfl)(hw:swappedStores [tg] e X.env=pure none:=by rfl)
  (h1:(assignEach [tg] X.env).map (·.2)=[assign tg X.env]:=by rfl):JS X (.Assign [tg] e pos) (L2.uD te g):=⟨L2.Gw he.out hg.out hs hw h1⟩
theorem qS:JB X .Add (L2.DH X.K):=⟨L2.qS⟩
theorem wZ(h:JE X (.Name x p) te):JT X (.Name x p) (L2.tB te):=⟨L2.u4 h.out (λ_=>rfl)⟩
theorem _root_.b4{a b:Expr}:dY (.Subscript a b p):=⟨λ_ _=>rfl⟩
theorem _root_.bD{P:Program}{w:World}{K:PySem.W.Frag}{mg:Str->Option Value}{base:Heap}{sc:Scope}{N:List Str}{k:Nat}{v:V}(hh:Here X P w K mg base sc N k)(hm:∃u,mg x=some u/\RelV v u)(hg:sc.names.lookup x=some .globalImplicit)
  (db:(x == ("__debug__" :Str))=false):JE X (.Name x p) (L2.tC v):=by
 obtain⟨u,h1,h2⟩:=hm;exact J.lG (hh.gl hg) (by rw[hh.gm];exact h1) h2 db
end
section
variable {P:Program}{w:World}{K:PySem.W.Frag}{mg:Str->Option Value}{base:Heap}{x qual m:Str}{st:Stmt}{f C:Addr}{fd:FuncData}{N ps:List Str}{k:Nat}{sp:Sp}
theorem nJ(F:oj K x qual st f fd)(S:cE N ps (L2.cB st))(len:∀vs H Q E,sp vs H Q E->vs.length=ps.length)
  (hbody:∀(X:Cx)(H:Hp)(vs:List V)(Q:VK)(E:XK),Here X P w K mg base (L2.cB st) N k->sp vs H Q E->∃t,sJ X (L2.cS st) t/\t { nx:=λ_ H'=>Q .non H',rt:=Q } (L2.start N vs) H):dO P w K mg base mG (k+1) f fd ps sp:=by
 refine DO F S len λX cdv A outer s H vs Q E hX hr h=>?_;subst hX;exact hbody _ H vs Q E ⟨rfl,rfl,rfl,rfl,rfl,rfl,PassesOwn.never,rfl,rfl,S.nd,hr,λ_=>rfl⟩ h
theorem Fe(D:Df K mg x st ps f fd)(S:cE N ps (L2.cB st))(len:∀vs H Q E,sp vs H Q E->vs.length=ps.length)
  (hbody:∀(X:Cx)(H:Hp)(vs:List V)(Q:VK)(E:XK),Here X P w K mg base (L2.cB st) N k->sp vs H Q E->∃t,sJ X (L2.cS st) t/\t { nx:=λ_ H'=>Q .non H',rt:=Q } (L2.start N vs) H):Gd P w K mg base (k+1) x sp:=
 ⟨f,fd,ps,nJ D.fn S len hbody,D.nm,D.fn.kp,D.bi⟩
theorem _root_.aF(D:Df K mg x st ps f fd)(S:cE N ps (L2.cB st))
  (hbody:∀(X:Cx)(H:Hp)(vs:List V)(Q:VK)(E:XK),Here X P w K mg base (L2.cB st) N k->sp vs H Q E->∃t,sJ X (L2.cS st) t/\t { nx:=λ_ H'=>Q .non H',rt:=Q } (L2.start N vs) H)(len:∀vs H Q E,sp vs H Q E->vs.length=ps.length:=by intro _ _ _ _ h;first| (obtain⟨⟩:=h;subst_vars;rfl)| ((repeat (obtain⟨_,h⟩:=h));subst_vars;rfl)):Gd P w K mg base (k+1) x sp:=Fe D S len hbody
theorem _root_.cq(F:oj K m qual st f fd)(me:Meth K C m f)(bi:Binds K fd ps [])(cl:uL K C)(S:cE N ps (L2.cB st))(len:∀vs H Q E,sp vs H Q E->vs.length=ps.length)
  (hbody:∀(X:Cx)(H:Hp)(vs:List V)(Q:VK)(E:XK),Here X P w K mg base (L2.cB st) N k->sp vs H Q E->∃t,sJ X (L2.cS st) t/\t { nx:=λ_ H'=>Q .non H',rt:=Q } (L2.start N vs) H):Md P w K mg base (k+1) C m sp:=
 ⟨⟨f,fd,ps,nJ F S len hbody,me,bi⟩,cl⟩
theorem BV{y:Str}(F:oj K m qual st f fd)(mk:Mk K C f)(bi:Binds K fd ps [])(nm:mg y=some (.ref C))(S:cE N ps (L2.cB st))(len:∀vs H Q E,sp vs H Q E->vs.length=ps.length)
  (hbody:∀(X:Cx)(H:Hp)(vs:List V)(Q:VK)(E:XK),Here X P w K mg base (L2.cB st) N k->sp vs H Q E->∃t,sJ X (L2.cS st) t/\t { nx:=λ_ H'=>Q .non H',rt:=Q } (L2.start N vs) H):Kd P w K mg base (k+1) y C sp:=
 ⟨⟨f,fd,ps,nJ F S len hbody,mk,bi⟩,nm⟩
end
end J
namespace L2
open PySem PySem.Spec PyProof.Rows
theorem gj(n:Nat):(List.range n).all (λ_=>true)=true:=by
 rw[all_eq_true];intro _ _;rfl
def Mr(K:PySem.W.Frag):R2:=λx y H Q=>∃a b xs ys,x=.ref a/\y=.ref b/\cH K H a xs/\cH K H b ys/\xs.length=ys.length/\
 (∀(i:Nat) u v,xs[i]? =some u->ys[i]? =some v->∃p q zs,u=.ref p/\v=.ref q/\p≠q/\cH K H p zs/\cH K H q zs/\∀z∈zs,(∃t,z=V.str t)\/∃c,z=V.ref c)/\Q (.bl false) H
end L2
namespace J
open PySem PySem.Spec PyProof.Rows
end J
namespace L2
open PySem PySem.Spec PyProof.Rows
section
variable {X:Cx}{x:Str}{px pos:Pos}{elt iter:Expr}{scope:Scope}{wi:TI}{te:TE}{is:List Nat}{ns:List Str}
end
theorem yc{elt:Expr}{gs:List Comprehension}{scope:Scope}{pos py:Pos}{y:Str}{n:Nat}{env:Env}{sc:Scope}(hsc:env.scope=sc)
  (h:((if sc.kind.isAnnotationScope then ScopeKind.function else sc.kind) == .function && sc.names.lookup y == some .local && py.line == pos.line && !(scope.names.any λ(n,k)=>n == y && (k == .local || k == .cell)))=true):
  swapsWith (.ListComp elt gs scope pos) (some (.Name y py)) n env=pure true:=by
 subst hsc;show(pure _:Sem Bool)=pure true;exact congrArg pure h
end L2
namespace J
open PySem PySem.Spec PyProof.Rows
open L2 (Cx V Hp St VK TE TT TA TS TG o7 TI TO)
end J
namespace L2
open PySem PySem.Spec PyProof.Rows
def BZ(J:It)(is:List Nat)(tc:TT)(te:TE)(σ:St)(H1:Hp)(Q:VK):Prop:=∀D,H1 D=none->∃W:Nat->Nat->List V->Hp->Prop,(∃m,W 0 m [] (upd H1 D (.lst [])))/\
 ∀i m ys H2,W i m ys H2->H2 D=some (.lst ys)/\((J.stop i H2/\Q (.ref D) H2)\/(J.go i H2/\∀v H3,J.yld i H2 v H3->tc (some v::dw is σ) H3 λb H4=>if b=true then te (some v::dw is σ) H4 (λy H5=>
  H5 D=some (.lst ys)/\ys.length < sizeLine/\∃m',m' < m/\W (i+1) m' (ys++[y]) (upd H5 D (.lst (ys++[y])))) else ∃m',m' < m/\W (i+1) m' ys H4))
def Mh(wi:TI)(is:List Nat)(tc:TT)(te:TE):TE:=λσ H Q=>wi σ H λJ H1=>BZ J is tc te σ H1 Q
section
variable {X:Cx}{x:Str}{px pos:Pos}{elt iter ct:Expr}{scope:Scope}{wi:TI}{te:TE}{tc:TT}{is:List Nat}{ns:List Str}
end
end L2
namespace J
open PySem PySem.Spec PyProof.Rows
open L2 (Cx V Hp St VK TE TT TA TS TG o7 TI TO)
end J
namespace L2
open PySem PySem.Spec PyProof.Rows
section
variable {X:Cx}{pins:List (Addr×Obj)}{σ:St}{H:Hp}{s:Shared}{p:Addr}{ns:List Int}
theorem Inv.ints(I:Inv X pins σ H s)(h:cH X.K H p (ns.map V.int)):∃xs:Array (Int×Tok),s.heap.IsList p (intItems xs)/\xs.toList.map (·.1)=ns:=by
 obtain⟨its,r,pl,_⟩:=I.list h;have hi:=intsAre_of r;obtain⟨xs,e⟩:=hi.allInts.items;refine⟨xs,by rw[<-e];exact pl.isList,?_⟩;have e2:=hi.numsOf;have e3:its=(intItems xs).toList:=by rw[<-e]
 rw[e3,nums_intItems]at e2;exact e2
theorem jw(hc:X.calm=true):eG X (.builtin "sum") (λxs H Q=>∃(p:Addr) (ns:List Int),xs=[.ref p]/\cH X.K H p (ns.map V.int)/\Q (.int ns.sum) H):=by
 intro pins s σ H xs us Q I r h;obtain⟨p,ns,rfl,hq,q⟩:=h;obtain⟨u,rfl,rx⟩:=vals1 r;cases rx;obtain⟨ys,hl,e⟩:=I.ints hq;refine sum_intListG (I.ok.hd hc) hl λh' tk t' hk=>?_;rw[preSum_eq,e,take_of_length_le (by rw[<-e,length_map,length_toList];exact le_refl _)];exact⟨.int _,H,I.kept (t':=tk) hk,⟨_,rfl⟩,q⟩
def iV:V->V->Option Bool
 |.ref a,.ref b=>if a=b then some true else none
 |x,y=>if cW x=true/\cW y=true then some (sH x y) else none
theorem ju{A:Around}{s:Shared}{x y:V}{u v:Value}{b:Bool}(ru:RelV x u)(rv:RelV y v)(h:iV x y=some b):SeqAt.EqAt A s u v b:=by
 have flat:(if cW x=true/\cW y=true then some (sH x y) else none)=some b->SeqAt.EqAt A s u v b:=λh=>by
  by_cases c:cW x=true/\cW y=true
  ·rw[if_pos c]at h
   cases h;exact rM ru rv c.1 c.2
  ·rw[if_neg c]at h
   cases h
 cases x with
 |ref a=>
  cases y with
  |ref c=>
   have h':(if a=c then some true else none)=some b:=h;by_cases e:a=c
   ·rw[if_pos e]at h'
    cases h';cases ru;cases rv;rw[e];exact SeqAt.EqAt.same _
   ·rw[if_neg e]at h'
    cases h'
  |_=>exact flat h
 |_=>exact flat h
def GF(bs:List Bool):Bool:=(List.range bs.length).all λi=>bs.getD i false
def KS(K:PySem.W.Frag):R2:=λx y H Q=>∃a b xs ys bs,x=.ref a/\y=.ref b/\cH K H a xs/\cH K H b ys/\xs.length=bs.length/\ys.length=bs.length/\(∀(i:Nat) u v c,xs[i]? =some u->ys[i]? =some v->bs[i]? =some c->iV u v=some c)/\Q (.bl (GF bs)) H
theorem da{its:List Value}{xs:List V}{j:Nat}(r:Vals xs its)(h:j < its.length):∃x,xs[j]? =some x/\RelV x its[j]:=by
 have hl:=r.length;have e:xs[j]? =some xs[j]:=getElem?_eq_getElem (by omega);obtain⟨u,eu,ru⟩:=r.get e;rw[getElem?_eq_getElem h]at eu;cases eu;exact⟨_,e,ru⟩
theorem ER(hu:X.A.units+1 < cLine):iq X (compareOp .Eq) (KS X.K):=by
 intro pins s σ H x y v u Q I rx ry h;obtain⟨a,b,xs,ys,bs,rfl,rfl,ha,hb,l1,l2,he,q⟩:=h;cases rx;cases ry;obtain⟨its,r,pl,_⟩:=I.list ha;obtain⟨its2,r2,pl2,_⟩:=I.list hb;have m1:=r.length;have m2:=r2.length;refine SeqAt.eq_listAt (e:=λi=>bs.getD i false) pl.isList pl2.isList (by simp only[size_toArray];omega) (by omega) (λj h1 h2=>?_) ?_
 ·simp only[size_toArray]at h1 h2
  obtain⟨x1,e1,r1⟩:=da r h1;obtain⟨x2,e2,r2'⟩:=da r2 h2;have hj:j < bs.length:=by omega
  have e3:bs[j]? =some bs[j]:=getElem?_eq_getElem hj;have e4:bs.getD j false=bs[j]:=by rw[getD_eq_getElem?_getD,e3];rfl
  show SeqAt.EqAt X.A.in1 s its.toArray[j] its2.toArray[j] (bs.getD j false);rw[e4];simp only[getElem_toArray];exact ju r1 r2' (he j x1 x2 _ e1 e2 e3)
 ·have hz:its.toArray.size=bs.length:=by simp only[size_toArray];omega
  rw[hz];exact⟨.bl _,H,I,rfl,q⟩
end
end L2
namespace J
open PySem PySem.Spec PyProof.Rows
open L2 (Cx V cH)
theorem jw{X:Cx}(hc:X.calm=true):JF X (.builtin "sum") (λxs H Q=>∃(p:Addr) (ns:List Int),xs=[.ref p]/\cH X.K H p (ns.map V.int)/\Q (.int ns.sum) H):=⟨L2.jw hc⟩
end J
namespace L2
open PySem PySem.Spec PyProof.Rows
section
variable {X:Cx}
inductive Io(vs:List V)(H:Hp)(Q:VK):Prop
 |mk(j:Int)(e:vs=[.int j])(lo: -(2 ^ 62)<=j)(hi:j<=sizeLine)(q:∀l,H l=none->Q (.ref l) (upd H l (.lst ((List.range j.toNat).map λ(i:Nat)=>V.int (i:Int)))))
def Lp(ta:TA):TE:=λσ H Q=>ta σ H λvs H1=>Io vs H1 Q
inductive Eg(K:PySem.W.Frag)(x y:V)(H:Hp)(Q:VK):Prop
 |mk(a b:Addr)(xs ys:List V)(hx:x=.ref a)(hy:y=.ref b)(s:cH K H a xs)(t:cH K H b ys)(n:xs.length≠ys.length)(q:Q (.bl false) H)
theorem yW(hu:X.A.units+1 < cLine):iq X (compareOp .Eq) (λx y H Q=>Eg X.K x y H Q):=by
 intro pins s σ H x y v u Q I rx ry h;obtain⟨a,b,xs,ys,rfl,rfl,ha,hb,n,q⟩:=h;cases rx;cases ry;obtain⟨its,r,pl,_⟩:=I.list ha;obtain⟨its2,r2,pl2,_⟩:=I.list hb;have m1:=r.length;have m2:=r2.length;refine SeqAt.eq_list_lengthsAt pl.isList pl2.isList ?_ (by omega) ⟨.bl _,H,I,rfl,q⟩;rw[bne_iff_ne];simp only[size_toArray];omega
inductive LZ(K:PySem.W.Frag)(x y:V)(H:Hp)(Q:VK):Prop
 |mk(a b:Addr)(xs ys:List V)(bs:List Bool)(hx:x=.ref a)(hy:y=.ref b)(s:cU K H a xs)(t:cU K H b ys)(l1:xs.length=bs.length)(l2:ys.length=bs.length)
   (e:∀(i:Nat) u v c,xs[i]? =some u->ys[i]? =some v->bs[i]? =some c->iV u v=some c)(q:Q (.bl (GF bs)) H)
end
end L2
namespace J
open PySem PySem.Spec PyProof.Rows
open L2 (Cx V cH cU)
theorem uR{X:Cx}:JL X (L2.Hj X.K):=⟨L2.uR⟩
end J
namespace L2
open PySem PySem.Spec PyProof.Rows
theorem jr{prog:Program}{w:World}{A:Around}{R:Result->Shared->Prop}{s:Shared}{elt target iter:Expr}{cts:List Expr}{scope:Scope}{pos:Pos}{it acc:Value}{env:Env}(I:Nat->Shared->Prop)
  (turn:∀n s,I n s->wpAny (model prog w) A (pyNext it) (λr s₁=>match r with
   |none=>R (.ok .next) s₁
   |some v=>wpAny (model prog w) A (letOwnedTupleGo target it v) (λ_ s₁'=>wpAny (model prog w) A (assign target env v) (λ_ s₂=>wpAny (model prog w) A (forIn cts true λc r=>if r=true then do let ok <-isTrue c env (eval c env);pure (ForInStep.yield ok) else pure (ForInStep.yield r)) (λok s₂'=>if ok=true then wpAny (model prog w) A (eval elt env) (λx s₃=>
     wpAny (model prog w) A (call (.builtin "list.append") [acc,x]) (λ_ s₄=>∃m,m < n/\I m s₄) (notedBy (model prog w) A env λe s'=>R (.error e) s') s₃)
     (notedBy (model prog w) A env λe s'=>R (.error e) s') s₂' else ∃m,m < n/\I m s₂') (notedBy (model prog w) A env λe s'=>R (.error e) s') s₂) (notedBy (model prog w) A env λe s'=>R (.error e) s') s₁') (notedBy (model prog w) A env λe s'=>R (.error e) s') s₁) (notedBy (model prog w) A env λe s'=>R (.error e) s') s)
  (n:Nat) (h:I n s):
  codeAny (model prog w) A (.compLoop (.ListComp elt [⟨target,iter,cts,0⟩] scope pos) 0 it acc env) R s:=by
 refine codeAny_loop rfl I (λn s hI=>?_) n h;show wpAny _ _ ((compTurn (.ListComp elt [⟨target,iter,cts,0⟩] scope pos) 0 it acc env).onRaise (λx=>do noteFrame x env;theTreesLotGoes x)) _ _ s;refine wpAny_noted ?_;rw[compTurn_list];refine wpAny_bind (wpAny_standAt (wpAny_bind (wpAny_mono (turn n s hI) (λr s₁ h₁=>?_) λ_ _ h'=>h')));cases r with
 |none=>exact wpAny_pure h₁
 |some v=>
  refine wpAny_bind (wpAny_mono h₁ (λ_ s₁' h₁'=>?_) λ_ _ h'=>h');refine wpAny_bind (wpAny_mono h₁' (λ_ s₂ h₂=>wpAny_bind (wpAny_mono h₂ (λok s₃ h₃=>?_) λ_ _ h'=>h')) λ_ _ h'=>h');cases ok with
  |false=>exact wpAny_pure ⟨rfl,h₃⟩
  |true=>
   exact wpAny_bind (wpAny_bind (wpAny_mono h₃ (λx s₄ h₄=>wpAny_bind (wpAny_mono h₄ (λ_ s₅ h₅=>wpAny_pure (wpAny_pure ⟨rfl,h₅⟩)) λ_ _ h'=>h')) λ_ _ h'=>h'))
def GA(X:Cx)(cts:List Expr)(t:TT):Prop:=
 ∀(pins:List (Addr×Obj)) (s:Shared) (σ:St) (H:Hp) (Q:Bool->Hp->Prop),Inv X pins σ H s->t σ H Q->wpAny (model X.prog X.w) X.A (forIn cts true λc r=>if r=true then do let ok <-isTrue c X.env (eval c X.env);pure (ForInStep.yield ok) else pure (ForInStep.yield r)) (TP X pins σ Q) X.xe s
def xU:TT:=λ_ H Q=>Q true H
theorem xo{X:Cx}:GA X [] xU:=λ_ _ _ H _ I h=>wpAny_tests_nil ⟨H,I,h⟩
theorem CO{X:Cx}{ct:Expr}{t:TT}(h:PT X ct t):GA X [ct] t:=λpins s σ H Q I q=>wpAny_tests_one (h pins s σ H Q I q)
inductive ID(J:It)(n:Nat)(is:List Nat)(g:TG)(tc:TT)(te:TE)(σ:St)(W:Nat->Nat->List V->Hp->Prop)(D:Addr)(i m:Nat)(ys:List V)(H2:Hp):Prop
 |mk(go:J.go i H2)(nx:∀(os:St) v H3,os.length=n->J.yld i H2 v H3->g v (os++dw is σ) H3 λσ' H4=>(∃os':St,os'.length=n/\σ'=os'++dw is σ)/\tc σ' H4 λb H5=>if b=true then te σ' H5 (λy H6=>
  H6 D=some (.lst ys)/\ys.length < sizeLine/\∃m',m' < m/\W (i+1) m' (ys++[y]) (upd H6 D (.lst (ys++[y])))) else ∃m',m' < m/\W (i+1) m' ys H5)
def eZ(J:It)(n:Nat)(is:List Nat)(g:TG)(tc:TT)(te:TE)(σ:St)(H1:Hp)(Q:VK):Prop:=∀D,H1 D=none->∃W:Nat->Nat->List V->Hp->Prop,(∃m,W 0 m [] (upd H1 D (.lst [])))/\
 ∀i m ys H2,W i m ys H2->H2 D=some (.lst ys)/\((J.stop i H2/\Q (.ref D) H2)\/ID J n is g tc te σ W D i m ys H2)
def BF(wi:TI)(n:Nat)(is:List Nat)(g:TG)(tc:TT)(te:TE):TE:=λσ H Q=>wi σ H λJ H1=>eZ J n is g tc te σ H1 Q
structure mV(sc:Scope)(N:List Str)(xs:List Str)(scope:Scope)(is:List Nat)(ns:List Str):Prop where
 kind:scope.kind=.function:=by rfl
 nocell:∀y∈scope.names,y.2≠.cell:=by decide+kernel
 names:∀y∈scope.names,y.2=.local->scope.names.lookup y.1=some .local:=by decide+kernel
 free:∀y∈scope.names,y.2=.free->sc.names.lookup y.1=some .cell:=by decide+kernel
 cap:ns.map some=is.map λi=>N[i]? :=by rfl
 capf:∀y∈ns,scope.names.lookup y=some .free/\sc.names.lookup y=some .cell:=by decide+kernel
section
variable {X:Cx}{xs:List Str}{tg:Expr}{pos:Pos}{elt iter:Expr}{cts:List Expr}{scope:Scope}{wi:TI}{g:TG}{tc:TT}{te:TE}{is:List Nat}{ns:List Str}
def Bc(X:Cx)(pins:List (Addr×Obj))(σ:St)(Qs:VK)(use:Option (Value->Sem Unit))(Qv:Value->Shared->Prop):Prop:=
 ∀(D C:Addr) (H5:Hp) (s6:Shared) (m:Str->Option Value),Qs (.ref D) H5->Inv X pins σ H5 s6->kq X pins H5 C->s6.heap.Ns C m->compPost (model X.prog X.w) X.A X.xe use Qv (.ref D) C (.ok .next) s6
theorem lM{sc:Scope}{N:List Str}{use:Option (Value->Sem Unit)}{Qv:Value->Shared->Prop}{Gf:It->Hp->Prop}{Qs:VK}{cp:Pos}{pins:List (Addr×Obj)}{s:Shared}{σ:St}{H:Hp}(I:Inv X pins σ H s)(h:wi σ H Gf)(hG:∀J H1,Gf J H1->eZ J xs.length is g tc te σ H1 Qs)
  (fin:Bc X pins σ Qs use Qv)(hc:X.calm=true)(hi:PI X tg iter wi)(L:mV sc N xs scope is ns)(hg:∀cl fp s3 H3 C,PG (cV X (xs++ns) scope cl fp s3 H3 C) tg g)(hct:∀cl fp s3 H3 C,GA (cV X (xs++ns) scope cl fp s3 H3 C) cts tc)(he:∀cl fp s3 H3 C,PE (cV X (xs++ns) scope cl fp s3 H3 C) elt te)
  (hsc:X.env.scope=sc)(hN:X.N=N)(hs:∀x,foldedSetIterable iter X.env x=pure x):
  wpAny (model X.prog X.w) X.A (comprehension (.ListComp elt [⟨tg,iter,cts,0⟩] scope pos) scope X.env cp (newList []) false (eval iter X.env) use) Qv X.xe s:=by
 subst hsc hN;obtain⟨cl,hcl,cl1,cl2⟩:=o4 (env:=X.env) (scope:=scope) (λy hy hf=>I.ok.has y.1 (.inl (L.free y hy hf)));refine wpAny_comprehension_free rfl hs hcl L.kind L.names (cY (hi pins s σ H _ I h) λv s1 h1=>cY h1 λitv s2 h2=>?_);obtain⟨it,fp,tn,J,H2,e,I2,T,st2,f2,h2⟩:=h2;subst e;refine wpAny_newObj_type (wpAny_newFunctionEnv L.nocell (by intro y hy;simp at hy) (λh₁ hns₁ hsb₁=>?_) L.kind);have hD:H2 s2.heap.objs.size=none:=I2.hok.fresh (le_refl _);have I3:Inv X pins σ (upd H2 s2.heap.objs.size (.lst [])) { s2 with heap:=s2.heap.push { cls:=.type "list",dict:=none,data:=.seq ([]:List Value).toArray } }:=
  I2.laid (t':=s2.toks) (λb u e=>get?_push_of_some _ e) (le_refl _) ⟨zero_le _,[],0,.nil,get?_push_size _ rfl⟩
 have kp23:∀b u,s2.heap.get? b=some u->(s2.heap.push { cls:=.type "list",dict:=none,data:=.seq ([]:List Value).toArray }).get? b=some u:=λb u e=>get?_push_of_some _ e;obtain⟨W,⟨m0,w0⟩,turn⟩:=hG J H2 h2 s2.heap.objs.size hD;dsimp only at hns₁ hsb₁ ⊢;generalize hD0:s2.heap.objs.size=D at *;generalize hp3:s2.heap.push { cls:=.type "list",dict:=none,data:=.seq ([]:List Value).toArray }=p3 at *;generalize hH3:upd H2 D (.lst [])=H3 at *;have fpD:∀b∈fp,b≠D:=λb hb=>by
  obtain⟨o,e,_⟩:=T.obj 0 s2.heap st2 b hb;rw[<-hD0];exact ne_of_lt (lt_size e)
 have fp3:∀b∈fp,kq X pins H3 b:=λb hb=>⟨by rw[<-hH3,cD (fpD b hb)];exact(f2 b hb).1,(f2 b hb).2⟩;have st3:tn 0 p3:=T.keep 0 s2.heap p3 st2 λb _ o e=>kp23 b o e;have fplt:∀b∈fp,b < p3.objs.size:=λb hb=>by
  obtain⟨o,e,_⟩:=T.obj 0 p3 st3 b hb;exact lt_size e
 have old:∀b u,p3.get? b=some u->h₁.get? b=some u:=λb u e=>hsb₁.extBut b u (ne_of_lt (lt_size e)) (get?_push_of_some _ e);generalize hC:p3.objs.size=C at *;have hfree:∀b∈fp,H3 b=none:=λb hb=>(fp3 b hb).1;have okX:(cV X (xs++ns) scope cl fp { s2 with heap:=p3 } H3 C).Ok:=by
  refine⟨I.ok.mod,L.kind,I.ok.glob,I.ok.blt,le_of_eq hC,λy z c e1 e2=>I.ok.inj y z c (cl1 y c e1) (cl1 z c e2),λy hy=>?_,λ_ _ z=>(by cases z),I.ok.hd,I.ok.frames,.inl rfl,λb hb=>⟨ne_of_lt (fplt b hb),λy c e=>(fp3 b hb).2.2.2.2.1 y c (cl1 y c e)⟩,I3.bs,le_trans I3.ok.bsz I3.sz,λb o e hb=>?_,λb hb z=>?_,I3.stack,I3.iD⟩
  ·have hm:(y,NameKind.free)∈scope.names:=by
    rcases hy with hy|hy
    ·exact fM hy (.inl rfl) L.nocell
    ·exact fM hy (.inr rfl) L.nocell
   obtain⟨c,hc'⟩:=I.ok.has y (.inl (L.free _ hm rfl));exact⟨c,(cl2 _ hm rfl).trans hc'⟩
  ·rcases (fp3 b hb).2.2.2.1 with z|z
   ·exact I.ok.noex b o e z
   ·exact absurd (lt_of_lt_of_le (lt_size e) (le_trans I.ok.bsz z)) (lt_irrefl _)
  ·exact(mem_cons.mp (I3.qM b z)).elim (fp3 b hb).2.1 (fp3 b hb).2.2.1
 have hlen:(dw is σ).length=ns.length:=by
  have:=congrArg List.length L.cap;rw[length_map,length_map]at this;rw[dw,length_map];exact this.symm
 have rl:(List.replicate xs.length (none:Option V)).length=xs.length:=length_replicate ..;have I4:Inv (cV X (xs++ns) scope cl fp { s2 with heap:=p3 } H3 C) [] (List.replicate xs.length none++dw is σ) H3 { s2 with heap:=h₁,toks:=s2.toks+0 }:=by
  refine⟨okX,rfl,I3.bare,Un.kept old,⟨_,hns₁,λi y v e1 e2 e3=>?_⟩,λy c e=>?_,?_,λy c e=>I3.freeC y c (cl1 y c e),λp hp=>absurd (show p∈([]:List (Addr×Obj)) from hp) (by simp),I3.hok.kept old,by show(List.replicate xs.length none++dw is σ).length=(xs++ns).length;rw[length_append,length_append,hlen,rl]⟩
  ·have e1:(xs++ns)[i]? =some y:=e1
   by_cases hi:i < xs.length
   ·rw[getElem?_append_left (by rw[rl];exact hi),List.getElem?_replicate,if_pos hi]at e2
    cases e2
   ·rw[getElem?_append_right (by rw[rl];omega),rl]at e2
    rw[getElem?_append_right (by omega)]at e1;generalize i - xs.length=j at e1 e2;have e1':ns[j]? =some y:=e1;have e2':(dw is σ)[j]? =some (some v):=e2;have hy:=L.capf y (mem_of_getElem? e1');have hcap:(ns.map some)[j]? =(is.map λi=>X.N[i]?)[j]? :=by rw[L.cap]
    rw[getElem?_map,getElem?_map,e1']at hcap;rw[dw,getElem?_map]at e2';cases hk:is[j]? with
    |none=>rw[hk]at e2';cases e2'
    |some k=>
     rw[hk]at hcap e2';have hN:X.N[k]? =some y:=(Option.some.inj hcap).symm;have hσ:σ[k]? =some (some v):=by
      have q:(σ[k]?).join=some v:=Option.some.inj e2';cases z:σ[k]? with
      |none=>rw[z]at q;cases q
      |some o=>rw[z]at q;exact congrArg some q
     obtain⟨m,hn,hl⟩:=I3.loc;obtain⟨u,r,l⟩:=hl k y v hN hσ (.inr (.inl hy.2));refine⟨u,r,?_⟩;rcases l with ⟨hk',_⟩|⟨hk',c,ec,o,ho,hd⟩
     ·have hk2:X.env.scope.names.lookup y=some .local:=hk'
      rw[hy.2]at hk2;cases hk2
     ·exact .inr ⟨.inl (iu I.ok.kind hy.1 hy.2),c,(cl2 _ (PySem.mem_of_lookup hy.1) rfl).trans ec,o,old c o ho,hd⟩
  ·obtain⟨v,o,ho,hd⟩:=I3.cell y c (cl1 y c e)
   exact⟨v,o,old c o ho,hd⟩
  ·show H3 C=none
   rw[<-hC];exact I3.hok.fresh (le_refl _)
 have st4:tn 0 h₁:=T.keep 0 p3 h₁ st3 λb _ o e=>old b o e;have stat:∀{H':Hp},(∀b∈fp,H' b=none)->∀b∈fp,kq (cV X (xs++ns) scope cl fp { s2 with heap:=p3 } H3 C) [] H' b:=λ{H'} hn b hb=>
  ⟨hn b hb,ne_of_lt (fplt b hb),okX.exfs b hb,.inl hb,λy c e=>(fp3 b hb).2.2.2.2.1 y c (cl1 y c e),λp hp=>absurd (show p∈([]:List (Addr×Obj)) from hp) (by simp)⟩
 have loop:codeAny (model X.prog X.w) X.A (.compLoop (.ListComp elt [⟨tg,iter,cts,0⟩] scope pos) 0 (.ref it) (.ref D) (compEnvC scope cl C X.env))
   (compPost (model X.prog X.w) X.A X.xe use Qv (.ref D) C) { s2 with heap:=h₁,toks:=s2.toks+0 }:=by
  refine jr (λn s'=>∃i os ys H',os.length=xs.length/\Inv (cV X (xs++ns) scope cl fp { s2 with heap:=p3 } H3 C) [] (os++dw is σ) H' s'/\tn i s'.heap/\(∀b∈fp,H' b=none)/\W i n ys H') ?_ m0 ⟨0,List.replicate xs.length none,[],H3,rl,I4,st4,hfree,w0⟩;rintro n s5 ⟨i,os,ys,H5,hos,I5,st5,fr5,w5⟩;obtain⟨hD5,⟨stop,q⟩|⟨go,step⟩⟩:=turn i n ys H5 w5
  ·refine cY (T.done (cV X (xs++ns) scope cl fp { s2 with heap:=p3 } H3 C) rfl rfl rfl hc i [] s5 _ H5 _ I5 (stat fr5) st5 stop) λr s6 ⟨hr,I6⟩=>?_
   subst hr;obtain⟨m,hn,_⟩:=id I6.loc;have neC:∀b o,p3.get? b=some o->b≠C:=λb o e=>by rw[<-hC];exact ne_of_lt (lt_size e)
   have fC:H5 C=none:=I6.free;have I6X:Inv X pins σ H5 s6:=by
    refine I3.qr (s':=s6) (ch:=fp) I6.os ⟨λb o e nn hb hx=>?_,λb o e nn hb hx=>?_,I6.base.free,λb o e hx=>?_,I6.base.tups,I6.base.frzs,I6.base.tbls⟩ (λb ob e=>I6.hok b ob e) I6.bare λb hb=>⟨(fp3 b hb).2.2.2.1,(fp3 b hb).2.1,(fp3 b hb).2.2.2.2.1,(fp3 b hb).2.2.2.2.2⟩
    ·exact I6.base.keep b o e nn hb hx
    ·exact I6.base.slot b o e nn hb hx
    ·exact I6.base.there b o e hx
   exact fin D C H5 s6 m q I6X (I3.yo (le_of_eq hC) fC) hn
  ·refine cY (T.item (cV X (xs++ns) scope cl fp { s2 with heap:=p3 } H3 C) rfl rfl rfl hc i [] s5 _ H5 _ I5 (stat fr5) st5 go) λr s6 ⟨u,hr,h6⟩=>?_
   subst hr;refine cY h6 λ_ s7 hpat=>?_;obtain⟨v,H7,I7,r7,y7,st7,fr7⟩:=hpat;have I7':=I7.pinned (stat fr7) (T.obj _ _ st7);refine wpAny_mono (hg cl fp { s2 with heap:=p3 } H3 C _ s7 (os++dw is σ) H7 v u _ I7' r7 (step os v H7 hos y7)) (λ_ s8 ⟨σ8,H8,I8,⟨os',hos',e8⟩,q8⟩=>?_) λ_ _ z=>False.elim z;subst e8;refine wpAny_mono (hct cl fp { s2 with heap:=p3 } H3 C _ s8 _ H8 _ I8 q8) (λbb sb ⟨Hb,Ib,qb⟩=>?_) λ_ _ z=>False.elim z;cases bb with
   |false=>
    rw[if_neg Bool.false_ne_true]at qb;rw[if_neg Bool.false_ne_true];obtain⟨m',hm',w9⟩:=qb;refine⟨m',hm',i+1,os',ys,_,hos',Ib.ie,T.keep _ _ _ st7 λb hb o e=>(Ib.pin (b,o) (mem_append_right _ (mem_append_right _ (d8 hb e)))).1,λb hb=>?_,w9⟩;obtain⟨o',e,d⟩:=T.obj _ _ st7 b hb;exact(Ib.pin (b,o') (mem_append_right _ (mem_append_right _ (d8 hb e)))).2.1
   |true=>
    rw[if_pos rfl]at qb;rw[if_pos rfl];refine wpAny_mono (he cl fp { s2 with heap:=p3 } H3 C _ sb _ Hb _ Ib qb) (λuy s9 ⟨y,H9,I9,r9,hD9,hl9,m',hm',w9⟩=>?_) λ_ _ z=>False.elim z;refine wpAny_mono (qj (X:=cV X (xs++ns) scope cl fp { s2 with heap:=p3 } H3 C) _ s9 _ H9 (.ref D) [y] (.ref D) [uy] (λ_ H'=>H'=upd H9 D (.lst (ys++[y]))) I9 rfl (.cons r9 .nil) ⟨D,ys,y,rfl,rfl,hD9,hl9,rfl⟩) (λ_ s10 ⟨_,H10,I10,_,e10⟩=>?_) λ_ _ z=>False.elim z;subst e10;refine⟨m',hm',i+1,os',ys++[y],_,hos',I10.ie,T.keep _ _ _ st7 λb hb o e=>(I10.pin (b,o) (mem_append_right _ (mem_append_right _ (d8 hb e)))).1,λb hb=>?_,w9⟩;obtain⟨o',e,d⟩:=T.obj _ _ st7 b hb;exact(I10.pin (b,o') (mem_append_right _ (mem_append_right _ (d8 hb e)))).2.1
 exact codeAny_compStart_list loop (T.self X.A 0 _ _ _ st4 loop)
theorem p9{pins:List (Addr×Obj)}{σ:St}{Q:VK}:Bc X pins σ Q none (EP X pins σ Q):=by
 intro D C H5 s6 m q I6 fC hn;refine⟨m,hn,λh' sb=>⟨.ref D,H5,I6.l6 (t':=s6.toks) (fp:=[C]) (λb hb=>?_) (λb u nb e=>(sb.2 b (λz=>nb (mem_singleton.mpr z))).trans e),rfl,q⟩⟩;rw[mem_singleton]at hb;subst hb;exact fC
theorem xM{pins:List (Addr×Obj)}{σ:St}{Dn:Ends}{y:Str}{py:Pos}{iy:Nat}(hnd:X.N.Nodup)(hiy:X.N[iy]? =some y)(hly:Loc X.env.scope y)(hfy:X.fn y=true\/X.env.scope.names.lookup y=some .local):
  Bc X pins σ (λv H'=>Dn.nx (σ.set iy (some v)) H') (some (assign (.Name y py) X.env)) (λ_ s'=>SP X pins Dn .next s'):=by
 intro D C H5 s6 m q I6X fC hn;have fpC:∀b∈[C],kq X pins H5 b:=λb hb=>by
  rw[mem_singleton]at hb;subst hb;exact fC
 obtain⟨oC,esC,epC,hoC,rC⟩:=id hn;have obC:∀b∈[C],∃o,s6.heap.get? b=some o/\∀v,o.data≠.cell v:=λb hb=>by
  rw[mem_singleton]at hb;subst hb;exact⟨oC,hoC,λv z=>by rw[z]at rC;exact absurd rC.1 (λw=>nomatch w)⟩
 have IP:=I6X.pinned fpC obC;have hgy:PG X (.Name y py) (eQ iy):=nL hnd hiy hly hfy;show wpAny _ _ (assign (.Name y py) X.env (.ref D)) _ _ s6;refine cY (hgy _ s6 σ H5 (.ref D) (.ref D) (λσ' H'=>σ'=σ.set iy (some (.ref D))/\H'=H5) IP rfl ⟨rfl,rfl⟩) λ_ s7 hpat=>?_;obtain⟨σ7,H7,I7,e1,e2⟩:=hpat;subst e1;subst e2;have hC7:s7.heap.get? C=some oC:=(I7.pin (C,oC) (mem_append_right _ (mem_append_right _ (d8 (mem_singleton.mpr rfl) hoC)))).1;exact⟨m,⟨oC,esC,epC,hC7,rC⟩,λh' sb=>⟨_,H7,I7.ie.l6 (t':=s7.toks) (fp:=[C]) fpC (λb u nb e=>(sb.2 b (λz=>nb (mem_singleton.mpr z))).trans e),q⟩⟩
theorem D9{sc:Scope}{N:List Str}(hc:X.calm=true)(hi:PI X tg iter wi)(L:mV sc N xs scope is ns)(hg:∀cl fp s3 H3 C,PG (cV X (xs++ns) scope cl fp s3 H3 C) tg g)(hct:∀cl fp s3 H3 C,GA (cV X (xs++ns) scope cl fp s3 H3 C) cts tc)(he:∀cl fp s3 H3 C,PE (cV X (xs++ns) scope cl fp s3 H3 C) elt te)
  (hsc:X.env.scope=sc)(hN:X.N=N)(hs:∀x,foldedSetIterable iter X.env x=pure x):PE X (.ListComp elt [⟨tg,iter,cts,0⟩] scope pos) (BF wi xs.length is g tc te):=by
 intro pins s σ H Q I h;rw[eval_ListComp];exact lM I h (λ_ _ z=>z) p9 hc hi L hg hct he hsc hN hs
theorem xS{sc:Scope}{N:List Str}{y:Str}{py spos:Pos}{iy:Nat}(hnd:X.N.Nodup)(hiy:X.N[iy]? =some y)(hly:Loc X.env.scope y)(hfy:X.fn y=true\/X.env.scope.names.lookup y=some .local)(hsw:swapsWith (.ListComp elt [⟨tg,iter,cts,0⟩] scope pos) (some (.Name y py)) spos.line X.env=pure true)
  (hc:X.calm=true)(hi:PI X tg iter wi)(L:mV sc N xs scope is ns)(hg:∀cl fp s3 H3 C,PG (cV X (xs++ns) scope cl fp s3 H3 C) tg g)(hct:∀cl fp s3 H3 C,GA (cV X (xs++ns) scope cl fp s3 H3 C) cts tc)(he:∀cl fp s3 H3 C,PE (cV X (xs++ns) scope cl fp s3 H3 C) elt te)
  (hsc:X.env.scope=sc)(hN:X.N=N)(hs:∀x,foldedSetIterable iter X.env x=pure x):PS X (.Assign [.Name y py] (.ListComp elt [⟨tg,iter,cts,0⟩] scope pos) spos) (uD (BF wi xs.length is g tc te) (eQ iy)):=by
 intro pins s σ H Dn I h;rw[exec_Assign_Name_used _ _ _ _ hsw];refine wpAny_bind (wpAny_standAt (wpAny_bind ?_));show wpAny _ X.A (do let _ <-comprehension (.ListComp elt [⟨tg,iter,cts,0⟩] scope pos) scope X.env _ (newList []) false (eval iter X.env) (some (assign (.Name y py) X.env))) _ _ s;exact wpAny_bind (cY (Q:=λ_ s'=>SP X pins Dn .next s') (lM I h (λ_ _ z=>z) (xM hnd hiy hly hfy) hc hi L hg hct he hsc hN hs) λ_ s' hq=>wpAny_pure (wpAny_pure hq))
theorem Ja{J:It}{te:TE}{is:List Nat}{σ:St}{H1:Hp}{Q:VK}(h:iF J is te σ H1 Q):eZ J 1 is (eQ 0) xU te σ H1 Q:=by
 intro D hD;obtain⟨W,w0,k⟩:=h D hD;refine⟨W,w0,λi m ys H2 w=>?_⟩;obtain⟨e,z|⟨go,nx⟩⟩:=k i m ys H2 w
 ·exact⟨e,.inl z⟩
 ·refine⟨e,.inr ⟨go,λos v H3 hos y=>?_⟩⟩
  match os,hos with
  |[o],_=>exact⟨⟨[some v],rfl,rfl⟩,dv (B:=∃m',m' < m/\W (i+1) m' ys H3) (nx v H3 y)⟩
theorem Bf{sc:Scope}{N:List Str}{x:Str}{px:Pos}(hc:X.calm=true)(hi:PI X (.Name x px) iter wi)(L:Jb sc N x scope is ns)(he:∀cl fp s3 H3 C,PE (cV X (x::ns) scope cl fp s3 H3 C) elt te)
  (hsc:X.env.scope=sc:=by rfl)(hN:X.N=N:=by rfl)(hs:∀x,foldedSetIterable iter X.env x=pure x:=by intro _;rfl):PE X (.ListComp elt [⟨.Name x px,iter,[],0⟩] scope pos) (LR wi is te):=by
 intro pins s σ H Q I h;rw[eval_ListComp];exact lM (xs:=[x]) (g:=eQ 0) (tc:=xU) I h (λ_ _ z=>Ja z) p9 hc hi ⟨L.kind,L.nocell,L.names,L.free,L.cap,L.capf⟩ (λ_ _ _ _ _=>nL (i:=0) L.nd rfl (.inl (lookup_relabel_local L.hx)) (.inr (lookup_relabel_local L.hx))) (λ_ _ _ _ _=>xo) he hsc hN hs
end
section
variable {K:PySem.W.Frag}{n:Nat}{is:List Nat}{g:TG}{tc:TT}{te:TE}{σ:St}{H:Hp}{Q:VK}
theorem gC(p:Nat->Bool)(f:Nat->V)(i:Nat):((List.range (i+1)).filter p).map f=((List.range i).filter p).map f++if p i=true then [f i] else []:=by
 rw[range_succ,filter_append,map_append];cases h:p i<;>simp[List.filter,h]
theorem vL{J:It}{N:Nat}(p:Nat->Bool)(f:Nat->V)(hz:N<=sizeLine)(hgo:∀i H2,cC H H2->i < N->J.go i H2)(hstop:∀H2,cC H H2->J.stop N H2)
  (he:∀(i:Nat)(os:St) v H2 H3 (K1:VK)(K2:Hp->Prop),i < N->os.length=n->cC H H2->J.yld i H2 v H3->(p i=true->∀H6,cC H2 H6->K1 (f i) H6)->(p i=false->∀H5,cC H2 H5->K2 H5)->
   g v (os++dw is σ) H3 λσ' H4=>(∃os':St,os'.length=n/\σ'=os'++dw is σ)/\tc σ' H4 λb H5=>if b=true then te σ' H5 K1 else K2 H5)
  (q:∀D H',H D=none->cC H H'->H' D=some (.lst (((List.range N).filter p).map f))->Q (.ref D) H'):eZ J n is g tc te σ H Q:=by
 intro D hDn;refine⟨λi m ys H2=>m=N - i/\i<=N/\cC H H2/\H2 D=some (.lst ys)/\ys=((List.range i).filter p).map f,⟨_,rfl,zero_le _,cC.upd hDn,cz,rfl⟩,?_⟩;rintro i m ys H2 ⟨rfl,hi,sm,hd,rfl⟩;refine⟨hd,?_⟩;by_cases hlt:i < N
 ·refine .inr ⟨hgo i H2 sm hlt,λos v H3 hos y=>?_⟩
  have hl:(((List.range i).filter p).map f).length<=i:=by
   rw[length_map];have:=length_filter_le p (List.range i);rw[length_range]at this;exact this
  refine he i os v H2 H3 _ _ hlt hos sm y (λhp H6 s6=>⟨s6 _ _ hd,by omega,N - (i+1),by omega,rfl,hlt,λb o e=>?_,cz,?_⟩) (λhp H5 s5=>⟨N - (i+1),by omega,rfl,hlt,sm.trans s5,s5 _ _ hd,?_⟩)
  ·rw[cD (cA e hDn)]
   exact s6 _ _ (sm _ _ e)
  ·rw[gC,if_pos hp]
  ·rw[gC,if_neg (by rw[hp];exact Bool.false_ne_true),append_nil]
 ·have e:i=N:=by omega
  subst e;exact .inl ⟨hstop H2 sm,q D H2 hDn sm hd⟩
theorem df{a:Addr}{xs:List V}(p:Nat->Bool)(f:Nat->V)(hq:cH K H a xs)(hz:xs.length<=sizeLine)
  (he:∀(i:Nat)(os:St) v H2 (K1:VK)(K2:Hp->Prop),xs[i]? =some v->os.length=n->cC H H2->(p i=true->∀H6,cC H2 H6->K1 (f i) H6)->(p i=false->∀H5,cC H2 H5->K2 H5)->
   g v (os++dw is σ) H2 λσ' H4=>(∃os':St,os'.length=n/\σ'=os'++dw is σ)/\tc σ' H4 λb H5=>if b=true then te σ' H5 K1 else K2 H5)
  (q:∀D H',H D=none->cC H H'->H' D=some (.lst (((List.range xs.length).filter p).map f))->Q (.ref D) H'):eZ (BK K a) n is g tc te σ H Q:=
 vL p f hz (λi H2 sm hi=>⟨xs,xs[i],sm.seq hq,by simp[hi]⟩) (λH2 sm=>⟨xs,sm.seq hq,le_refl _⟩) (λi os v H2 H3 K1 K2 hi hos sm y k1 k2=>by
  obtain⟨rfl,y⟩:=y;exact he i os v _ K1 K2 (y xs (sm.seq hq)) hos sm k1 k2) q
theorem xR{lo:Int}{N:Nat}(p:Nat->Bool)(f:Nat->V)(hz:N<=sizeLine)
  (he:∀(i:Nat)(os:St) H2 (K1:VK)(K2:Hp->Prop),i < N->os.length=n->cC H H2->(p i=true->∀H6,cC H2 H6->K1 (f i) H6)->(p i=false->∀H5,cC H2 H5->K2 H5)->
   g (.int (lo+i)) (os++dw is σ) H2 λσ' H4=>(∃os':St,os'.length=n/\σ'=os'++dw is σ)/\tc σ' H4 λb H5=>if b=true then te σ' H5 K1 else K2 H5)
  (q:∀D H',H D=none->cC H H'->H' D=some (.lst (((List.range N).filter p).map f))->Q (.ref D) H'):eZ (CW lo N) n is g tc te σ H Q:=
 vL p f hz (λi H2 _ hi=>hi) (λH2 _=>le_refl N) (λi os v H2 H3 K1 K2 hi hos sm y k1 k2=>by
  obtain⟨rfl,rfl⟩:=y;exact he i os _ K1 K2 hi hos sm k1 k2) q
theorem ue{a:Addr}{xs:List V}(p:Nat->Bool)(f:Nat->V)(hq:cH K H a xs)(hz:xs.length<=sizeLine)
  (he:∀(i:Nat)(os:St) v (t:Addr) H2 (K1:VK)(K2:Hp->Prop),xs[i]? =some v->os.length=n->cC H H2->H2 t=none->(p i=true->∀H6,cC H2 H6->K1 (f i) H6)->(p i=false->∀H5,cC H2 H5->K2 H5)->
   g (.ref t) (os++dw is σ) (upd H2 t (.tup [.int i,v])) λσ' H4=>(∃os':St,os'.length=n/\σ'=os'++dw is σ)/\tc σ' H4 λb H5=>if b=true then te σ' H5 K1 else K2 H5)
  (q:∀D H',H D=none->cC H H'->H' D=some (.lst (((List.range xs.length).filter p).map f))->Q (.ref D) H'):eZ (GC K a) n is g tc te σ H Q:=
 vL p f hz (λi H2 sm hi=>⟨xs,xs[i],sm.seq hq,by simp[hi]⟩) (λH2 sm=>⟨xs,sm.seq hq,rfl⟩) (λi os v H2 H3 K1 K2 hi hos sm y k1 k2=>by
  obtain⟨t,x,ht,rfl,rfl,y⟩:=y;exact he i os x t _ K1 K2 (y xs (sm.seq hq)) hos sm ht k1 k2) q
end
section
variable {X:Cx}
theorem tj:∀bs:List Bool,((List.range bs.length).any λi=>bs.getD i false)=bs.any id
 |[]=>rfl
 |b::r=>by
  rw[length_cons,List.range_succ_eq_map,any_cons,any_map,any_cons,<-tj r];rfl
theorem hZ(hc:X.calm=true):eG X (.builtin "any") (λxs H Q=>∃(p:Addr) (bs:List Bool),xs=[.ref p]/\cH X.K H p (bs.map V.bl)/\Q (.bl (bs.any id)) H):=by
 intro pins s σ H xs us Q I r h;obtain⟨p,bs,rfl,hq,q⟩:=h;obtain⟨u,rfl,rx⟩:=vals1 r;cases rx;obtain⟨its,rv,pl,hz⟩:=I.list hq;have hl:=rv.length;rw[length_map]at hl;have hlt:p < s.heap.objs.size:=by obtain⟨o,n,e,_⟩:=pl;exact lt_size e
 refine call_any_walk (wpAny_pyIter_list pl.isList ?_);refine⟨s.heap.objs.size,[s.heap.objs.size,p],[s.heap.objs.size],its.toArray.size,_,_,λi=>bs.getD i false,rfl,Walks.list (show X.A.in1.handled=none from I.ok.hd hc) s.heap.objs.size p (ne_of_lt hlt) its.toArray,
  ⟨⟨_,get?_push_size _ rfl,rfl,rfl⟩,?_⟩,λi v s' Q' E' hv hQ=>?_,λh' tk kk=>?_⟩
 ·obtain⟨o,e,r⟩:=pl.isList
  exact⟨o,get?_push_of_some _ e,r⟩
 ·have hi:i < bs.length:=by
   have:i < its.length:=by
    have:=(Array.getElem?_eq_some_iff.mp hv).1
    simpa using this
   omega
  have hb:(bs.map V.bl)[i]? =some (V.bl bs[i]):=by simp[hi]
  obtain⟨u,hu,ru⟩:=rv.get hb;have hv':its[i]? =some v:=by simpa using hv
  rw[hu]at hv';cases hv';obtain rfl:v=Value.bool bs[i]:=ru;refine wpAny_truthy_bool ?_;have e:bs.getD i false=bs[i]:=by simp[List.getD,hi]
  rw[<-e];exact hQ
 ·refine⟨.bl (bs.any id),H,?_,?_,q⟩
  ·have I1:Inv X pins σ H { s with heap:=s.heap.push { cls:=.type "list_iterator",data:=.fields #[.ref p,.int 0 0] } }:=I.kept (t':=s.toks) λb o e=>get?_push_of_some _ e
   have I2:Inv X pins σ H { s with heap:=h',toks:=tk }:=I.kept (t':=tk) λb o e=>kk b o (by
    intro z;have z':b=s.heap.objs.size:=by simpa using z
    exact absurd (lt_size e) (by rw[z'];exact lt_irrefl _)) (get?_push_of_some _ e)
   exact I2
  ·show Value.bool _=Value.bool _
   congr 1
   rw[size_toArray,<-hl];exact tj bs
end
end L2
namespace J
open PySem PySem.Spec PyProof.Rows
open L2 (Cx V Hp St VK TE TT TA TS TG o7 TI TO cH)
structure Jz(X:Cx)(cts:List Expr)(t:TT):Prop where
 out:L2.GA X cts t
section
variable {X:Cx}{x y:Str}{xs ns:List Str}{scope:Scope}{cl:List (Str×Addr)}{fp:List Addr}{s3:Shared}{H3:Hp}{C:Addr}{p pos spos py:Pos}{ct tg it elt:Expr}{cts:List Expr}{tc:TT}{te:TE}{wi:TI}{g:TG}{is:List Nat}{sc:Scope}{N:List Str}{iy:Nat}
theorem _root_.bV{x:Str}{px:Pos}(hc:X.calm=true)(hi:JI X (.Name x px) it wi)(L:L2.Jb sc N x scope is ns)(he:∀cl fp s3 H3 C,JE (L2.cV X (x::ns) scope cl fp s3 H3 C) elt te)(hsc:X.env.scope=sc)(hN:X.N=N)(hs:∀x,foldedSetIterable it X.env x=pure x:=by intro _;rfl):
  JE X (.ListComp elt [⟨.Name x px,it,[],0⟩] scope pos) (L2.LR wi is te):=⟨L2.Bf hc hi.out L (λcl fp s3 H3 C=>(he cl fp s3 H3 C).out) hsc hN hs⟩
theorem _root_.bW:Jz X [] L2.xU:=⟨L2.xo⟩
theorem _root_.bA(h:JT X ct tc):Jz X [ct] tc:=⟨L2.CO h.out⟩
theorem _root_.aK {i:Nat}(h:scope.names.lookup y=some .local) (hi:xs[i]? =some y) (db:(y == ("__debug__" :Str))=false) (cd:(y == ("__classdict__" :Str))=false):JE (L2.cV X xs scope cl fp s3 H3 C) (.Name y p) (L2.kJ i):=
 ⟨L2.mE (i:=i) hi (.inl (PySem.lookup_relabel_local h)) db cd⟩
theorem _root_.a9 {i:Nat}(h:scope.names.lookup y=some .free) (hi:xs[i]? =some y) (db:(y == ("__debug__" :Str))=false) (cd:(y == ("__classdict__" :Str))=false):JE (L2.cV X xs scope cl fp s3 H3 C) (.Name y p) (L2.kJ i):=
 ⟨L2.mE (i:=i) hi (.inr (L2.i5 h)) db cd⟩
theorem _root_.aX{i:Nat}(nd:xs.Nodup)(h:scope.names.lookup y=some .local)(hi:xs[i]? =some y):JG (L2.cV X xs scope cl fp s3 H3 C) (.Name y p) (L2.eQ i):=
 ⟨L2.nL (i:=i) nd hi (.inl (PySem.lookup_relabel_local h)) (.inr (PySem.lookup_relabel_local h))⟩
theorem _root_.bF(hc:X.calm=true)(hi:JI X tg it wi)(L:L2.mV sc N xs scope is ns)(hg:∀cl fp s3 H3 C,JG (L2.cV X (xs++ns) scope cl fp s3 H3 C) tg g)(hct:∀cl fp s3 H3 C,Jz (L2.cV X (xs++ns) scope cl fp s3 H3 C) cts tc)(he:∀cl fp s3 H3 C,JE (L2.cV X (xs++ns) scope cl fp s3 H3 C) elt te)
  (hsc:X.env.scope=sc)(hN:X.N=N)(hs:∀x,foldedSetIterable it X.env x=pure x:=by intro _;rfl):JE X (.ListComp elt [⟨tg,it,cts,0⟩] scope pos) (L2.BF wi xs.length is g tc te):=
 ⟨L2.D9 hc hi.out L (λcl fp s3 H3 C=>(hg cl fp s3 H3 C).out) (λcl fp s3 H3 C=>(hct cl fp s3 H3 C).out) (λcl fp s3 H3 C=>(he cl fp s3 H3 C).out) hsc hN hs⟩
theorem _root_.bR(S:L2.Slot X iy y)(hnd:X.N.Nodup)(hc:X.calm=true)(hi:JI X tg it wi)(L:L2.mV sc N xs scope is ns)(hg:∀cl fp s3 H3 C,JG (L2.cV X (xs++ns) scope cl fp s3 H3 C) tg g)(hct:∀cl fp s3 H3 C,Jz (L2.cV X (xs++ns) scope cl fp s3 H3 C) cts tc)(he:∀cl fp s3 H3 C,JE (L2.cV X (xs++ns) scope cl fp s3 H3 C) elt te)
  (hsc:X.env.scope=sc)(hN:X.N=N)
  (hw:((if sc.kind.isAnnotationScope then ScopeKind.function else sc.kind) == .function && sc.names.lookup y == some .local && py.line == pos.line && !(scope.names.any λ(n,k)=>n == y && (k == .local || k == .cell)))=true)
  (hs:∀x,foldedSetIterable it X.env x=pure x:=by intro _;rfl):
  JS X (.Assign [.Name y py] (.ListComp elt [⟨tg,it,cts,0⟩] scope pos) spos) (L2.uD (L2.BF wi xs.length is g tc te) (L2.eQ iy)):=
 ⟨L2.xS hnd S.hN S.lc S.fn (L2.yc hsc hw) hc hi.out L (λcl fp s3 H3 C=>(hg cl fp s3 H3 C).out) (λcl fp s3 H3 C=>(hct cl fp s3 H3 C).out) (λcl fp s3 H3 C=>(he cl fp s3 H3 C).out) hsc hN hs⟩
theorem hZ(hc:X.calm=true):JF X (.builtin "any") (λxs H Q=>∃(p:Addr) (bs:List Bool),xs=[.ref p]/\cH X.K H p (bs.map V.bl)/\Q (.bl (bs.any id)) H):=⟨L2.hZ hc⟩
end
end J
namespace L2
open PySem PySem.Spec PyProof.Rows
section
variable {κ:Type} [DecidableEq κ]
def dB(kvs:List (κ×V))(k:κ):Option V:=(kvs.find? λkv=>decide (kv.1=k)).map (·.2)
def putK(kvs:List (κ×V))(k:κ)(v:V):List (κ×V):=
 if(kvs.any λkv=>decide (kv.1=k))=true then kvs.map (λkv=>if kv.1=k then(kv.1,v) else kv) else kvs++[(k,v)]
def An(kvs:List (κ×V))(k:κ):List (κ×V):=kvs.filter λkv=>decide (kv.1≠k)
theorem dS{p:κ×V}{r:List (κ×V)}{k:κ}(e:p.1=k):dB (p::r) k=some p.2:=by simp[dB,find?_cons,e]
theorem dM{p:κ×V}{r:List (κ×V)}{k:κ}(e:¬p.1=k):dB (p::r) k=dB r k:=by simp[dB,find?_cons,e]
theorem gn(k:κ):∀kvs:List (κ×V),(kvs.any λkv=>decide (kv.1=k))=(dB kvs k).isSome
 |[]=>rfl
 |p::r=>by
  rw[any_cons];by_cases e:p.1=k
  ·simp only[dS e,decide_eq_true e,Bool.true_or,Option.isSome_some]
  ·rw[dM e,decide_eq_false e,Bool.false_or];exact gn k r
theorem sQ(k j:κ)(y:V):∀kvs:List (κ×V),dB (kvs.map λkv=>if kv.1=k then(kv.1,y) else kv) j=(dB kvs j).map λx=>if j=k then y else x
 |[]=>rfl
 |p::r=>by
  have ih:=sQ k j y r;rw[map_cons];by_cases h:p.1=k
  ·rw[if_pos h]
   by_cases e:p.1=j
   ·rw[dS (p:=(p.1,y)) e,dS e,map_some,if_pos (e.symm.trans h)]
   ·rw[dM (p:=(p.1,y)) e,dM e,ih]
  ·rw[if_neg h]
   by_cases e:p.1=j
   ·rw[dS (p:=p) e,dS e,map_some,if_neg (λz=>h (e.trans z))]
   ·rw[dM (p:=p) e,dM e,ih]
theorem p6(k j:κ)(y:V):∀kvs:List (κ×V),dB kvs k=none->dB (kvs++[(k,y)]) j=if j=k then some y else dB kvs j
 |[],_=>by
  by_cases e:k=j
  ·rw[if_pos e.symm];exact dS (p:=(k,y)) e
  ·rw[if_neg (λz=>e z.symm)];exact dM (p:=(k,y)) e
 |p::r,hn=>by
  rw[List.cons_append];have hk:¬p.1=k:=λz=>by rw[dS z]at hn;cases hn
  rw[dM hk]at hn;have ih:=p6 k j y r hn;by_cases e:p.1=j
  ·rw[dS e,dS e,if_neg (λz=>hk (e.trans z))]
  ·rw[dM e,dM e,ih]
theorem gx(kvs:List (κ×V))(k j:κ)(y:V):dB (putK kvs k y) j=if j=k then some y else dB kvs j:=by
 unfold putK;by_cases a:(kvs.any λkv=>decide (kv.1=k))=true
 ·rw[if_pos a,sQ]
  rw[gn]at a;by_cases e:j=k
  ·obtain⟨x,hx⟩:=isSome_iff_exists.mp a
   rw[if_pos e,e,hx,map_some,if_pos rfl]
  ·rw[if_neg e]
   cases dB kvs j with
   |none=>rfl
   |some x=>rw[map_some,if_neg e]
 ·rw[if_neg a]
  refine p6 k j y kvs ?_;rw[gn]at a;cases q:dB kvs k with
  |none=>rfl
  |some x=>rw[q]at a;exact(a rfl).elim
theorem gA(kvs:List (κ×V))(k:κ)(v:V):(putK kvs k v).length<=kvs.length+1:=by
 unfold putK;split
 ·rw[length_map];omega
 ·rw[length_append,length_cons,List.length_nil];omega
theorem iS.gZ{o:Option V}{u:Option Value}(r:iS o u):o.isSome=u.isSome:=by
 cases o with
 |none=>cases u with
  |none=>rfl
  |some _=>exact(show False from r).elim
 |some _=>cases u with
  |none=>exact(show False from r).elim
  |some _=>rfl
theorem iS.getD{o:Option V}{u:Option Value}{d:V}{d':Value}(r:iS o u)(rd:RelV d d'):RelV (o.getD d) (u.getD d'):=by
 cases o with
 |none=>cases u with
  |none=>exact rd
  |some _=>exact(show False from r).elim
 |some _=>cases u with
  |none=>exact(show False from r).elim
  |some _=>exact r
theorem KV.val{kvs:List (κ×V)}{vs:List (κ×Value)}(r:KV kvs vs)(k:κ):iS (dB kvs k) (valueAt vs k):=by
 unfold KV at r
 induction r with
 |nil=>exact True.intro
 | @cons p q ps qs h t ih=>
  obtain⟨h1,h2⟩:=h;by_cases e:p.1=k
  ·have e':q.1=k:=h1.symm.trans e
   have b:valueAt (q::qs) k=some q.2:=by simp[valueAt,find?_cons,e']
   rw[dS e,b];exact h2
  ·have e':¬q.1=k:=λz=>e (h1.trans z)
   have b:valueAt (q::qs) k=valueAt qs k:=by simp[valueAt,find?_cons,e']
   rw[dM e,b];exact ih
theorem KV.any{kvs:List (κ×V)}{vs:List (κ×Value)}(r:KV kvs vs)(k:κ):(kvs.any λkv=>decide (kv.1=k))=vs.any λkv=>decide (kv.1=k):=by
 unfold KV at r
 induction r with
 |nil=>rfl
 |cons h t ih=>rw[any_cons,any_cons,ih,h.1]
theorem KV.FD{kvs:List (κ×V)}{vs:List (κ×Value)}(r:KV kvs vs)(k:κ){y:V}{u:Value}(ry:RelV y u):
  KV (kvs.map λkv=>if kv.1=k then(kv.1,y) else kv) (vs.map λkv=>if kv.1=k then(kv.1,u) else kv):=by
 unfold KV at r ⊢
 induction r with
 |nil=>exact .nil
 | @cons p q ps qs h t ih=>
  rw[map_cons,map_cons];refine .cons ?_ ih;obtain⟨h1,h2⟩:=h;by_cases e:p.1=k
  ·rw[if_pos e,if_pos (h1.symm.trans e)];exact⟨h1,ry⟩
  ·rw[if_neg e,if_neg (λz=>e (h1.trans z))];exact⟨h1,h2⟩
theorem KV.put{kvs:List (κ×V)}{vs:List (κ×Value)}(r:KV kvs vs)(k:κ){y:V}{u:Value}(ry:RelV y u):KV (putK kvs k y) (stored vs k u):=by
 unfold putK stored;rw[r.any k];by_cases e:(vs.any λkv=>decide (kv.1=k))=true
 ·rw[if_pos e,if_pos e];exact r.FD k ry
 ·rw[if_neg e,if_neg e];exact Paired.snoc r ⟨rfl,ry⟩
theorem KV.keys{kvs:List (κ×V)}{vs:List (κ×Value)}(r:KV kvs vs):kvs.map (·.1)=vs.map (·.1):=by
 unfold KV at r
 induction r with
 |nil=>rfl
 |cons h t ih=>rw[map_cons,map_cons,ih,h.1]
theorem KV.length{kvs:List (κ×V)}{vs:List (κ×Value)}(r:KV kvs vs):kvs.length=vs.length:=Paired.length r
end
theorem qe{P:Program}{w:World}{k:Key}{u:Value}(r:RelV (kV k) u):(cJ P w).is k u=true:=by
 cases k with
 |inl i=>obtain⟨t,e⟩:=(show ∃t,u=Value.int i t from r);subst e;exact tU P w i t
 |inr x=>obtain⟨t,e⟩:=(show ∃t,u=Value.str x t from r);subst e;exact tW P w x t
theorem qm{P:Program}{w:World}:∀{ks:List Key}{us:List Value},Vals (ks.map kV) us->ItemsAre (cJ P w) ks us
 |[],_,r=>by rw[map_nil]at r;cases r;exact .nil
 |k::ks,_,r=>by
  rw[map_cons]at r;cases r with
  |cons h t=>exact .cons (qe h) (qm t)
abbrev KT(H:Hp):List (List Key×V)->List (List Key×Addr×Value)->Prop:=Paired λp q=>p.1=q.1/\H q.2.1=some (.tup (p.1.map kV))/\RelV p.2 q.2.2
theorem KT.val{H:Hp}{kvs:List (List Key×V)}{xs:List (List Key×Addr×Value)}(r:KT H kvs xs)(k:List Key):iS (dB kvs k) ((atKey xs k).map (·.2)):=by
 induction r with
 |nil=>exact True.intro
 | @cons p q ps qs h t ih=>
  obtain⟨h1,_,h2⟩:=h;by_cases e:p.1=k
  ·have e':q.1=k:=h1.symm.trans e
   have b:atKey (q::qs) k=some q.2:=by simp[atKey,find?_cons,e']
   rw[dS e,b];exact h2
  ·have e':¬q.1=k:=λz=>e (h1.trans z)
   have b:atKey (q::qs) k=atKey qs k:=by simp[atKey,find?_cons,e']
   rw[dM e,b];exact ih
theorem KT.FD{H:Hp}{kvs:List (List Key×V)}{xs:List (List Key×Addr×Value)}(r:KT H kvs xs)(k:List Key){y:V}{u:Value}(ry:RelV y u):
  KT H (kvs.map λkv=>if kv.1=k then(kv.1,y) else kv) (xs.map (putAt k u)):=by
 induction r with
 |nil=>exact .nil
 | @cons p q ps qs h t ih=>
  rw[map_cons,map_cons];refine .cons ?_ ih;obtain⟨h1,h2,h3⟩:=h;unfold putAt;by_cases e:p.1=k
  ·rw[if_pos e,if_pos (h1.symm.trans e)];exact⟨h1,h2,ry⟩
  ·rw[if_neg e,if_neg (λz=>e (h1.trans z))];exact⟨h1,h2,h3⟩
theorem KT.put{H:Hp}{kvs:List (List Key×V)}{xs:List (List Key×Addr×Value)}(r:KT H kvs xs)(k:List Key){b:Addr}{y:V}{u:Value}(hb:H b=some (.tup (k.map kV)))(ry:RelV y u):
  KT H (putK kvs k y) (storedH xs k b u):=by
 have e:(kvs.any λkv=>decide (kv.1=k))=(atKey xs k).isSome:=by
  rw[gn,(r.val k).gZ,isSome_map]
 unfold putK storedH;rw[e];by_cases q:(atKey xs k).isSome=true
 ·rw[if_pos q,if_pos q];exact r.FD k ry
 ·rw[if_neg q,if_neg q];exact Paired.snoc r ⟨rfl,hb,ry⟩
theorem KT.keeps{H H':Hp}{kvs:List (List Key×V)}{xs:List (List Key×Addr×Value)}(r:KT H kvs xs)(ht:∀b ys,H b=some (.tup ys)->H' b=some (.tup ys)):KT H' kvs xs:=
 Paired.FQ r λ_ _ z=>⟨z.1,ht _ _ z.2.1,z.2.2⟩
section
variable {P:Program}{w:World}{H:Hp}{h:Heap}{a:Addr}
theorem DV{u:HO}(ok:gz P w H h)(e:Rd H a u):cZ P w H h a u:=e.ok ok
theorem oo{kvs:List (Key×V)}(ok:gz P w H h)(e:Rd H a (.dK kvs)):kvs.length<=sizeLine/\(a == sysModules)=false/\∃vs,KV kvs vs/\h.DictOf (cJ P w) a vs:=
 show cZ P w H h a (.dK kvs) from DV ok e
theorem D4{kvs:List (Key×V)}(ok:gz P w H h)(e:H a=some (.dK kvs)):kvs.length<=sizeLine/\(a == sysModules)=false/\∃vs,KV kvs vs/\h.DictOf (cJ P w) a vs:=oo ok (.inl e)
theorem mL{ks:List Key}(ok:gz P w H h)(e:H a=some (.tup (ks.map kV))):(tupleKind (cJ P w)).is h ks a:=by
 obtain⟨_,its,r,o,h1,h2,n,h3⟩:=(show cZ P w H h a (.tup (ks.map kV)) from ok a _ e);exact⟨o,its.toArray,n,h1,h2,h3,by simpa using qm r⟩
theorem pA{kvs:List (List Key×V)}(ok:gz P w H h)(e:Rd H a (.dT kvs)):kvs.length<=sizeLine/\(a == sysModules)=false/\
  ∃xs,KT H kvs xs/\h.DictOfH (tupleKind (cJ P w)) a xs:=by
 obtain⟨z,y,xs,r,o,es,ep,h1,h2,h3,h4,h5⟩:=(show cZ P w H h a (.dT kvs) from DV ok e);refine⟨z,y,xs,r,o,es,ep,h1,h2,h3,h4,λx hx=>?_,h5⟩;have all:∀{l:List (List Key×V)}{m:List (List Key×Addr×Value)},KT H l m->∀x∈m,(tupleKind (cJ P w)).is h x.1 x.2.1:=by
  intro l m q
  induction q with
  |nil=>intro x hx;exact nomatch hx
  | @cons p q ps qs hq t ih=>
   intro x hx;rcases mem_cons.mp hx with e|hx
   ·subst e
    exact mL ok (by rw[<-hq.1];exact hq.2.1)
   ·exact ih x hx
 exact all r x hx
theorem Iu{kvs:List (List Key×V)}(ok:gz P w H h)(e:H a=some (.dT kvs)):kvs.length<=sizeLine/\(a == sysModules)=false/\
  ∃xs,KT H kvs xs/\h.DictOfH (tupleKind (cJ P w)) a xs:=pA ok (.inl e)
end
def eX(H:Hp)(a:Addr)(y:V)(r:Option V):Prop:=
 (∃kvs k,Rd H a (.dK kvs)/\y=kV k/\r=dB kvs k)\/∃kvs k b,Rd H a (.dT kvs)/\y=.ref b/\H b=some (.tup (k.map kV))/\r=dB kvs k
def lT(H:Hp)(a:Addr)(y v:V)(H':Hp):Prop:=
 (∃kvs k,H a=some (.dK kvs)/\y=kV k/\kvs.length < sizeLine/\H'=upd H a (.dK (putK kvs k v)))\/
 ∃kvs k b,H a=some (.dT kvs)/\y=.ref b/\H b=some (.tup (k.map kV))/\kvs.length < sizeLine/\H'=upd H a (.dT (putK kvs k v))
theorem eX.k{H:Hp}{a:Addr}{kvs:List (Key×V)}{k:Key}(e:H a=some (.dK kvs)):eX H a (kV k) (dB kvs k):=.inl ⟨kvs,k,.inl e,rfl,rfl⟩
theorem lT.k{H:Hp}{a:Addr}{kvs:List (Key×V)}{k:Key}{v:V}(e:H a=some (.dK kvs))(hl:kvs.length < sizeLine):lT H a (kV k) v (upd H a (.dK (putK kvs k v))):=.inl ⟨kvs,k,e,rfl,hl,rfl⟩
section
variable {X:Cx}{pins:List (Addr×Obj)}{σ:St}{H:Hp}{s:Shared}{a:Addr}{y v:V}{u r:Value}{o:Option V}{A:Around}{E:Value->Shared->Prop}
theorem yY{Q:Value->Shared->Prop}(hu:A.units+1 < cLine)(I:Inv X pins σ H s)(g:eX H a y (some v))(ry:RelV y u)(h:∀w' s',Inv X pins σ H s'->RelV v w'->Q w' s'):
  wpAny (model X.prog X.w) A (getItem (.ref a) u) Q E s:=by
 rcases g with ⟨kvs,k,e,ey,l⟩|⟨kvs,k,b,e,ey,eb,l⟩
 ·subst ey
  obtain⟨z,hd,vs,rel,dd⟩:=oo I.hok e;obtain⟨w',hw,rw'⟩:=iS.some_of (v:=v) (o:=valueAt vs k) (by rw[l];exact rel.val k);exact wpAny_getItem_of (qe ry) dd.mapOf hw (h w' _ (I.tok _) rw')
 ·subst ey
  cases (show u=Value.ref b from ry);obtain⟨z,hd,xs,rel,dd⟩:=pA I.hok e;obtain⟨w',hw,rw'⟩:=iS.some_of (v:=v) (o:=(atKey xs k).map (·.2)) (by rw[l];exact rel.val k);obtain⟨p,hp,hp2⟩:=map_eq_some_iff.mp hw;refine wpAny_getItem_heap (tupleKind_room_in1 hu) (mL I.hok eb) dd hp ?_;rw[hp2];exact h w' _ (I.tok _) rw'
theorem J2{Q:Value->Shared->Prop}(hu:A.units+1 < cLine)(I:Inv X pins σ H s)(g:eX H a y o)(ry:RelV y u)(h:∀s',Inv X pins σ H s'->Q (.bool o.isSome) s'):
  wpAny (model X.prog X.w) A (compareOp .In u (.ref a)) Q E s:=by
 rcases g with ⟨kvs,k,e,ey,l⟩|⟨kvs,k,b,e,ey,eb,l⟩
 ·subst ey
  obtain⟨z,hd,vs,rel,dd⟩:=oo I.hok e;refine wpAny_in_of (qe ry) hd dd.mapOf ?_;rw[<-(rel.val k).gZ,<-l];exact h _ (I.tok _)
 ·subst ey
  cases (show u=Value.ref b from ry);obtain⟨z,hd,xs,rel,dd⟩:=pA I.hok e;refine wpAny_in_heap (tupleKind_room_in1 hu) (mL I.hok eb) hd dd ?_;have q:=(rel.val k).gZ;rw[isSome_map]at q;rw[<-q,<-l];exact h _ (I.tok _)
theorem BE{Q:Value->Shared->Prop}(hu:A.units+1 < cLine)(I:Inv X pins σ H s)(g:eX H a y o)(ry:RelV y u)(h:∀s',Inv X pins σ H s'->Q (.bool (!o.isSome)) s'):
  wpAny (model X.prog X.w) A (compareOp .NotIn u (.ref a)) Q E s:=by
 rcases g with ⟨kvs,k,e,ey,l⟩|⟨kvs,k,b,e,ey,eb,l⟩
 ·subst ey
  obtain⟨z,hd,vs,rel,dd⟩:=oo I.hok e;refine wpAny_notIn_of (qe ry) hd dd.mapOf ?_;rw[<-(rel.val k).gZ,<-l];exact h _ (I.tok _)
 ·subst ey
  cases (show u=Value.ref b from ry);obtain⟨z,hd,xs,rel,dd⟩:=pA I.hok e;refine wpAny_notIn_heap (tupleKind_room_in1 hu) (mL I.hok eb) hd dd ?_;have q:=(rel.val k).gZ;rw[isSome_map]at q;rw[<-q,<-l];exact h _ (I.tok _)
theorem xB{h':Heap}{t':Nat}{ob:HO}(I:Inv X pins σ H s)(mu:Hd (H a))(hs:Heap.SameBut a s.heap h')(he:∃q,h'.get? a=some q)(new:cZ X.prog X.w (upd H a ob) h' a ob):
  Inv X pins σ (upd H a ob) { s with heap:=h',toks:=t' }:=
 I.write (x:=a) (e:=a) mu (.inl rfl) (λb q hb z=>(hs.2 b hb).trans z) he new
theorem Fz{P:Program}{w:World}{H':Hp}{h':Heap}{kvs:List (Key×V)}{vs:List (Key×Value)}(z:kvs.length<=sizeLine)(hd:(a == sysModules)=false)(rel:KV kvs vs)(dd:h'.DictOf (cJ P w) a vs):
  cZ P w H' h' a (.dK kvs):=⟨z,hd,vs,rel,dd⟩
theorem xP{H':Hp}{Q:Unit->Shared->Prop}(hu:A.units+1 < cLine)(I:Inv X pins σ H s)(g:lT H a y v H')(ry:RelV y u)(rv:RelV v r)(h:∀s',Inv X pins σ H' s'->Q () s'):
  wpAny (model X.prog X.w) A (setItem (.ref a) u r) Q E s:=by
 rcases g with ⟨kvs,k,e,ey,l,eH⟩|⟨kvs,k,b,e,ey,eb,l,eH⟩
 ·subst ey eH
  obtain⟨z,hd,vs,rel,dd⟩:=D4 I.hok e;have hz:vs.length<=sizeLine:=by rw[<-rel.length];exact z
  have hl:(putK kvs k v).length<=sizeLine:=by have:=gA kvs k v;omega
  refine wpAny_setItem_pairs (hsz:=hz) (qe ry) dd λh' dd' hs=>h _ ?_;have he:∃q,h'.get? a=some q:=let ⟨q,_,_,hq,_⟩:=dd';⟨q,hq⟩;exact xB I (by rw[e];exact True.intro) hs he (Fz hl hd (rel.put k rv) dd')
 ·subst ey eH
  cases (show u=Value.ref b from ry);obtain⟨z,hd,xs,rel,dd⟩:=Iu I.hok e;have hz:xs.length<=sizeLine:=by rw[<-Paired.length rel];exact z
  have hl:(putK kvs k v).length<=sizeLine:=by have:=gA kvs k v;omega
  refine wpAny_setItem_heap (hsz:=hz) (tupleKind_room_in1 hu) (mL I.hok eb) dd λh' dd' hs=>h _ ?_;obtain⟨q,es,ep,hq,h2,h3,h4,_,h5⟩:=dd';refine xB I (by rw[e];exact True.intro) hs ⟨q,hq⟩ ⟨hl,hd,_,(rel.put k eb rv).keeps λc ys ec=>?_,q,es,ep,hq,h2,h3,h4,h5⟩;rw[cD (pF ec e (λz=>nomatch z))];exact ec
end
section
variable {X:Cx}{pins:List (Addr×Obj)}{σ:St}{H:Hp}{s:Shared}{a:Addr}{kvs:List (Key×V)}{k:Key}{u:Value}{A:Around}{E:Value->Shared->Prop}
end
def Hx(i:Expr):Prop:=∀ov iv,subscripted i false ov iv=operate [ov,iv] (getItem ov iv)
theorem Du{prog:Program}{w:World}{A:Around}{E:Value->Shared->Prop}{s:Shared}{env:Env}{value slice:Expr}{pos:Pos}{T id:String}{Q:Value->Shared->Prop}
  (hl:typeLookup (.type T) "__getitem__" =pure (some (.builtin id))) (hs:Hx slice)
  (h:wpAny (model prog w) A (eval value env) (λo s₁=>wpAny (model prog w) A (eval slice env) (λi s₂=>s₂.TypeIs o T/\wpAny (model prog w) A (getItem o i) Q E s₂) E s₁) E s):
  wpAny (model prog w) A (eval (.Subscript value slice pos) env) Q E s:=by
 refine Subscript_ (wpAny_mono h (λo s₁ h₁=>wpAny_mono h₁ (λi s₂ h₂=>?_) λ_ _ x=>x) λ_ _ x=>x);obtain⟨hT,h₂⟩:=h₂;unfold subscriptTail;refine wpAny_bind ?_;rw[getitemInPython_of_ne hT.not_modules];refine wpAny_bind (wpAny_specialOf hT hl ?_);have fin:wpAny (model prog w) A (subscripted slice false o i) (λr s₃=>wpAny (model prog w) A (letTemporaryGo value o r >>= λ_=>pure r) Q E s₃) E s₂:=by
  rw[hs o i];exact wpAny_operating (wpAny_mono h₂ (λr s₃ h₃=>wpAny_bind (wpAny_letTemporaryGo (wpAny_pure h₃))) λ_ _ x=>x)
 first
  |exact wpAny_pure (wpAny_bind fin)
  |exact wpAny_bind (wpAny_pure (wpAny_bind fin))
  |exact wpAny_bind fin
theorem sR{X:Cx}{pins:List (Addr×Obj)}{σ:St}{H:Hp}{s:Shared}{a:Addr}{y:V}{o:Option V}(I:Inv X pins σ H s)(g:eX H a y o):s.TypeIs (.ref a) "dict" :=by
 rcases g with ⟨kvs,k,e,_,_⟩|⟨kvs,k,b,e,_,_,_⟩
 ·obtain⟨_,_,vs,_,dd⟩:=oo I.hok e
  exact dd.typeIs
 ·obtain⟨_,_,xs,_,dd⟩:=pA I.hok e
  exact dd.typeIs
def Dw(td ty:TE):TE:=λσ H Q=>td σ H λx H1=>ty σ H1 λy H2=>∃a v,x=.ref a/\eX H2 a y (some v)/\Q v H2
def CA(ty td:TE):TE:=λσ H Q=>ty σ H λy H1=>td σ H1 λx H2=>∃a o,x=.ref a/\eX H2 a y o/\Q (.bl o.isSome) H2
def nu(ty td:TE):TE:=λσ H Q=>ty σ H λy H1=>td σ H1 λx H2=>∃a o,x=.ref a/\eX H2 a y o/\Q (.bl (!o.isSome)) H2
def DU(td ty tv:TE):TS:=λD σ H=>tv σ H λv H1=>td σ H1 λx H2=>ty σ H2 λy H3=>∃a H4,x=.ref a/\lT H3 a y v H4/\D.nx σ H4
def Lx(td ty tv:TE)(rd:V->V->Hp->VK->Prop):TS:=λD σ H=>td σ H λx H1=>ty σ H1 λy H2=>∃a v,x=.ref a/\eX H2 a y (some v)/\
 tv σ H2 λy2 H3=>rd v y2 H3 λz H4=>∃H5,lT H4 a y z H5/\D.nx σ H5
def LD(td ty:TE):TS:=λD σ H=>td σ H λx H1=>ty σ H1 λy H2=>∃a kvs k,x=.ref a/\H2 a=some (.dK kvs)/\y=kV k/\(dB kvs k).isSome=true/\D.nx σ (upd H2 a (.dK (An kvs k)))
section
variable {X:Cx}{o i e value:Expr}{pos pos' tpos:Pos}{td ty tv:TE}
theorem Ce(hu:X.A.units+1 < cLine)(ho:PE X o td)(hi:PE X i ty)(hs:Hx i):PE X (.Subscript o i pos) (Dw td ty):=by
 intro pins s σ H Q I h;refine Du PySem.F.slot_dict_getitem.lookup hs (cY (ho pins s σ H _ I h) λu s1 ⟨x,H1,I1,rx,q1⟩=>cY (hi pins s1 σ H1 _ I1 q1) λiv s2 hpat=>?_);obtain⟨y,H2,I2,ry,a,v,ex,g,q2⟩:=hpat;subst ex;obtain rfl:u=Value.ref a:=rx;exact⟨sR I2 g,yY hu I2 g ry λw' s3 I3 rw'=>⟨v,H2,I3,rw',q2⟩⟩
theorem Bm(hu:X.A.units+1 < cLine)(hi:PE X i ty)(ho:PE X o td):PC X .In i o (CA ty td):=by
 intro pins s σ H Q I h;refine cY (hi pins s σ H _ I h) λiv s1 ⟨y,H1,I1,ry,q1⟩=>cY (ho pins s1 σ H1 _ I1 q1) λu s2 hpat=>?_;obtain⟨x,H2,I2,rx,a,ov,ex,g,q2⟩:=hpat;subst ex;obtain rfl:u=Value.ref a:=rx;exact J2 hu I2 g ry λs3 I3=>⟨.bl ov.isSome,H2,I3,rfl,q2⟩
theorem qz(hu:X.A.units+1 < cLine)(hi:PE X i ty)(ho:PE X o td):PC X .NotIn i o (nu ty td):=by
 intro pins s σ H Q I h;refine cY (hi pins s σ H _ I h) λiv s1 ⟨y,H1,I1,ry,q1⟩=>cY (ho pins s1 σ H1 _ I1 q1) λu s2 hpat=>?_;obtain⟨x,H2,I2,rx,a,ov,ex,g,q2⟩:=hpat;subst ex;obtain rfl:u=Value.ref a:=rx;exact BE hu I2 g ry λs3 I3=>⟨.bl (!ov.isSome),H2,I3,rfl,q2⟩
theorem CU(hu:X.A.units+1 < cLine)(ho:PE X o td)(hi:PE X i ty)(hv:PE X value tv)(hs:swapsWith value (some (.Subscript o i pos')) pos.line X.env=pure false):
  PS X (.Assign [.Subscript o i pos'] value pos) (DU td ty tv):=by
 intro pins s σ H D I h;refine wpAny_Assign_Subscript (cY (hv pins s σ H _ I h) λr s1 ⟨v,H1,I1,rv,q1⟩=>cY (ho pins s1 σ H1 _ I1 q1) λu s2 ⟨x,H2,I2,rx,q2⟩=>cY (hi pins s2 σ H2 _ I2 q2) λiv s3 hpat=>?_) hs;obtain⟨y,H3,I3,ry,a,H4,ex,g,q3⟩:=hpat;subst ex;obtain rfl:u=Value.ref a:=rx;exact xP hu I3 g ry rv λs4 I4=>⟨σ,H4,I4,q3⟩
end
def K4:TE:=λ_ H Q=>∀p,H p=none->Q (.ref p) (upd H p (.dK []))
def J7:TE:=λ_ H Q=>∀p,H p=none->Q (.ref p) (upd H p (.dT []))
section
variable {X:Cx}{pos:Pos}
end
def u9:List (TE×TE)->St->Hp->(List (V×V)->Hp->Prop)->Prop
 |[],_,H,Q=>Q [] H
 | (tk,tv)::r,σ,H,Q=>tk σ H λx H1=>tv σ H1 λy H2=>u9 r σ H2 λps H3=>Q ((x,y)::ps) H3
abbrev VV:List (V×V)->List (Value×Value)->Prop:=Paired λp q=>RelV p.1 q.1/\RelV p.2 q.2
def M7(X:Cx)(pos:Pos)(keys:List (Option Expr))(values:List Expr)(trs:List (TE×TE)):Prop:=
 ∀(pins:List (Addr×Obj)) (s:Shared) (σ:St) (H:Hp) (Q:List (V×V)->Hp->Prop),Inv X pins σ H s->u9 trs σ H Q->
  wpAny (model X.prog X.w) X.A (evalPairs (pairTrees keys values X.env pos)) (λvs s'=>∃ps H',Inv X pins σ H' s'/\VV ps vs/\Q ps H') X.xe s
def zH(kvs more:List (Key×V)):List (Key×V):=more.foldl (λacc kv=>putK acc kv.1 kv.2) kvs
def LU(trs:List (TE×TE)):TE:=λσ H Q=>∀p,H p=none->u9 trs σ (upd H p (.dK [])) λps H2=>H2 p=some (.dK [])/\∃kvs:List (Key×V),ps=kvs.map (λkv=>(kV kv.1,kv.2))/\kvs.length<=15/\Q (.ref p) (upd H2 p (.dK (zH [] kvs)))
structure M1(X:Cx)(o:Expr)(m:Str)(apos:Pos)(e:Expr)(cpos:Pos):Prop where
 base:attributeBase o m X.env (eval o X.env)=eval o X.env
 JH:((backTo cpos (starEach [e] X.env)).all (λx=> !x.1) && (backToKw cpos (keywordEach [] X.env)).all (λx=>x.1.isSome)
  && decide (([e]:List Expr).length+([]:List Keyword).length+(if([]:List Keyword).isEmpty then 0 else 1) < 30))=true
 line:(apos.endLine == cpos.line)=true
 trees:backTo cpos (starEach [e] X.env)=[(false,eval e X.env)]
structure M2(X:Cx)(o:Expr)(m:Str)(apos:Pos)(e f:Expr)(cpos:Pos):Prop where
 base:attributeBase o m X.env (eval o X.env)=eval o X.env
 JH:((backTo cpos (starEach [e,f] X.env)).all (λx=> !x.1) && (backToKw cpos (keywordEach [] X.env)).all (λx=>x.1.isSome)
  && decide (([e,f]:List Expr).length+([]:List Keyword).length+(if([]:List Keyword).isEmpty then 0 else 1) < 30))=true
 line:(apos.endLine == cpos.line)=true
 trees:backTo cpos (starEach [e,f] X.env)=[(false,eval e X.env),(false,eval f X.env)]
def IS(H:Hp)(a:Addr):Prop:=(∃kvs,Rd H a (.dK kvs))\/∃kvs,Rd H a (.dT kvs)
theorem F8{X:Cx}{pins:List (Addr×Obj)}{σ:St}{H:Hp}{s:Shared}{a:Addr}(I:Inv X pins σ H s)(d:IS H a):
  s.TypeIs (.ref a) "dict" /\(∀b,Value.ref a=.ref b->∃ob,s.heap.get? b=some ob/\ob.dict=none)/\(a == sysModules)=false:=by
 rcases d with ⟨kvs,e⟩|⟨kvs,e⟩
 ·obtain⟨_,hd,vs,_,dd⟩:=oo I.hok e
  refine⟨dd.typeIs,λb q=>?_,hd⟩;cases q;obtain⟨ob,_,_,h1,h2,_⟩:=dd;exact⟨ob,h1,h2.2.1⟩
 ·obtain⟨_,hd,xs,_,dd⟩:=pA I.hok e
  refine⟨dd.typeIs,λb q=>?_,hd⟩;cases q;obtain⟨ob,_,_,h1,h2,_⟩:=dd;exact⟨ob,h1,h2.2.1⟩
section
variable {X:Cx}{pins:List (Addr×Obj)}{σ:St}{H:Hp}{s:Shared}{a:Addr}{y d:V}{u r:Value}{o:Option V}{A:Around}{E:Value->Shared->Prop}
theorem Ep{Q:Value->Shared->Prop}(hu:A.units+1 < cLine)(I:Inv X pins σ H s)(g:eX H a y o)(ry:RelV y u)(rd:RelV d r)(h:∀w' s',Inv X pins σ H s'->RelV (o.getD d) w'->Q w' s'):
  wpAny (model X.prog X.w) A (call (.builtin "dict.get") [.ref a,u,r]) Q E s:=by
 rcases g with ⟨kvs,k,e,ey,l⟩|⟨kvs,k,b,e,ey,eb,l⟩
 ·subst ey
  obtain⟨z,hd,vs,rel,dd⟩:=oo I.hok e;refine call_meetsIn slot_dict_get dd.typeIs PySem.F.entry_dict_get (PySem.F.args_dict_get_3 _ _ _) (meets_dict_get_default (cJ X.prog X.w) a (qe ry) hd r) ⟨_,dd.mapOf,h _ _ (I.tok _) ?_⟩;rw[l];exact(rel.val k).getD rd
 ·subst ey
  cases (show u=Value.ref b from ry);obtain⟨z,hd,xs,rel,dd⟩:=pA I.hok e;refine call_meetsIn slot_dict_get dd.typeIs PySem.F.entry_dict_get (PySem.F.args_dict_get_3 _ _ _) (meetsH_dict_get_default (tupleKind (cJ X.prog X.w)) a b hd r) ⟨tupleKind_room_in1 hu,k,xs,mL I.hok eb,dd,h _ _ (I.tok _) ?_⟩;rw[l];exact(rel.val k).getD rd
end
def Li(td ty:TE):TE:=λσ H Q=>td σ H λx H1=>∃a,x=.ref a/\IS H1 a/\ty σ H1 λy H2=>∃o,eX H2 a y o/\Q (o.getD .non) H2
def AX(td ty tx:TE):TE:=λσ H Q=>td σ H λx H1=>∃a,x=.ref a/\IS H1 a/\ty σ H1 λy H2=>tx σ H2 λz H3=>∃o,eX H3 a y o/\Q (o.getD z) H3
def Lf(td ty:TE):TE:=λσ H Q=>td σ H λx H1=>∃a,x=.ref a/\IS H1 a/\ty σ H1 λy H2=>∃kvs k v,H2 a=some (.dK kvs)/\y=kV k/\dB kvs k=some v/\Q v (upd H2 a (.dK (An kvs k)))
def Ko(td ty tx:TE):TE:=λσ H Q=>td σ H λx H1=>∃a,x=.ref a/\IS H1 a/\ty σ H1 λy H2=>tx σ H2 λz H3=>∃kvs k,H3 a=some (.dK kvs)/\y=kV k/\
 (∀v,dB kvs k=some v->Q v (upd H3 a (.dK (An kvs k))))/\(dB kvs k=none->Q z H3)
section
variable {X:Cx}{o e f:Expr}{apos cpos:Pos}{td ty tx:TE}
theorem Aq (hu:X.A.units+1 < cLine) (ho:PE X o td) (he:PE X e ty) (hf:PE X f tx) (m:M2 X o "get" apos e f cpos):PE X (.Call (.Attribute o "get" apos) [e,f] [] cpos) (AX td ty tx):=by
 intro pins s σ H Q I h;refine wpAny_Call_method m.base m.JH m.line PySem.F.plainAttrs_dict slot_dict_get PySem.F.type_dict_get (cY (ho pins s σ H _ I h) λu s1 hpat=>?_);obtain⟨x,H1,I1,rx,a,ex,d,q1⟩:=hpat;subst ex;obtain rfl:u=Value.ref a:=rx;obtain⟨t1,t2,_⟩:=F8 I1 d;refine⟨t1,t2,?_⟩;rw[m.trees];refine Calls.callWith_builtin rfl (Calls.evalArgs_plain (Calls.spliced_cons (cY (he pins s1 σ H1 _ I1 q1) λiv s2 ⟨y,H2,I2,ry,q2⟩=>
  Calls.spliced_cons (cY (hf pins s2 σ H2 _ I2 q2) λfv s3 ⟨z,H3,I3,rz,ov,g,q3⟩=>Calls.spliced_nil ?_))))
 exact Ep hu I3 g ry rz λw' s4 I4 rw'=>⟨_,H3,I4,rw',q3⟩
end
section
variable {X:Cx}{pins:List (Addr×Obj)}{σ:St}{H:Hp}{s:Shared}{a:Addr}{kvs:List (Key×V)}{A:Around}{E:Value->Shared->Prop}
end
section
variable {X:Cx}{pins:List (Addr×Obj)}{σ:St}{H:Hp}{s:Shared}{a:Addr}{y:V}{u:Value}{A:Around}{E:Value->Shared->Prop}
end
end L2
namespace L2
open PySem PySem.Spec PyProof.Rows
theorem wq:bootBuiltins "any" =some (.builtin "any"):=by decide+kernel
section
variable {X:Cx}{y m:Str}{N':List Str}{scope:Scope}{cl:List (Str×Addr)}{fp:List Addr}{s3:Shared}{H3:Hp}{C D:Addr}{sp:Sp}
theorem yC.lg(B:yC X y sp)(h:scope.names.lookup y=some .globalImplicit):Fg (cV X N' scope cl fp s3 H3 C) y sp:=⟨B.ex,eP (by decide) h,B.db⟩
theorem GH.lg(B:GH X y)(h:scope.names.lookup y=some .globalImplicit):Bt (cV X N' scope cl fp s3 H3 C) y:=⟨eP (by decide) h,B.nm,B.hn,B.db⟩
end
def uK(zs xs:List V):Bool:=(List.range (min zs.length xs.length)).all (λi=>sH (zs.getD i .non) (xs.getD i .non)) && zs.length == xs.length
def Gx(H:Hp)(xs:List V)(v:V):Bool:=match v with
 |.ref c=>match H c with
  |some (.tup zs)=>uK zs xs
  |_=>false
 |_=>false
theorem zg{x:V}(f:cW x=true):sH x x=true:=by
 cases x with
 |non=>rfl
 |bl b=>exact beq_self_eq_true b
 |int i=>exact beq_self_eq_true i
 |str z=>exact beq_self_eq_true z
 |_=>exact absurd (show false=true from f) Bool.false_ne_true
theorem yk{xs:List V}(f:xs.all cW=true)(i:Nat):cW (xs.getD i .non)=true:=by
 rw[getD_eq_getElem?_getD];cases h:xs[i]? with
 |none=>rfl
 |some v=>exact all_eq_true.mp f v (mem_of_getElem? h)
theorem zY{xs:List V}(f:xs.all cW=true):uK xs xs=true:=by
 unfold uK;rw[beq_self_eq_true,Bool.and_true,all_eq_true];exact λi _=>zg (yk f i)
inductive IC(K:PySem.W.Frag)(x y:V)(H:Hp)(Q:VK):Prop
 |mk(a b:Addr)(xs ys:List V)(hx:x=.ref a)(hy:y=.ref b)(s:H a=some (.tup xs))(t:cH K H b ys)(f:xs.all cW=true)(g:∀v∈ys,∃c zs,v=.ref c/\H c=some (.tup zs)/\zs.all cW=true)(q:Q (.bl (ys.any (Gx H xs))) H)
def Dp(H:Hp)(xs:List V)(u:Value):Bool:=match u with
 |.ref c=>Gx H xs (.ref c)
 |_=>false
theorem sF{H:Hp}{xs:List V}:∀{ys:List V}{us:List Value},Vals ys us->(∀v∈ys,∃c zs,v=.ref c/\H c=some (.tup zs)/\zs.all cW=true)->us.any (Dp H xs)=ys.any (Gx H xs)
 |_,_,.nil,_=>rfl
 |y::_,u::_,.cons r t,g=>by
  obtain⟨c,zs,rfl,_⟩:=g y (mem_cons_self ..);cases r;rw[any_cons,any_cons,sF t λv hv=>g v (mem_cons_of_mem _ hv)];rfl
theorem oP:∀{ys:List V}{us:List Value}{u:Value},Vals ys us->u∈us->∃y∈ys,RelV y u
 |_,_,_,.nil,h=>by cases h
 |y::_,_::_,u,.cons r t,h=>by
  rcases mem_cons.mp h with rfl|h
  ·exact⟨y,mem_cons_self ..,r⟩
  ·obtain⟨z,hz,q⟩:=oP t h
   exact⟨z,mem_cons_of_mem _ hz,q⟩
theorem pZ{X:Cx}{pins:List (Addr×Obj)}{σ:St}{H:Hp}{s:Shared}{A:Around}{c a:Addr}{zs xs:List V}(I:Inv X pins σ H s)(hu:A.units < cLine)(hc:H c=some (.tup zs))(ha:H a=some (.tup xs))(fz:zs.all cW=true)(fx:xs.all cW=true):SeqAt.EqAt A s (.ref c) (.ref a) (uK zs xs):=by
 by_cases e:c=a
 ·subst e
  rw[hc]at ha;cases ha;rw[zY fx];exact SeqAt.EqAt.same _
 ·obtain⟨its,r,pl,_⟩:=I.tuple (cU.of (K:=X.K) hc)
  obtain⟨its2,r2,pl2,_⟩:=I.tuple (cU.of (K:=X.K) ha);have m1:=r.length;have m2:=r2.length;have:=SeqAt.RcAt.tuples (A:=A) (e:=λi=>sH (zs.getD i .non) (xs.getD i .non)) pl pl2 hu (λj h1 h2=>by
   simp only[size_toArray]at h1 h2;obtain⟨x1,e1,r1⟩:=da r h1;obtain⟨x2,e2,r2'⟩:=da r2 h2;simp only[getElem_toArray];rw[getD_eq_getElem?_getD,getD_eq_getElem?_getD,e1,e2];exact rM r1 r2' (all_eq_true.mp fz _ (mem_of_getElem? e1)) (all_eq_true.mp fx _ (mem_of_getElem? e2)))
  refine SeqAt.EqAt.of_refs e ?_;simp only[size_toArray]at this;rw[<-m1,<-m2]at this;exact this
theorem jY{X:Cx}(hu:X.A.units+1 < cLine):iq X (compareOp .In) (λx y H Q=>IC X.K x y H Q):=by
 intro pins s σ H x y v u Q I rx ry h;obtain⟨a,b,xs,ys,rfl,rfl,ha,hb,fx,g,q⟩:=h;cases rx;cases ry;obtain⟨its,r,pl,_⟩:=I.list hb;refine SeqAt.in_listAt (Dp H xs) pl.isList (λw hw=>?_) ⟨.bl _,H,I,rfl,?_⟩
 ·obtain⟨z,hz,rz⟩:=oP r (by simpa using hw)
  obtain⟨c,zs,rfl,hc,fz⟩:=g z hz;cases rz;have e:Dp H xs (.ref c)=uK zs xs:=by
   show(match H c with|some (.tup zs)=>uK zs xs|_=>false)=_;rw[hc]
  rw[e];exact pZ I hu hc ha fz fx
 ·rw[show its.toArray.any (Dp H xs)=its.any (Dp H xs) by simp,sF r g]
  exact q
end L2
namespace J
open PySem PySem.Spec PyProof.Rows
open L2 (Cx V Hp St VK TE TT TA TS TG o7 TI TO cH cU)
section
variable {X:Cx}{N':List Str}{scope:Scope}{cl:List (Str×Addr)}{fp:List Addr}{s3:Shared}{H3:Hp}{C:Addr}{o i e value:Expr}{es:List Expr}{pos pos':Pos}{td ty tv:TE}
theorem lh:JX (L2.cV X N' scope cl fp s3 H3 C) (L2.BS X.K):=⟨L2.wF⟩
theorem _root_.bf:JX (L2.cV X N' scope cl fp s3 H3 C) (L2.C1 X.K):=⟨L2.zS⟩
theorem pU:JF (L2.cV X N' scope cl fp s3 H3 C) (.builtin "len") (λxs H Q=>L2.D7 X.K xs H Q):=⟨L2.kF⟩
theorem nO{k n:Nat}{u:o7}(hc:X.calm=true)(h:GV (L2.cV X N' scope cl fp s3 H3 C) es u)(hn:(assignEach es (L2.cV X N' scope cl fp s3 H3 C).env).length=n:=by rfl)(hst:(assignEach es (L2.cV X N' scope cl fp s3 H3 C).env).findIdx? (·.1)=none:=by rfl):
  JG (L2.cV X N' scope cl fp s3 H3 C) (.Tuple es k pos) (L2.EX X.K n u):=⟨L2.AJ (X:=L2.cV X N' scope cl fp s3 H3 C) hc h.out hn hst⟩
theorem jY(hu:X.A.units+1 < cLine):JC X .In (λx y H Q=>L2.IC X.K x y H Q):=⟨L2.jY hu⟩
theorem _root_.bP(hu:X.A.units+1 < cLine)(ho:JE X o td)(hi:JE X i ty)(hs:dY i):JE X (.Subscript o i pos) (L2.Dw td ty):=⟨L2.Ce hu ho.out hi.out (λov iv=>hs.out ov iv)⟩
theorem Fj(hu:X.A.units+1 < cLine)(hi:JE X i ty)(ho:JE X o td)(hm:behindInMarks .In o=false:=by rfl):JT X (.Compare i [.In] [o] pos) (L2.tB (L2.CA ty td)):=⟨L2.Bp (L2.Bm hu hi.out ho.out) hm⟩
theorem qp(hu:X.A.units+1 < cLine)(hi:JE X i ty)(ho:JE X o td)(hm:behindInMarks .NotIn o=false:=by rfl):JT X (.Compare i [.NotIn] [o] pos) (L2.tB (L2.nu ty td)):=⟨L2.Bp (L2.qz hu hi.out ho.out) hm⟩
theorem _root_.b7(hu:X.A.units+1 < cLine)(ho:JE X o td)(hi:JE X i ty)(hv:JE X value tv)(h:L2.jN value=false:=by rfl):JS X (.Assign [.Subscript o i pos'] value pos) (L2.DU td ty tv):=⟨L2.CU hu ho.out hi.out hv.out (L2.jc h)⟩
end
end J
namespace L2
open PySem PySem.Spec PyProof.Rows
section
variable {X:Cx}
inductive DG(x y:V)(H:Hp)(Q:VK):Prop
 |mk(a b:Addr)(xs ys:List V)(hx:x=.ref a)(hy:y=.ref b)(s:H a=some (.tup xs))(t:H b=some (.tup ys))(f:xs.all cW=true)(g:ys.all cW=true)(q:Q (.bl (uK xs ys)) H)
theorem nE(hu:X.A.units+1 < cLine):iq X (compareOp .Eq) (λx y H Q=>DG x y H Q):=by
 intro pins s σ H x y v u Q I rx ry h;obtain⟨a,b,xs,ys,rfl,rfl,ha,hb,fx,fy,q⟩:=h;cases rx;cases ry;obtain⟨its,r,pl,_⟩:=I.tuple (cU.of (K:=X.K) ha);obtain⟨its2,r2,pl2,_⟩:=I.tuple (cU.of (K:=X.K) hb);have m1:=r.length;have m2:=r2.length;refine SeqAt.eq_tupleAt (e:=λi=>sH (xs.getD i .non) (ys.getD i .non)) pl pl2 (by omega) (λj h1 h2=>?_) ?_
 ·simp only[size_toArray]at h1 h2
  obtain⟨x1,e1,r1⟩:=da r h1;obtain⟨x2,e2,r2'⟩:=da r2 h2;simp only[getElem_toArray];rw[getD_eq_getElem?_getD,getD_eq_getElem?_getD,e1,e2];exact rM r1 r2' (all_eq_true.mp fx _ (mem_of_getElem? e1)) (all_eq_true.mp fy _ (mem_of_getElem? e2))
 ·simp only[size_toArray]
  rw[<-m1,<-m2];exact⟨.bl _,H,I,rfl,q⟩
inductive D3(x y:V)(H:Hp)(Q:VK):Prop
 |mk(z:Str)(n:Int)(hx:x=.str z)(hy:y=.int n)(n01:n=0\/n=1)(q:Q (.str (Txt.mul z n)) H)
theorem su:iq X (binaryOp .Mult) (λx y H Q=>D3 x y H Q):=by
 intro pins s σ H x y v u Q I rx ry h;obtain⟨z,n,rfl,rfl,n01,q⟩:=h;obtain⟨t,rfl⟩:=rx;obtain⟨t',rfl⟩:=ry;refine SB.mul ?_ λtk k=>⟨.str _,H,I.tok k,⟨_,rfl⟩,q⟩;rcases n01 with rfl|rfl
 ·exact⟨by decide,λh=>absurd (by decide) h,λh=>absurd (by decide) h⟩
 ·exact⟨by decide,λ_ h=>absurd h (by simp),λ_ h=>absurd h (by simp)⟩
end
end L2
namespace J
open PySem PySem.Spec PyProof.Rows
open L2 (Cx V Hp St VK TE TT TA TS TG o7 TI TO)
section
variable {X:Cx}{o e f c:Expr}{body:List Stmt}{apos cpos pos:Pos}{td ty tx:TE}{tc:TT}{tb:TS}
theorem nE(hu:X.A.units+1 < cLine):JC X .Eq (λx y H Q=>L2.DG x y H Q):=⟨L2.nE hu⟩
theorem su:JB X .Mult (λx y H Q=>L2.D3 x y H Q):=⟨L2.su⟩
theorem Ji{env:Env}(h1:L2.notStar e=true)(h2:L2.notStar f=true):backTo cpos (starEach [e,f] env)=[(false,eval e env),(false,eval f env)]:=by
 rw[L2.cO h1,L2.cO h2];rfl
theorem Le(hp:PassesOwn (model X.prog X.w) X.A X.env X.xe)(hc:JT X c tc)(hb:sJ X body tb):JS X (.While c body [] pos) (L2.By tc tb):=⟨L2.Bh hp hc.out hb.out⟩
end
end J
namespace L2
open PySem PySem.Spec PyProof.Rows
section
variable {X:Cx}
theorem mq:∀{us:List Value}{zs:List Str},StrsAre us zs->Vals (zs.map V.str) us
 |_,_,.nil=>.nil
 |_,_,.cons _ _ r=>.cons ⟨_,rfl⟩ (mq r)
inductive Ii(K:PySem.W.Frag)(xs:List V)(H:Hp)(Q:VK):Prop
 |mk(p:Addr)(zs:List Str)(e:xs=[.ref p])(s:cH K H p (zs.map V.str))(l:zs.length < 64)(q:∀l zs',H l=none->zs'.Perm zs->sortedS zs'=true->Q (.ref l) (upd H l (.lst (zs'.map V.str))))
theorem eO:eG X (.builtin "sorted") (λxs H Q=>Ii X.K xs H Q):=by
 intro pins s σ H xs us Q I r h;obtain⟨p,zs,rfl,hq,l64,q⟩:=h;obtain⟨u,rfl,rx⟩:=vals1 r;cases rx;obtain⟨its,rv,pl,hz⟩:=I.list hq;have hl:=rv.length;rw[length_map]at hl hz;refine sorted_strs pl.isList (n9 rv) (by omega) λout ss' a1 a2 a3=>?_;obtain⟨e,he⟩:=sortedAll_at s.heap its out;refine⟨.ref _,_,I.laid (t':=s.toks) (λb o hb=>sortedAll_old hb) (le_succ _) (show cZ X.prog X.w _ _ _ (.lst (ss'.map V.str)) from ⟨by rw[length_map,a2.length_eq];exact hz,out.toList,e,mq a1,he⟩),rfl,q _ _ (I.hok.fresh (le_succ _)) a2 a3⟩
theorem yF{a b:List Nat}(h1:ltCps a b=false)(h2:ltCps b a=false):a=b:=by
 rw[ltCps_eq,decide_eq_false_iff_not]at h1 h2;exact List.le_antisymm (not_lt.mp h2) (not_lt.mp h1)
theorem le_trans'{a b c:List Nat}(h1:ltCps b a=false)(h2:ltCps c b=false):ltCps c a=false:=by
 rw[ltCps_eq,decide_eq_false_iff_not]at *;exact not_lt.mpr (List.le_trans (not_lt.mp h1) (not_lt.mp h2))
theorem jV:∀{l:List Str}{p:Str},risingS p l=true->∀y∈l,ltCps y.cps.toList p.cps.toList=false
 |x::r,p,h,y,hy=>by
  have h':(!ltCps x.cps.toList p.cps.toList && risingS x r)=true:=h;rw[and_eq_true,not_eq_true']at h';rcases mem_cons.mp hy with rfl|hy
  ·exact h'.1
  ·exact le_trans' h'.1 (jV h'.2 y hy)
theorem m6{x:Str}{r:List Str}(h:sortedS (x::r)=true):sortedS r=true:=by
 cases r with
 |nil=>rfl
 |cons y t=>
  have h':(!ltCps y.cps.toList x.cps.toList && risingS y t)=true:=h;rw[and_eq_true]at h';exact h'.2
theorem C0{a b:Str}(h:a.cps.toList=b.cps.toList):a=b:=by
 obtain⟨x⟩:=a;obtain⟨y⟩:=b;have h':x.toList=y.toList:=h;rw[Array.toList_inj.mp h']
theorem jU:∀{l m:List Str},l.Perm m->sortedS l=true->sortedS m=true->l=m
 |[],m,p,_,_=>(List.nil_perm.mp p).symm ▸ rfl
 |x::r,m,p,h1,h2=>by
  cases m with
  |nil=>exact absurd (List.perm_nil.mp p) (by simp)
  |cons y t=>
   have e:x=y:=by
    have mx:x∈y::t:=p.mem_iff.mp mem_cons_self;have my:y∈x::r:=p.mem_iff.mpr mem_cons_self;rcases mem_cons.mp mx with e|mx
    ·exact e
    ·rcases mem_cons.mp my with e|my
     ·exact e.symm
     ·exact C0 (yF (jV h2 x mx) (jV h1 y my))
   subst e;rw[jU (List.perm_cons x |>.mp p) (m6 h1) (m6 h2)]
inductive F5(K:PySem.W.Frag)(x y:V)(H:Hp)(Q:VK):Prop
 |same (a b:Addr)(xs ys:List V)(bs:List Bool)(hx:x=.ref a)(hy:y=.ref b)(s:cH K H a xs)(t:cH K H b ys)(l1:xs.length=bs.length)(l2:ys.length=bs.length)(e:∀(i:Nat) u v c,xs[i]? =some u->ys[i]? =some v->bs[i]? =some c->iV u v=some c)(q:Q (.bl (!(GF bs))) H)
 |other (a b:Addr)(xs ys:List V)(hx:x=.ref a)(hy:y=.ref b)(s:cH K H a xs)(t:cH K H b ys)(n:xs.length≠ys.length)(q:Q (.bl true) H)
theorem jA(hu:X.A.units+1 < cLine):iq X (compareOp .NotEq) (λx y H Q=>F5 X.K x y H Q):=by
 intro pins s σ H x y v u Q I rx ry h;rcases h with ⟨a,b,xs,ys,bs,rfl,rfl,ha,hb,l1,l2,he,q⟩|⟨a,b,xs,ys,rfl,rfl,ha,hb,n,q⟩
 ·cases rx
  cases ry;obtain⟨its,r,pl,_⟩:=I.list ha;obtain⟨its2,r2,pl2,_⟩:=I.list hb;have m1:=r.length;have m2:=r2.length;have key:SeqAt.RcNeAt X.A s (.ref a) (.ref b) (!((List.range its.toArray.size).all λi=>bs.getD i false)):=by
   refine SeqAt.RcNeAt.lists pl.isList pl2.isList (by simp only[size_toArray];omega) (by omega) λj h1 h2=>?_;simp only[size_toArray]at h1 h2;obtain⟨x1,e1,r1⟩:=da r h1;obtain⟨x2,e2,r2'⟩:=da r2 h2;have hj:j < bs.length:=by omega
   have e3:bs[j]? =some bs[j]:=getElem?_eq_getElem hj;have e4:bs.getD j false=bs[j]:=by rw[getD_eq_getElem?_getD,e3];rfl
   show SeqAt.EqAt X.A.in1 s its.toArray[j] its2.toArray[j] (bs.getD j false);rw[e4];simp only[getElem_toArray];exact ju r1 r2' (he j x1 x2 _ e1 e2 e3)
  have hz:its.toArray.size=bs.length:=by simp only[size_toArray];omega
  rw[hz]at key;exact key X.prog X.w X.xe _ ⟨.bl _,H,I,rfl,q⟩
 ·cases rx
  cases ry;obtain⟨its,r,pl,_⟩:=I.list ha;obtain⟨its2,r2,pl2,_⟩:=I.list hb;have m1:=r.length;have m2:=r2.length;have key:SeqAt.RcNeAt X.A s (.ref a) (.ref b) true:=SeqAt.RcNeAt.lists_lengths pl.isList pl2.isList (by rw[bne_iff_ne];simp only[size_toArray];omega) (by omega);exact key X.prog X.w X.xe _ ⟨.bl _,H,I,rfl,q⟩
end
section
variable {prog:Program}{w:World}{A:Around}{E:Value->Shared->Prop}{s:Shared}
end
section
variable {prog:Program}{w:World}{A:Around}{R:Result->Shared->Prop}{I:Addr}{fp wr:List Addr}{G:Array GenState->Array GenState->Prop}{n:Nat}{P:Nat->Value->Prop}{St:Nat->Shared->Prop}
end
section
variable {prog:Program}{w:World}{A:Around}{E:Value->Shared->Prop}{s:Shared}
end
section
variable {X:Cx}
inductive Mx(K:PySem.W.Frag)(vs:List V)(H:Hp)(Q:VK):Prop
 |mk(p:Addr)(xs:List V)(kvs:List (Key×V))(e:vs=[.ref p])(s:cH K H p xs)(l:xs.length=kvs.length)(t:∀(i:Nat) x kv,xs[i]? =some x->kvs[i]? =some kv->∃a,x=.ref a/\H a=some (.tup [kV kv.1,kv.2]))(q:∀d,H d=none->Q (.ref d) (upd H d (.dK (zH [] kvs))))
end
section
variable {prog:Program}{w:World}{A:Around}{E:Value->Shared->Prop}{s:Shared}
end
section
variable {X:Cx}
inductive GY(K:PySem.W.Frag)(vs:List V)(H:Hp)(Q:VK):Prop
 |mk(p:Addr)(xs:List V)(e:vs=[.ref p])(s:cH K H p xs)(q:∀l,H l=none->Q (.ref l) (upd H l (.lst xs.reverse)))
def Lq(K:PySem.W.Frag)(ta:TA):TE:=λσ H Q=>ta σ H λvs H1=>GY K vs H1 Q
theorem fR:bootBuiltins "sorted" =some (.builtin "sorted"):=by decide+kernel
theorem AA:bootBuiltins "sum" =some (.builtin "sum"):=by decide+kernel
end
end L2
namespace J
open PySem PySem.Spec PyProof.Rows
open L2 (Cx V cH cU)
theorem eO{X:Cx}:JF X (.builtin "sorted") (λxs H Q=>L2.Ii X.K xs H Q):=⟨L2.eO⟩
theorem jA{X:Cx}(hu:X.A.units+1 < cLine):JC X .NotEq (λx y H Q=>L2.F5 X.K x y H Q):=⟨L2.jA hu⟩
end J
namespace L2
open PySem PySem.Spec PyProof.Rows
section
variable {X:Cx}
inductive Et(K:PySem.W.Frag)(x y:V)(H:Hp)(Q:VK):Prop
 |same (a b:Addr)(xs ys:List V)(bs:List Bool)(hx:x=.ref a)(hy:y=.ref b)(s:cH K H a xs)(t:cH K H b ys)(l1:xs.length=bs.length)(l2:ys.length=bs.length)(e:∀(i:Nat) u v c,xs[i]? =some u->ys[i]? =some v->bs[i]? =some c->iV u v=some c)(q:Q (.bl (GF bs)) H)
 |other (a b:Addr)(xs ys:List V)(hx:x=.ref a)(hy:y=.ref b)(s:cH K H a xs)(t:cH K H b ys)(n:xs.length≠ys.length)(q:Q (.bl false) H)
theorem jD(hu:X.A.units+1 < cLine):iq X (compareOp .Eq) (λx y H Q=>Et X.K x y H Q):=by
 intro pins s σ H x y v u Q I rx ry h;rcases h with ⟨a,b,xs,ys,bs,hx,hy,s1,t1,l1,l2,e,q⟩|⟨a,b,xs,ys,hx,hy,s1,t1,n,q⟩
 ·exact ER hu pins s σ H x y v u Q I rx ry ⟨a,b,xs,ys,bs,hx,hy,s1,t1,l1,l2,e,q⟩
 ·exact yW hu pins s σ H x y v u Q I rx ry ⟨a,b,xs,ys,hx,hy,s1,t1,n,q⟩
inductive DF(K:PySem.W.Frag)(x y:V)(H:Hp)(Q:VK):Prop
 |mk(a b:Addr)(xs ys:List V)(hx:x=.ref a)(hy:y=.ref b)(s:H a=some (.tup xs))(t:cH K H b ys)(f:xs.all cW=true)(g:∀v∈ys,∃c zs,v=.ref c/\H c=some (.tup zs)/\zs.all cW=true)(q:Q (.bl (!(ys.any (Gx H xs)))) H)
theorem gQ(hu:X.A.units+1 < cLine):iq X (compareOp .NotIn) (λx y H Q=>DF X.K x y H Q):=by
 intro pins s σ H x y v u Q I rx ry h;obtain⟨a,b,xs,ys,rfl,rfl,ha,hb,fx,g,q⟩:=h;cases rx;cases ry;obtain⟨its,r,pl,_⟩:=I.list hb;refine SeqAt.notIn_listAt (Dp H xs) pl.isList (λw hw=>?_) ⟨.bl _,H,I,rfl,?_⟩
 ·obtain⟨z,hz,rz⟩:=oP r (by simpa using hw)
  obtain⟨c,zs,rfl,hc,fz⟩:=g z hz;cases rz;have e:Dp H xs (.ref c)=uK zs xs:=by
   show(match H c with|some (.tup zs)=>uK zs xs|_=>false)=_;rw[hc]
  rw[e];exact pZ I hu hc ha fz fx
 ·rw[show its.toArray.any (Dp H xs)=its.any (Dp H xs) by simp,sF r g]
  exact q
inductive Er(K:PySem.W.Frag)(x:V)(st:Option Int)(H:Hp)(Q:VK):Prop
 |mk(a:Addr)(xs:List V)(hx:x=.ref a)(hst:st=some (-1))(s:cH K H a xs)(q:∀p ys,H p=none->ys.length<=xs.length->(∀v∈ys,v∈xs)->Q (.ref p) (upd H p (.lst ys)))
def Ki(K:PySem.W.Frag)(te:TE)(ts:TO):TE:=λσ H Q=>te σ H λx H1=>ts σ H1 λst H2=>Er K x st H2 Q
theorem ox{e d:Expr}{ty td:TE}{pos:Pos}(hu:X.A.units+1 < cLine)(hi:PE X e ty)(ho:PE X d td)(hm:behindInMarks .In d=false:=by rfl):PE X (.Compare e [.In] [d] pos) (CA ty td):=zh (Bm hu hi ho) hm
end
section
variable {prog:Program}{w:World}{A:Around}{R:Result->Shared->Prop}{I:Addr}{fp wr:List Addr}{G:Array GenState->Array GenState->Prop}{n:Nat}{P:Nat->Value->Prop}{St:Nat->Shared->Prop}
def JJ(xs ps:List (List Key×Addr×Value)):List (List Key×Addr×Value):=ps.foldl (λacc q=>storedH acc q.1 q.2.1 q.2.2) xs
end
section
variable {prog:Program}{w:World}{A:Around}{E:Value->Shared->Prop}{s:Shared}
end
def FU(kvs more:List (List Key×V)):List (List Key×V):=more.foldl (λacc kv=>putK acc kv.1 kv.2) kvs
section
variable {X:Cx}
inductive LB(K:PySem.W.Frag)(vs:List V)(H:Hp)(Q:VK):Prop
 |mk(p:Addr)(xs:List V)(kvs:List (List Key×V))(e:vs=[.ref p])(s:cH K H p xs)(l:xs.length=kvs.length)(t:∀(i:Nat) x kv,xs[i]? =some x->kvs[i]? =some kv->∃a b,x=.ref a/\H a=some (.tup [.ref b,kv.2])/\H b=some (.tup (kv.1.map kV)))(q:∀d,H d=none->Q (.ref d) (upd H d (.dT (FU [] kvs))))
end
end L2
namespace J
open PySem PySem.Spec PyProof.Rows
open L2 (Cx V Hp St VK TE TT TA TS TG o7 TI TO cH cU)
section
variable {X:Cx}{e d st:Expr}{ty td te:TE}{ts:TO}{pos p2:Pos}
theorem Ig{o f:Expr}{apos cpos:Pos}{tx:TE}(hu:X.A.units+1 < cLine)(ho:JE X o td)(he:JE X e ty)(hf:JE X f tx)(h:rF o=true:=by rfl)(h1:L2.notStar e=true:=by rfl)(h2:L2.notStar f=true:=by rfl)(hline:(apos.endLine == cpos.line)=true:=by rfl):JE X (.Call (.Attribute o "get" apos) [e,f] [] cpos) (L2.AX td ty tx):=
 ⟨L2.Aq hu ho.out he.out hf.out ⟨jd h,by rw[Ji h1 h2];rfl,hline,Ji h1 h2⟩⟩
theorem jD(hu:X.A.units+1 < cLine):JC X .Eq (λx y H Q=>L2.Et X.K x y H Q):=⟨L2.jD hu⟩
theorem gQ(hu:X.A.units+1 < cLine):JC X .NotIn (λx y H Q=>L2.DF X.K x y H Q):=⟨L2.gQ hu⟩
theorem ox(hu:X.A.units+1 < cLine)(hi:JE X e ty)(ho:JE X d td)(hm:behindInMarks .In d=false:=by rfl):JE X (.Compare e [.In] [d] pos) (L2.CA ty td):=⟨L2.ox hu hi.out ho.out hm⟩
end
end J
namespace TS
open PySem PyProof.Rows
def nq:Bool->Keyed->Array Keyed->Nat->Nat->Nat->StateT SortSt Sem (Option Nat):=sortPriv% PySem.Builtin.gallop
def key(κ:KeyKind)(p:Keyed):κ.α:=(κ.keyOf p.1).getD κ.dflt
def ir(κ:KeyKind)(p:Keyed):Prop:=∃a,κ.keyOf p.1=some a
def lH(prog:Program)(w:World)(A:Around)(E:Value->Shared->Prop)(s:Shared)(κ:KeyKind)(kd:SortKind):Prop:=
 ∀(x y:Keyed) (st:SortSt) (Q:Option Bool->SortSt->Prop),kindOf st=kd->ir κ x->ir κ y->Q (some (κ.blt (key κ x) (key κ y))) st->wpS (model prog w) A E s (lt' x y) Q st
section
variable {prog:Program}{w:World}{A:Around}{E:Value->Shared->Prop}{s:Shared}{κ:KeyKind}{kd:SortKind}
theorem cM{arr:Array Keyed}{i:Nat}{x:Keyed}{st:SortSt}{Q:Keyed->SortSt->Prop}(h:arr[i]? =some x)(q:Q x st):wpS (model prog w) A E s (elem' arr i) Q st:=by
 rw[elem'_eq,h];exact wpS_pure q
def Ee(κ:KeyKind)(left:Bool)(k x:Keyed):Bool:=if left then κ.blt (key κ x) (key κ k) else !(κ.blt (key κ k) (key κ x))
theorem B4(hL:lH prog w A E s κ kd){left:Bool}{k x:Keyed}{arr:Array Keyed}{i:Nat}{st:SortSt}{Q:Option Bool->SortSt->Prop}(hk:kindOf st=kd)(kk:ir κ k)(hx:arr[i]? =some x)(kx:ir κ x)(q:Q (some (Ee κ left k x)) st):
  wpS (model prog w) A E s (elem' arr i >>= λx=>if left=true then lt' x k else lt' k x >>= λr=>pure (Option.map (λy=> !y) r)) Q st:=by
 refine wpS_bind (cM hx ?_);cases left with
 |true=>
  rw[if_pos rfl];exact hL x k st Q hk kx kk q
 |false=>
  rw[if_neg Bool.false_ne_true];exact wpS_bind (hL k x st _ hk kk kx (wpS_pure q))
theorem vK(hL:lH prog w A E s κ kd){left:Bool}{k:Keyed}{arr:Array Keyed}{base n hint:Nat}{st:SortSt}{Q:Option Nat->SortSt->Prop}(hk:kindOf st=kd)(kk:ir κ k)(f:Nat->Bool)(hf:∀i,i < n->∃x,arr[base+i]? =some x/\ir κ x/\Ee κ left k x=f i)(mono:∀i j,i<=j->j < n->f j=true->f i=true)(hh:hint < n)
  (q:∀m,m<=n->(∀i,i < m->f i=true)->(∀i,m<=i->i < n->f i=false)->Q (some m) st):wpS (model prog w) A E s (nq left k arr base n hint) Q st:=by
 have beyond:∀{i:Nat}{R:Option Bool->SortSt->Prop},i < n->R (some (f i)) st->wpS (model prog w) A E s (elem' arr (base+i) >>= λx=>if left=true then lt' x k else lt' k x >>= λr=>pure (Option.map (λy=> !y) r)) R st:=λ{i R} hi hR=>by
  obtain⟨x,hx,kx,e⟩:=hf i hi;exact B4 hL hk kk hx kx (e ▸ hR)
 have up:∀i j,i<=j->j < n->f i=false->f j=false:=λi j h1 h2 h3=>by
  cases h:f j with
  |false=>rfl
  |true=>rw[mono i j h1 h2 h]at h3;cases h3
 refine wpS_bind (beyond hh ?_);dsimp only;by_cases hr:f hint=true
 ·rw[if_pos hr]
  refine wpS_bind (wpS_mono (wpS_forRange (I:=λx c st'=>st'=st/\∃la o,c=(none,la,o)/\la < o/\x+1<=o/\hint+la < n/\f (hint+la)=true)
   (Q:=λc st'=>st'=st/\∃la o,c=(none,la,o)/\la < o/\hint+la < n/\f (hint+la)=true/\(n - hint<=o\/(hint+o < n/\f (hint+o)=false))) ?step ?fin ⟨rfl,0,1,rfl,by omega,by omega,by omega,hr⟩) ?post)
  case step=>
   rintro x c st' _ hx ⟨rfl,la,o,rfl,h1,h2,h3,h4⟩;dsimp only;by_cases c1:o ≥ n - hint
   ·rw[if_pos c1]
    exact wpS_pure ⟨rfl,la,o,rfl,h1,h3,h4,.inl c1⟩
   ·rw[if_neg c1]
    refine wpS_bind (beyond (by omega) ?_);dsimp only;cases hm:f (hint+o) with
    |false=>exact wpS_pure ⟨rfl,la,o,rfl,h1,h3,h4,.inr ⟨by omega,hm⟩⟩
    |true=>exact wpS_pure ⟨rfl,o,2 * o+1,rfl,by omega,by omega,by omega,hm⟩
  case fin=>
   rintro c st' ⟨rfl,la,o,rfl,h1,h2,h3,h4⟩;exact⟨rfl,la,o,rfl,h1,h3,h4,.inl (by omega)⟩
  case post=>
   rintro c st' ⟨e0,la,o,rfl,h1,h3,h4,h5⟩;rw[e0];clear e0 st';dsimp only;have d:∀i,hint+min o (n - hint)<=i->i < n->f i=false:=λi i1 i2=>by
    rcases h5 with h5|⟨h5,h6⟩
    ·omega
    ·exact up _ i (by omega) i2 h6
   refine wpS_bind (wpS_mono (wpS_forRange (I:=λx c st''=>st''=st/\∃lo hi,c=(none,lo,hi)/\lo<=hi/\hi<=n/\hi - lo<=n - x/\(∀i,i < lo->f i=true)/\(∀i,hi<=i->i < n->f i=false))
    (Q:=λc st''=>st''=st/\∃hi,c=(none,hi,hi)/\hi<=n/\(∀i,i < hi->f i=true)/\(∀i,hi<=i->i < n->f i=false)) ?sstep ?sfin ⟨rfl,_,_,rfl,(by omega),(by omega),by omega,(λi hi=>mono i _ (by omega) h3 h4),d⟩) ?spost)
   case sstep=>
    rintro x c st'' _ hx ⟨rfl,lo,hi,rfl,g1,g2,g3,g4,g5⟩;dsimp only;by_cases c1:lo ≥ hi
    ·rw[if_pos c1]
     have e:lo=hi:=by omega
     subst e;exact wpS_pure ⟨rfl,lo,rfl,g2,g4,g5⟩
    ·rw[if_neg c1]
     refine wpS_bind (beyond (by omega) ?_);dsimp only;cases hm:f (lo+(hi - lo) / 2) with
     |true=>exact wpS_pure ⟨rfl,_,_,rfl,by omega,by omega,by omega,λi hi'=>mono i _ (by omega) (by omega) hm,g5⟩
     |false=>exact wpS_pure ⟨rfl,_,_,rfl,by omega,by omega,by omega,g4,λi h1 h2=>up _ i h1 h2 hm⟩
   case sfin=>
    rintro c st'' ⟨rfl,lo,hi,rfl,g1,g2,g3,g4,g5⟩;have e:lo=hi:=by omega
    subst e;exact⟨rfl,lo,rfl,g2,g4,g5⟩
   case spost=>
    rintro c st'' ⟨rfl,hi,rfl,g2,g4,g5⟩;exact wpS_pure (q hi g2 g4 g5)
 ·rw[if_neg hr]
  have hr':f hint=false:=eq_false_of_ne_true hr;refine wpS_bind (wpS_mono (wpS_forRange (I:=λx c st'=>st'=st/\∃la o,c=(none,la,o)/\la < o/\x+1<=o/\la<=hint/\f (hint - la)=false)
   (Q:=λc st'=>st'=st/\∃la o,c=(none,la,o)/\la < o/\la<=hint/\f (hint - la)=false/\(hint+1<=o\/(o<=hint/\f (hint - o)=true))) ?step ?fin ⟨rfl,0,1,rfl,by omega,by omega,by omega,hr'⟩) ?post)
  case step=>
   rintro x c st' _ hx ⟨rfl,la,o,rfl,h1,h2,h3,h4⟩;dsimp only;by_cases c1:o ≥ hint+1
   ·rw[if_pos c1]
    exact wpS_pure ⟨rfl,la,o,rfl,h1,h3,h4,.inl c1⟩
   ·rw[if_neg c1]
    refine wpS_bind (beyond (by omega) ?_);dsimp only;cases hm:f (hint - o) with
    |true=>exact wpS_pure ⟨rfl,la,o,rfl,h1,h3,h4,.inr ⟨by omega,hm⟩⟩
    |false=>exact wpS_pure ⟨rfl,o,2 * o+1,rfl,by omega,by omega,by omega,hm⟩
  case fin=>
   rintro c st' ⟨rfl,la,o,rfl,h1,h2,h3,h4⟩;exact⟨rfl,la,o,rfl,h1,h3,h4,.inl (by omega)⟩
  case post=>
   rintro c st' ⟨e0,la,o,rfl,h1,h3,h4,h5⟩;rw[e0];clear e0 st';dsimp only;have d:∀i,i < hint+1 - min o (hint+1)->f i=true:=λi i1=>by
    rcases h5 with h5|⟨h5,h6⟩
    ·omega
    ·exact mono i _ (by omega) (by omega) h6
   refine wpS_bind (wpS_mono (wpS_forRange (I:=λx c st''=>st''=st/\∃lo hi,c=(none,lo,hi)/\lo<=hi/\hi<=n/\hi - lo<=n - x/\(∀i,i < lo->f i=true)/\(∀i,hi<=i->i < n->f i=false))
    (Q:=λc st''=>st''=st/\∃hi,c=(none,hi,hi)/\hi<=n/\(∀i,i < hi->f i=true)/\(∀i,hi<=i->i < n->f i=false)) ?sstep ?sfin ⟨rfl,_,_,rfl,(by omega),(by omega),by omega,d,(λi i1 i2=>up _ i i1 i2 h4)⟩) ?spost)
   case sstep=>
    rintro x c st'' _ hx ⟨rfl,lo,hi,rfl,g1,g2,g3,g4,g5⟩;dsimp only;by_cases c1:lo ≥ hi
    ·rw[if_pos c1]
     have e:lo=hi:=by omega
     subst e;exact wpS_pure ⟨rfl,lo,rfl,g2,g4,g5⟩
    ·rw[if_neg c1]
     refine wpS_bind (beyond (by omega) ?_);dsimp only;cases hm:f (lo+(hi - lo) / 2) with
     |true=>exact wpS_pure ⟨rfl,_,_,rfl,by omega,by omega,by omega,λi hi'=>mono i _ (by omega) (by omega) hm,g5⟩
     |false=>exact wpS_pure ⟨rfl,_,_,rfl,by omega,by omega,by omega,g4,λi h1 h2=>up _ i h1 h2 hm⟩
   case sfin=>
    rintro c st'' ⟨rfl,lo,hi,rfl,g1,g2,g3,g4,g5⟩;have e:lo=hi:=by omega
    subst e;exact⟨rfl,lo,rfl,g2,g4,g5⟩
   case spost=>
    rintro c st'' ⟨rfl,hi,rfl,g2,g4,g5⟩;exact wpS_pure (q hi g2 g4 g5)
end
end TS
namespace TS
open PySem PyProof.Rows
variable {κ:KeyKind}
def c9(κ:KeyKind)(l:List Keyed):Prop:=l.Pairwise λx y=>κ.kle (key κ x) (key κ y)
def Hz(κ:KeyKind)(v:κ.α)(p:Keyed):Bool:= !κ.blt (key κ p) v && !κ.blt v (key κ p)
def fk(κ:KeyKind)(v:κ.α)(l:List Keyed):List Keyed:=l.filter (Hz κ v)
def Below(κ:KeyKind)(l m:List Keyed):Prop:=∀x∈l,∀y∈m,κ.kle (key κ x) (key κ y)
def Under(κ:KeyKind)(l m:List Keyed):Prop:=∀x∈l,∀y∈m,κ.klt (key κ x) (key κ y)
def cK(κ:KeyKind)(l m:List Keyed):Prop:=∀v,fk κ v l=fk κ v m
theorem Under.below{l m:List Keyed}(h:Under κ l m):Below κ l m:=λx hx y hy=>KeyOrd.kle_of_klt (h x hx y hy)
theorem jz(v:κ.α)(l m:List Keyed):fk κ v (l++m)=fk κ v l++fk κ v m:=filter_append ..
theorem tR(p:Keyed):Hz κ (key κ p) p=true:=by
 unfold Hz;rw[κ.irrefl];rfl
theorem zj{v:κ.α}{p:Keyed}(h:Hz κ v p=true):key κ p=v:=by
 unfold Hz at h;rw[and_eq_true,not_eq_true',not_eq_true']at h;exact κ.total _ _ h.1 h.2
theorem cK.refl(l:List Keyed):cK κ l l:=λ_=>rfl
theorem cK.trans{l m n:List Keyed}(h:cK κ l m)(h':cK κ m n):cK κ l n:=λv=>(h v).trans (h' v)
theorem cK.append{l m l' m':List Keyed}(h:cK κ l l')(h':cK κ m m'):cK κ (l++m) (l'++m'):=λv=>by
 rw[jz,jz,h v,h' v]
theorem cK.perm{l m:List Keyed}(h:cK κ l m):l.Perm m:=by
 classical
 refine List.perm_iff_count.mpr λx=>?_;have e:=congrArg (List.count x) (h (key κ x));unfold fk at e
 rwa [List.count_filter (tR x),List.count_filter (tR x)]at e
theorem cK.mem{l m:List Keyed}(h:cK κ l m){x:Keyed}:x∈l↔x∈m:=h.perm.mem_iff
theorem cK.swap{l m:List Keyed}(h:Under κ l m):cK κ (l++m) (m++l):=λv=>by
 rw[jz,jz];by_cases e:fk κ v l=[]
 ·rw[e,append_nil,nil_append]
 ·obtain⟨x,hx⟩:=List.exists_mem_of_ne_nil _ e
  obtain⟨x1,x2⟩:=mem_filter.mp hx;have e2:fk κ v m=[]:=List.eq_nil_iff_forall_not_mem.mpr λy hy=>by
   obtain⟨y1,y2⟩:=mem_filter.mp hy;have:=h x x1 y y1;rw[zj x2,zj y2]at this;unfold KeyOrd.klt at this;rw[κ.irrefl]at this;cases this
  rw[e2,append_nil,nil_append]
theorem c9.append{l m:List Keyed}(h:c9 κ l)(h':c9 κ m)(b:Below κ l m):c9 κ (l++m):=List.pairwise_append.mpr ⟨h,h',b⟩
theorem c9.left{l m:List Keyed}(h:c9 κ (l++m)):c9 κ l:=(List.pairwise_append.mp h).1
theorem c9.right{l m:List Keyed}(h:c9 κ (l++m)):c9 κ m:=(List.pairwise_append.mp h).2.1
theorem c9.mid{l m:List Keyed}(h:c9 κ (l++m)):Below κ l m:=(List.pairwise_append.mp h).2.2
theorem c9.drop{l:List Keyed}(h:c9 κ l)(i:Nat):c9 κ (l.drop i):=List.Pairwise.sublist (List.drop_sublist i l) h
theorem Below.append{l m n:List Keyed}(h:Below κ l n)(h':Below κ m n):Below κ (l++m) n:=λx hx=>(mem_append.mp hx).elim (h x) (h' x)
theorem Below.left{l m n:List Keyed}(h:Below κ l (m++n)):Below κ l m:=λx hx y hy=>h x hx y (mem_append_left _ hy)
theorem Below.right{l m n:List Keyed}(h:Below κ l (m++n)):Below κ l n:=λx hx y hy=>h x hx y (mem_append_right _ hy)
theorem Below.nil{l:List Keyed}:Below κ l []:=λ_ _ _ h=>by cases h
theorem ou(l:List Keyed)(i k:Nat):l.drop i=(l.drop i).take k++l.drop (i+k):=by
 rw[<-List.drop_drop,take_append_drop]
structure jG(κ:KeyKind)(al bl out:List Keyed)(ia ib:Nat):Prop where
 so:c9 κ out
 oa:Below κ out (al.drop ia)
 ob:Below κ out (bl.drop ib)
 st:cK κ (out++(al.drop ia++bl.drop ib)) (al++bl)
theorem jG.vH{al bl out:List Keyed}{ia ib k:Nat}(sa:c9 κ al)(h:jG κ al bl out ia ib)(b:Below κ ((al.drop ia).take k) (bl.drop ib)):jG κ al bl (out++(al.drop ia).take k) (ia+k) ib:=by
 have e:=ou al ia k;have s:=sa.drop ia;have oa:=h.oa;have st:=h.st;rw[e]at s oa st;refine⟨h.so.append s.left oa.left,oa.right.append s.mid,h.ob.append b,?_⟩;rw[append_assoc,<-append_assoc _ (al.drop (ia+k))];exact st
theorem jG.vP{al bl out:List Keyed}{ia ib k:Nat}(sb:c9 κ bl)(h:jG κ al bl out ia ib)(b:Under κ ((bl.drop ib).take k) (al.drop ia)):jG κ al bl (out++(bl.drop ib).take k) ia (ib+k):=by
 have e:=ou bl ib k;have s:=sb.drop ib;have ob:=h.ob;have st:=h.st;rw[e]at s ob st;refine⟨h.so.append s.left ob.left,h.oa.append b.below,ob.right.append s.mid,?_⟩;refine cK.trans ?_ st;rw[append_assoc];refine(cK.refl _).append ?_;rw[<-append_assoc,<-append_assoc];exact(cK.swap b).append (cK.refl _)
theorem jG.done{al bl out:List Keyed}{ia ib:Nat}(sa:c9 κ al)(sb:c9 κ bl)(h:jG κ al bl out ia ib)(e:al.drop ia=[]\/bl.drop ib=[]):c9 κ (out++al.drop ia++bl.drop ib)/\cK κ (out++al.drop ia++bl.drop ib) (al++bl):=by
 refine⟨?_,by rw[append_assoc];exact h.st⟩;rcases e with e|e
 ·rw[e,append_nil]
  exact h.so.append (sb.drop ib) h.ob
 ·rw[e,append_nil]
  exact h.so.append (sa.drop ia) h.oa
theorem jG.last{al bl out:List Keyed}{ia ib:Nat}(sa:c9 κ al)(sb:c9 κ bl)(h:jG κ al bl out ia ib)(u:Under κ (bl.drop ib) (al.drop ia)):c9 κ (out++bl.drop ib++al.drop ia)/\cK κ (out++bl.drop ib++al.drop ia) (al++bl):=by
 refine⟨(h.so.append (sb.drop ib) h.ob).append (sa.drop ia) (h.oa.append u.below),cK.trans ?_ h.st⟩;rw[append_assoc];exact(cK.refl _).append (cK.swap u)
def AF:Array Keyed->Array Keyed->StateT SortSt Sem (Array Keyed):=sortPriv% PySem.Builtin.mergeLo
section
variable {prog:Program}{w:World}{A:Around}{E:Value->Shared->Prop}{s:Shared}{kd:SortKind}
structure Kept(st st':SortSt):Prop where
 kind:kindOf st'=kindOf st
 arr:arrOf st'=arrOf st
 pend:pendingOf st'=pendingOf st
 failed:failedOf st'=failedOf st
theorem Kept.refl(st:SortSt):Kept st st:=⟨rfl,rfl,rfl,rfl⟩
theorem Kept.trans{a b c:SortSt}(h:Kept a b)(h':Kept b c):Kept a c:=⟨h'.kind.trans h.kind,h'.arr.trans h.arr,h'.pend.trans h.pend,h'.failed.trans h.failed⟩
def pK:Nat->StateT SortSt Sem Unit:=sortPriv% PySem.Builtin.setMinGallop
theorem ki{g:Nat}{st:SortSt}{Q:Unit->SortSt->Prop}(q:∀st',Kept st st'->Q () st'):wpS (model prog w) A E s (pK g) Q st:=by
 exact wpS_modify (q _ ⟨rfl,rfl,rfl,rfl⟩)
theorem wV{l:List Keyed}{b m:Nat}{x:Keyed}:x∈(l.drop b).take m↔∃i,i < m/\l[b+i]? =some x:=by
 constructor
 ·intro h
  obtain⟨i,hi⟩:=getElem?_of_mem h;have hl:=(List.getElem?_eq_some_iff.mp hi).1;rw[length_take]at hl;rw[getElem?_take_of_lt (by omega),getElem?_drop]at hi;exact⟨i,by omega,hi⟩
 ·rintro⟨i,h1,h2⟩
  refine mem_of_getElem? (i:=i) ?_;rw[getElem?_take_of_lt h1,getElem?_drop];exact h2
theorem c9.at{l:List Keyed}{b n i j:Nat}{x y:Keyed}(h:c9 κ ((l.drop b).take n))(ij:i<=j)(jn:j < n)(hx:l[b+i]? =some x)(hy:l[b+j]? =some y):κ.kle (key κ x) (key κ y):=by
 by_cases e:i=j
 ·subst e
  rw[hx]at hy;cases hy;exact KeyOrd.kle_refl _
 ·have h1:((l.drop b).take n)[i]? =some x:=by rw[getElem?_take_of_lt (by omega),getElem?_drop];exact hx
  have h2:((l.drop b).take n)[j]? =some y:=by rw[getElem?_take_of_lt jn,getElem?_drop];exact hy
  obtain⟨i1,e1⟩:=List.getElem?_eq_some_iff.mp h1;obtain⟨j1,e2⟩:=List.getElem?_eq_some_iff.mp h2;have:=List.pairwise_iff_getElem.mp h i j i1 j1 (by omega)
  rwa [e1,e2]at this
theorem xD(hL:lH prog w A E s κ kd){left:Bool}{k:Keyed}{arr:Array Keyed}{base n hint:Nat}{st:SortSt}{Q:Option Nat->SortSt->Prop}(hk:kindOf st=kd)(kk:ir κ k)(ks:∀x∈arr.toList,ir κ x)(sz:base+n<=arr.size)(ss:c9 κ ((arr.toList.drop base).take n))(hh:hint < n)
  (q:∀m,m<=n->(∀x∈(arr.toList.drop base).take m,Ee κ left k x=true)->(∀x∈(arr.toList.drop (base+m)).take (n - m),Ee κ left k x=false)->Q (some m) st):wpS (model prog w) A E s (nq left k arr base n hint) Q st:=by
 have ex:∀i,i < n->∃x,arr.toList[base+i]? =some x/\ir κ x:=λi hi=>by
  have:base+i < arr.toList.length:=by rw[length_toList];omega
  exact⟨_,getElem?_eq_getElem this,ks _ (getElem_mem this)⟩
 refine vK hL hk kk (λi=>match arr.toList[base+i]? with|some x=>Ee κ left k x|none=>false) (λi hi=>?_) (λi j ij jn hj=>?_) hh λm hm m1 m2=>q m hm (λx hx=>?_) (λx hx=>?_)
 ·obtain⟨x,hx,kx⟩:=ex i hi
  exact⟨x,by rw[<-hx,getElem?_toList],kx,by rw[hx]⟩
 ·obtain⟨x,hx,kx⟩:=ex i (by omega)
  obtain⟨y,hy,ky⟩:=ex j jn;have le:=ss.at ij jn hx hy;rw[hy]at hj;rw[hx];dsimp only at hj ⊢;cases left with
  |true=>exact KeyOrd.klt_of_kle_of_klt le (show κ.klt _ _ from hj)
  |false=>
   have hj':κ.blt (key κ k) (key κ y)=false:=by
    have:(!κ.blt (key κ k) (key κ y))=true:=hj
    rwa [not_eq_true']at this
   have:κ.kle (key κ x) (key κ k):=KeyOrd.kle_trans le hj';show(!κ.blt (key κ k) (key κ x))=true;rw[not_eq_true'];exact this
 ·obtain⟨i,hi,hx'⟩:=wV.mp hx
  have:=m1 i hi
  rwa [hx']at this
 ·obtain⟨i,hi,hx'⟩:=wV.mp hx
  rw[Nat.add_assoc]at hx';have:=m2 (m+i) (by omega) (by omega)
  rwa [hx']at this
theorem eY(l:List Keyed)(b:Nat){n:Nat}(h:l.length - b<=n):(l.drop b).take n=l.drop b:=take_of_length_le (by rw[length_drop];exact h)
theorem pB(hL:lH prog w A E s κ kd){k:Keyed}{arr:Array Keyed}{base n hint:Nat}{st:SortSt}{Q:Option Nat->SortSt->Prop}(hk:kindOf st=kd)(kk:ir κ k)(ks:∀x∈arr.toList,ir κ x)(sz:base+n<=arr.size)(ss:c9 κ ((arr.toList.drop base).take n))(hh:hint < n)
  (q:∀m,m<=n->Below κ ((arr.toList.drop base).take m) [k]->Under κ [k] ((arr.toList.drop (base+m)).take (n - m))->Q (some m) st):wpS (model prog w) A E s (nq false k arr base n hint) Q st:=
 xD hL hk kk ks sz ss hh λm hm m1 m2=>q m hm (λx hx y hy=>by
  cases mem_singleton.mp hy;have:=m1 x hx;unfold Ee at this;rw[if_neg Bool.false_ne_true,not_eq_true']at this;exact this) (λy hy x hx=>by
  cases mem_singleton.mp hy;have:=m2 x hx;unfold Ee at this;rw[if_neg Bool.false_ne_true,Bool.not_eq_false']at this;exact this)
theorem oI(hL:lH prog w A E s κ kd){k:Keyed}{arr:Array Keyed}{base n hint:Nat}{st:SortSt}{Q:Option Nat->SortSt->Prop}(hk:kindOf st=kd)(kk:ir κ k)(ks:∀x∈arr.toList,ir κ x)(sz:base+n<=arr.size)(ss:c9 κ ((arr.toList.drop base).take n))(hh:hint < n)
  (q:∀m,m<=n->Under κ ((arr.toList.drop base).take m) [k]->Below κ [k] ((arr.toList.drop (base+m)).take (n - m))->Q (some m) st):wpS (model prog w) A E s (nq true k arr base n hint) Q st:=
 xD hL hk kk ks sz ss hh λm hm m1 m2=>q m hm (λx hx y hy=>by
  cases mem_singleton.mp hy;exact m1 x hx) (λy hy x hx=>by
  cases mem_singleton.mp hy;exact m2 x hx)
def jI(κ:KeyKind)(a b r:Array Keyed):Prop:=c9 κ r.toList/\cK κ r.toList (a.toList++b.toList)
theorem kQ(a:Array Keyed)(i:Nat):(a.extract i a.size).toList=a.toList.drop i:=by
 rw[toList_extract];exact eY _ _ (by rw[length_toList];exact le_refl _)
theorem oR(a:Array Keyed)(i k:Nat):(a.extract i (i+k)).toList=(a.toList.drop i).take k:=by
 rw[toList_extract];show(a.toList.drop i).take (i+k - i)=_;rw[Nat.add_sub_cancel_left]
theorem dF{a:Array Keyed}{i:Nat}{x:Keyed}(h:a[i]? =some x):a.toList.drop i=x::a.toList.drop (i+1):=by
 rw[<-getElem?_toList]at h;obtain⟨h1,h2⟩:=List.getElem?_eq_some_iff.mp h;rw[List.drop_eq_getElem_cons h1,h2]
theorem c9.head{x:Keyed}{l:List Keyed}(h:c9 κ (x::l)):Below κ [x] (x::l):=λa ha b hb=>by
 cases mem_singleton.mp ha;rcases mem_cons.mp hb with rfl|hb
 ·exact KeyOrd.kle_refl _
 ·exact(List.pairwise_cons.mp h).1 b hb
theorem Under.over{k:Keyed}{l m:List Keyed}(h:Under κ l [k])(b:Below κ [k] m):Under κ l m:=λx hx y hy=>KeyOrd.klt_of_klt_of_kle (h x hx k (mem_singleton_self _)) (b k (mem_singleton_self _) y hy)
theorem Below.over{k:Keyed}{l m:List Keyed}(h:Below κ l [k])(b:Below κ [k] m):Below κ l m:=λx hx y hy=>KeyOrd.kle_trans (h x hx k (mem_singleton_self _)) (b k (mem_singleton_self _) y hy)
section
variable {a b out:Array Keyed}{ia ib:Nat}(sa:c9 κ a.toList)(sb:c9 κ b.toList)
include sa sb
theorem jG.oh(h:jG κ a.toList b.toList out.toList ia ib)(e:a.size<=ia\/b.size<=ib):jI κ a b (out++a.extract ia a.size++b.extract ib b.size):=by
 unfold jI;rw[toList_append,toList_append,kQ,kQ];exact h.done sa sb (e.imp (λe=>List.drop_eq_nil_of_le (by rw[length_toList];exact e)) (λe=>List.drop_eq_nil_of_le (by rw[length_toList];exact e)))
theorem jG.C3(h:jG κ a.toList b.toList out.toList ia ib)(u:Under κ (b.toList.drop ib) (a.toList.drop ia)):jI κ a b (out++b.extract ib b.size++a.extract ia a.size):=by
 unfold jI;rw[toList_append,toList_append,kQ,kQ];exact h.last sa sb u
omit sa in
theorem jG.qg{x:Keyed}(h:jG κ a.toList b.toList out.toList ia ib)(hx:b[ib]? =some x)(u:Under κ [x] (a.toList.drop ia)):jG κ a.toList b.toList (out.push x).toList ia (ib+1):=by
 rw[toList_push];have e:(b.toList.drop ib).take 1=[x]:=by rw[dF hx];rfl
 have:=h.vP (k:=1) sb (by rw[e];exact u)
 rwa [e]at this
omit sb in
theorem jG.qc{x:Keyed}(h:jG κ a.toList b.toList out.toList ia ib)(hx:a[ia]? =some x)(u:Below κ [x] (b.toList.drop ib)):jG κ a.toList b.toList (out.push x).toList (ia+1) ib:=by
 rw[toList_push];have e:(a.toList.drop ia).take 1=[x]:=by rw[dF hx];rfl
 have:=h.vH (k:=1) sa (by rw[e];exact u)
 rwa [e]at this
end
structure LI(κ:KeyKind)(a b:Array Keyed)(st:SortSt)(out:Array Keyed)(ia ib t:Nat)(st':SortSt):Prop where
 kp:Kept st st'
 m:jG κ a.toList b.toList out.toList ia ib
 la:ia+1 < a.size
 lb:ib < b.size
 t:t<=ia+ib
theorem gK{a:Array Keyed}{i:Nat}(h:i < a.size):∃x,a[i]? =some x/\x∈a.toList:=⟨_,getElem?_pos a i h,by simp⟩
theorem cI{α:Type}{c:Prop} [Decidable c]{m1 m2:StateT SortSt Sem α}{Q:α->SortSt->Prop}{st:SortSt}(h1:c->wpS (model prog w) A E s m1 Q st)(h2:¬c->wpS (model prog w) A E s m2 Q st):wpS (model prog w) A E s (if c then m1 else m2) Q st:=by
 by_cases h:c
 ·rw[if_pos h]
  exact h1 h
 ·rw[if_neg h]
  exact h2 h
theorem jG.F7{a b out:Array Keyed}{ia ib k:Nat}(sa:c9 κ a.toList)(h:jG κ a.toList b.toList out.toList ia ib)(u:Below κ ((a.toList.drop ia).take k) (b.toList.drop ib)):jG κ a.toList b.toList (out++a.extract ia (ia+k)).toList (ia+k) ib:=by
 rw[toList_append,oR];exact h.vH sa u
theorem jG.Ei{a b out:Array Keyed}{ia ib k:Nat}(sb:c9 κ b.toList)(h:jG κ a.toList b.toList out.toList ia ib)(u:Under κ ((b.toList.drop ib).take k) (a.toList.drop ia)):jG κ a.toList b.toList (out++b.extract ib (ib+k)).toList ia (ib+k):=by
 rw[toList_append,oR];exact h.vP sb u
theorem t8(a:Array Keyed){i m n:Nat}(h:a.size - i<=n)(hm:m<=n):(a.toList.drop (i+m)).take (n - m)=a.toList.drop (i+m):=eY _ _ (by rw[length_toList];omega)
theorem uJ(hL:lH prog w A E s κ kd){a b:Array Keyed}{st:SortSt}{Q:Array Keyed->SortSt->Prop}(hk:kindOf st=kd)(ka:∀x∈a.toList,ir κ x)(kb:∀x∈b.toList,ir κ x)(sa:c9 κ a.toList)(sb:c9 κ b.toList)(a1:1<=a.size)(b1:1<=b.size)(u1:Under κ (b.toList.take 1) a.toList)(u2:Under κ b.toList (a.toList.drop (a.size - 1)))
  (q:∀r st',Kept st st'->jI κ a b r->Q r st'):wpS (model prog w) A E s (AF a b) Q st:=by
 refine wpS_bind (wpS_lift (wpAny_rule ⟨rfl,?_⟩));obtain⟨b0,hb0,mb0⟩:=gK b1;refine wpS_bind (cM hb0 ?_);have ub:∀ib,Under κ (b.toList.drop ib) (a.toList.drop (a.size - 1)):=λib x hx y hy=>u2 x (List.mem_of_mem_drop hx) y hy;have m0:jG κ a.toList b.toList (#[b0]:Array Keyed).toList 0 1:=by
  have h0:jG κ a.toList b.toList (#[]:Array Keyed).toList 0 0:=⟨List.Pairwise.nil,(λ_ h=>by cases h),(λ_ h=>by cases h),cK.refl _⟩;refine h0.qg sb hb0 ?_;have e:b.toList.take 1=[b0]:=by
   have:=dF hb0;rw[drop_zero]at this;rw[this];rfl
  rw[e]at u1;exact u1
 by_cases c1:(1 == b.size)=true
 ·rw[if_pos c1]
  exact wpS_pure (q _ st (Kept.refl _) (m0.oh sa sb (.inr (by rw[beq_iff_eq]at c1;omega))))
 rw[if_neg c1];by_cases c2:(0+1 == a.size)=true
 ·rw[if_pos c2]
  exact wpS_pure (q _ st (Kept.refl _) (m0.C3 sa sb (by rw[beq_iff_eq]at c2;have:=ub 1;rwa [show a.size - 1=0 by omega]at this)))
 rw[if_neg c2];rw[beq_iff_eq]at c1 c2;refine wpS_bind (wpS_get ?_);refine wpS_bind (wpS_mono (wpS_forRange (I:=λx c st'=>∃out ia ib mg,c=(none,out,ia,ib,mg)/\LI κ a b st out ia ib x st')
  (Q:=λc st'=>∃r c',c=(some r,c')/\Kept st st'/\jI κ a b r) ?step ?fin ⟨_,_,_,_,rfl,Kept.refl _,m0,by omega,by omega,zero_le _⟩) ?post)
 case post=>
  rintro c st' ⟨r,c',rfl,kp,mr⟩;exact wpS_pure (q r st' kp mr)
 case fin=>
  rintro c st' ⟨out,ia,ib,mg,rfl,li⟩;have:=li.t;have:=li.la;have:=li.lb;omega
 case step=>
  rintro x c st1 _ hx ⟨out,ia,ib,mg,rfl,li⟩;dsimp only;refine wpS_bind (wpS_mono (wpS_forRange (I:=λy c st'=>∃out ia ib ac bc,c=(none,out,ia,ib,ac,bc)/\LI κ a b st out ia ib (x+y) st')
   (Q:=λc st'=>(∃r c',c=(some r,c')/\Kept st st'/\jI κ a b r)\/∃out ia ib ac bc,c=(none,out,ia,ib,ac,bc)/\LI κ a b st out ia ib (x+1) st') ?istep ?ifin ⟨_,_,_,_,_,rfl,li⟩) ?ipost)
  case ifin=>
   rintro c st' ⟨out,ia,ib,ac,bc,rfl,li⟩;have:=li.t;have:=li.la;have:=li.lb;omega
  case istep=>
   rintro y c st2 _ hy ⟨out,ia,ib,ac,bc,rfl,li⟩;dsimp only;obtain⟨xb,hxb,mxb⟩:=gK li.lb;obtain⟨xa,hxa,mxa⟩:=gK (show ia < a.size by have:=li.la;omega);refine wpS_bind (cM hxb (wpS_bind (cM hxa (wpS_bind (hL xb xa st2 _ (li.kp.kind.trans hk) (kb xb mxb) (ka xa mxa) ?_)))));dsimp only;have ha':=(sa.drop ia);rw[dF hxa]at ha';have hb':=(sb.drop ib);rw[dF hxb]at hb';have bela:Below κ [xa] (a.toList.drop ia):=by rw[dF hxa];exact ha'.head
   have belb:Below κ [xb] (b.toList.drop ib):=by rw[dF hxb];exact hb'.head
   have lla:=li.la;have llb:=li.lb;have llt:=li.t;cases hc:κ.blt (key κ xb) (key κ xa) with
   |true=>
    rw[if_pos rfl];have m':=li.m.qg sb hxb (Under.over (k:=xa) (λx hx y hy=>by cases mem_singleton.mp hx;cases mem_singleton.mp hy;exact hc) bela);refine wpS_bind (cM hxb ?_);by_cases c3:(ib+1 == b.size)=true
    ·rw[if_pos c3]
     exact wpS_pure (.inl ⟨_,_,rfl,li.kp,m'.oh sa sb (.inr (by rw[beq_iff_eq]at c3;omega))⟩)
    rw[if_neg c3];rw[beq_iff_eq]at c3;by_cases c4:bc+1 ≥ mg
    ·rw[if_pos c4]
     exact wpS_pure (.inr ⟨_,_,_,_,_,rfl,li.kp,m',lla,by omega,by omega⟩)
    ·rw[if_neg c4]
     exact wpS_pure ⟨_,_,_,_,_,rfl,li.kp,m',lla,by omega,by omega⟩
   |false=>
    rw[if_neg Bool.false_ne_true];have m':=li.m.qc sa hxa (Below.over (k:=xb) (λx hx y hy=>by cases mem_singleton.mp hx;cases mem_singleton.mp hy;exact hc) belb);refine wpS_bind (cM hxa ?_);by_cases c3:(ia+1+1 == a.size)=true
    ·rw[if_pos c3]
     exact wpS_pure (.inl ⟨_,_,rfl,li.kp,m'.C3 sa sb (by rw[beq_iff_eq]at c3;have:=ub ib;rwa [show a.size - 1=ia+1 by omega]at this)⟩)
    rw[if_neg c3];rw[beq_iff_eq]at c3;by_cases c4:ac+1 ≥ mg
    ·rw[if_pos c4]
     exact wpS_pure (.inr ⟨_,_,_,_,_,rfl,li.kp,m',by omega,by omega,by omega⟩)
    ·rw[if_neg c4]
     exact wpS_pure ⟨_,_,_,_,_,rfl,li.kp,m',by omega,by omega,by omega⟩
  case ipost=>
   rintro c st2 (⟨r,c',rfl,kp,mr⟩|⟨out,ia,ib,ac,bc,rfl,li⟩)
   ·exact wpS_pure ⟨r,_,rfl,kp,mr⟩
   dsimp only;refine wpS_bind (wpS_lift (wpAny_rule ⟨rfl,?_⟩));refine wpS_bind (wpS_mono (wpS_forRange (I:=λy c st'=>∃out ia ib mg ac bc,c=(none,out,ia,ib,mg,ac,bc)/\LI κ a b st out ia ib (x+1+y) st')
    (Q:=λc st'=>(∃r c',c=(some r,c')/\Kept st st'/\jI κ a b r)\/∃out ia ib mg ac bc,c=(none,out,ia,ib,mg,ac,bc)/\LI κ a b st out ia ib (x+1) st') ?gstep ?gfin ⟨_,_,_,_,_,_,rfl,li⟩) ?gpost)
   case gfin=>
    rintro c st' ⟨out,ia,ib,mg,ac,bc,rfl,li⟩;have:=li.t;have:=li.la;have:=li.lb;omega
   case gpost=>
    rintro c st3 (⟨r,c',rfl,kp,mr⟩|⟨out,ia,ib,mg,ac,bc,rfl,li⟩)
    ·exact wpS_pure ⟨r,_,rfl,kp,mr⟩
    dsimp only;exact wpS_bind (ki λst4 kp4=>wpS_pure ⟨_,_,_,_,rfl,li.kp.trans kp4,li.m,li.la,li.lb,li.t⟩)
   case gstep=>
    rintro y c st3 _ hy ⟨out,ia,ib,mg,ac,bc,rfl,li⟩;dsimp only;obtain⟨xb,hxb,mxb⟩:=gK li.lb;have hb':=(sb.drop ib);rw[dF hxb]at hb';have belb:Below κ [xb] (b.toList.drop ib):=by rw[dF hxb];exact hb'.head
    clear hb';have belA:∀{i:Nat}{x:Keyed},a[i]? =some x->Below κ [x] (a.toList.drop i):=λ{i x} hx=>by
     have h:=sa.drop i;rw[dF hx]at h ⊢;exact h.head
    have ubl:∀{i:Nat}(j:Nat),i+1=a.size->Under κ (b.toList.drop j) (a.toList.drop i):=λ{i} j e=>by
     have:=ub j
     rwa [show a.size - 1=i by omega]at this
    have lla:=li.la;have llb:=li.lb;have llt:=li.t;refine cI (λ_=>?_) (λ_=>?_)
    all_goals
     refine wpS_bind (ki λst4 kp4=>?_);have kp3:=li.kp.trans kp4;refine wpS_bind (cM hxb (wpS_bind (pB hL (kp3.kind.trans hk) (kb xb mxb) ka (by omega) (by rw[eY _ _ (by rw[length_toList];exact le_refl _)];exact sa.drop _) (by omega) λk1 hk1 bl1 un1=>?_)));dsimp only;rw[t8 a (le_refl _) hk1]at un1;have m2:=jG.F7 sa li.m (Below.over bl1 belb);refine cI (λc1=>cI (λc2=>?_) (λc2=>cI (λc7=>?_) (λc7=>?_))) (λc1=>?_)
     ·rw[beq_iff_eq]at c2
      exact wpS_pure (.inl ⟨_,_,rfl,kp3,m2.C3 sa sb (ubl _ (by omega))⟩)
     ·rw[beq_iff_eq]at c7
      exact wpS_pure (.inl ⟨_,_,rfl,kp3,m2.oh sa sb (.inl (by omega))⟩)
     rw[beq_iff_eq]at c2 c7;have lt:=show ia+k1 < a.size by omega
     rotate_left
     have e:k1=0:=by omega
     subst e;have m2:=li.m;have lt:=show ia < a.size by omega
     all_goals
      have m3:=jG.qg sb m2 hxb un1;refine wpS_bind (cM hxb ?_);refine cI (λc3=>?_) (λc3=>?_)
      ·rw[beq_iff_eq]at c3
       exact wpS_pure (.inl ⟨_,_,rfl,kp3,m3.oh sa sb (.inr (by omega))⟩)
      rw[beq_iff_eq]at c3;obtain⟨xc,hxc,mxc⟩:=gK lt;have belc:=belA hxc;refine wpS_bind (cM hxc (wpS_bind (oI hL (kp3.kind.trans hk) (ka xc mxc) kb (by omega) (by rw[eY _ _ (by rw[length_toList];omega)];exact sb.drop _) (by omega) λk2 hk2 ul bl=>?_)));dsimp only;rw[t8 b (by omega) hk2]at bl;have m4:=jG.Ei sb m3 (Under.over ul belc);refine cI (λc4=>cI (λc6=>?_) (λc6=>?_)) (λc4=>?_)
      ·rw[beq_iff_eq]at c6
       exact wpS_pure (.inl ⟨_,_,rfl,kp3,m4.oh sa sb (.inr (by omega))⟩)
      rw[beq_iff_eq]at c6
      rotate_left
      have e:k2=0:=by omega
      subst e;have m4:=m3
      all_goals
       have m5:=jG.qc sa m4 hxc bl;refine wpS_bind (cM hxc ?_);refine cI (λc5=>?_) (λc5=>?_)
       ·rw[beq_iff_eq]at c5
        exact wpS_pure (.inl ⟨_,_,rfl,kp3,m5.C3 sa sb (ubl _ (by omega))⟩)
       ·rw[beq_iff_eq]at c5
        exact cI (λ_=>wpS_pure (.inr ⟨_,_,_,_,_,_,rfl,kp3,m5,by omega,by omega,by omega⟩)) (λ_=>wpS_pure ⟨_,_,_,_,_,_,rfl,kp3,m5,by omega,by omega,by omega⟩)
end
end TS
namespace TS
open PySem PyProof.Rows
variable {κ:KeyKind}
theorem j8(l:List Keyed){m n:Nat}(h:m<=n):l.take n=l.take m++(l.drop m).take (n - m):=by
 rw[<-List.drop_take];have:=take_append_drop m (l.take n);rw[List.take_take,Nat.min_eq_left h]at this;exact this.symm
theorem c9.take{l:List Keyed}(h:c9 κ l)(i:Nat):c9 κ (l.take i):=List.Pairwise.sublist (List.take_sublist i l) h
structure jF(κ:KeyKind)(al bl o:List Keyed)(na nb:Nat):Prop where
 so:c9 κ o
 oa:Below κ (al.take na) o
 ob:Below κ (bl.take nb) o
 st:cK κ (al.take na++(bl.take nb++o)) (al++bl)
theorem Below.Ag{l m n:List Keyed}(h:Below κ l m)(h':Below κ l n):Below κ l (m++n):=λx hx y hy=>(mem_append.mp hy).elim (h x hx y) (h' x hx y)
theorem Below.Dz{l m n:List Keyed}(h:Below κ (l++m) n):Below κ l n:=λx hx y hy=>h x (mem_append_left _ hx) y hy
theorem Below.zr{l m n:List Keyed}(h:Below κ (l++m) n):Below κ m n:=λx hx y hy=>h x (mem_append_right _ hx) y hy
theorem jF.vH{al bl o:List Keyed}{na nb m:Nat}(sa:c9 κ al)(h:jF κ al bl o na nb)(hm:m<=na)(u:Under κ (bl.take nb) ((al.drop m).take (na - m))):jF κ al bl ((al.drop m).take (na - m)++o) m nb:=by
 have e:=j8 al hm;have s:=sa.take na;have oa:=h.oa;have st:=h.st;rw[e]at s oa st;refine⟨s.right.append h.so oa.zr,s.mid.Ag oa.Dz,u.below.Ag h.ob,cK.trans ?_ st⟩;rw[append_assoc];refine(cK.refl _).append ?_;rw[<-append_assoc,<-append_assoc];exact(cK.swap u).append (cK.refl _)
theorem jF.vP{al bl o:List Keyed}{na nb m:Nat}(sb:c9 κ bl)(h:jF κ al bl o na nb)(hm:m<=nb)(u:Below κ (al.take na) ((bl.drop m).take (nb - m))):jF κ al bl ((bl.drop m).take (nb - m)++o) na m:=by
 have e:=j8 bl hm;have s:=sb.take nb;have ob:=h.ob;have st:=h.st;rw[e]at s ob st;refine⟨s.right.append h.so ob.zr,u.Ag h.oa,s.mid.Ag ob.Dz,?_⟩;rw[<-append_assoc (bl.take m)];exact st
theorem jF.done{al bl o:List Keyed}{na nb:Nat}(sa:c9 κ al)(sb:c9 κ bl)(h:jF κ al bl o na nb)(e:na=0\/nb=0):c9 κ (al.take na++bl.take nb++o)/\cK κ (al.take na++bl.take nb++o) (al++bl):=by
 refine⟨?_,by rw[append_assoc];exact h.st⟩;rcases e with e|e
 ·rw[e,take_zero,nil_append]
  exact(sb.take nb).append h.so h.ob
 ·rw[e,take_zero,append_nil]
  exact(sa.take na).append h.so h.oa
theorem jF.first{al bl o:List Keyed}{na nb:Nat}(sa:c9 κ al)(sb:c9 κ bl)(h:jF κ al bl o na nb)(u:Under κ (bl.take nb) (al.take na)):c9 κ (bl.take nb++al.take na++o)/\cK κ (bl.take nb++al.take na++o) (al++bl):=by
 refine⟨?_,cK.trans ?_ h.st⟩
 ·rw[append_assoc]
  exact(sb.take nb).append ((sa.take na).append h.so h.oa) (u.below.Ag h.ob)
 ·rw[<-append_assoc]
  exact(cK.swap u).append (cK.refl _)
def AR:Array Keyed->Array Keyed->StateT SortSt Sem (Array Keyed):=sortPriv% PySem.Builtin.mergeHi
section
variable {prog:Program}{w:World}{A:Around}{E:Value->Shared->Prop}{s:Shared}{kd:SortKind}
abbrev bk(out:Array Keyed):List Keyed:=out.toList.reverse
section
variable {a b out:Array Keyed}{na nb:Nat}(sa:c9 κ a.toList)(sb:c9 κ b.toList)
include sa sb
theorem jF.oh(h:jF κ a.toList b.toList (bk out) na nb)(e:na=0\/nb=0):jI κ a b (a.extract 0 na++b.extract 0 nb++out.reverse):=by
 unfold jI;rw[toList_append,toList_append,toList_extract,toList_extract,toList_reverse];exact h.done sa sb e
theorem jF.Cd(h:jF κ a.toList b.toList (bk out) na nb)(u:Under κ (b.toList.take nb) (a.toList.take na)):jI κ a b (b.extract 0 nb++a.extract 0 na++out.reverse):=by
 unfold jI;rw[toList_append,toList_append,toList_extract,toList_extract,toList_reverse];exact h.first sa sb u
omit sa in
theorem jF.Ei{m:Nat}(h:jF κ a.toList b.toList (bk out) na nb)(hm:m<=nb)(u:Below κ (a.toList.take na) ((b.toList.drop m).take (nb - m))):jF κ a.toList b.toList (bk (out++(b.extract m nb).reverse)) na m:=by
 have e:bk (out++(b.extract m nb).reverse)=(b.toList.drop m).take (nb - m)++bk out:=by
  show(out++(b.extract m nb).reverse).toList.reverse=_;rw[toList_append,toList_reverse,toList_extract,reverse_append,reverse_reverse]
 rw[e];exact h.vP sb hm u
omit sb in
theorem jF.F7{m:Nat}(h:jF κ a.toList b.toList (bk out) na nb)(hm:m<=na)(u:Under κ (b.toList.take nb) ((a.toList.drop m).take (na - m))):jF κ a.toList b.toList (bk (out++(a.extract m na).reverse)) m nb:=by
 have e:bk (out++(a.extract m na).reverse)=(a.toList.drop m).take (na - m)++bk out:=by
  show(out++(a.extract m na).reverse).toList.reverse=_;rw[toList_append,toList_reverse,toList_extract,reverse_append,reverse_reverse]
 rw[e];exact h.vH sa hm u
end
theorem rW{a:Array Keyed}{m n:Nat}{x:Keyed}(hx:a[m]? =some x)(h:n=m+1):(a.toList.drop m).take (n - m)=[x]:=by
 rw[dF hx,show n - m=1 by omega];rfl
theorem xw(out:Array Keyed)(x:Keyed):bk (out.push x)=[x]++bk out:=by
 show(out.push x).toList.reverse=_;rw[toList_push,reverse_append];rfl
theorem jF.qc{a b out:Array Keyed}{na nb m:Nat}{x:Keyed}(sa:c9 κ a.toList)(h:jF κ a.toList b.toList (bk out) na nb)(hx:a[m]? =some x)(hm:na=m+1)(u:Under κ (b.toList.take nb) [x]):jF κ a.toList b.toList (bk (out.push x)) m nb:=by
 have e:=rW hx hm;have:=h.vH (m:=m) sa (by omega) (by rw[e];exact u);rw[e]at this;rw[xw];exact this
theorem jF.qg{a b out:Array Keyed}{na nb m:Nat}{x:Keyed}(sb:c9 κ b.toList)(h:jF κ a.toList b.toList (bk out) na nb)(hx:b[m]? =some x)(hm:nb=m+1)(u:Below κ (a.toList.take na) [x]):jF κ a.toList b.toList (bk (out.push x)) na m:=by
 have e:=rW hx hm;have:=h.vP (m:=m) sb (by omega) (by rw[e];exact u);rw[e]at this;rw[xw];exact this
theorem c9.last{a:Array Keyed}(h:c9 κ a.toList){m n:Nat}{x:Keyed}(hx:a[m]? =some x)(hn:n=m+1):Below κ (a.toList.take n) [x]:=by
 have s:=h.take n;have e:=j8 a.toList (show m<=n by omega);rw[rW hx hn]at e;rw[e]at s ⊢;exact s.mid.append λy hy z hz=>by
  cases mem_singleton.mp hy;cases mem_singleton.mp hz;exact KeyOrd.kle_refl _
theorem Below.under{k:Keyed}{l m:List Keyed}(h:Below κ l [k])(u:Under κ [k] m):Under κ l m:=λx hx y hy=>KeyOrd.klt_of_kle_of_klt (h x hx k (mem_singleton_self _)) (u k (mem_singleton_self _) y hy)
structure HI(κ:KeyKind)(a b:Array Keyed)(st:SortSt)(out:Array Keyed)(na nb t:Nat)(st':SortSt):Prop where
 kp:Kept st st'
 m:jF κ a.toList b.toList (bk out) na nb
 la:1<=na
 lb:2<=nb
 ha:na<=a.size
 hb:nb<=b.size
 t:na+nb+t<=a.size+b.size
theorem tT(hL:lH prog w A E s κ kd){a b:Array Keyed}{st:SortSt}{Q:Array Keyed->SortSt->Prop}(hk:kindOf st=kd)(ka:∀x∈a.toList,ir κ x)(kb:∀x∈b.toList,ir κ x)(sa:c9 κ a.toList)(sb:c9 κ b.toList)(a1:1<=a.size)(b1:1<=b.size)(u1:Under κ (b.toList.take 1) a.toList)(u2:Under κ b.toList (a.toList.drop (a.size - 1)))
  (q:∀r st',Kept st st'->jI κ a b r->Q r st'):wpS (model prog w) A E s (AR a b) Q st:=by
 refine wpS_bind (wpS_lift (wpAny_rule ⟨rfl,?_⟩));obtain⟨a0,ha0,ma0⟩:=gK (show a.size - 1 < a.size by omega);refine wpS_bind (cM ha0 ?_);have ubf:∀{nb:Nat}(na:Nat),nb=1->Under κ (b.toList.take nb) (a.toList.take na):=λ{nb} na e x hx y hy=>by
  subst e;exact u1 x hx y (mem_of_mem_take hy)
 have m0:jF κ a.toList b.toList (bk #[a0]) (a.size - 1) b.size:=by
  have h0:jF κ a.toList b.toList (bk #[]) a.size b.size:=⟨List.Pairwise.nil,Below.nil,Below.nil,by
   rw[take_of_length_le (by rw[length_toList];exact le_refl _),take_of_length_le (by rw[length_toList];exact le_refl _)];show cK κ (_++(_++[])) _;rw[append_nil];exact cK.refl _⟩
  refine h0.qc sa ha0 (by omega) λx hx y hy=>u2 x (mem_of_mem_take hx) y ?_;rw[dF ha0];cases mem_singleton.mp hy;exact mem_cons_self
 refine cI (λc1=>?_) (λc1=>?_)
 ·rw[beq_iff_eq]at c1
  exact wpS_pure (q _ st (Kept.refl _) (m0.oh sa sb (.inl c1)))
 refine cI (λc2=>?_) (λc2=>?_)
 ·rw[beq_iff_eq]at c2
  exact wpS_pure (q _ st (Kept.refl _) (m0.Cd sa sb (ubf _ c2)))
 rw[beq_iff_eq]at c1 c2;refine wpS_bind (wpS_get ?_);refine wpS_bind (wpS_mono (wpS_forRange (I:=λx c st'=>∃na nb out mg,c=(none,na,nb,out,mg)/\HI κ a b st out na nb x st')
  (Q:=λc st'=>∃r c',c=(some r,c')/\Kept st st'/\jI κ a b r) ?step ?fin ⟨_,_,_,_,rfl,Kept.refl _,m0,by omega,by omega,by omega,by omega,by omega⟩) ?post)
 case post=>
  rintro c st' ⟨r,c',rfl,kp,mr⟩;exact wpS_pure (q r st' kp mr)
 case fin=>
  rintro c st' ⟨na,nb,out,mg,rfl,li⟩;have:=li.t;have:=li.la;have:=li.lb;omega
 case step=>
  rintro x c st1 _ hx ⟨na,nb,out,mg,rfl,li⟩;dsimp only;refine wpS_bind (wpS_mono (wpS_forRange (I:=λy c st'=>∃na nb out ac bc,c=(none,na,nb,out,ac,bc)/\HI κ a b st out na nb (x+y) st')
   (Q:=λc st'=>(∃r c',c=(some r,c')/\Kept st st'/\jI κ a b r)\/∃na nb out ac bc,c=(none,na,nb,out,ac,bc)/\HI κ a b st out na nb (x+1) st') ?istep ?ifin ⟨_,_,_,_,_,rfl,li⟩) ?ipost)
  case ifin=>
   rintro c st' ⟨na,nb,out,ac,bc,rfl,li⟩;have:=li.t;have:=li.la;have:=li.lb;omega
  case istep=>
   rintro y c st2 _ hy ⟨na,nb,out,ac,bc,rfl,li⟩;dsimp only;have lla:=li.la;have llb:=li.lb;have lha:=li.ha;have lhb:=li.hb;have llt:=li.t;obtain⟨xb,hxb,mxb⟩:=gK (show nb - 1 < b.size by omega);obtain⟨xa,hxa,mxa⟩:=gK (show na - 1 < a.size by omega);have belb:=sb.last hxb (show nb=_ by omega);have bela:=sa.last hxa (show na=_ by omega);refine wpS_bind (cM hxb (wpS_bind (cM hxa (wpS_bind (hL xb xa st2 _ (li.kp.kind.trans hk) (kb xb mxb) (ka xa mxa) ?_)))));dsimp only;cases hc:κ.blt (key κ xb) (key κ xa) with
   |true=>
    rw[if_pos rfl];have m':=li.m.qc sa hxa (by omega) (Below.under (k:=xb) belb (λx hx y hy=>by cases mem_singleton.mp hx;cases mem_singleton.mp hy;exact hc));refine wpS_bind (cM hxa ?_);refine cI (λc3=>?_) (λc3=>?_)
    ·rw[beq_iff_eq]at c3
     exact wpS_pure (.inl ⟨_,_,rfl,li.kp,m'.oh sa sb (.inl c3)⟩)
    rw[beq_iff_eq]at c3;exact cI (λ_=>wpS_pure (.inr ⟨_,_,_,_,_,rfl,li.kp,m',by omega,by omega,by omega,by omega,by omega⟩)) (λ_=>wpS_pure ⟨_,_,_,_,_,rfl,li.kp,m',by omega,by omega,by omega,by omega,by omega⟩)
   |false=>
    rw[if_neg Bool.false_ne_true];have m':=li.m.qg sb hxb (by omega) (Below.over (k:=xa) bela (λx hx y hy=>by cases mem_singleton.mp hx;cases mem_singleton.mp hy;exact hc));refine wpS_bind (cM hxb ?_);refine cI (λc3=>?_) (λc3=>?_)
    ·rw[beq_iff_eq]at c3
     exact wpS_pure (.inl ⟨_,_,rfl,li.kp,m'.Cd sa sb (ubf _ c3)⟩)
    rw[beq_iff_eq]at c3;exact cI (λ_=>wpS_pure (.inr ⟨_,_,_,_,_,rfl,li.kp,m',by omega,by omega,by omega,by omega,by omega⟩)) (λ_=>wpS_pure ⟨_,_,_,_,_,rfl,li.kp,m',by omega,by omega,by omega,by omega,by omega⟩)
  case ipost=>
   rintro c st2 (⟨r,c',rfl,kp,mr⟩|⟨na,nb,out,ac,bc,rfl,li⟩)
   ·exact wpS_pure ⟨r,_,rfl,kp,mr⟩
   dsimp only;refine wpS_bind (wpS_lift (wpAny_rule ⟨rfl,?_⟩));refine wpS_bind (wpS_mono (wpS_forRange (I:=λy c st'=>∃na nb out mg ac bc,c=(none,na,nb,out,mg,ac,bc)/\HI κ a b st out na nb (x+1+y) st')
    (Q:=λc st'=>(∃r c',c=(some r,c')/\Kept st st'/\jI κ a b r)\/∃na nb out mg ac bc,c=(none,na,nb,out,mg,ac,bc)/\HI κ a b st out na nb (x+1) st') ?gstep ?gfin ⟨_,_,_,_,_,_,rfl,li⟩) ?gpost)
   case gfin=>
    rintro c st' ⟨na,nb,out,mg,ac,bc,rfl,li⟩;have:=li.t;have:=li.la;have:=li.lb;omega
   case gpost=>
    rintro c st3 (⟨r,c',rfl,kp,mr⟩|⟨na,nb,out,mg,ac,bc,rfl,li⟩)
    ·exact wpS_pure ⟨r,_,rfl,kp,mr⟩
    dsimp only;exact wpS_bind (ki λst4 kp4=>wpS_pure ⟨_,_,_,_,rfl,li.kp.trans kp4,li.m,li.la,li.lb,li.ha,li.hb,li.t⟩)
   case gstep=>
    rintro y c st3 _ hy ⟨na,nb,out,mg,ac,bc,rfl,li⟩;dsimp only;have lla:=li.la;have llb:=li.lb;have lha:=li.ha;have lhb:=li.hb;have llt:=li.t;obtain⟨xb,hxb,mxb⟩:=gK (show nb - 1 < b.size by omega);have belb:=sb.last hxb (show nb=_ by omega);refine cI (λ_=>?_) (λ_=>?_)
    all_goals
     refine wpS_bind (ki λst4 kp4=>?_);have kp3:=li.kp.trans kp4;refine wpS_bind (cM hxb (wpS_bind (pB hL (kp3.kind.trans hk) (kb xb mxb) ka (by omega) (by rw[drop_zero];exact sa.take _) (by omega) λk1 hk1 bl1 un1=>?_)));dsimp only;rw[drop_zero]at bl1;rw[zero_add]at un1;have m2:=jF.F7 sa li.m hk1 (Below.under belb un1);refine cI (λc1=>cI (λc2=>?_) (λc2=>?_)) (λc1=>?_)
     ·rw[beq_iff_eq]at c2
      exact wpS_pure (.inl ⟨_,_,rfl,kp3,m2.oh sa sb (.inl (by omega))⟩)
     rw[beq_iff_eq]at c2
     rotate_left
     have e:k1=na:=by omega
     subst e;have m2:=li.m
     all_goals
      have m3:=jF.qg sb m2 hxb (by omega) bl1;refine wpS_bind (cM hxb ?_);refine cI (λc3=>?_) (λc3=>?_)
      ·rw[beq_iff_eq]at c3
       exact wpS_pure (.inl ⟨_,_,rfl,kp3,m3.Cd sa sb (ubf _ (by omega))⟩)
      rw[beq_iff_eq]at c3;obtain⟨xc,hxc,mxc⟩:=gK (show k1 - 1 < a.size by omega);have belc:=sa.last hxc (show k1=_ by omega);refine wpS_bind (cM hxc (wpS_bind (oI hL (kp3.kind.trans hk) (ka xc mxc) kb (by omega) (by rw[drop_zero];exact sb.take _) (by omega) λk2 hk2 ul bl=>?_)));dsimp only;rw[drop_zero]at ul;rw[zero_add]at bl;have m4:=jF.Ei sb m3 hk2 (Below.over belc bl);refine cI (λc4=>cI (λc6=>?_) (λc6=>cI (λc7=>?_) (λc7=>?_))) (λc4=>?_)
      ·rw[beq_iff_eq]at c6
       exact wpS_pure (.inl ⟨_,_,rfl,kp3,m4.Cd sa sb (ubf _ (by omega))⟩)
      ·rw[beq_iff_eq]at c7
       exact wpS_pure (.inl ⟨_,_,rfl,kp3,m4.oh sa sb (.inr (by omega))⟩)
      rw[beq_iff_eq]at c6 c7
      rotate_left
      have e:k2=nb - 1:=by omega
      subst e;have m4:=m3
      all_goals
       have m5:=jF.qc sa m4 hxc (by omega) ul;refine wpS_bind (cM hxc ?_);refine cI (λc5=>?_) (λc5=>?_)
       ·rw[beq_iff_eq]at c5
        exact wpS_pure (.inl ⟨_,_,rfl,kp3,m5.oh sa sb (.inl (by omega))⟩)
       ·rw[beq_iff_eq]at c5
        exact cI (λ_=>wpS_pure (.inr ⟨_,_,_,_,_,_,rfl,kp3,m5,by omega,by omega,by omega,by omega,by omega⟩)) (λ_=>wpS_pure ⟨_,_,_,_,_,_,rfl,kp3,m5,by omega,by omega,by omega,by omega,by omega⟩)
end
end TS
namespace TS
open PySem PyProof.Rows
variable {κ:KeyKind}
def vi:Nat->Nat->StateT SortSt Sem (Option Nat):=sortPriv% PySem.Builtin.countRun
def rD:Nat->Nat->Nat->StateT SortSt Sem Bool:=sortPriv% PySem.Builtin.binarySort
theorem sV{xs:Array Keyed}{P G R:List Keyed}(e:xs.toList=P++(G++R)){i j:Nat}(hi:i=P.length)(hj:j=i+G.length):(mirror xs i j ((j - i) / 2)).toList=P++(G.reverse++R):=by
 have hs:xs.size=P.length+(G.length+R.length):=by rw[<-length_toList,e,length_append,length_append]
 apply List.ext_getElem?;intro k;rw[getElem?_toList,getElem?_mirror_all (by omega),<-getElem?_toList,<-getElem?_toList,e];by_cases h:i<=k/\k < j
 ·rw[if_pos h,getElem?_append_right (by omega),getElem?_append_left (by omega),getElem?_append_right (by omega),getElem?_append_left (by rw[length_reverse];omega),List.getElem?_reverse (by omega)]
  congr 1
  omega
 ·rw[if_neg h]
  by_cases h1:k < i
  ·rw[getElem?_append_left (by omega),getElem?_append_left (by omega)]
  ·rw[getElem?_append_right (by omega),getElem?_append_right (by omega),getElem?_append_right (by omega),getElem?_append_right (by rw[length_reverse];omega),length_reverse]
theorem tL{xs:Array Keyed}{P T R:List Keyed}{x:Keyed}(e:xs.toList=P++(T++x::R)){src d:Nat}(hi:src=P.length+T.length)(hd:d=T.length):(bubble xs src d).toList=P++(x::T++R):=by
 have hs:xs.size=P.length+(T.length+(R.length+1)):=by rw[<-length_toList,e,length_append,length_append];rfl
 apply List.ext_getElem?;intro k;rw[getElem?_toList,getElem?_bubble (by omega) d (by omega),<-getElem?_toList,<-getElem?_toList,<-getElem?_toList,e];by_cases h:k=src - d
 ·rw[if_pos h,getElem?_append_right (by omega),getElem?_append_right (by omega),getElem?_append_right (by omega),show src - P.length - T.length=0 by omega,show k - P.length=0 by omega]
  rfl
 ·rw[if_neg h]
  by_cases h1:src - d < k/\k<=src
  ·rw[if_pos h1,getElem?_append_right (by omega),getElem?_append_left (by omega),getElem?_append_right (by omega),getElem?_append_left (by show _ < T.length+1;omega),show k - P.length=(k - 1 - P.length)+1 by omega,List.getElem?_cons_succ]
  ·rw[if_neg h1]
   by_cases h2:k < P.length
   ·rw[getElem?_append_left h2,getElem?_append_left h2]
   ·rw[getElem?_append_right (by omega),getElem?_append_right (by omega),getElem?_append_right (by omega),getElem?_append_right (by show T.length+1<=_;omega),show k - P.length - T.length=(k - P.length - (T.length+1))+1 by omega,List.getElem?_cons_succ]
    rfl
theorem jT:∀(m:List Keyed) (j off:Nat) (xs:Array Keyed) (P Y R:List Keyed),xs.toList=P++(Y++R)->m.length=Y.length->off+j=P.length->
  ((m.zipIdx j).foldl (λ(a:Array Keyed) (x:Keyed×Nat)=>a.setIfInBounds (off+x.2) x.1) xs).toList=P++(m++R)
 |[],j,off,xs,P,Y,R,e,l,_=>by
  rw[List.zipIdx_nil,List.foldl_nil,e,eq_nil_of_length_eq_zero l.symm]
 |x::m,j,off,xs,P,[],R,e,l,_=>by cases l
 |x::m,j,off,xs,P,y::Y,R,e,l,h=>by
  rw[List.zipIdx_cons,foldl_cons];have ih:=jT m (j+1) off (xs.setIfInBounds (off+j) x) (P++[x]) Y R (by
   rw[Array.toList_setIfInBounds,e,h,List.set_append_right _ _ (le_refl _),Nat.sub_self,append_assoc];rfl) (Nat.succ.inj l) (by rw[length_append,<-h];rfl)
  rw[ih,append_assoc];rfl
structure uM(st st':SortSt):Prop where
 kind:kindOf st'=kindOf st
 pend:pendingOf st'=pendingOf st
 failed:failedOf st'=failedOf st
theorem uM.refl(st:SortSt):uM st st:=⟨rfl,rfl,rfl⟩
theorem uM.trans{a b c:SortSt}(h:uM a b)(h':uM b c):uM a c:=⟨h'.kind.trans h.kind,h'.pend.trans h.pend,h'.failed.trans h.failed⟩
section
variable {prog:Program}{w:World}{A:Around}{E:Value->Shared->Prop}{s:Shared}{kd:SortKind}
theorem kN{st:SortSt}{P G R:List Keyed}(e:(arrOf st).toList=P++(G++R)){i j:Nat}(hi:i=P.length)(hj:j=i+G.length){Q:Unit->SortSt->Prop}(q:∀st',uM st st'->(arrOf st').toList=P++(G.reverse++R)->Q () st'):wpS (model prog w) A E s (reverseSlice' i j) Q st:=by
 rw[reverseSlice'_eq];exact wpS_modify (q _ ⟨rfl,rfl,rfl⟩ (sV e hi hj))
theorem AH{st:SortSt}{P T R:List Keyed}{x:Keyed}(e:(arrOf st).toList=P++(T++x::R)){src dst:Nat}(hi:src=P.length+T.length)(hd:dst=P.length){Q:Unit->SortSt->Prop}(q:∀st',uM st st'->(arrOf st').toList=P++(x::T++R)->Q () st'):wpS (model prog w) A E s (moveDown' src dst) Q st:=by
 rw[moveDown'_eq];exact wpS_modify (q _ ⟨rfl,rfl,rfl⟩ (tL e hi (by omega)))
theorem hU(hL:lH prog w A E s κ kd){st:SortSt}{i j:Nat}{x y:Keyed}{Q:Option Bool->SortSt->Prop}(hk:kindOf st=kd)(hx:(arrOf st).toList[i]? =some x)(hy:(arrOf st).toList[j]? =some y)(kx:ir κ x)(ky:ir κ y)(q:Q (some (κ.blt (key κ x) (key κ y))) st):wpS (model prog w) A E s (ltAt' i j) Q st:=by
 rw[ltAt'_eq];refine wpS_bind (wpS_get ?_);rw[getElem?_toList]at hx hy;exact wpS_bind (cM hx (wpS_bind (cM hy (hL x y st Q hk kx ky q))))
theorem nN{P R:List Keyed}{x:Keyed}{i:Nat}(h:i=P.length):(P++x::R)[i]? =some x:=by
 rw[getElem?_append_right (by omega),h,Nat.sub_self];rfl
theorem kr{P C R:List Keyed}{x:Keyed}{i:Nat}(h:i=P.length+C.length):(P++((C++[x])++R))[i]? =some x:=by
 rw[append_assoc,<-append_assoc P];exact nN (by rw[length_append];exact h)
theorem nF{P C R:List Keyed}{x:Keyed}{i:Nat}(h:i=P.length+C.length):(P++(C++x::R))[i]? =some x:=by
 rw[<-append_assoc];exact nN (by rw[length_append];exact h)
theorem c9.snoc{l:List Keyed}{x:Keyed}(h:c9 κ l)(b:Below κ l [x]):c9 κ (l++[x]):=h.append (List.pairwise_singleton _ _) b
theorem kT{l:List Keyed}(h:1<=l.length):∃c x,l=c++[x]:=⟨l.dropLast,l.getLast (by intro e;rw[e]at h;cases h),(List.dropLast_concat_getLast _).symm⟩
theorem c9.Be{c:List Keyed}{x y:Keyed}(h:c9 κ (c++[x]))(b:κ.kle (key κ x) (key κ y)):Below κ (c++[x]) [y]:=λu hu v hv=>by
 cases mem_singleton.mp hv;rcases mem_append.mp hu with hu|hu
 ·exact KeyOrd.kle_trans (h.mid u hu x (mem_singleton_self _)) b
 ·cases mem_singleton.mp hu
  exact b
structure vm(κ:KeyKind)(st0:SortSt)(P S:List Keyed)(n:Nat)(M O R:List Keyed)(st:SortSt):Prop where
 e:(arrOf st).toList=P++(M++R)
 s:S=O++R
 m:M.length=n
 o:O.length=n
 sm:c9 κ M
 tm:cK κ M O
 cg:uM st0 st
structure zm(κ:KeyKind)(st0:SortSt)(P S:List Keyed)(n neq:Nat)(C G O R:List Keyed)(st:SortSt):Prop where
 e:(arrOf st).toList=P++((C++G)++R)
 s:S=O++R
 o:O.length=n
 m:C.length+G.length=n
 g:G.length=neq+1
 sc:c9 κ C.reverse
 un:Under κ G C
 gg:Below κ G G
 t:cK κ (C.reverse++G) O
 cg:uM st0 st
theorem rP{P C G R:List Keyed}:P++((C++G)++R)=(P++C)++(G++R):=by rw[append_assoc,append_assoc]
theorem nU{G:List Keyed}(h:Below κ G G):c9 κ G:=List.pairwise_iff_forall_sublist.mpr λ{a b} hs=>h a (hs.subset mem_cons_self) b (hs.subset (mem_cons_of_mem _ (mem_singleton_self _)))
theorem Under.rev{G C:List Keyed}(h:Under κ G C):Under κ G C.reverse:=λx hx y hy=>h x hx y (mem_reverse.mp hy)
theorem zm.up{st0:SortSt}{P S C G O R:List Keyed}{n neq:Nat}{st st':SortSt}(d:zm κ st0 P S n neq C G O R st)(cg:uM st st')(e:(arrOf st').toList=P++((G++C.reverse)++R)):vm κ st0 P S n (G++C.reverse) O R st':=
 ⟨e,d.s,by have:=d.m;rw[length_append,length_reverse];omega,d.o,(nU d.gg).append d.sc d.un.rev.below,(cK.swap d.un.rev).trans d.t,d.cg.trans cg⟩
theorem zm.less{st0:SortSt}{P S C G O R:List Keyed}{n neq:Nat}{st st':SortSt}{y:Keyed}(d:zm κ st0 P S n neq C G O (y::R) st)(u:Under κ [y] G)(g1:1<=G.length)(cg:uM st st')(e:(arrOf st').toList=(P++C)++(G.reverse++y::R)):zm κ st0 P S (n+1) 0 (C++G.reverse) [y] (O++[y]) R st':=by
 have m:=d.m;have r:(C++G.reverse).reverse=G++C.reverse:=by rw[reverse_append,reverse_reverse]
 refine⟨by rw[e,append_assoc,append_assoc,append_assoc];rfl,by rw[d.s,append_assoc];rfl,by rw[length_append,d.o];rfl,by rw[length_append,length_reverse];show _+1=_;omega,rfl,?_,?_,?_,?_,d.cg.trans cg⟩
 ·rw[r]
  exact(nU d.gg).append d.sc d.un.rev.below
 ·intro x hx z hz
  rcases mem_append.mp hz with hz|hz
  ·obtain⟨g,hg⟩:=List.exists_mem_of_length_pos g1
   exact KeyOrd.klt_of_klt_of_kle (u x hx g hg) (d.un.below g hg z hz)
  ·exact u x hx z (mem_reverse.mp hz)
 ·intro x hx z hz
  cases mem_singleton.mp hx;cases mem_singleton.mp hz;exact KeyOrd.kle_refl _
 ·rw[r]
  exact((cK.swap d.un.rev).trans d.t).append (cK.refl _)
theorem zm.same{st0:SortSt}{P S C G O R:List Keyed}{n neq:Nat}{st:SortSt}{y z:Keyed}(d:zm κ st0 P S n neq C G O (y::R) st)(hz:z∈G)(h1:κ.kle (key κ z) (key κ y))(h2:κ.kle (key κ y) (key κ z)):zm κ st0 P S (n+1) (neq+1) C (G++[y]) (O++[y]) R st:=by
 have m:=d.m;have g:=d.g;refine⟨by rw[d.e,<-append_assoc C,append_assoc _ [y]];rfl,by rw[d.s,append_assoc];rfl,by rw[length_append,d.o];rfl,by rw[length_append];show _+(_+1)=_;omega,by rw[length_append,g];rfl,d.sc,?_,?_,?_,d.cg⟩
 ·intro u hu v hv
  rcases mem_append.mp hu with hu|hu
  ·exact d.un u hu v hv
  ·cases mem_singleton.mp hu
   exact KeyOrd.klt_of_kle_of_klt h2 (d.un z hz v hv)
 ·intro u hu v hv
  have a1:κ.kle (key κ u) (key κ z):=by
   rcases mem_append.mp hu with hu|hu
   ·exact d.gg u hu z hz
   ·cases mem_singleton.mp hu
    exact h2
  refine KeyOrd.kle_trans a1 ?_;rcases mem_append.mp hv with hv|hv
  ·exact d.gg z hz v hv
  ·cases mem_singleton.mp hv
   exact h1
 ·rw[<-append_assoc]
  exact d.t.append (cK.refl _)
theorem nZ(hL:lH prog w A E s κ kd){lo nrem:Nat}{st:SortSt}{Q:Option Nat->SortSt->Prop}{P S:List Keyed}(hk:kindOf st=kd)(ks:∀x∈S,ir κ x)(he0:(arrOf st).toList=P++S)(hlo:lo=P.length)(hn:S.length=nrem)(h1:1<=nrem)
  (q:∀n st' M O R,1<=n->n<=nrem->vm κ st P S n M O R st'->Q (some n) st'):wpS (model prog w) A E s (vi lo nrem) Q st:=by
 have a0:∃M O R,vm κ st P S 1 M O R st:=by
  cases S with
  |nil=>rw[<-hn]at h1;cases h1
  |cons x R=>exact⟨[x],[x],R,he0,rfl,rfl,rfl,List.pairwise_singleton _ _,cK.refl _,uM.refl _⟩
 refine wpS_bind (wpS_mono (wpS_forRange (I:=λx c st'=>c=(none,x)/\∃M O R,vm κ st P S x M O R st')
  (Q:=λc st'=>∃n,c=(none,n)/\(1<=n/\n<=nrem)/\∃M O R,vm κ st P S n M O R st'/\(R=[]\/∃c z y R',M=c++[z]/\R=y::R'/\κ.klt (key κ y) (key κ z))) ?step ?fin ⟨rfl,a0⟩) ?post)
 case step=>
  rintro x c st' hx0 hx ⟨rfl,M,O,R,he,hS,hM,hO,sM,tM,cg⟩;dsimp only;cases R with
  |nil=>rw[hS,append_nil,hO]at hn;omega
  |cons y R=>
  obtain⟨c,z,rfl⟩:=kT (show 1<=M.length by omega);have kM:ir κ z:=ks z (by rw[hS];exact mem_append_left _ (tM.mem.mp (mem_append_right _ (mem_singleton_self _))));have ky:ir κ y:=ks y (by rw[hS];exact mem_append_right _ mem_cons_self);rw[length_append]at hM;have hM':c.length+1=x:=hM;refine wpS_bind (hU hL (cg.kind.trans hk) (by rw[he];exact nF (by rw[length_append];show _=_+(c.length+1);omega)) (by rw[he];exact kr (by omega)) ky kM ?_);dsimp only;cases hb:κ.blt (key κ y) (key κ z) with
  |true=>exact wpS_pure ⟨x,rfl,⟨by omega,by omega⟩,c++[z],O,y::R,⟨he,hS,by rw[length_append];exact hM,hO,sM,tM,cg⟩,.inr ⟨c,z,y,R,rfl,rfl,hb⟩⟩
  |false=>exact wpS_pure ⟨rfl,(c++[z])++[y],O++[y],R,by rw[he,append_assoc _ [y]];rfl,by rw[hS,append_assoc];rfl,by rw[length_append,length_append];show c.length+1+1=_;omega,by rw[length_append];show O.length+1=_;omega,sM.snoc (sM.Be hb),tM.append (cK.refl _),cg⟩
 case fin=>
  rintro c st' ⟨rfl,M,O,R,h⟩;have hR:R=[]:=by
   have h3:=h.s;rw[h3,length_append,h.o]at hn;exact eq_nil_of_length_eq_zero (by omega)
  exact⟨_,rfl,⟨by omega,by omega⟩,M,O,R,h,.inl hR⟩
 case post=>
  rintro c st1 ⟨n,rfl,nn,M,O,R,h,hR⟩;dsimp only;refine cI (λc1=>wpS_pure (q n st1 M O R nn.1 nn.2 h)) (λc1=>?_);rw[beq_iff_eq]at c1;rcases hR with rfl|⟨c,z,y,R,rfl,rfl,lt⟩
  ·exfalso
   rw[h.s,append_nil,h.o]at hn;exact c1 hn
  have nn1:=nn.1;have nn2:=nn.2;have hm:=h.m;rw[length_append]at hm;have hm':c.length+1=n:=hm;have hz:z∈c++[z]:=mem_append_right _ (mem_singleton_self _);have kof:∀u∈c++[z],ir κ u:=λu hu=>ks u (by rw[h.s];exact mem_append_left _ (h.tm.mem.mp hu));have start:∀{C:List Keyed}{st2:SortSt},uM st st2->(arrOf st2).toList=P++(C++y::R)->C.reverse=c++[z]->(∀u∈c++[z],κ.kle (key κ z) (key κ u))->zm κ st P S (n+1) 0 C [y] (O++[y]) R st2:=λ{C st2} cg e r al=>by
   have cl:C.length=n:=by rw[<-length_reverse,r,length_append];exact hm'
   refine⟨by rw[e,append_assoc];rfl,by rw[h.s,append_assoc];rfl,by rw[length_append,h.o];rfl,by rw[cl];rfl,rfl,by rw[r];exact h.sm,λa ha b hb=>?_,λa ha b hb=>?_,by rw[r];exact h.tm.append (cK.refl _),cg⟩
   ·cases mem_singleton.mp ha
    exact KeyOrd.klt_of_klt_of_kle lt (al b (by rw[<-r];exact mem_reverse.mpr hb))
   ·cases mem_singleton.mp ha
    cases mem_singleton.mp hb;exact KeyOrd.kle_refl _
  refine cI (λc2=>?_) (λc2=>?_);obtain⟨f,c',rfl⟩:∃f c',c=f::c':=by
   cases c with
   |nil=>have:0+1=n:=hm';omega
   |cons f c'=>exact⟨f,c',rfl⟩
  refine wpS_bind (hU hL (h.cg.kind.trans hk) (x:=f) (y:=z) (by rw[h.e];exact nN hlo) (by rw[h.e];exact kr (by omega)) (kof f mem_cons_self) (kof z hz) ?_);dsimp only;refine cI (λhb=>wpS_pure (q n st1 _ _ _ nn1 nn2 h)) (λhb=>?_);refine wpS_bind (kN h.e hlo (by rw[length_append];show _=_+(_+1);omega) λst2 cg2 e2=>?_);have d0:=start (h.cg.trans cg2) e2 (reverse_reverse _) λu hu=>KeyOrd.kle_trans (show κ.kle (key κ z) (key κ f) from eq_false_iff.mpr hb) (c9.head (x:=f) (l:=c'++[z]) h.sm f (mem_singleton_self _) u hu)
  rotate_left
  have c0:c=[]:=eq_nil_of_length_eq_zero (by omega);subst c0;have d0:=start (C:=[z]) h.cg h.e rfl λu hu=>by
   cases mem_singleton.mp hu;exact KeyOrd.kle_refl _
  all_goals
   refine wpS_bind (wpS_lift (wpAny_rule ⟨rfl,?_⟩));refine wpS_bind (wpS_mono (wpS_forRange (I:=λx c st'=>∃neq,c=(none,x,neq)/\∃C G O R,zm κ st P S x neq C G O R st')
    (Q:=λc st'=>∃m neq,c=(none,m,neq)/\(1<=m/\m<=nrem)/\∃C G O R,zm κ st P S m neq C G O R st') ?_ ?_ ⟨0,rfl,_,_,_,_,d0⟩) ?_)
   ·rintro x c st' hx0 hx ⟨neq,rfl,C,G,O,R,d⟩
    dsimp only;cases R with
    |nil=>rw[d.s,append_nil,d.o]at hn;omega
    |cons y R=>
    have dg:=d.g;have dm:=d.m;obtain⟨g,z,rfl⟩:=kT (show 1<=G.length by omega);have hz:z∈g++[z]:=mem_append_right _ (mem_singleton_self _);have kz:ir κ z:=ks z (by rw[d.s];exact mem_append_left _ (d.t.mem.mp (mem_append_right _ hz)));have ky:ir κ y:=ks y (by rw[d.s];exact mem_append_right _ mem_cons_self);rw[length_append]at dg dm;have dg':g.length+1=neq+1:=dg;have dm':C.length+(g.length+1)=x:=dm;have py:(arrOf st').toList[lo+x]? =some y:=by rw[d.e];exact nF (by rw[length_append,length_append];show _=_+(C.length+(g.length+1));omega)
    have pz:(arrOf st').toList[lo+x - 1]? =some z:=by rw[d.e,<-append_assoc C];exact kr (by rw[length_append];omega)
    refine wpS_bind (hU hL (d.cg.kind.trans hk) py pz ky kz ?_);dsimp only;cases hb:κ.blt (key κ y) (key κ z) with
    |true=>
     have u:Under κ [y] (g++[z]):=λa ha b hb'=>by
      cases mem_singleton.mp ha;exact KeyOrd.klt_of_klt_of_kle (show κ.klt _ _ from hb) (d.gg z hz b hb')
     rw[if_pos rfl];refine cI (λc2=>?_) (λc2=>?_)
     ·refine wpS_bind (kN (P:=P++C) (G:=g++[z]) (R:=y::R) (d.e.trans rP) (by rw[length_append];omega) (by rw[length_append];show _=_+(g.length+1);omega) λst3 cg3 e3=>?_)
      exact wpS_pure ⟨0,rfl,_,_,_,_,d.less u (by rw[length_append];show 1<=_+1;omega) cg3 e3⟩
     ·have g0:g=[]:=eq_nil_of_length_eq_zero (by omega)
      subst g0;exact wpS_pure ⟨0,rfl,_,_,_,_,d.less u (le_refl 1) (uM.refl _) (d.e.trans rP)⟩
    |false=>
     rw[if_neg Bool.false_ne_true];refine wpS_bind (hU hL (d.cg.kind.trans hk) pz py kz ky ?_);dsimp only;cases hb2:κ.blt (key κ z) (key κ y) with
     |true=>exact wpS_pure ⟨x,neq,rfl,⟨by omega,by omega⟩,C,g++[z],O,y::R,d⟩
     |false=>exact wpS_pure ⟨neq+1,rfl,_,_,_,_,d.same hz hb hb2⟩
   ·rintro c st' ⟨neq,rfl,C,G,O,R,d⟩
    have:=d.s;have:=d.o;exact⟨_,neq,rfl,⟨by omega,by rw[d.s,length_append,d.o]at hn;omega⟩,C,G,O,R,d⟩
   ·rintro c st3 ⟨m,neq,rfl,mm,C,G,O,R,d⟩
    dsimp only;have dg:=d.g;have dm:=d.m;have hm1:=mm.1;have hm2:=mm.2;refine cI (λc2=>?_) (λc2=>?_);refine wpS_bind (kN (P:=P++C) (G:=G) (R:=R) (d.e.trans rP) (by rw[length_append];omega) (by omega) λst4 cg4 e4=>?_);refine wpS_bind (kN (P:=P) (G:=C++G.reverse) (R:=R) (e4.trans rP.symm) hlo (by rw[length_append,length_reverse];omega) λst5 cg5 e5=>?_);have up:=d.up (cg4.trans cg5) (by rw[e5,reverse_append,reverse_reverse])
    rotate_left
    refine wpS_bind (kN (P:=P) (G:=C++G) (R:=R) d.e hlo (by rw[length_append];omega) λst5 cg5 e5=>?_);have G1:G.reverse=G:=by
     obtain⟨g,z,rfl⟩:=kT (show 1<=G.length by omega);rw[length_append]at dg;rw[eq_nil_of_length_eq_zero (show g.length=0 by have:g.length+1=neq+1:=dg;omega)];rfl
    have up:=d.up cg5 (by rw[e5,reverse_append,G1])
    all_goals
     refine wpS_bind (wpS_mono (wpS_forRange (I:=λx c st'=>c=(none,x)/\∃M O R,vm κ st P S x M O R st')
      (Q:=λc st'=>∃n,c=(none,n)/\(1<=n/\n<=nrem)/\∃M O R,vm κ st P S n M O R st'/\(R=[]\/∃c z y R',M=c++[z]/\R=y::R'/\κ.klt (key κ y) (key κ z))) ?_ ?_ ⟨rfl,_,_,_,up⟩) ?_)
     ·rintro x c st' hx0 hx ⟨rfl,M,O,R,he,hS,hM,hO,sM,tM,cg⟩
      dsimp only;cases R with
      |nil=>rw[hS,append_nil,hO]at hn;omega
      |cons y R=>
      obtain⟨c,z,rfl⟩:=kT (show 1<=M.length by omega);have kM:ir κ z:=ks z (by rw[hS];exact mem_append_left _ (tM.mem.mp (mem_append_right _ (mem_singleton_self _))));have ky:ir κ y:=ks y (by rw[hS];exact mem_append_right _ mem_cons_self);rw[length_append]at hM;have hM':c.length+1=x:=hM;refine wpS_bind (hU hL (cg.kind.trans hk) (by rw[he];exact nF (by rw[length_append];show _=_+(c.length+1);omega)) (by rw[he];exact kr (by omega)) ky kM ?_);dsimp only;cases hb:κ.blt (key κ y) (key κ z) with
      |true=>exact wpS_pure ⟨x,rfl,⟨by omega,by omega⟩,c++[z],O,y::R,⟨he,hS,by rw[length_append];exact hM,hO,sM,tM,cg⟩,.inr ⟨c,z,y,R,rfl,rfl,hb⟩⟩
      |false=>exact wpS_pure ⟨rfl,(c++[z])++[y],O++[y],R,by rw[he,append_assoc _ [y]];rfl,by rw[hS,append_assoc];rfl,by rw[length_append,length_append];show c.length+1+1=_;omega,by rw[length_append];show O.length+1=_;omega,sM.snoc (sM.Be hb),tM.append (cK.refl _),cg⟩
     ·rintro c st' ⟨rfl,M,O,R,h⟩
      have hR:R=[]:=by
       have h3:=h.s;rw[h3,length_append,h.o]at hn;exact eq_nil_of_length_eq_zero (by omega)
      exact⟨_,rfl,⟨by omega,by omega⟩,M,O,R,h,.inl hR⟩
     ·rintro c st' ⟨n,rfl,nn,M,O,R,h,_⟩
      exact wpS_pure (q n st' M O R nn.1 nn.2 h)
end
end TS
namespace TS
open PySem PyProof.Rows
variable {κ:KeyKind}
def p5:Nat->StateT SortSt Sem Bool:=sortPriv% PySem.Builtin.mergeAt
section
variable {prog:Program}{w:World}{A:Around}{E:Value->Shared->Prop}{s:Shared}{kd:SortKind}
theorem c9.get{l:List Keyed}(h:c9 κ l){i j:Nat}{x y:Keyed}(ij:i<=j)(hx:l[i]? =some x)(hy:l[j]? =some y):κ.kle (key κ x) (key κ y):=by
 have:=c9.at (κ:=κ) (l:=l) (b:=0) (n:=l.length) (i:=i) (j:=j) (x:=x) (y:=y) (by rw[drop_zero,take_length];exact h) ij (List.getElem?_eq_some_iff.mp hy).1 (by rw[zero_add];exact hx) (by rw[zero_add];exact hy);exact this
theorem vm.ins{st0:SortSt}{P S M O R:List Keyed}{k l:Nat}{st st':SortSt}{y:Keyed}(h:vm κ st0 P S k M O (y::R) st)(b:Below κ (M.take l) [y])(u:Under κ [y] (M.drop l))(cg:uM st st')(e:(arrOf st').toList=(P++M.take l)++(y::M.drop l++R)):vm κ st0 P S (k+1) (M.take l++(y::M.drop l)) (O++[y]) R st':=by
 have ml:=h.m;have sp:M.take l++M.drop l=M:=take_append_drop l M;have sm:=h.sm;rw[<-sp]at sm;refine⟨by rw[e,<-rP],by rw[h.s,append_assoc];rfl,?_,by rw[length_append,h.o];rfl,?_,?_,h.cg.trans cg⟩
 ·have:=congrArg List.length sp
  rw[length_append]at this ⊢;show _+(_+1)=_;omega
 ·refine sm.left.append (List.pairwise_cons.mpr ⟨λz hz=>KeyOrd.kle_of_klt (u y (mem_singleton_self _) z hz),sm.right⟩) λa ha c hc=>?_
  rcases mem_cons.mp hc with rfl|hc
  ·exact b a ha c (mem_singleton_self _)
  ·exact sm.mid a ha c hc
 ·have t:cK κ (M.take l++(y::M.drop l)) (M++[y]):=by
   have:cK κ (M.take l++([y]++M.drop l)) (M.take l++(M.drop l++[y])):=(cK.refl _).append (cK.swap u);rw[<-append_assoc (M.take l) (M.drop l),sp]at this;exact this
  exact t.trans (h.tm.append (cK.refl _))
theorem lS(hL:lH prog w A E s κ kd){lo n ok:Nat}{st0 st:SortSt}{Q:Bool->SortSt->Prop}{P S M O R:List Keyed}(hk:kindOf st0=kd)(ks:∀x∈S,ir κ x)(hlo:lo=P.length)(hn:n<=S.length)(h1:1<=ok)(hok:ok<=n)(h:vm κ st0 P S ok M O R st)
  (q:∀st' M O R,vm κ st0 P S n M O R st'->Q true st'):wpS (model prog w) A E s (rD lo n ok) Q st:=by
 refine wpS_bind (wpS_mono (wpS_forRange (I:=λk c st'=>c=(none,())/\∃M O R,vm κ st0 P S k M O R st')
  (Q:=λc st'=>c=(none,())/\∃M O R,vm κ st0 P S n M O R st') ?step ?fin ⟨rfl,M,O,R,by rw[show max ok 1=ok by omega];exact h⟩) ?post)
 case post=>
  rintro c st' ⟨rfl,M,O,R,h⟩;exact wpS_pure (q st' M O R h)
 case fin=>
  rintro c st' ⟨rfl,M,O,R,h⟩;rw[show max (max ok 1) n=n by omega]at h;exact⟨rfl,M,O,R,h⟩
 case step=>
  rintro k c st1 hk0 hkn ⟨rfl,M,O,R,h⟩;cases R with
  |nil=>have e:=h.s;rw[append_nil]at e;rw[e,h.o]at hn;omega
  |cons y R=>
  have hM:=h.m;have ky:ir κ y:=ks y (by rw[h.s];exact mem_append_right _ mem_cons_self);refine wpS_bind (wpS_mono (wpS_forRange (I:=λx c st'=>st'=st1/\∃l r,c=(none,l,r)/\l<=r/\r<=k/\r - l<=k - x/\(∀i u,i < l->M[i]? =some u->κ.kle (key κ u) (key κ y))/\(∀i u,r<=i->M[i]? =some u->κ.klt (key κ y) (key κ u)))
   (Q:=λc st'=>st'=st1/\∃l,c=(none,l,l)/\l<=k/\(∀i u,i < l->M[i]? =some u->κ.kle (key κ u) (key κ y))/\(∀i u,l<=i->M[i]? =some u->κ.klt (key κ y) (key κ u))) ?istep ?ifin ⟨rfl,0,k,rfl,by omega,by omega,by omega,λi u hi=>by omega,λi u hi hu=>by have:=(List.getElem?_eq_some_iff.mp hu).1;omega⟩) ?ipost)
  case ifin=>
   rintro c st' ⟨rfl,l,r,rfl,lr,rk,rl,g1,g2⟩;have e:l=r:=by omega
   subst e;exact⟨rfl,l,rfl,rk,g1,g2⟩
  case istep=>
   rintro x c st' _ hx ⟨rfl,l,r,rfl,lr,rk,rl,g1,g2⟩;dsimp only;refine cI (λc1=>?_) (λc1=>?_)
   ·have e:l=r:=by omega
    subst e;exact wpS_pure ⟨rfl,l,rfl,rk,g1,g2⟩
   obtain⟨z,hz⟩:∃z,M[(l+r) / 2]? =some z:=⟨_,getElem?_eq_getElem (by omega)⟩;have kz:ir κ z:=ks z (by rw[h.s];exact mem_append_left _ (h.tm.mem.mp (mem_of_getElem? hz)));refine wpS_bind (hU hL (h.cg.kind.trans hk) (x:=y) (y:=z) (by rw[h.e];exact nF (by omega)) (by rw[h.e,getElem?_append_right (by omega),getElem?_append_left (by omega),<-hz];congr 1;omega) ky kz ?_);dsimp only;cases hb:κ.blt (key κ y) (key κ z) with
   |true=>exact wpS_pure ⟨rfl,l,(l+r) / 2,rfl,by omega,by omega,by omega,g1,λi u hi hu=>KeyOrd.klt_of_klt_of_kle (show κ.klt _ _ from hb) (h.sm.get hi hz hu)⟩
   |false=>exact wpS_pure ⟨rfl,(l+r) / 2+1,r,rfl,by omega,by omega,by omega,λi u hi hu=>KeyOrd.kle_trans (h.sm.get (by omega) hu hz) (show κ.kle _ _ from hb),g2⟩
  case ipost=>
   rintro c st' ⟨rfl,l,rfl,lk,g1,g2⟩;dsimp only;have e1:(arrOf st').toList=(P++M.take l)++(M.drop l++y::R):=by rw[h.e,<-rP,take_append_drop]
   have tl:(M.take l).length=l:=by rw[length_take];omega
   have dl:(M.drop l).length=k - l:=by rw[length_drop];omega
   refine wpS_bind (AH e1 (by rw[length_append];omega) (by rw[length_append];omega) λst2 cg2 e2=>wpS_pure ⟨rfl,_,_,_,h.ins (l:=l) (λa ha b hb=>?_) (λb hb a ha=>?_) cg2 e2⟩)
   ·cases mem_singleton.mp hb
    obtain⟨i,hi⟩:=getElem?_of_mem ha;have il:=(List.getElem?_eq_some_iff.mp hi).1;rw[getElem?_take_of_lt (by omega)]at hi;exact g1 i a (by omega) hi
   ·cases mem_singleton.mp hb
    obtain⟨i,hi⟩:=getElem?_of_mem ha;rw[getElem?_drop]at hi;exact g2 (l+i) a (by omega) hi
theorem xO{L P X Y:List Keyed}(e:L=P++(X++Y)){i m:Nat}(hi:i=P.length)(hm:m<=X.length):(L.drop i).take m=X.take m:=by
 rw[e,hi,List.drop_left,List.take_append_of_le_length hm]
theorem Ef{L P X Y:List Keyed}(e:L=P++(X++Y)){i k n:Nat}(hi:i=P.length)(hn:n=X.length)(hk:k<=n):(L.drop (i+k)).take (n - k)=X.drop k:=by
 have:L=(P++X.take k)++(X.drop k++Y):=by rw[e,<-rP,take_append_drop]
 rw[xO this (by rw[length_append,length_take];omega) (by rw[length_drop];omega)];exact take_of_length_le (by rw[length_drop];omega)
theorem p8{A1 A2 B1 B2 M:List Keyed}(sa:c9 κ (A1++A2))(sb:c9 κ (B1++B2))(b1:Below κ A1 (B1++B2))(b2:Below κ (A1++A2) B2)(sm:c9 κ M)(tm:cK κ M (A2++B1)):c9 κ (A1++(M++B2))/\cK κ (A1++(M++B2)) ((A1++A2)++(B1++B2)):=by
 have mm:∀x∈M,x∈A2\/x∈B1:=λx hx=>mem_append.mp (tm.mem.mp hx);refine⟨sa.left.append (sm.append sb.right λx hx y hy=>?_) λx hx y hy=>?_,?_⟩
 ·exact(mm x hx).elim (λh=>b2 x (mem_append_right _ h) y hy) (λh=>sb.mid x h y hy)
 ·rcases mem_append.mp hy with hy|hy
  ·exact(mm y hy).elim (λh=>sa.mid x hx y h) (λh=>b1 x hx y (mem_append_left _ h))
  ·exact b2 x (mem_append_left _ hx) y hy
 ·have:cK κ (A1++(M++B2)) (A1++((A2++B1)++B2)):=(cK.refl _).append (tm.append (cK.refl _))
  rw[append_assoc A1 A2,<-append_assoc A2 B1 B2];exact this
theorem Cf{l:List Keyed}(h:1<=l.length):∃x r,l=x::r:=by
 cases l with
 |nil=>cases h
 |cons x r=>exact⟨x,r,rfl⟩
structure Mg(κ:KeyKind)(st st':SortSt)(P X Y R:List Keyed)(pend:Array (Nat×Nat×Nat)):Prop where
 kind:kindOf st'=kindOf st
 failed:failedOf st'=failedOf st
 pend:pendingOf st'=pend
 ex:∃M,(arrOf st').toList=P++(M++R)/\c9 κ M/\cK κ M (X++Y)
theorem C5{σ:Type}{M:Model}{A:Around}{E:Value->Shared->Prop}{s:Shared}{st' st:σ}{Q:PUnit->σ->Prop}(h:Q ⟨⟩ st'):wpS M A E s (set st':StateT σ Sem PUnit) Q st:=by
 unfold wpS;rw[StateT.run_set];exact wpAny_pure ⟨rfl,h⟩
theorem pO(hL:lH prog w A E s κ kd){st:SortSt}{Q:Bool->SortSt->Prop}{P X Y R:List Keyed}{i sa na pa sb nb pb:Nat}(hk:kindOf st=kd)(hf:failedOf st=none)(ks:∀x∈(arrOf st).toList,ir κ x)(p1:(pendingOf st)[i]? =some (sa,na,pa))(p2:(pendingOf st)[i+1]? =some (sb,nb,pb))
  (e:(arrOf st).toList=P++(X++(Y++R)))(ha:sa=P.length)(hx:na=X.length)(hb:sb=sa+na)(hy:nb=Y.length)(x1:1<=na)(y1:1<=nb)(sx:c9 κ X)(sy:c9 κ Y)
  (q:∀st',Mg κ st st' P X Y R (((pendingOf st).setIfInBounds i (sa,na+nb,pa)).eraseIdxIfInBounds (i+1))->Q true st'):wpS (model prog w) A E s (p5 i) Q st:=by
 refine wpS_bind (wpS_get ?_);rw[p1,p2];dsimp only;refine wpS_bind (C5 ?_);have sz:(arrOf st).size=P.length+(X.length+(Y.length+R.length)):=by rw[<-length_toList,e,length_append,length_append,length_append]
 have e':(arrOf st).toList=(P++X)++(Y++R):=by rw[e,append_assoc]
 obtain⟨y0,Y',hY⟩:=Cf (show 1<=Y.length by omega);obtain⟨c,z,hX⟩:=kT (show 1<=X.length by omega);have cl:c.length+1=na:=by rw[hx,hX,length_append];rfl
 have ey:(arrOf st)[sb]? =some y0:=by
  rw[<-getElem?_toList,e',hY];exact nN (by rw[length_append];omega)
 have ez:∀k,k<=na->0 < na - k->(arrOf st)[sa+k+(na - k) - 1]? =some z:=λk h1 h2=>by
  rw[<-getElem?_toList,e,hX];exact kr (by omega)
 have kX:∀u∈X,ir κ u:=λu hu=>ks u (by rw[e];exact mem_append_right _ (mem_append_left _ hu));have kY:∀u∈Y,ir κ u:=λu hu=>ks u (by rw[e];exact mem_append_right _ (mem_append_right _ (mem_append_left _ hu)));have by0:Below κ [y0] Y:=by rw[hY]at sy ⊢;exact sy.head
 have lastz:Below κ X [z]:=by rw[hX]at sx ⊢;exact sx.Be (KeyOrd.kle_refl _)
 refine wpS_bind (cM ey (wpS_bind (pB hL hk (kY y0 (by rw[hY];exact mem_cons_self)) ks (show sa+na<=(arrOf st).size by omega) (by rw[xO e ha (by omega)];exact sx.take _) (by omega) λk hk1 bl un=>?_)));rw[xO e ha (by omega)]at bl;rw[Ef e ha hx hk1]at un;dsimp only;refine cI (λc1=>?_) (λc1=>?_)
 ·rw[beq_iff_eq]at c1
  rw[take_of_length_le (by omega)]at bl;exact wpS_pure (q _ ⟨rfl,rfl,rfl,X++Y,by rw[append_assoc];exact e,sx.append sy (Below.over bl by0),cK.refl _⟩)
 rw[beq_iff_eq]at c1;refine wpS_bind (cM (ez k hk1 (by omega)) (wpS_bind (oI hL hk (kX z (by rw[hX];exact mem_append_right _ (mem_singleton_self _))) ks (show sb+nb<=(arrOf st).size by omega) (by rw[xO e' (by rw[length_append];omega) (by omega)];exact sy.take _) (by omega) λm hm ul bl2=>?_)));rw[xO e' (by rw[length_append];omega) (by omega)]at ul;rw[Ef e' (by rw[length_append];omega) hy hm]at bl2;dsimp only;refine cI (λc2=>?_) (λc2=>?_)
 ·rw[beq_iff_eq]at c2
  rw[c2,drop_zero]at bl2;exact wpS_pure (q _ ⟨rfl,rfl,rfl,X++Y,by rw[append_assoc];exact e,sx.append sy (Below.over lastz bl2),cK.refl _⟩)
 rw[beq_iff_eq]at c2;have hax:((arrOf st).extract (sa+k) sb).toList=X.drop k:=by
  rw[toList_extract];have:=Ef e ha hx hk1;rw[show na - k=sb - (sa+k) by omega]at this;exact this
 have hay:((arrOf st).extract sb (sb+m)).toList=Y.take m:=by
  rw[oR];exact xO e' (by rw[length_append];omega) (by omega)
 have lax:((arrOf st).extract (sa+k) sb).size=na - k:=by rw[<-length_toList,hax,length_drop];omega
 have lay:((arrOf st).extract sb (sb+m)).size=m:=by rw[<-length_toList,hay,length_take];omega
 generalize (arrOf st).extract (sa+k) sb=ax at hax lax;generalize (arrOf st).extract sb (sb+m)=ay at hay lay;have ka:∀u∈ax.toList,ir κ u:=λu hu=>kX u (List.mem_of_mem_drop (by rw[<-hax];exact hu));have kb:∀u∈ay.toList,ir κ u:=λu hu=>kY u (mem_of_mem_take (by rw[<-hay];exact hu));have sax:c9 κ ax.toList:=by rw[hax];exact sx.drop k
 have say:c9 κ ay.toList:=by rw[hay];exact sy.take m
 have u1:Under κ (ay.toList.take 1) ax.toList:=by
  rw[hay,hax,List.take_take,hY,Nat.min_eq_left (by omega)];exact un
 have u2:Under κ ay.toList (ax.toList.drop (ax.size - 1)):=by
  rw[hay,hax,lax,List.drop_drop,hX,List.drop_left' (by omega)];exact ul
 refine cI (λ_=>?_) (λ_=>?_)
 ·refine wpS_bind (uJ hL hk ka kb sax say (by omega) (by omega) u1 u2 ?_)
  intro r st4 kp mr;have rl:r.toList.length=(X.drop k++Y.take m).length:=by rw[<-hax,<-hay];exact mr.2.perm.length_eq
  refine wpS_bind (wpS_modify (wpS_bind (wpS_get (wpS_pure ?_))));show Q (failedOf st4).isNone _;rw[kp.failed.trans hf];have mr2:=mr.2;rw[hax,hay]at mr2;have fin:=p8 (A1:=X.take k) (A2:=X.drop k) (B1:=Y.take m) (B2:=Y.drop m) (by rw[take_append_drop];exact sx) (by rw[take_append_drop];exact sy) (by rw[take_append_drop];exact Below.over bl by0) (by rw[take_append_drop];exact Below.over lastz bl2) mr.1 mr2;rw[take_append_drop,take_append_drop]at fin;refine q _ ⟨kp.kind,kp.failed,kp.pend,_,?_,fin.1,fin.2⟩;refine(jT r.toList 0 (sa+k) (arrOf st4) (P++X.take k) (X.drop k++Y.take m) (Y.drop m++R) ?_ rl ?_).trans ?_
  ·rw[kp.arr,<-rP,<-append_assoc (X.take k),take_append_drop,append_assoc X,<-append_assoc (Y.take m),take_append_drop]
   exact e
  ·rw[length_append,length_take]
   omega
  ·rw[append_assoc P,append_assoc (X.take k),append_assoc r.toList]
 ·refine wpS_bind (tT hL hk ka kb sax say (by omega) (by omega) u1 u2 ?_)
  intro r st4 kp mr;have rl:r.toList.length=(X.drop k++Y.take m).length:=by rw[<-hax,<-hay];exact mr.2.perm.length_eq
  refine wpS_bind (wpS_modify (wpS_bind (wpS_get (wpS_pure ?_))));show Q (failedOf st4).isNone _;rw[kp.failed.trans hf];have mr2:=mr.2;rw[hax,hay]at mr2;have fin:=p8 (A1:=X.take k) (A2:=X.drop k) (B1:=Y.take m) (B2:=Y.drop m) (by rw[take_append_drop];exact sx) (by rw[take_append_drop];exact sy) (by rw[take_append_drop];exact Below.over bl by0) (by rw[take_append_drop];exact Below.over lastz bl2) mr.1 mr2;rw[take_append_drop,take_append_drop]at fin;refine q _ ⟨kp.kind,kp.failed,kp.pend,_,?_,fin.1,fin.2⟩;refine(jT r.toList 0 (sa+k) (arrOf st4) (P++X.take k) (X.drop k++Y.take m) (Y.drop m++R) ?_ rl ?_).trans ?_
  ·rw[kp.arr,<-rP,<-append_assoc (X.take k),take_append_drop,append_assoc X,<-append_assoc (Y.take m),take_append_drop]
   exact e
  ·rw[length_append,length_take]
   omega
  ·rw[append_assoc P,append_assoc (X.take k),append_assoc r.toList]
end
end TS
namespace TS
open PySem PyProof.Rows
variable {κ:KeyKind}
def uU:StateT SortSt Sem Unit:=sortPriv% PySem.Builtin.sortRuns
def gR(κ:KeyKind):Nat->List (Nat×Nat×Nat)->List (List Keyed)->Prop
 |_,[],[]=>True
 |off,p::ps,r::rs=>p.1=off/\p.2.1=r.length/\1<=p.2.1/\c9 κ r/\gR κ (off+p.2.1) ps rs
 |_,_,_=>False
theorem gR.merge:∀(i off:Nat) (ps:List (Nat×Nat×Nat)) (rs:List (List Keyed)),gR κ off ps rs->i+1 < ps.length->
  ∃rs1 X Y rs2 sa na pa sb nb pb,ps[i]? =some (sa,na,pa)/\ps[i+1]? =some (sb,nb,pb)/\rs=rs1++(X::Y::rs2)/\sa=off+rs1.flatten.length/\na=X.length/\sb=sa+na/\nb=Y.length/\1<=na/\1<=nb/\c9 κ X/\c9 κ Y/\
   ∀M,c9 κ M->M.length=na+nb->gR κ off ((ps.set i (sa,na+nb,pa)).eraseIdx (i+1)) (rs1++(M::rs2))
 |0,off,[],_,_,l=>by cases l
 |0,off,[p],_,_,l=>by have:1 < 1:=l;omega
 |0,off,(sa,na,pa)::(sb,nb,pb)::ps,[],t,_=>t.elim
 |0,off,(sa,na,pa)::(sb,nb,pb)::ps,[X],t,_=>t.2.2.2.2.elim
 |0,off,(sa,na,pa)::(sb,nb,pb)::ps,X::Y::rs,⟨h1,h2,h3,h4,h5,h6,h7,h8,h9⟩,_=>by
  dsimp only at h1 h2 h3 h5 h6 h7 h9;subst h1;refine⟨[],X,Y,rs,sa,na,pa,sb,nb,pb,rfl,rfl,rfl,rfl,h2,h5,h6,h3,h7,h4,h8,λM sm ml=>⟨rfl,ml.symm,?_,sm,?_⟩⟩
  ·show 1<=na+nb
   omega
  ·show gR κ (sa+(na+nb)) ps rs
   rw[<-Nat.add_assoc];exact h9
 |i+1,off,[],_,_,l=>by cases l
 |i+1,off,p::ps,[],t,_=>t.elim
 |i+1,off,p::ps,r::rs,⟨h1,h2,h3,h4,h5⟩,l=>by
  obtain⟨rs1,X,Y,rs2,sa,na,pa,sb,nb,pb,g1,g2,g3,g4,g5,g6,g7,g8,g9,g10,g11,g12⟩:=gR.merge i _ ps rs h5 (Nat.lt_of_succ_lt_succ l);refine⟨r::rs1,X,Y,rs2,sa,na,pa,sb,nb,pb,g1,g2,by rw[g3];rfl,?_,g5,g6,g7,g8,g9,g10,g11,λM sm ml=>⟨h1,h2,h3,h4,g12 M sm ml⟩⟩;rw[flatten_cons,length_append,<-h2];omega
theorem gR.push:∀{off:Nat}{ps:List (Nat×Nat×Nat)}{rs:List (List Keyed)}{M:List Keyed}{pw:Nat},gR κ off ps rs->c9 κ M->1<=M.length->gR κ off (ps++[(off+rs.flatten.length,M.length,pw)]) (rs++[M])
 |off,[],[],M,pw,_,sm,ml=>⟨by rw[flatten_nil];rfl,rfl,ml,sm,trivial⟩
 |off,[],_::_,M,pw,t,_,_=>t.elim
 |off,_::_,[],M,pw,t,_,_=>t.elim
 |off,p::ps,r::rs,M,pw,⟨h1,h2,h3,h4,h5⟩,sm,ml=>by
  refine⟨h1,h2,h3,h4,?_⟩;have:=gR.push (pw:=pw) h5 sm ml;rw[flatten_cons,length_append,<-h2,<-Nat.add_assoc];exact this
theorem gR.power:∀(i:Nat){off:Nat}{ps:List (Nat×Nat×Nat)}{rs:List (List Keyed)}{pw:Nat},gR κ off ps rs->gR κ off (ps.modify i λp=>(p.1,p.2.1,pw)) rs
 |0,off,[],[],pw,_=>trivial
 |0,off,[],_::_,pw,t=>t.elim
 |0,off,_::_,[],pw,t=>t.elim
 |0,off,p::ps,r::rs,pw,t=>t
 |i+1,off,[],[],pw,_=>trivial
 |i+1,off,[],_::_,pw,t=>t.elim
 |i+1,off,_::_,[],pw,t=>t.elim
 |i+1,off,p::ps,r::rs,pw,⟨h1,h2,h3,h4,h5⟩=>⟨h1,h2,h3,h4,gR.power i h5⟩
theorem gR.len:∀{off:Nat}{ps:List (Nat×Nat×Nat)}{rs:List (List Keyed)},gR κ off ps rs->ps.length<=rs.flatten.length
 |off,[],[],_=>zero_le _
 |off,[],_::_,t=>t.elim
 |off,_::_,[],t=>t.elim
 |off,p::ps,r::rs,⟨h1,h2,h3,h4,h5⟩=>by
  have:=gR.len h5;rw[flatten_cons,length_append,<-h2];show ps.length+1<=_;omega
theorem gR.one{ps:List (Nat×Nat×Nat)}{rs:List (List Keyed)}{off:Nat}(t:gR κ off ps rs)(h:ps.length<=1):c9 κ rs.flatten:=by
 cases ps with
 |nil=>
  cases rs with
  |nil=>exact List.Pairwise.nil
  |cons r rs=>exact t.elim
 |cons p ps=>
  cases ps with
  |cons p' ps=>have:ps.length+1+1<=1:=h;omega
  |nil=>
   cases rs with
   |nil=>exact t.elim
   |cons r rs=>
    cases rs with
    |nil=>rw[flatten_cons,flatten_nil,append_nil];exact t.2.2.2.1
    |cons r' rs=>exact t.2.2.2.2.elim
section
variable {prog:Program}{w:World}{A:Around}{E:Value->Shared->Prop}{s:Shared}{kd:SortKind}
theorem EJ{c:Prop} [Decidable c]{n:Nat}(h:1 < n):(if c then n - 2 - 1 else n - 2)+1 < n:=by
 split<;>omega
structure RI(κ:KeyKind)(kd:SortKind)(a₀:List Keyed)(lo:Nat)(S:List Keyed)(st:SortSt):Prop where
 kind:kindOf st=kd
 failed:failedOf st=none
 stb:cK κ (arrOf st).toList a₀
 ex:∃Rs,gR κ 0 (pendingOf st).toList Rs/\(arrOf st).toList=Rs.flatten++S/\Rs.flatten.length=lo
theorem RI.keys{a₀ S:List Keyed}{lo:Nat}{st:SortSt}(h:RI κ kd a₀ lo S st)(ks:∀x∈a₀,ir κ x):∀x∈(arrOf st).toList,ir κ x:=λx hx=>ks x (h.stb.mem.mp hx)
theorem jK(hL:lH prog w A E s κ kd){a₀ S:List Keyed}{lo i:Nat}{st:SortSt}{Q:Bool->SortSt->Prop}(ks:∀x∈a₀,ir κ x)(h:RI κ kd a₀ lo S st)(hi:i+1 < (pendingOf st).size)
  (q:∀st',RI κ kd a₀ lo S st'->(pendingOf st').size+1=(pendingOf st).size->Q true st'):wpS (model prog w) A E s (p5 i) Q st:=by
 obtain⟨Rs,t,e,l⟩:=h.ex;obtain⟨rs1,X,Y,rs2,sa,na,pa,sb,nb,pb,g1,g2,rfl,g4,g5,g6,g7,g8,g9,g10,g11,g12⟩:=t.merge i 0 _ _ (by rw[length_toList];exact hi);rw[zero_add]at g4;have e':(arrOf st).toList=rs1.flatten++(X++(Y++(rs2.flatten++S))):=by
  rw[e,flatten_append,flatten_cons,flatten_cons,append_assoc,append_assoc,append_assoc]
 refine pO hL h.kind h.failed (h.keys ks) (by rw[<-getElem?_toList];exact g1) (by rw[<-getElem?_toList];exact g2) e' g4 g5 g6 g7 g8 g9 g10 g11 λst' mg=>?_;obtain⟨M,eM,sM,tM⟩:=mg.ex;have ml:M.length=na+nb:=by rw[tM.perm.length_eq,length_append,g5,g7]
 have hpl:(pendingOf st').toList=((pendingOf st).toList.set i (sa,na+nb,pa)).eraseIdx (i+1):=by
  rw[mg.pend,Array.toList_eraseIdxIfInBounds,Array.toList_setIfInBounds]
 refine q st' ⟨mg.kind.trans h.kind,mg.failed.trans h.failed,cK.trans ?_ h.stb,rs1++(M::rs2),by rw[hpl];exact g12 M sM ml,?_,?_⟩ ?_
 ·rw[eM,e',<-append_assoc X]
  exact(cK.refl _).append (tM.append (cK.refl _))
 ·rw[eM,flatten_append,flatten_cons,append_assoc,append_assoc]
 ·rw[<-l,flatten_append,flatten_append,flatten_cons,flatten_cons,flatten_cons,length_append,length_append,length_append,length_append,length_append]
  omega
 ·rw[<-length_toList,hpl,List.length_eraseIdx,if_pos (by rw[length_set,length_toList];exact hi),length_set,length_toList]
  omega
theorem RI.push{a₀ M R:List Keyed}{lo n:Nat}{st st':SortSt}(h:RI κ kd a₀ lo (M++R) st)(sM:c9 κ M)(ml:M.length=n)(n1:1<=n)(k:kindOf st'=kindOf st)(f:failedOf st'=failedOf st)(ar:arrOf st'=arrOf st)(pd:pendingOf st'=(pendingOf st).push (lo,n,0)):RI κ kd a₀ (lo+n) R st':=by
 obtain⟨Rs,t,e,l⟩:=h.ex;refine⟨k.trans h.kind,f.trans h.failed,by rw[ar];exact h.stb,Rs++[M],?_,?_,?_⟩
 ·rw[pd,toList_push]
  have:=t.push (pw:=0) sM (by omega);rw[zero_add,l,ml]at this;exact this
 ·rw[ar,e,flatten_append,flatten_cons,flatten_nil,append_nil,append_assoc]
 ·rw[flatten_append,flatten_cons,flatten_nil,append_nil,length_append,l,ml]
theorem RI.power{a₀ S:List Keyed}{lo i pw:Nat}{st st':SortSt}(h:RI κ kd a₀ lo S st)(k:kindOf st'=kindOf st)(f:failedOf st'=failedOf st)(ar:arrOf st'=arrOf st)(pd:pendingOf st'=(pendingOf st).modify i λp=>(p.1,p.2.1,pw)):RI κ kd a₀ lo S st':=by
 obtain⟨Rs,t,e,l⟩:=h.ex;exact⟨k.trans h.kind,f.trans h.failed,by rw[ar];exact h.stb,Rs,by rw[pd,Array.toList_modify];exact t.power i,by rw[ar];exact e,l⟩
theorem RI.Cn{a₀ M R:List Keyed}{lo n i pw:Nat}{st st':SortSt}(h:RI κ kd a₀ lo (M++R) st)(sM:c9 κ M)(ml:M.length=n)(n1:1<=n)(k:kindOf st'=kindOf st)(f:failedOf st'=failedOf st)(ar:arrOf st'=arrOf st)(pd:pendingOf st'=((pendingOf st).modify i λp=>(p.1,p.2.1,pw)).push (lo,n,0)):RI κ kd a₀ (lo+n) R st':=
 RI.push (st:=setPending st ((pendingOf st).modify i λp=>(p.1,p.2.1,pw))) (h.power rfl rfl rfl rfl) sM ml n1 k f ar pd
theorem RI.asc{a₀ S M O R:List Keyed}{lo n:Nat}{st st':SortSt}{Rs:List (List Keyed)}(h:RI κ kd a₀ lo S st)(t:gR κ 0 (pendingOf st).toList Rs)(e:(arrOf st).toList=Rs.flatten++S)(l:Rs.flatten.length=lo)(as:vm κ st Rs.flatten S n M O R st'):RI κ kd a₀ lo (M++R) st':=by
 refine⟨as.cg.kind.trans h.kind,as.cg.failed.trans h.failed,cK.trans ?_ h.stb,Rs,by rw[as.cg.pend];exact t,as.e,l⟩;rw[as.e,e,as.s];exact(cK.refl _).append (as.tm.append (cK.refl _))
theorem oE(hL:lH prog w A E s κ kd){st:SortSt}{Q:Unit->SortSt->Prop}(hk:kindOf st=kd)(hf:failedOf st=none)(hp:pendingOf st= #[])(ks0:∀x∈(arrOf st).toList,ir κ x)
  (q:∀st',failedOf st'=none->c9 κ (arrOf st').toList->cK κ (arrOf st').toList (arrOf st).toList->Q () st'):wpS (model prog w) A E s uU Q st:=by
 refine wpS_bind (wpS_get ?_);obtain⟨a₀,ha₀⟩:∃a₀,a₀=(arrOf st).toList:=⟨_,rfl⟩;rw[<-ha₀]at ks0 q;have ks:=ks0;have r0:RI κ kd a₀ 0 (arrOf st).toList st:=⟨hk,hf,by rw[ha₀];exact cK.refl _,[],by rw[hp];trivial,rfl,rfl⟩;have hN:(arrOf st).size=a₀.length:=by rw[ha₀,length_toList]
 have r0':∃lo S,((none:Option Unit),0)=((none:Option Unit),lo)/\RI κ kd a₀ lo S st/\0<=lo:=⟨0,_,rfl,r0,le_refl 0⟩;have lens:∀{lo S st'},RI κ kd a₀ lo S st'->lo+S.length=(arrOf st).size:=λ{lo S st'} h=>by
  obtain⟨Rs,t,e,l⟩:=h.ex;rw[hN,<-h.stb.perm.length_eq,e,length_append,l]
 refine wpS_bind (wpS_mono (wpS_forRange (I:=λx c st'=>∃lo S,c=(none,lo)/\RI κ kd a₀ lo S st'/\x<=lo)
  (Q:=λc st'=>c.1=none/\∃lo,RI κ kd a₀ lo [] st') ?step ?fin r0') ?post)
 case fin=>
  rintro c st' ⟨lo,S,rfl,ri,hx⟩;have:=lens ri;have hx':max 0 (arrOf st).size<=lo:=hx;have hS:S=[]:=eq_nil_of_length_eq_zero (by omega);subst hS;exact⟨rfl,lo,ri⟩
 case step=>
  rintro x c st1 _ hx ⟨lo,S,rfl,ri,hxl⟩;dsimp only;have hl:=lens ri;refine cI (λc1=>?_) (λc1=>?_)
  ·have hS:S=[]:=eq_nil_of_length_eq_zero (by have:(arrOf st).size<=lo:=c1;omega)
   subst hS;exact wpS_pure ⟨rfl,lo,ri⟩
  have c1':lo < (arrOf st).size:=Nat.lt_of_not_le c1;obtain⟨Rs,t,e,l⟩:=ri.ex;have kS:∀u∈S,ir κ u:=λu hu=>ri.keys ks u (by rw[e];exact mem_append_right _ hu);refine wpS_bind (nZ hL ri.kind kS e l.symm (by show S.length=(arrOf st).size - lo;omega) (by show 1<=(arrOf st).size - lo;omega) λn st2 M O R n1 nn as=>?_);dsimp only;refine cI (λc2=>?_) (λc2=>?_);refine wpS_bind (wpS_lift (wpAny_rule ⟨rfl,?_⟩));have hmn:n<=min ((arrOf st).size - lo) _:=Nat.le_min.mpr ⟨nn,le_of_lt c2⟩;refine wpS_bind (lS hL ri.kind kS l.symm (le_trans (Nat.min_le_left _ _) (by show(arrOf st).size - lo<=S.length;omega)) n1 hmn as λstx M O R as=>?_);have n1:=le_trans n1 hmn;clear nn hmn c2;have ri':=ri.asc t e l as;have sM:=as.sm;have ml:=as.m;simp only[Bool.not_true,false_eq_true,if_false]
  rotate_left
  clear c2;obtain⟨stx,hstx⟩:∃stx,stx=st2:=⟨_,rfl⟩;subst hstx;have ri':=ri.asc t e l as;have sM:=as.sm;have ml:=as.m
  all_goals
   refine wpS_bind (wpS_get ?_);cases hbk:(pendingOf stx).back? with
   |none=>
    dsimp only;exact wpS_bind (wpS_modify (wpS_pure ⟨_,R,rfl,ri'.push sM ml n1 rfl rfl rfl rfl,by omega⟩))
   |some bk=>
    obtain⟨s1,n1',pw'⟩:=bk;dsimp only;refine wpS_bind (wpS_mono (wpS_forRange (I:=λx c st'=>c=(none,())/\RI κ kd a₀ lo (M++R) st') (Q:=λc st'=>c=(none,())/\RI κ kd a₀ lo (M++R) st') ?cstep (λ_ _ h=>h) ⟨rfl,ri'⟩) ?cpost)
    case cpost=>
     rintro c st5 ⟨rfl,ri5⟩;exact wpS_bind (wpS_modify (wpS_bind (wpS_modify (wpS_pure ⟨_,R,rfl,ri5.Cn sM ml n1 rfl rfl rfl rfl,by omega⟩))))
    case cstep=>
     rintro x' c st5 _ _ ⟨rfl,ri5⟩;refine wpS_bind (wpS_get ?_);by_cases c5:(pendingOf st5).size > 1
     ·rw[if_pos c5,getElem?_pos (pendingOf st5) ((pendingOf st5).size - 2) (by omega)]
      generalize (pendingOf st5)[(pendingOf st5).size - 2]=pp;obtain⟨f1,f2,older⟩:=pp;dsimp only;refine cI (λ_=>wpS_pure ⟨rfl,ri5⟩) (λ_=>?_);exact wpS_bind (jK hL ks ri5 (show(pendingOf st5).size - 2+1 < (pendingOf st5).size by omega) λst6 ri6 _=>wpS_pure ⟨rfl,ri6⟩)
     ·rw[if_neg c5]
      exact wpS_pure ⟨rfl,ri5⟩
 case post=>
  rintro c st1 ⟨hc,lo,ri⟩;rw[hc];dsimp only;have hl:=lens ri;have hl':lo=(arrOf st).size:=hl;obtain⟨Rs,t,e,l⟩:=ri.ex;have pl:(pendingOf st1).size<=(arrOf st).size:=by
   rw[<-hl',<-l,<-length_toList];exact t.len
  refine wpS_bind (wpS_mono (wpS_forRange (I:=λx c st'=>c=(none,())/\RI κ kd a₀ lo [] st'/\(pendingOf st').size+x<=(arrOf st).size) (Q:=λc st'=>c=(none,())/\RI κ kd a₀ lo [] st'/\(pendingOf st').size<=1) ?fstep ?ffin ⟨rfl,ri,pl⟩) ?fpost)
  case ffin=>
   rintro c st' ⟨rfl,ri,h⟩;exact⟨rfl,ri,by have h':(pendingOf st').size+max 0 (arrOf st).size<=(arrOf st).size:=h;omega⟩
  case fpost=>
   rintro c st' ⟨rfl,ri,h⟩;obtain⟨Rs,t,e,l⟩:=ri.ex;rw[append_nil]at e;exact wpS_pure (q st' ri.failed (by rw[e];exact t.one (by rw[length_toList];exact h)) ri.stb)
  case fstep=>
   rintro x c st2 _ hx ⟨rfl,ri,h⟩;refine wpS_bind (wpS_get ?_);refine cI (λc3=>wpS_pure ⟨rfl,ri,c3⟩) (λc3=>?_);have c3':1 < (pendingOf st2).size:=Nat.lt_of_not_le c3;refine wpS_bind (jK hL ks ri (EJ c3') λst3 ri3 h3=>?_);exact wpS_pure ⟨rfl,ri3,by omega⟩
end
end TS
namespace TS
open PySem PyProof.Rows
def intKind:KeyKind where
 α:=Int
 blt a b:=decide (a < b)
 irrefl a:=by simp
 trans a b c h1 h2:=by
  rw[decide_eq_true_iff]at *;omega
 negTrans a b c h:=by
  rw[decide_eq_true_iff]at *;rw[decide_eq_true_iff];omega
 total a b h1 h2:=by
  rw[decide_eq_false_iff_not]at *;omega
 keyOf v:=match v with
  |.int n _=>some n
  |_=>none
 dflt:=0
section
variable {prog:Program}{w:World}{A:Around}{E:Value->Shared->Prop}{s:Shared}
theorem Av:lH prog w A E s intKind oneType':=by
 rintro⟨x,p⟩ ⟨y,q⟩ st Q hk ⟨a,ha⟩ ⟨b,hb⟩ h;cases x<;>cases ha;cases y<;>cases hb;rw[lt'_eq];refine wpS_bind (wpS_get ?_);rw[hk,keyLt'_oneType];exact wpS_bind (wpS_lift (wpAny_attempt (oneLt_int ⟨rfl,wpS_pure h⟩)))
theorem wpAny_forIn_list{M:Model}{α β:Type}{f:α->β->Sem (ForInStep β)}(I:List α->β->Shared->Prop){Q:β->Shared->Prop}(hstep:∀x r b s,I (x::r) b s->wpAny M A (f x b) (λz s'=>∃b',z=.yield b'/\I r b' s') E s)(hend:∀b s,I [] b s->Q b s):∀(l:List α) (b:β) (s:Shared),I l b s->wpAny M A (forIn l b f) Q E s
 |[],b,s,h=>by
  rw[forIn_nil];exact wpAny_pure (hend b s h)
 |x::r,b,s,h=>by
  rw[forIn_cons];refine wpAny_bind (wpAny_mono (hstep x r b s h) (λz s' h'=>?_) λ_ _ e=>e);obtain⟨b',rfl,h'⟩:=h';exact wpAny_forIn_list I hstep hend r b' s' h'
inductive KeysAre(R:Value->Int->Prop):List Value->List Value->Prop
 |nil:KeysAre R [] []
 |snoc {vs ks:List Value}{v:Value}{i:Int}{t:Tok}(h:KeysAre R vs ks)(r:R v i):KeysAre R (vs++[v]) (ks++[.int i t])
theorem KeysAre.ints{R:Value->Int->Prop}{vs ks:List Value}(h:KeysAre R vs ks):∀k∈ks,∃n t,k=.int n t:=by
 induction h with
 |nil=>intro k hk;cases hk
 |snoc h r ih=>
  intro k hk;rcases mem_append.mp hk with hk|hk
  ·exact ih k hk
  ·exact⟨_,_,mem_singleton.mp hk⟩
theorem KeysAre.len{R:Value->Int->Prop}{vs ks:List Value}(h:KeysAre R vs ks):ks.length=vs.length:=by
 induction h with
 |nil=>rfl
 |snoc h r ih=>rw[length_append,length_append,ih];rfl
def xW:Array Value->Sem SortKind:=sortPriv% PySem.Builtin.keyKind
theorem uT{vs:List Value}(h:¬vs.length < 2):∃v₁ v₂ rest,vs=v₁::v₂::rest:=by
 match vs,h with
 |[],h=>exact absurd (show 0 < 2 by decide) h
 |[_],h=>exact absurd (show 1 < 2 by decide) h
 |v₁::v₂::rest,_=>exact⟨v₁,v₂,rest,rfl⟩
end
end TS
namespace TS
open PySem PyProof.Rows
def oO(rv:Bool)(f:Addr):List (Str×Value):=(Str.ofString "key",.ref f)::if rv=true then [(Str.ofString "reverse",.bool true)] else []
section
variable {prog:Program}{w:World}{A:Around}{E:Value->Shared->Prop}{s:Shared}
theorem Ej {rv:Bool}{f:Addr}{b:Str×Value->PUnit->Sem (ForInStep PUnit)}{Q:PUnit->Shared->Prop}(h:∀p,p.1=Str.ofString "key" \/p.1=Str.ofString "reverse" ->b p ⟨⟩=pure (.yield ⟨⟩)) (q:Q ⟨⟩ s):wpAny (model prog w) A (forIn (oO rv f) PUnit.unit b) Q E s:=by
 unfold oO;rw[forIn_cons,h _ (.inl rfl)];refine wpAny_bind (wpAny_pure ?_);dsimp only;cases rv
 ·rw[if_neg Bool.false_ne_true,forIn_nil]
  exact wpAny_pure q
 ·rw[if_pos rfl,forIn_cons,h _ (.inr rfl)]
  refine wpAny_bind (wpAny_pure ?_);dsimp only;rw[forIn_nil];exact wpAny_pure q
theorem EH{rv:Bool}{f:Addr}{jp:Bool->Sem PySem.Fin}{Q:PySem.Fin->Shared->Prop}(q:wpAny (model prog w) A (jp rv) Q E s):wpAny (model prog w) A (match List.lookup (Str.ofString "reverse") (oO rv f) with
  |some r=>do
   let reverse <-truthy r
   jp reverse
  |none=>do
   let reverse <-pure false
   jp reverse) Q E s:=by
 have e:(Str.ofString "reverse" == Str.ofString "key")=false:=by decide+kernel
 unfold oO;rw[lookup_cons,e];cases rv
 ·rw[if_neg Bool.false_ne_true]
  exact wpAny_bind (wpAny_pure q)
 ·rw[if_pos rfl,lookup_cons,beq_self_eq_true]
  exact wpAny_bind (wpAny_of_eq rfl q)
theorem Br{rv:Bool}{jp:PUnit->Sem PySem.Fin}{Q:PySem.Fin->Shared->Prop}(q:wpAny (model prog w) A (jp ⟨⟩) Q E s):wpAny (model prog w) A (if rv=true then do
   let r <-rule "list.sort.reverse"
   jp r
  else jp ⟨⟩) Q E s:=by
 cases rv with
 |false=>
  rw[if_neg Bool.false_ne_true];exact q
 |true=>
  rw[if_pos rfl];exact wpAny_bind (wpAny_rule q)
theorem srtS{α:Type}{R:α->α->Prop}{l:List α}(h:l.length < 2):l.Pairwise R:=by
 cases l with
 |nil=>exact .nil
 |cons a r=>
  cases r with
  |nil=>exact List.pairwise_singleton _ _
  |cons b t=>exact absurd h (Nat.not_lt.mpr (Nat.le_add_left 2 _))
theorem qH {rv:Bool}{G:Shared->Prop}{R:Value->Int->Prop}{f a:Addr}{vs:List Value}{n:Nat}{P:Fin->Shared->Prop}(ho:s.heap.get? a=some (seqObj "list" vs.toArray n)) (vl:vs.length<=sizeLine)
  (g0:G { s with heap:=((s.heap.update a (Obj.mapSeq λ_=> #[])).push (seqObj "tuple" vs.toArray 0)).push (seqObj "list" #[] 0) })
  (gu:∀s' g,G s'->G { s' with heap:=s'.heap.update (s.heap.objs.size+1) (Obj.mapSeq g) })
  (gc:∀x∈vs,∀s',G s'->wpAny (model prog w) A (call (.ref f) [x]) (λk s''=>(∃i t,k=.int i t/\R x i)/\G s''/\(∀b o,(b=a\/b=s.heap.objs.size+1)->s'.heap.get? b=some o->s''.heap.get? b=some o)) (λ_ _=>False) s')
  (fin:∀s' (ks:List Value) (arr:Array Keyed),G s'->(∃e,s'.heap.get? a=some (seqObj "list" #[] e))->KeysAre R vs ks->c9 intKind arr.toList->cK intKind arr.toList (if rv=true then(ks.zip vs).reverse else ks.zip vs)->P (.done (.ret .none)) { s' with heap:=(s'.heap.update (s.heap.objs.size+1) (Obj.mapSeq λ_=> #[])).update a (Obj.mapSeq λ_=>if rv=true then(arr.map (·.2)).reverse else arr.map (·.2)) }):
  wpAny (model prog w) A (Builtin.«list.sort» ⟨[.ref a],oO rv f⟩) P E s:=by
 unfold Builtin.«list.sort»;dsimp only[length_cons,List.length_nil];have l0:¬(0+(oO rv f).length > 2):=by
  cases rv
  ·show ¬(0+1 > 2);decide
  ·show ¬(0+2 > 2);decide
 have l1:List.lookup (Str.ofString "key") (oO rv f)=some (.ref f):=by
  unfold oO;rw[lookup_cons];simp
 have l3:(Value.ref f != Value.none)=true:=rfl;rw[if_neg l0,if_neg (by decide),l1];dsimp only[Option.getD];simp only[l3,if_true];have ha:a < s.heap.objs.size:=lt_size ho;refine wpAny_bind (Ej (λp hp=>?_) ?_)
 ·have hk:(p.1 != Str.ofString "key" && p.1 != Str.ofString "reverse")=false:=by
   rcases hp with e|e
   ·rw[e]
    decide+kernel
   ·rw[e]
    decide+kernel
  exact if_neg (by rw[hk];exact Bool.false_ne_true)
 refine EH ?_;refine wpAny_bind (listItems_at ho rfl ?_);refine wpAny_bind (listUpdate_at ho rfl ?_);obtain⟨e1,ho1⟩:∃e1,(s.heap.update a (Obj.mapSeq λ_=> #[])).get? a=some (seqObj "list" #[] e1):=⟨_,get?_update_seq ho (λ_=> #[])⟩;refine wpAny_bind (seqEpoch_at ho1 rfl ?_);refine wpAny_bind (wpAny_newTuple ?_);refine wpAny_bind (wpAny_newList ?_);refine wpAny_holding ?_;have hN:(s.heap.update a (Obj.mapSeq λ_=> #[])).objs.size=s.heap.objs.size:=size_update _ _ _;have hks:((s.heap.update a (Obj.mapSeq λ_=> #[])).push (seqObj "tuple" vs.toArray 0)).objs.size=s.heap.objs.size+1:=by rw[size_push',hN]
 have ho6:(((s.heap.update a (Obj.mapSeq λ_=> #[])).push (seqObj "tuple" vs.toArray 0)).push (seqObj "list" #[] 0)).get? a=some (seqObj "list" #[] e1):=by
  rw[get?_push_ne _ _ _ (by rw[hks];exact ne_of_lt (lt_succ_of_lt ha)),get?_push_ne _ _ _ (by rw[hN];exact ne_of_lt ha)];exact ho1
 have hk6:(((s.heap.update a (Obj.mapSeq λ_=> #[])).push (seqObj "tuple" vs.toArray 0)).push (seqObj "list" #[] 0)).get? (s.heap.objs.size+1)=some (seqObj "list" #[] 0):=by
  rw[<-hks];exact get?_push_size _ rfl
 show wpAny (model prog w) A _ P E { s with heap:=((s.heap.update a (Obj.mapSeq λ_=> #[])).push (seqObj "tuple" vs.toArray 0)).push (seqObj "list" #[] 0) };simp only[hks];generalize hh1:((s.heap.update a (Obj.mapSeq λ_=> #[])).push (seqObj "tuple" vs.toArray 0)).push (seqObj "list" #[] 0)=h1 at g0 ho6 hk6;have hne:s.heap.objs.size+1≠a:=ne_of_gt (lt_succ_of_lt ha);have hsz:vs.toArray.size=vs.length:=size_toArray;refine wpAny_bind (wpAny_rule ?_);rw[List.forIn_toArray];refine wpAny_bind (wpAny_mono (wpAny_forIn_list (I:=λrest _ s'=>∃dn ks e2,vs=dn++rest/\KeysAre R dn ks/\G s'/\s'.heap.get? a=some (seqObj "list" #[] e1)/\s'.heap.get? (s.heap.objs.size+1)=some (seqObj "list" ks.toArray e2))
  (Q:=λ_ s'=>∃ks e2,KeysAre R vs ks/\G s'/\s'.heap.get? a=some (seqObj "list" #[] e1)/\s'.heap.get? (s.heap.objs.size+1)=some (seqObj "list" ks.toArray e2)) ?step ?fin' vs _ _ ⟨[],[],0,rfl,.nil,g0,ho6,hk6⟩) ?post λ_ _ e=>e)
 case fin'=>
  rintro b s' ⟨dn,ks,e2,e,k,g,h1,h2⟩;rw[append_nil]at e;subst e;exact⟨ks,e2,k,g,h1,h2⟩
 case step=>
  rintro x r b s' ⟨dn,ks,e2,e,k,g,h1,h2⟩;have mx:x∈vs:=by rw[e];exact mem_append_right _ mem_cons_self
  have kl:ks.length+1<=vs.length:=by rw[k.len,e,length_append];show _<=_+(_+1);omega
  refine wpAny_bind (wpAny_attempt (wpAny_mono (gc x mx s' g) (λkv s2 h=>?_) λ_ _ h=>False.elim h));obtain⟨⟨i,t,rfl,ri⟩,g2,kp⟩:=h;dsimp only;have hk2:=kp _ _ (.inr rfl) h2;refine wpAny_bind (listUpdate_at hk2 rfl ?_ (by rw[size_toArray];omega) (by rw[Array.size_push,size_toArray];omega));have hk3:=get?_update_seq hk2 (λx=>x.push (.int i t));simp only[List.push_toArray]at hk3;refine wpAny_pure ⟨_,rfl,dn++[x],ks++[.int i t],_,by rw[e,append_assoc];rfl,k.snoc ri,gu _ _ g2,?_,hk3⟩;exact(get?_update_ne _ _ _ _ hne.symm).trans (kp _ _ (.inl rfl) h1)
 case post=>
  rintro _ s' ⟨ks,e2,k,g,h1,h2⟩;have kl:=k.len;refine wpAny_bind (listItems_at h2 rfl ?_);refine Br ?_;have k2:ks.toArray.size=ks.length:=size_toArray;have zl:(if rv=true then(ks.toArray.zip vs.toArray).reverse else ks.toArray.zip vs.toArray).toList=if rv=true then(ks.zip vs).reverse else ks.zip vs:=by
   cases rv
   ·exact Array.toList_zip
   ·exact(toList_reverse).trans (congrArg List.reverse Array.toList_zip)
  have zn:(if rv=true then(ks.zip vs).reverse else ks.zip vs).length=vs.length:=by
   have e:(ks.zip vs).length=vs.length:=by rw[length_zip,kl,min_self]
   cases rv
   ·exact e
   ·exact length_reverse.trans e
  have al:∀{st':SortSt},cK intKind (arrOf st').toList (if rv=true then(ks.zip vs).reverse else ks.zip vs)->(arrOf st').size=vs.length:=λ{st'} h=>by
   rw[<-length_toList,h.perm.length_eq,zn]
  have sr:∀X:Array Value,(if rv=true then X.reverse else X).size=X.size:=λX=>by
   cases rv
   ·rfl
   ·exact Array.size_reverse
  by_cases c2:vs.toArray.size < 2
  ·rw[if_pos c2]
   refine wpAny_bind (wpAny_pure ?_);rw[if_pos c2,StateT.run_pure];refine wpAny_bind (wpAny_pure ?_);dsimp only;have fz:=fin s' ks (if rv=true then(ks.toArray.zip vs.toArray).reverse else ks.toArray.zip vs.toArray) g ⟨e1,h1⟩ k (by
    rw[zl];have l2':(if rv=true then(ks.zip vs).reverse else ks.zip vs).length < 2:=by rw[zn,<-hsz];exact c2
    exact srtS l2') (by rw[zl];exact cK.refl _)
   refine wpAny_bind (listUpdate_at h2 rfl ?_ (by rw[size_toArray];omega) (by show 0<=_;omega));refine wpAny_bind (wpAny_letGo ?_);have ha2:(s'.heap.update (s.heap.objs.size+1) (Obj.mapSeq λ_=> #[])).get? a=some (seqObj "list" #[] e1):=(get?_update_ne _ _ _ _ hne.symm).trans h1;refine wpAny_bind (seqEpoch_at ha2 rfl ?_);refine wpAny_bind (listUpdate_at ha2 rfl ?_ (by show 0<=_;omega) (by rw[sr,Array.size_map,<-length_toList,zl,zn];omega));simp only[bne_self_eq_false,false_eq_true,if_false];exact wpAny_pure fz
  ·rw[if_neg c2]
   have hkk:xW ks.toArray=pure oneType':=by
    obtain⟨v₁,v₂,rest,e⟩:=uT (vs:=ks) (by rw[kl,<-hsz];exact c2);have:=intsAre_map ks k.ints;rw[e]at this ⊢;exact keyKind_ints this
   refine wpAny_bind (wpAny_of_eq hkk ?_);rw[if_neg c2];refine wpAny_bind (wpAny_mono (oE (κ:=intKind) Av (st:=SortSt.mk' oneType' (if rv=true then(ks.toArray.zip vs.toArray).reverse else ks.toArray.zip vs.toArray) #[] 7 none)
    (Q:=λ_ st'=>failedOf st'=none/\c9 intKind (arrOf st').toList/\cK intKind (arrOf st').toList (if rv=true then(ks.zip vs).reverse else ks.zip vs)) rfl rfl rfl (λp hp=>?_) λst' f1 f2 f3=>⟨f1,f2,by rw[<-zl];exact f3⟩) ?_ λ_ _ e=>e)
   ·have hp':p∈ks.zip vs:=by
     have h:p∈(if rv=true then(ks.zip vs).reverse else ks.zip vs):=by rw[<-zl];exact hp
     cases rv
     ·exact h
     ·exact mem_reverse.mp h
    obtain⟨n',t',e'⟩:=k.ints p.1 (of_mem_zip (show(p.1,p.2)∈ks.zip vs from hp')).1;exact⟨n',by rw[e'];rfl⟩
   ·rintro⟨⟨⟩,st'⟩ s2 ⟨rfl,f1,f2,f3⟩
    dsimp only;have fz:=fin s2 ks (arrOf st') g ⟨e1,h1⟩ k f2 f3;refine wpAny_bind (listUpdate_at h2 rfl ?_ (by rw[size_toArray];omega) (by show 0<=_;omega));refine wpAny_bind (wpAny_letGo ?_);have ha2:(s2.heap.update (s.heap.objs.size+1) (Obj.mapSeq λ_=> #[])).get? a=some (seqObj "list" #[] e1):=(get?_update_ne _ _ _ _ hne.symm).trans h1;refine wpAny_bind (seqEpoch_at ha2 rfl ?_);refine wpAny_bind (listUpdate_at ha2 rfl ?_ (by show 0<=_;omega) (by rw[sr];refine le_trans (le_of_eq ((Array.size_map ..).trans (al f3))) ?_;omega));have f1':(sortPriv% PySem.Builtin.SortState.failed) st'=none:=f1;rw[f1'];simp only[bne_self_eq_false,false_eq_true,if_false];exact wpAny_pure fz
end
end TS
namespace TS
open PySem PyProof.Rows
open PySem.SeqAt (EqAt RcAt)
def JZ(A:Around)(s:Shared)(x y:Value)(b:Bool):Prop:=
 ∀(prog:Program) (w:World) (E:Value->Shared->Prop) (Q:Value->Shared->Prop),Q (.bool b) s->wpAny (model prog w) A (richCompare .Lt x y) Q E s
def K9(e l:Nat->Bool)(fin:Bool):List Nat->Bool
 |[]=>fin
 |j::r=>if e j=true then K9 e l fin r else l j
open AutoSeq1 (wpAny_loadPart')
open MeetsSeq MeetsSeq2 MeetsSeq3 SeqRoads2
def Bb(O P:KeyOrd):KeyOrd where
 α:=O.α×P.α
 blt a b:=O.blt a.1 b.1 || (!O.blt b.1 a.1 && P.blt a.2 b.2)
 irrefl a:=by simp[O.irrefl,P.irrefl]
 trans a b c h1 h2:=by
  simp only[Bool.or_eq_true,and_eq_true,not_eq_true']at *;rcases h1 with h1|⟨h1,h1'⟩<;>rcases h2 with h2|⟨h2,h2'⟩
  ·exact .inl (O.trans _ _ _ h1 h2)
  ·rcases O.negTrans _ c.1 _ h1 with x|x
   ·exact .inl x
   ·rw[h2]at x;cases x
  ·rcases O.negTrans _ a.1 _ h2 with x|x
   ·rw[h1]at x;cases x
   ·exact .inl x
  ·refine .inr ⟨?_,P.trans _ _ _ h1' h2'⟩
   cases hc:O.blt c.1 a.1 with
   |false=>rfl
   |true=>
    rcases O.negTrans _ b.1 _ hc with x|x
    ·rw[h2]at x;cases x
    ·rw[h1]at x;cases x
 negTrans a b c h:=by
  simp only[Bool.or_eq_true,and_eq_true,not_eq_true']at *;rcases h with h|⟨h,h'⟩
  ·rcases O.negTrans _ b.1 _ h with x|x
   ·exact .inl (.inl x)
   ·exact .inr (.inl x)
  ·cases h1:O.blt b.1 a.1 with
   |true=>
    rcases O.negTrans _ c.1 _ h1 with x|x
    ·exact .inr (.inl x)
    ·rw[h]at x;cases x
   |false=>
    cases h2:O.blt c.1 b.1 with
    |true=>
     rcases O.negTrans _ a.1 _ h2 with x|x
     ·rw[h]at x;cases x
     ·exact .inl (.inl x)
    |false=>
     rcases P.negTrans _ b.2 _ h' with x|x
     ·exact .inl (.inr ⟨rfl,x⟩)
     ·exact .inr (.inr ⟨rfl,x⟩)
 total a b h1 h2:=by
  simp only[Bool.or_eq_false_iff,Bool.and_eq_false_iff,Bool.not_eq_false']at *;obtain⟨h1,h1'⟩:=h1;obtain⟨h2,h2'⟩:=h2;have e:=O.total _ _ h1 h2;have e2:=P.total a.2 b.2 (h1'.resolve_left (by rw[h2];exact Bool.false_ne_true)) (h2'.resolve_left (by rw[h1];exact Bool.false_ne_true));exact Prod.ext e e2
def Aw:KeyOrd:=Bb strKind.toKeyOrd (Bb intKind.toKeyOrd strKind.toKeyOrd)
def ET:KeyOrd:=Bb intKind.toKeyOrd (Bb intKind.toKeyOrd (Bb strKind.toKeyOrd Aw))
def cps(x:Str):List Nat:=x.cps.toList
inductive zq(h:Heap)(p:Addr):Aw.α->Prop
 |saw (k:Int) (t u:Tok) (i:h.IsTuple p #[.str "saw" t,.int k u]):zq h p (cps "saw",k,[])
 |heard (k:Int) (z:Str) (t u v:Tok) (i:h.IsTuple p #[.str "heard" t,.int k u,.str z v]):zq h p (cps "heard",k,cps z)
inductive IW(h:Heap)(p:Addr):ET.α->Prop
 |mk(i j:Int)(z:Str)(q:Addr)(w:Aw.α)(t u v:Tok)(r:h.IsTuple p #[.int i t,.int j u,.str z v,.ref q])(hw:zq h q w):IW h p (i,j,cps z,w)
section
variable {prog:Program}{w:World}{A:Around}{E:Value->Shared->Prop}{s:Shared}
inductive J3(A:Around)(s:Shared)(p q:Addr)(x y:Aw.α):Prop
 |same (e:EqAt A s (.ref p) (.ref q) true)(h:x=y)
 |other (e:EqAt A s (.ref p) (.ref q) false)(h:x≠y)(l:JZ A s (.ref p) (.ref q) (Aw.blt x y))
def JV(as:List Addr)(g:Addr->ET.α):KeyKind where
 toKeyOrd:=ET
 keyOf v:=match v with
  |.ref a=>if a∈as then some (g a) else none
  |_=>none
 dflt:=((0:Int),(0:Int),([]:List Nat),([]:List Nat),(0:Int),([]:List Nat))
def dj:Value->Addr
 |.ref a=>a
 |_=>0
end
end TS
namespace L2
open PySem PySem.Spec PyProof.Rows
section
variable {X:Cx}
theorem Un.over{fs ex:List Addr}{H H1:Hp}{h h1 h2:Heap}(u:Un fs ex H H1 h h1)(k:∀b,b < h.objs.size->h2.get? b=h1.get? b):Un fs ex H H1 h h2 where
 keep:=λb o q n hb hx=>(k b (lt_size q)).trans (u.keep b o q n hb hx)
 slot:=λb o q n hb hx=>by
  obtain⟨sl,e⟩:=u.slot b o q n hb hx;exact⟨sl,(k b (lt_size q)).trans e⟩
 free:=u.free
 there:=λb o q hx=>by
  obtain⟨o',e⟩:=u.there b o q hx;exact⟨o',(k b (lt_size q)).trans e⟩
 tups:=u.tups
 frzs:=u.frzs
 tbls:=u.tbls
theorem Un.xj{fs ex:List Addr}{H:Hp}{h h1:Heap}{a:Addr}{o:HO}(u:Un fs ex H H h h1)(ha:h.objs.size<=a)(hn:H a=none):Un fs ex H (upd H a o) h h1 where
 keep:=u.keep
 slot:=u.slot
 free:=λb ob q n hx=>by rw[cD (ne_of_lt (lt_of_lt_of_le (lt_size q) ha))];exact n
 there:=u.there
 tups:=λb xs q=>by rw[cD (cA q hn)];exact q
 frzs:=λb ob xs q=>by rw[cD (cA q hn)];exact q
 tbls:=λb ps q=>⟨#[],by rw[cD (cA q hn),q];simp⟩
theorem gz.over{P:Program}{w:World}{H:Hp}{h0 h h':Heap}(x0:gz P w H h0)(x:gz P w H h)(k:∀b,b < h0.objs.size->h'.get? b=h.get? b):gz P w H h':=λa o e=>
 (x a o e).fB (λb u hb q=>(k b (hb.elim (λz=>z ▸ x0.lt e) (λz=>x0.lt z))).trans q) (λ_ q=>q) λ_ _ q=>q
theorem gz.xj{P:Program}{w:World}{H:Hp}{h:Heap}{a:Addr}{o:HO}(x:gz P w H h)(hn:H a=none)(new:cZ P w (upd H a o) h a o):gz P w (upd H a o) h:=λb u e=>by
 by_cases hb:b=a
 ·subst hb
  rw[cz]at e;cases e;exact new
 ·rw[cD hb]at e
  exact(x b u e).fB (λc v _ q=>q) (λc q=>by rw[cD (cA q hn)];exact q) λc xs q=>by rw[cD (cA q hn)];exact q
def dj:Value->Addr
 |.ref a=>a
 |_=>0
def Au(g:Addr->Int)(v:Value)(i:Int):Prop:=∃a,v=.ref a/\g a=i
theorem y6{g:Addr->Int}{vs ks:List Value}(h:TS.KeysAre (Au g) vs ks):∀p∈ks.zip vs,TS.key TS.intKind p=g (dj p.2)/\p.2=.ref (dj p.2):=by
 induction h with
 |nil=>intro p hp;cases hp
 |snoc h r ih=>
  intro p hp;rw[List.zip_append h.len]at hp;rcases mem_append.mp hp with hp|hp
  ·exact ih p hp
  ·cases mem_singleton.mp hp
   obtain⟨a,rfl,e⟩:=r;exact⟨e.symm,rfl⟩
theorem wM:∀{as:List Addr}{its:List Value},Vals (as.map V.ref) its->its=as.map Value.ref
 |[],[],_=>rfl
 |[],_::_,h=>by cases h
 |_::_,[],h=>by cases h
 |a::as,v::its,h=>by
  cases h with
  |cons r t=>
   cases r;rw[map_cons,wM t]
theorem qy:∀(as:List Addr),Vals (as.map V.ref) (as.map Value.ref)
 |[]=>.nil
 |a::as=>.cons rfl (qy as)
inductive Eh(K:PySem.W.Frag)(sp:Sp)(xs:List V)(H:Hp)(Q:VK):Prop
 |mk(p:Addr)(as:List Addr)(g:Addr->Int)(e:xs=[.ref p])(s:cH K H p (as.map V.ref))(hs:∀a∈as,∀Q':VK,Q' (.int (g a)) H->sp [.ref a] H Q' E0)
   (q:∀(l:Addr)(zs:List Addr),H l=none->zs.Perm as->zs.Pairwise (λa b=>g a<=g b)->(∀i,zs.filter (λa=>decide (g a=i))=as.filter (λa=>decide (g a=i)))->Q (.ref l) (upd H l (.lst (zs.map V.ref))))
structure F4(X:Cx)(x:Str)(sp:Sp):Prop where
 ex:∃(k:Nat) (f:Addr) (fd:FuncData) (ps:List Str),dO X.prog X.w X.K X.mg X.base mG k f fd ps sp/\dr (k+2) X.A/\X.mg x=some (.ref f)/\Binds X.K fd ps []
 gl:Gl X x
 db:(x == ("__debug__" :Str))=false
theorem Here.KL {P:Program}{w:World}{K:PySem.W.Frag}{mg:Str->Option Value}{base:Heap}{sc:Scope}{N:List Str}{k j:Nat}{x:Str}{sp:Sp}(h:Here X P w K mg base sc N k) (G:Gd P w K mg base j x sp) (hg:sc.names.lookup x=some .globalImplicit) (hj:j+2<=k) (db:(x == ("__debug__" :Str))=false):F4 X x sp:=by
 obtain⟨f,fd,ps,h1,h2,h3,h4⟩:=G.ex;obtain⟨rfl,rfl,rfl,rfl,rfl⟩:=And.intro h.pr (And.intro h.wd (And.intro h.fK (And.intro h.gm h.bs)));exact⟨⟨j,f,fd,ps,h1,h.room.mono hj,h2,h4⟩,h.gl hg,db⟩
end
end L2
namespace J
open PySem PySem.Spec PyProof.Rows
open L2 (Cx V cH cU)
theorem HY{X:Cx}{c a b:Expr}{pos:Pos}{tA:L2.TT}{ta tb:L2.TE}(hc:JT X c tA)(ha:JE X a ta)(hb:JE X b tb):JE X (.IfExp c a b pos) (L2.LH tA ta tb):=⟨L2.AW hc.out ha.out hb.out⟩
end J
namespace L2
open PySem PySem.Spec PyProof.Rows
section
variable {X:Cx}
inductive H0(K:PySem.W.Frag)(x y:V)(H:Hp)(Q:Prop):Prop
 |mk(a b:Addr)(xs ys:List V)(hx:x=.ref a)(hy:y=.ref b)(s:cH K H a xs)(t:cH K H b ys)(l:xs.length=ys.length)
   (he:∀(i:Nat) u v,xs[i]? =some u->ys[i]? =some v->∃p q zs,u=.ref p/\v=.ref q/\cU K H p zs/\cU K H q zs/\∀z∈zs,iV z z=some true)(q:Q)
theorem FJ{pins:List (Addr×Obj)}{σ:St}{H:Hp}{s:Shared}{A:Around}(hu:A.units+1 < cLine)(I:Inv X pins σ H s){p q:Addr}{zs:List V}(hp:cU X.K H p zs)(hq:cU X.K H q zs)(hz:∀z∈zs,iV z z=some true):SeqAt.EqAt A s (.ref p) (.ref q) true:=by
 by_cases e:p=q
 ·rw[e]
  exact SeqAt.EqAt.same _
 obtain⟨jts,rj,plj,_⟩:=I.tuple hp;obtain⟨jts2,rj2,plj2,_⟩:=I.tuple hq;have m1:=rj.length;have m2:=rj2.length;have inner:=SeqAt.RcAt.tuples (A:=A) (e:=λ_=>true) (show s.heap.IsTuple p jts.toArray from plj) (show s.heap.IsTuple q jts2.toArray from plj2) (by omega) λi k1 k2=>by
  simp only[size_toArray]at k1 k2;obtain⟨x1,f1,r1⟩:=da rj k1;obtain⟨x2,f2,r2⟩:=da rj2 k2;rw[f1]at f2;cases f2;simp only[getElem_toArray];exact ju r1 r2 (hz _ (mem_of_getElem? f1))
 have sz:jts.toArray.size=jts2.toArray.size:=by simp only[size_toArray];omega
 rw[gj,sz,beq_self_eq_true]at inner;exact SeqAt.EqAt.of_refs e inner
end
end L2
namespace J
open PySem PySem.Spec PyProof.Rows
open L2 (Cx V cH cU)
end J
namespace L2
open PySem PySem.Spec PyProof.Rows
section
variable {X:Cx}
theorem Ca{P:Program}{w:World}{z:Str}{v:Value}(h:(cJ P w).is (Sum.inr z) v=true):∃t,v=.str z t:=by
 cases v with
 |str x t=>
  have e:x=z:=by simpa [cJ,jf,Value.isStrOf] using h
  exact⟨t,by rw[e]⟩
 |_=>simp[cJ,jf,Value.isStrOf]at h
theorem wL:∀{us:List Value}{zs:List Str},us.length=zs.length->(∀(i:Nat) u z,us[i]? =some u->zs[i]? =some z->∃t,u=.str z t)->StrsAre us zs
 |[],[],_,_=>.nil
 |[],_::_,l,_=>by cases l
 |_::_,[],l,_=>by cases l
 |u::us,z::zs,l,h=>by
  obtain⟨t,rfl⟩:=h 0 u z rfl rfl;exact .cons _ _ (wL (Nat.succ.inj l) λi u z h1 h2=>h (i+1) u z h1 h2)
inductive IH(xs:List V)(H:Hp)(Q:VK):Prop
 |mk(p:Addr)(kvs:List (Key×V))(zs:List Str)(e:xs=[.ref p])(s:H p=some (.dK kvs))(k:kvs.map (·.1)=zs.map Sum.inr)(l:zs.length < 64)(q:∀l zs',H l=none->zs.Nodup->zs'.Perm zs->sortedS zs'=true->Q (.ref l) (upd H l (.lst (zs'.map V.str))))
theorem fJ(hc:X.calm=true):eG X (.builtin "sorted") (λxs H Q=>IH xs H Q):=by
 intro pins s σ H xs us Q I r h;obtain⟨p,kvs,zs,rfl,hp,hk,l64,q⟩:=h;obtain⟨u,rfl,rx⟩:=vals1 r;cases rx;obtain⟨kz,hsm,vs,kv,o,es,ep,ho,ed,hdat,kof,prs,nd⟩:=D4 I.hok hp;have kl:vs.length=zs.length:=by
  have:=congrArg List.length hk;rw[length_map,length_map,kv.length]at this;exact this
 have hsz:sizeLine=16777216:=sizeLine_eq;have zat:∀{j:Nat}{k:Key}{x:Value},vs[j]? =some (k,x)->∃z,zs[j]? =some z/\k=Sum.inr z:=λ{j k x} e=>by
  have e1:(vs.map (·.1))[j]? =some k:=by rw[getElem?_map,e];rfl
  rw[<-kv.keys,hk,getElem?_map]at e1;obtain⟨z,h1,h2⟩:=map_eq_some_iff.mp e1;exact⟨z,h1,h2.symm⟩
 have znd:zs.Nodup:=by
  rw[<-kv.keys,hk]at nd;exact(List.pairwise_map.mp nd).imp λh e=>h (by rw[e])
 refine call_function_entry_kw kind_sorted plain_sorted entry_sorted (args_sorted1 _) ?_;unfold Builtin.«sorted»;refine wpAny_bind (m:=checkCount "sorted" 1 1 _) (wpAny_pure ?_);refine wpAny_bind (PySem.W.kdu_collect (PySem.W.kdl_dict (knd:=cJ X.prog X.w) (kvs:=vs) (ep:=ep) hsm) (I.ok.hd hc) ⟨o,es,ho,ed,hdat,kof,prs,nd⟩ (by omega) λh' tk acc kp it=>?_);obtain⟨al,ai⟩:=it;have sa:StrsAre acc.toList zs:=wL (by rw[length_toList];omega) λi u z h1 h2=>by
  rw[getElem?_toList]at h1;obtain⟨k,x,e1,e2⟩:=ai i u h1;obtain⟨z',e3,rfl⟩:=zat e1;rw[h2]at e3;cases e3;exact Ca e2
 have al':acc.toList.length=zs.length:=by rw[length_toList];omega
 have pl:(h'.push (seqObj "list" acc.toList.toArray 0)).get? h'.objs.size=some (seqObj "list" acc.toList.toArray 0):=get?_push_size _ rfl;refine wpAny_bind (wpAny_newList ?_ (by omega));refine wpAny_bind (wpAny_holding (wpAny_call_entry slot_list_sort ⟨_,pl,rfl⟩ entry_list_sort (list_sort_treeK strKind_oneLt pl sa.keysOf (λv₁ v₂ rest e=>keyKind_strs (e ▸ sa)) (by omega) λst' a1 a2=>?_) (args_list_sort _)));obtain⟨ss',b1,b2,b3⟩:=sorted_out_str sa a1 a2;obtain⟨e,he⟩:=sortedHeap_at (out:=(arrOf st').map (·.2)) pl;have I':Inv X pins σ H { s with heap:=h',toks:=tk }:=I.un (t':=tk) (Un.kept kp) (I.hok.kept kp);refine⟨_,rfl,wpAny_pure ⟨_,rfl,.ref h'.objs.size,_,I'.laid (t':=tk) (o:=.lst (ss'.map V.str)) (λb u hb=>?_) (le_refl _) ⟨by rw[length_map,b2.length_eq];omega,_,e,mq b1,he⟩,rfl,q _ _ (I'.hok.fresh (le_refl _)) znd b2 b3⟩⟩;have lt:=lt_size hb;exact(sortedHeap_old (ne_of_lt lt) (by rw[size_push'];exact lt_succ_of_lt lt)).trans ((get?_push_ne _ _ _ (ne_of_lt lt)).trans hb)
inductive DZ(K:PySem.W.Frag)(H:Hp)(z y:V):Prop
 |flat (e:z=y)(f:iV z z=some true)
 |tup (w v:Addr)(ws:List V)(hz:z=.ref w)(hy:y=.ref v)(s:cU K H w ws)(t:cU K H v ws)(f:∀x∈ws,iV x x=some true)
inductive sf(K:PySem.W.Frag)(x y:V)(H:Hp)(Q:Prop):Prop
 |mk(a b:Addr)(xs ys:List V)(hx:x=.ref a)(hy:y=.ref b)(s:cH K H a xs)(t:cH K H b ys)(l:xs.length=ys.length)
   (he:∀(i:Nat) u v,xs[i]? =some u->ys[i]? =some v->∃p q zs ws,u=.ref p/\v=.ref q/\cU K H p zs/\cU K H q ws/\zs.length=ws.length/\∀(j:Nat) z y,zs[j]? =some z->ws[j]? =some y->DZ K H z y)(q:Q)
theorem CM{pins:List (Addr×Obj)}{σ:St}{H:Hp}{s:Shared}{A:Around}(hu:A.units+2 < cLine)(I:Inv X pins σ H s){p q:Addr}{zs ws:List V}(hp:cU X.K H p zs)(hq:cU X.K H q ws)(hl:zs.length=ws.length)(hz:∀(j:Nat) z y,zs[j]? =some z->ws[j]? =some y->DZ X.K H z y):SeqAt.EqAt A s (.ref p) (.ref q) true:=by
 by_cases e:p=q
 ·rw[e]
  exact SeqAt.EqAt.same _
 obtain⟨jts,rj,plj,_⟩:=I.tuple hp;obtain⟨jts2,rj2,plj2,_⟩:=I.tuple hq;have m1:=rj.length;have m2:=rj2.length;have inner:=SeqAt.RcAt.tuples (A:=A) (e:=λ_=>true) (show s.heap.IsTuple p jts.toArray from plj) (show s.heap.IsTuple q jts2.toArray from plj2) (by omega) λi k1 k2=>by
  simp only[size_toArray]at k1 k2;obtain⟨x1,f1,r1⟩:=da rj k1;obtain⟨x2,f2,r2⟩:=da rj2 k2;simp only[getElem_toArray];cases hz i x1 x2 f1 f2 with
  |flat e f=>
   subst e;exact ju r1 r2 f
  |tup w v us e1 e2 s1 s2 f=>
   subst e1;subst e2;rw[show jts[i]=.ref w from r1,show jts2[i]=.ref v from r2];exact FJ (by show A.units+1+1 < cLine;omega) I s1 s2 f
 have sz:jts.toArray.size=jts2.toArray.size:=by simp only[size_toArray];omega
 rw[gj,sz,beq_self_eq_true]at inner;exact SeqAt.EqAt.of_refs e inner
theorem j3(hu:X.A.units+3 < cLine):iq X (compareOp .NotEq) (λx y H Q=>sf X.K x y H (Q (.bl false) H)):=by
 intro pins s σ H x y v u Q I rx ry h;obtain⟨a,b,xs,ys,rfl,rfl,ha,hb,l,he,q⟩:=h;cases rx;cases ry;obtain⟨its,r,pl,_⟩:=I.list ha;obtain⟨its2,r2,pl2,_⟩:=I.list hb;have m1:=r.length;have m2:=r2.length;have key:SeqAt.RcNeAt X.A s (.ref a) (.ref b) (!((List.range its.toArray.size).all λ_=>true)):=by
  refine SeqAt.RcNeAt.lists pl.isList pl2.isList (by simp only[size_toArray];omega) (by omega) λj h1 h2=>?_;simp only[size_toArray]at h1 h2;obtain⟨x1,e1,r1⟩:=da r h1;obtain⟨x2,e2,r2'⟩:=da r2 h2;obtain⟨p,q',zs,ws,rfl,rfl,hp,hq,hl,hz⟩:=he j x1 x2 e1 e2;simp only[getElem_toArray];rw[show its[j]=.ref p from r1,show its2[j]=.ref q' from r2'];exact CM (by show X.A.units+1+2 < cLine;omega) I hp hq hl hz
 rw[gj]at key;exact key X.prog X.w X.xe _ ⟨.bl false,H,I,rfl,q⟩
theorem El{A:Around}{k:Nat}(hr:dr k A):A.units+3 < cLine:=by
 have:=hr.un;omega
end
end L2
namespace J
open PySem PySem.Spec PyProof.Rows
open L2 (Cx V cH cU)
theorem fJ{X:Cx}(hc:X.calm=true):JF X (.builtin "sorted") (λxs H Q=>L2.IH xs H Q):=⟨L2.fJ hc⟩
theorem yQ{X:Cx}{N':List Str}{scope:Scope}{cl:List (Str×Addr)}{fp:List Addr}{s3:Shared}{H3:L2.Hp}{C:Addr}:JF (L2.cV X N' scope cl fp s3 H3 C) (.builtin "isinstance") (λxs H Q=>L2.EN X.K xs H Q):=⟨L2.i6⟩
theorem j3{X:Cx}(hu:X.A.units+3 < cLine):JC X .NotEq (λx y H Q=>L2.sf X.K x y H (Q (.bl false) H)):=⟨L2.j3 hu⟩
end J
namespace L2
open PySem PySem.Spec PyProof.Rows
section
variable {X:Cx}
inductive GZ(K:PySem.W.Frag)(H:Hp)(z y:V):Prop
 |flat (e:z=y)(f:iV z z=some true)
 |rows (h:H0 K z y H True)
inductive LV(K:PySem.W.Frag)(x y:V)(H:Hp)(Q:VK):Prop
 |same (a b:Addr)(zs ws:List V)(hx:x=.ref a)(hy:y=.ref b)(s:cU K H a zs)(t:cU K H b ws)(l:zs.length=ws.length)(e:∀(j:Nat) z y,zs[j]? =some z->ws[j]? =some y->GZ K H z y)(q:Q (.bl false) H)
end
theorem mI{X:Cx}{e d:Expr}{ty td:TE}{pos:Pos}(hu:X.A.units+1 < cLine)(hi:PE X e ty)(ho:PE X d td)(hm:behindInMarks .NotIn d=false:=by rfl):PE X (.Compare e [.NotIn] [d] pos) (nu ty td):=zh (qz hu hi ho) hm
end L2
namespace J
open PySem PySem.Spec PyProof.Rows
open L2 (Cx V cH cU TE)
theorem mI{X:Cx}{e d:Expr}{ty td:TE}{pos:Pos}(hu:X.A.units+1 < cLine)(hi:JE X e ty)(ho:JE X d td)(hm:behindInMarks .NotIn d=false:=by rfl):JE X (.Compare e [.NotIn] [d] pos) (L2.nu ty td):=⟨L2.mI hu hi.out ho.out hm⟩
end J
namespace L2
open PySem PySem.Spec PyProof.Rows
section
variable {X:Cx}
theorem oJ(rv:Bool)(a:Value)(f:Addr):argsOk "sorted" ⟨[a],TS.oO rv f⟩:=by cases rv<;>(unfold argsOk;kernel_rfl)
theorem pX(rv:Bool)(a:Value)(f:Addr):argsOk "list.sort" ⟨[a],TS.oO rv f⟩:=by cases rv<;>(unfold argsOk;kernel_rfl)
inductive Ht(K:PySem.W.Frag)(rv:Bool)(sp:Sp)(xs:List V)(H:Hp)(Q:VK):Prop
 |mk(p:Addr)(as:List Addr)(g:Addr->Int)(e:xs=[.ref p])(s:cH K H p (as.map V.ref))(hs:∀a∈as,∀Q':VK,Q' (.int (g a)) H->sp [.ref a] H Q' E0)
   (q:∀(l:Addr)(ys:List Addr),H l=none->ys.Perm as->ys.Pairwise (λa b=>g a<=g b)->(∀i,ys.filter (λa=>decide (g a=i))=(if rv=true then as.reverse else as).filter (λa=>decide (g a=i)))->Q (.ref l) (upd H l (.lst ((if rv=true then ys.reverse else ys).map V.ref))))
theorem vb{rv:Bool}{k:Nat}{f:Addr}{fd:FuncData}{ps:List Str}{sp:Sp}(F:dO X.prog X.w X.K X.mg X.base mG k f fd ps sp)(hr:dr (k+2) X.A)(hb:Binds X.K fd ps []){pins:List (Addr×Obj)}{s:Shared}{σ:St}{H:Hp}{xs:List V}{us:List Value}{Q:VK}
  (I:Inv X pins σ H s)(r:Vals xs us)(h:Ht X.K rv sp xs H Q):wpAny (model X.prog X.w) X.A (call (.builtin "sorted") us (TS.oO rv f)) (EP X pins σ Q) X.xe s:=by
 obtain⟨p,as,g,rfl,hq,hs,q⟩:=h;obtain⟨u,rfl,rx⟩:=vals1 r;cases rx;obtain⟨its,rvl,pl,hz⟩:=I.list hq;obtain rfl:=wM rvl;rw[length_map]at hz;refine call_function_entry_kw kind_sorted plain_sorted entry_sorted (oJ _ _ _) ?_;unfold Builtin.«sorted»;refine wpAny_bind (m:=checkCount "sorted" 1 1 _) (wpAny_pure ?_);refine wpAny_bind (collect_list pl.isList ?_);refine wpAny_bind (wpAny_newList ?_);have hsz:((s.heap.push (seqObj "list" #[] 0)).update s.heap.objs.size (Obj.mapSeq (· ++(as.map Value.ref).toArray))).objs.size=s.heap.objs.size+1:=by
  rw[size_update,size_push']
 have hoL:(((s.heap.push (seqObj "list" #[] 0)).update s.heap.objs.size (Obj.mapSeq (· ++(as.map Value.ref).toArray))).push (seqObj "list" (as.map Value.ref).toArray 0)).get? (s.heap.objs.size+1)=some (seqObj "list" (as.map Value.ref).toArray 0):=by
  rw[<-hsz];exact get?_push_size _ rfl
 show wpAny _ _ _ _ _ { s with heap:=((s.heap.push (seqObj "list" #[] 0)).update s.heap.objs.size (Obj.mapSeq (· ++(as.map Value.ref).toArray))).push (seqObj "list" (as.map Value.ref).toArray 0) };rw[hsz];have hold:∀b,b < s.heap.objs.size->(((s.heap.push (seqObj "list" #[] 0)).update s.heap.objs.size (Obj.mapSeq (· ++(as.map Value.ref).toArray))).push (seqObj "list" (as.map Value.ref).toArray 0)).get? b=s.heap.get? b:=λb hb=>by
  rw[get?_push_ne _ _ _ (by rw[hsz];exact ne_of_lt (lt_succ_of_lt hb)),get?_update_ne _ _ _ _ (ne_of_lt hb),get?_push_ne _ _ _ (ne_of_lt hb)]
 have hs2:(((s.heap.push (seqObj "list" #[] 0)).update s.heap.objs.size (Obj.mapSeq (· ++(as.map Value.ref).toArray))).push (seqObj "list" (as.map Value.ref).toArray 0)).objs.size=s.heap.objs.size+2:=by rw[size_push',hsz]
 generalize ((s.heap.push (seqObj "list" #[] 0)).update s.heap.objs.size (Obj.mapSeq (· ++(as.map Value.ref).toArray))).push (seqObj "list" (as.map Value.ref).toArray 0)=h2 at hoL hold hs2;have na:H (s.heap.objs.size+1)=none:=I.hok.fresh (le_succ _);have nk:H (h2.objs.size+1)=none:=I.hok.fresh (by rw[hs2];omega);have nfr:∀b,s.heap.objs.size<=b->b ∉ fX X.stack:=λb hb hm=>by
  obtain⟨_,o,e,_⟩:=I.stack.mem hm;exact absurd (lt_size e) (Nat.not_lt.mpr hb)
 refine wpAny_bind (wpAny_holding (wpAny_call_entry_kw slot_list_sort ⟨_,hoL,rfl⟩ entry_list_sort (TS.qH (rv:=rv) (R:=Au g)
  (G:=λs'=>s'.os=s.os/\AllBare s'.gens/\Un (fX X.stack) [] H H s.heap s'.heap/\gz X.prog X.w H s'.heap) hoL (by rw[length_map];exact hz) ?g0 ?gu ?gc ?fin) (pX _ _ _)))
 case g0=>
  have k:∀b,b < s.heap.objs.size->(((h2.update (s.heap.objs.size+1) (Obj.mapSeq λ_=> #[])).push (seqObj "tuple" (as.map Value.ref).toArray 0)).push (seqObj "list" #[] 0)).get? b=s.heap.get? b:=λb hb=>by
   rw[get?_push_ne _ _ _ (ne_of_lt (by rw[size_push',size_update,hs2];omega)),get?_push_ne _ _ _ (ne_of_lt (by rw[size_update,hs2];omega)),get?_update_ne _ _ _ _ (ne_of_lt (by omega)),hold b hb]
  exact⟨rfl,I.bare,Un.refl.over k,gz.over I.hok I.hok k⟩
 case gu=>
  rintro s' gg ⟨os,bare,un,hok⟩;have k:∀b,b < s.heap.objs.size->(s'.heap.update (h2.objs.size+1) (Obj.mapSeq gg)).get? b=s'.heap.get? b:=λb hb=>get?_update_ne _ _ _ _ (ne_of_lt (by rw[hs2];omega));exact⟨os,bare,un.over k,gz.over I.hok hok k⟩
 case gc=>
  rintro v hv s' ⟨os,bare,un,hok⟩;obtain⟨a,ha,rfl⟩:=mem_map.mp hv;have I':Inv X pins σ H s':=I.qr (ch:=[]) os un hok bare (λb z=>by cases z);have hq':=hs a ha (λv H'=>v=.int (g a)/\H'=H) ⟨rfl,rfl⟩;have hl:([Value.ref a]++([]:List Value)).length=ps.length:=F.len _ _ _ _ hq';refine wpAny_call (codeAny_mono (F.run X.A.in1.in1 X.stack s' H ⟨[.ref a],[]⟩ [.ref a] [.ref a] _ E0 hr.in1.in1 I'.Aa.in1.in1 (hb s' [.ref a] I'.ip hl) (.cons rfl .nil) hq') λrr s2 hh=>?_);cases rr with
  |error e=>exact False.elim hh
  |ok fl=>
   cases fl with
   |next=>exact False.elim hh
   |brk=>exact False.elim hh
   |cont=>exact False.elim hh
   |ret u=>
    obtain⟨v,H',os2,bare2,un2,hok2,rv2,rfl,rfl⟩:=hh;obtain⟨t,rfl⟩:=rv2;refine⟨⟨_,t,rfl,a,rfl,rfl⟩,⟨os2.trans os,bare2,un.trans un2,hok2⟩,λb o hb hg=>?_⟩;rcases hb with rfl|rfl
    ·exact un2.keep _ _ hg na (nfr _ (le_succ _)) (λz=>by cases z)
    ·exact un2.keep _ _ hg nk (nfr _ (by rw[hs2];omega)) (λz=>by cases z)
 case fin=>
  rintro s' ks arr ⟨os,bare,un,hok⟩ ⟨e1,hae⟩ kk iU stb;refine⟨_,rfl,wpAny_pure ⟨_,rfl,?_⟩⟩;have km:=y6 kk;have mz:∀p:Keyed,p∈(if rv=true then(ks.zip (as.map Value.ref)).reverse else ks.zip (as.map Value.ref))->p∈ks.zip (as.map Value.ref):=λp hp=>by
   cases rv
   ·exact hp
   ·exact mem_reverse.mp hp
  have am:∀p∈arr.toList,TS.key TS.intKind p=g (dj p.2)/\p.2=.ref (dj p.2):=λp hp=>km p (mz p (stb.mem.mp hp));have zs0:(ks.zip (as.map Value.ref)).map (λp=>dj p.2)=as:=by
   have e1:(λp:Keyed=>dj p.2)=dj ∘ Prod.snd:=rfl;rw[e1,<-map_map,List.map_snd_zip (by rw[kk.len];exact le_refl _),map_map];exact List.map_id _
  have zsnd:(if rv=true then(ks.zip (as.map Value.ref)).reverse else ks.zip (as.map Value.ref)).map (λp=>dj p.2)=if rv=true then as.reverse else as:=by
   cases rv
   ·exact zs0
   ·exact List.map_reverse.trans (congrArg List.reverse zs0)
  have hzs:(if rv=true then(arr.map (·.2)).reverse else arr.map (·.2)).toList=(if rv=true then(arr.toList.map λp=>dj p.2).reverse else arr.toList.map λp=>dj p.2).map Value.ref:=by
   have e:(arr.map (·.2)).toList=(arr.toList.map λp=>dj p.2).map Value.ref:=by
    rw[Array.toList_map,map_map];exact map_congr_left λp hp=>(am p hp).2
   cases rv
   ·exact e
   ·exact toList_reverse.trans ((congrArg List.reverse e).trans List.map_reverse.symm)
  have perm:(arr.toList.map λp=>dj p.2).Perm as:=by
   have:=stb.perm.map (λp:Keyed=>dj p.2);rw[zsnd]at this;cases rv
   ·exact this
   ·exact this.trans (List.reverse_perm as)
  have pw:(arr.toList.map λp=>dj p.2).Pairwise (λa b=>g a<=g b):=by
   rw[List.pairwise_map];refine List.Pairwise.imp_of_mem (λ{x y} hx hy hxy=>?_) iU;have h':TS.intKind.blt (TS.key TS.intKind y) (TS.key TS.intKind x)=false:=hxy;rw[(am x hx).1,(am y hy).1]at h';have h2':decide (g (dj y.2) < g (dj x.2))=false:=h';rw[decide_eq_false_iff_not]at h2';omega
  have flt:∀(l:List Keyed),(∀p∈l,TS.key TS.intKind p=g (dj p.2))->∀i:Int,(l.map λp=>dj p.2).filter (λa=>decide (g a=i))=(TS.fk TS.intKind i l).map λp=>dj p.2:=λl hl i=>by
   rw[filter_map]
   congr 1
   refine List.filter_congr λp hp=>?_;show decide (g (dj p.2)=i)=(!TS.intKind.blt (TS.key TS.intKind p) i && !TS.intKind.blt i (TS.key TS.intKind p));rw[hl p hp];show decide (g (dj p.2)=i)=(!decide (g (dj p.2) < i) && !decide (i < g (dj p.2)));rw[Bool.eq_iff_iff,and_eq_true,not_eq_true',not_eq_true',decide_eq_true_iff,decide_eq_false_iff_not,decide_eq_false_iff_not];omega
  have fl:∀i:Int,(arr.toList.map λp=>dj p.2).filter (λa=>decide (g a=i))=(if rv=true then as.reverse else as).filter (λa=>decide (g a=i)):=λi=>by
   have e2:=flt _ (λp hp=>(km p (mz p hp)).1) i;rw[zsnd]at e2;rw[flt arr.toList (λp hp=>(am p hp).1) i,e2,stb i]
  have hkne:s.heap.objs.size+1≠h2.objs.size+1:=ne_of_lt (by rw[hs2];omega);have hae2:(s'.heap.update (h2.objs.size+1) (Obj.mapSeq λ_=> #[])).get? (s.heap.objs.size+1)=some (seqObj "list" #[] e1):=(get?_update_ne _ _ _ _ hkne).trans hae;have hend:=get?_update_seq hae2 (λ_=>if rv=true then(arr.map (·.2)).reverse else arr.map (·.2));have k:∀b,b < s.heap.objs.size->((s'.heap.update (h2.objs.size+1) (Obj.mapSeq λ_=> #[])).update (s.heap.objs.size+1) (Obj.mapSeq λ_=>if rv=true then(arr.map (·.2)).reverse else arr.map (·.2))).get? b=s'.heap.get? b:=λb hb=>by
   rw[get?_update_ne _ _ _ _ (ne_of_lt (by omega)),get?_update_ne _ _ _ _ (ne_of_lt (by rw[hs2];omega))]
  refine⟨.ref (s.heap.objs.size+1),_,I.qr (ch:=[]) os ((un.over k).xj (le_succ _) na) ((gz.over I.hok hok k).xj na ?_) bare (λb z=>by cases z),rfl,q _ _ na perm pw fl⟩;have pl':=perm.length_eq;have pl2:(if rv=true then(arr.toList.map λp=>dj p.2).reverse else arr.toList.map λp=>dj p.2).length=as.length:=by
   cases rv
   ·exact pl'
   ·exact length_reverse.trans pl'
  have hz2:(if rv=true then(arr.map (·.2)).reverse else arr.map (·.2))=((if rv=true then(arr.toList.map λp=>dj p.2).reverse else arr.toList.map λp=>dj p.2).map Value.ref).toArray:=by rw[<-hzs]
  obtain⟨e3,he3⟩:∃e3,((s'.heap.update (h2.objs.size+1) (Obj.mapSeq λ_=> #[])).update (s.heap.objs.size+1) (Obj.mapSeq λ_=>if rv=true then(arr.map (·.2)).reverse else arr.map (·.2))).get? (s.heap.objs.size+1)=some (seqObj "list" (if rv=true then(arr.map (·.2)).reverse else arr.map (·.2)) e3):=⟨_,hend⟩;refine⟨by rw[length_map,pl2];exact hz,_,e3,qy _,he3.trans ?_⟩;rw[hz2]
theorem EA{K:PySem.W.Frag}{sp:Sp}{xs:List V}{H:Hp}{Q:VK}(h:Eh K sp xs H Q):Ht K false sp xs H Q:=by
 obtain⟨p,as,g,e,s,hs,q⟩:=h;exact⟨p,as,g,e,s,hs,λl ys h1 h2 h3 h4=>q l ys h1 h2 h3 h4⟩
theorem AS {x:Str}{sp:Sp}{e:Expr}{t:TA}{p p2 kpos pos:Pos}(B:Bt X "sorted") (C:F4 X x sp) (ha:PA X [e] t) (he:starEach [e] X.env=[(false,eval e X.env)]):
  PE X (.Call (.Name "sorted" p) [e] [⟨some "key",.Name x p2,kpos⟩] pos) (λσ H Q=>t σ H λxs H1=>Eh X.K sp xs H1 Q):=by
 intro pins s σ H Q I h;obtain⟨k,f,fd,ps,F,hr,nm,hb⟩:=C.ex;refine wpAny_Call_Name_kw (lQ I B.gl B.nm fR ?_ B.hn B.db);refine callWith_kw (cY (ha pos pins s σ H _ I h) λus s1 hpat=>?_) (by rw[he];rfl) (by rw[he];rfl);obtain⟨vs,H1,I1,r,q⟩:=hpat;exact kws_cons (iz I1 C.gl nm (kws_nil (vb (rv:=false) F hr hb I1 r (EA q))) C.db)
end
end L2
namespace J
open PySem PySem.Spec PyProof.Rows
open L2 (Cx V cH cU)
theorem HV {X:Cx}{x:Str}{sp:L2.Sp}{e:Expr}{t:L2.TA}{p p2 kpos pos:Pos}(B:L2.Bt X "sorted") (C:L2.F4 X x sp) (ha:JA X [e] t) (h:L2.notStar e=true:=by rfl):
  JE X (.Call (.Name "sorted" p) [e] [⟨some "key",.Name x p2,kpos⟩] pos) (λσ H Q=>t σ H λxs H1=>L2.Eh X.K sp xs H1 Q):=⟨L2.AS B C ha.out (L2.cO h)⟩
end J
namespace L2
open PySem PySem.Spec PyProof.Rows
def MG(d:Addr)(o:Obj)(kvs:List (Key×V)):It:=⟨λi H=>H d=some (.frz o (.dK kvs))/\i < kvs.length,λi H x H'=>H'=H/\∃z y,kvs[i]? =some (Sum.inr z,y)/\x=.str z,λi H=>H d=some (.frz o (.dK kvs))/\kvs.length<=i⟩
inductive IZ(x:V)(H:Hp)(R:It->Hp->Prop):Prop
 |mk(d:Addr)(kvs:List (Key×V))(e:x=.ref d)(r:Rd H d (.dK kvs))(sk:∀kv∈kvs,∃z,kv.1=Sum.inr z)(q:∀(o:Obj)(H':Hp),(∀b,b≠d->H' b=H b)->H' d=some (.frz o (.dK kvs))->R (MG d o kvs) H')
def Mu(tl:TE):TI:=λσ H R=>tl σ H λx H1=>IZ x H1 R
section
variable {X:Cx}{tg:Expr}
end
end L2
namespace J
open PySem PySem.Spec PyProof.Rows L2
section
variable {X:Cx}{tg e:Expr}{te:TE}
end
end J
namespace L2
open PySem PySem.Spec PyProof.Rows
section
variable {X:Cx}
inductive Mq(K:PySem.W.Frag)(H:Hp)(q:Addr):Prop
 |saw (k:Int) (s:cU K H q [.str "saw",.int k])
 |heard (k:Int) (z:Str) (s:cU K H q [.str "heard",.int k,.str z])
inductive Mm(K:PySem.W.Frag)(H:Hp)(a:Addr):Prop
 |mk(i j:Int)(z:Str)(q:Addr)(s:cU K H a [.int i,.int j,.str z,.ref q])(w:Mq K H q)
inductive Mo(K:PySem.W.Frag)(xs:List V)(H:Hp)(Q:VK):Prop
 |mk(p:Addr)(as:List Addr)(e:xs=[.ref p])(s:cH K H p (as.map V.ref))(hs:∀a∈as,Mm K H a)
   (q:∀(l:Addr)(ys:List Addr),H l=none->ys.Perm as->Q (.ref l) (upd H l (.lst (ys.map V.ref))))
end
end L2
namespace J
open PySem L2
end J
namespace L2
open PySem PySem.Spec PyProof.Rows
structure Cb(P:Program)(w:World)(outer:List Env)(H H':Hp)(s:Shared)(ea:Addr)(cls:Value)(B:Heap)(s':Shared):Prop where
 os:s'.os=s.os
 bare:AllBare s'.gens
 un:Un (fX outer) [] H H' s.heap s'.heap
 hok:gz P w H' s'.heap
 tr:∀b o,H' b≠none->s'.heap.get? b=some o->B.get? b=some o
 kp:∀b o,s.heap.get? b=some o->H b=none->b ∉ fX outer->B.get? b=some o
 th:∀b o,s.heap.get? b=some o->b ∉ fX outer->∃o',B.get? b=some o'
 fl:∃a0,Heap.FlyingW B outer ea cls a0 s'.heap
def vt(P:Program)(w:World):zd:=λouter H s E e s'=>∃ea cls B H',e=.ref ea/\Cb P w outer H H' s ea cls B s'/\E cls none H'
section
variable {P:Program}{w:World}{outer:List Env}{H H':Hp}{s s':Shared}{ea:Addr}{cls:Value}{B:Heap}
theorem Cb.on(F:Cb P w outer H H' s ea cls B s'){h':Heap}(st:B.StaysIn h')(up:s'.heap.UpToSlots h')(fr:∀b o,s.heap.get? b=some o->b∈fX outer->H b=none->∀vs,o.data≠.fields vs)(frH:∀b∈fX outer,H b=none):Un (fX outer) [] H H' s.heap h'/\gz P w H' h':=by
 have slot:∀b o,s.heap.get? b=some o->H b=none->b∈fX outer->∃sl,h'.get? b=some { o with slots:=sl }:=λb o e n m=>by
  obtain⟨sl,h1⟩:=F.un.slot b o e n m (by simp);obtain⟨sl2,h2⟩:=up b _ h1 (fr b o e m n);exact⟨sl2,h2⟩
 refine⟨⟨λb o e n m _=>st _ _ (F.kp b o e n m),λb o e n m _=>slot b o e n m,F.un.free,λb o e _=>?_,F.un.tups,F.un.frzs,F.un.tbls⟩,λa o e=>?_⟩
 ·by_cases m:b∈fX outer
  ·obtain⟨sl,h⟩:=slot b o e (frH b m) m
   exact⟨_,h⟩
  ·obtain⟨o',h⟩:=F.th b o e m
   exact⟨o',st _ _ h⟩
 ·refine(F.hok a o e).fB (λb u hb q=>st _ _ (F.tr b u ?_ q)) (λ_ q=>q) λ_ _ q=>q
  rcases hb with rfl|hb
  ·rw[e];exact λz=>by cases z
  ·rw[hb];exact λz=>by cases z
theorem Cb.new(F:Cb P w outer H H' s ea cls B s'):H' ea=none:=by
 cases q:H' ea with
 |none=>rfl
 |some o=>
  obtain⟨a0,_,n,_,T⟩:=F.fl;exfalso;obtain⟨oe,_,_,_,_,he,_⟩:=T;have:=F.tr ea oe (by rw[q];exact λz=>by cases z) he;rw[n]at this;cases this
end
theorem cZ.there{P:Program}{w:World}{H:Hp}{h:Heap}{a:Addr}{o:HO}(x:cZ P w H h a o):∃ob,h.get? a=some ob:=by
 cases o with
 |lst xs=>obtain⟨_,_,_,_,e⟩:=x;exact⟨_,e⟩
 |tup xs=>obtain⟨_,_,_,ob,e,_⟩:=x;exact⟨_,e⟩
 |dK kvs=>obtain⟨_,_,_,_,o,_,_,e,_⟩:=x;exact⟨_,e⟩
 |dT kvs=>obtain⟨_,_,_,_,o,_,_,e,_⟩:=x;exact⟨_,e⟩
 |set S n=>obtain⟨o,_,_,_,e,_⟩:=x;exact⟨_,e⟩
 |ins C dx fs=>obtain⟨_,_,_,e,_⟩:=x;exact⟨_,e⟩
 |own y=>exact x
 |xd fs=>obtain⟨_,⟨_,_,_,e,_⟩,_⟩:=x;exact⟨_,e⟩
 |rng lo hi=>obtain⟨_,_,_,e⟩:=x;exact⟨_,e⟩
 |frz ob u=>exact⟨_,x.1⟩
 |tbl ps=>exact⟨_,(show h.get? a=some _ from x)⟩
 |met f y=>exact⟨_,(show h.get? a=some _ from x)⟩
 |ext φ=>exact x.2.1
theorem uP{P:Program}{w:World}{K:PySem.W.Frag}{mg:Str->Option Value}{base:Heap}{N:List Str}{qual:Str}{scope:Scope}{f:Addr}{cd:Value}{A:Around}{outer:List Env}{s s1:Shared}{H H1:Hp}{E:XK}{pins:List (Addr×Obj)}{σ:St}{ea:Addr}{cls:Value}{args:List Value}{h':Heap}
  (I:Inv (jH (vt P w) P w K mg base N qual scope f cd A outer s H E) pins σ H1 s1)(hx:Heap.MadeExcOf s1.heap h' ea cls args)(hE:E cls none H1):(jH (vt P w) P w K mg base N qual scope f cd A outer s H E).xe (.ref ea) { s1 with heap:=h' }:=by
 have stk:=I.stack;have sfr:=I.iD;have Lt:∀b o,s.heap.get? b=some o->b≠s.heap.objs.size:=λb o e z=>by
  have:=lt_size e;rw[z]at this;exact lt_irrefl _ this
 have inS:∀b o,s.heap.get? b=some o->b ∉ fX outer->b ∉ fX (envOfC qual scope s.heap.objs.size f cd::outer):=λb o e n m=>by
  rcases mem_filterMap.mp m with ⟨env,he,hf⟩
  rcases mem_cons.mp he with rfl|he
  ·exact Lt b o e (Option.some.inj hf).symm
  ·exact n (mem_filterMap.mpr ⟨env,he,hf⟩)
 have upS:∀b,b∈fX outer->b∈fX (envOfC qual scope s.heap.objs.size f cd::outer):=λb m=>by
  obtain⟨env,he,hf⟩:=mem_filterMap.mp m;exact mem_filterMap.mpr ⟨env,.tail _ he,hf⟩
 refine wpAny_leaves_madeW (s:={ s1 with heap:=h' }) (base:=hideAll s1.heap (fX (envOfC qual scope s.heap.objs.size f cd::outer))) (h:=s1.heap) I.ok.frames rfl (λb o e=>of_hideAll _ e) (PySem.W.funFrames_hide stk λenv he a hf=>mem_filterMap.mpr ⟨env,he,hf⟩) hx λh2 t x1 x2 x3 x4=>?_;have hid:∀b o,s1.heap.get? b=some o->b ∉ fX (envOfC qual scope s.heap.objs.size f cd::outer)->(hideAll s1.heap (fX (envOfC qual scope s.heap.objs.size f cd::outer))).get? b=some o:=λb o e n=>hideAll_get _ e n;generalize hideAll s1.heap (fX (envOfC qual scope s.heap.objs.size f cd::outer))=B at x1 x3 hid;have st:B.StaysIn h2:=x1.1;have b0:Un (fX outer) [] H H1 s.heap s1.heap:=I.base;have slot:∀b o,s.heap.get? b=some o->H b=none->b∈fX outer->∃sl,h2.get? b=some { o with slots:=sl }:=λb o e n m=>by
  obtain⟨sl,h1⟩:=b0.slot b o e n m (by simp);obtain⟨_,of,hof,hd⟩:=stk.mem (upS b m);rw[h1]at hof;cases hof;obtain⟨sl2,h3⟩:=x4 b _ (hx.keeps _ _ h1) hd;exact⟨sl2,h3⟩
 have kp:∀b o,s.heap.get? b=some o->H b=none->b ∉ fX outer->B.get? b=some o:=λb o e n m=>hid b o (b0.keep b o e n m (by simp)) (inS b o e m);have th:∀b o,s.heap.get? b=some o->b ∉ fX outer->∃o',B.get? b=some o':=λb o e m=>by
  obtain⟨o',h1⟩:=b0.there b o e (by simp);exact⟨o',hid b o' h1 (inS b o e m)⟩
 have trB:∀b o,H1 b≠none->s1.heap.get? b=some o->B.get? b=some o:=λb o n e=>hid b o e λm=>n (sfr b m);have exi:∀b,H1 b≠none->∃o,s1.heap.get? b=some o:=λb n=>by
  cases q:H1 b with
  |none=>exact absurd q n
  |some u=>exact(I.hok b u q).there
 have frz:∀b,b∈fX outer->∀o,s.heap.get? b=some o->H b=none:=λb m o e=>I.ok.frf b m;refine⟨ea,cls,B,H1,rfl,⟨I.os,I.bare,⟨λb o e n m _=>st _ _ (kp b o e n m),λb o e n m _=>slot b o e n m,b0.free,λb o e _=>?_,b0.tups,b0.frzs,b0.tbls⟩,λa o e=>?_,λb o n e=>?_,kp,th,⟨_,x1⟩⟩,hE⟩
 ·by_cases m:b∈fX outer
  ·obtain⟨sl,h⟩:=slot b o e (frz b m o e) m
   exact⟨_,h⟩
  ·obtain⟨o',h⟩:=th b o e m
   exact⟨o',st _ _ h⟩
 ·refine(I.hok a o e).fB (λb u hb q=>st _ _ (trB b u ?_ q)) (λ_ q=>q) λ_ _ q=>q
  rcases hb with rfl|hb
  ·rw[e];exact λz=>by cases z
  ·rw[hb];exact λz=>by cases z
 ·obtain⟨o1,h1⟩:=exi b n
  have h2':=st _ _ (trB b o1 n h1);have e':h2.get? b=some o:=e;rw[h2']at e';cases e';exact trB b _ n h1
def qN:List Str:=["__init__", "__getattribute__", "__getattr__", "__class__"]
def qh:List Value:=[.type "ValueError",.type "Exception",.type "BaseException",.type "object"]
structure iA(K:PySem.W.Frag)(C:Addr)(bm:List Value):Prop where
 ex:∃(nm q:Str) (N:Addr) (bs:List Value) (hdct:Bool) (sn:List Str) (sub:List Value) (ab:Bool) (col:Option Bool) (dd:Option Addr) (k0 k1 k2 k3 k5:Option Value),
  K.lookup C=some (excClassObj nm q C N bs bm hdct sn sub ab col dd k0 k1 k2 k3 k5 "ValueError.__new__")/\nsOkIn K N=true/\(∀n∈qN,nsIn K N n=some none)/\tailIn K qh bm=true
theorem CI{K:PySem.W.Frag}{h h':Heap}{N:Addr}{m:Str->Option Value}(X:K.In h)(X':K.In h')(ok:nsOkIn K N=true)(n:h.Ns N m):h'.Ns N m:=by
 unfold nsOkIn at ok;split at ok
 ·rename_i ho
  obtain⟨o,es,ep,e,r⟩:=n;have:=X _ _ ho;rw[e]at this;cases this;exact⟨_,es,ep,X' _ _ ho,r⟩
 ·cases ok
section
variable {X:Cx}
theorem zE{x:Str}{C:Addr}{bm:List Value}{e₀:Expr}{rest:List Expr}{t:TA}{np cpos pos:Pos}(hx:PE X (.Name x np) (tC (.ref C)))(O:iA X.K C bm)(hc:X.calm=true)(ha:PA X (e₀::rest) t)(E':Hp->Prop)
  (xe:∀pins σ H s,Inv X pins σ H s->E' H->∀h' ea args,Heap.MadeExcOf s.heap h' ea (.ref C) args->X.xe (.ref ea) { s with heap:=h' })
  (he:starEach (e₀::rest) X.env=(false,eval e₀ X.env)::starEach rest X.env:=by rfl)(hplain:(backTo cpos (starEach rest X.env)).any (·.1)=false:=by rfl):
  PS X (.Raise (some (.Call (.Name x np) (e₀::rest) [] cpos)) none pos) (λ_ σ H=>t σ H λvs H1=>vs.length<=sizeLine/\E' H1):=by
 intro pins s σ H D I h;obtain⟨nm,q,N,bs,hdct,sn,sub,ab,col,dd,k0,k1,k2,k3,k5,lk,hok,hni,ht⟩:=O.ex;have T:=tail_of_in I.ip ht;have ns0:s.heap.Ns N (s.heap.nsMap N):=.of_isNs (isNs_of_in I.ip hok);refine wpAny_Raise_call_subT (C:=C) (nm:=nm) (q:=q) (N:=N) (bs:=bs) (bm:=bm) (hdct:=hdct) (sn:=sn) (sub:=sub) (ab:=ab) (col:=col) (dd:=dd) (k0:=k0) (k1:=k1) (k2:=k2) (k3:=k3) (k5:=k5)
  excBase_ValueError (mN:=s.heap.nsMap N) (T.hasType excBase_ValueError.hasBase) (I.ok.hd hc) (by rw[he];show(false || (backTo cpos (starEach rest X.env)).any (·.1))=false;rw[hplain];rfl) (nsMap_none_of_in I.ip hok (hni _ (.head _)))
  (cY (hx pins s σ H (λv H1=>v=.ref C/\H1=H) I ⟨rfl,rfl⟩) λu s1 ⟨v,H1,I1,r,hv,hH⟩=>?_)
 subst hv hH;cases r;refine⟨rfl,?_⟩;have h2:=ha cpos pins s1 σ H1 _ I1 h;rw[he]at h2 ⊢;exact Calls.evalArgs_plain (wpAny_mono h2 (λus s2 ⟨vs,H2,I2,r2,l2,e2⟩=>⟨rfl,by rw[<-r2.length];exact l2,I2.ip _ _ lk,CI I.ip I2.ip hok ns0,tail_of_in I2.ip ht,λh' ea hm=>xe pins σ H2 s2 I2 e2 h' ea _ hm⟩) λ_ _ y=>y)
end
theorem yR{X:Cx}{pins:List (Addr×Obj)}{σ:List (Option V)}{H:Hp}{s:Shared}{M:Model}{A:Around}{E:Value->Shared->Prop}{i:Nat}{x:Str}{v:V}{Q:Unit->Shared->Prop}(I:Inv X pins σ H s)(hN:X.N.Nodup)(hi:X.N[i]? =some x)(hk:X.env.kindOf x=some .local)(hv:σ[i]? =some (some v))
  (h:∀s',Inv X pins (σ.set i none) H s'->Q () s'):wpAny M A (unbindName X.env x) Q E s:=by
 obtain⟨m,hn,hl⟩:=id I.loc;have hcls:(X.env.scope.kind == .class || (X.env.scope.kind == .module && X.env.locals != X.env.globals))=false:=by rw[I.ok.kind];rfl
 have hiσ:i < σ.length:=by rw[I.len];exact(List.getElem?_eq_some_iff.mp hi).1
 have Bo:=I.Bo;have tracked:∀{a:Addr}{h':Heap},(∃o,s.heap.get? a=some o/\H a=none)->Heap.SameBut a s.heap h'->gz X.prog X.w H h':=λ{a h'} ha hs b ob e=>by
  obtain⟨_,_,hfree⟩:=ha;refine(I.hok b ob e).fB (λc w' hc q=>(hs.2 c ?_).trans q) (λ_ q=>q) λ_ _ q=>q;rintro rfl;rcases hc with rfl|hc
  ·rw[hfree]at e;cases e
  ·rw[hfree]at hc;cases hc
 obtain⟨u,r,q⟩:=hl i x v hi hv (.inl hk);obtain⟨mv,hmv⟩:∃mv,m x=some mv:=by
  rcases q with ⟨_,e⟩|⟨k,_⟩
  ·exact⟨_,e⟩
  ·rw[hk]at k
   rcases k with k|k<;>cases k
 refine wpAny_unbindName_local hk hn hmv hcls λh' u' hn' hs=>?_;obtain⟨oL,_,_,hoL,_⟩:=id hn;refine h _ ⟨I.ok,I.os,I.bare,⟨λb o e n hb hx=>?_,λb o e n hb hx=>?_,I.base.free,λb o e hx=>?_,I.base.tups,I.base.frzs,I.base.tbls⟩,⟨_,hn',λj y v' e1 e2 e3=>?_⟩,λy c e=>?_,I.free,I.freeC,λp hp=>?_,tracked ⟨oL,hoL,I.free⟩ hs,by simpa using I.len⟩
 ·exact(hs.2 b (ne_of_lt (lt_of_lt_of_le (lt_size e) I.ok.above))).trans (I.base.keep b o e n hb hx)
 ·obtain⟨sl,e1⟩:=I.base.slot b o e n hb hx
  exact⟨sl,(hs.2 b (ne_of_lt (lt_of_lt_of_le (lt_size e) I.ok.above))).trans e1⟩
 ·obtain⟨o',e1⟩:=I.base.there b o e hx
  exact⟨o',(hs.2 b (ne_of_lt (lt_of_lt_of_le (lt_size e) I.ok.above))).trans e1⟩
 ·by_cases hj:j=i
  ·subst hj
   rw[getElem?_set_self hiσ]at e2;cases e2
  ·rw[List.getElem?_set_ne (Ne.symm hj)]at e2
   obtain⟨u',r',q⟩:=hl j y v' e1 e2 e3;refine⟨u',r',?_⟩;rcases q with ⟨k,e⟩|⟨k,c,e,z⟩
   ·refine .inl ⟨k,?_⟩
    have:y≠x:=λe=>hj (oS hN e1 (e ▸ hi));simp[this,e]
   ·exact .inr ⟨k,c,e,z.sameBut hs (Bo y c e)⟩
 ·obtain⟨w',z⟩:=I.cell y c e
  exact⟨w',z.sameBut hs (Bo y c e)⟩
 ·obtain⟨e,n,ne,nf,d⟩:=I.pin p hp
  exact⟨(hs.2 p.1 ne).trans e,n,ne,nf,d⟩
theorem yU{M:Model}{A:Around}{E:Value->Shared->Prop}{h:Heap}{g:Array GenState}{d:Drawn}{t:Nat}{os:OsState}{e C D:Addr}{oe:Obj}{Q:Bool->Shared->Prop}
  {nm q:Str}{N:Addr}{bs bm:List Value}{hdct:Bool}{sn:List Str}{sub:List Value}{ab:Bool}{col:Option Bool}{dd:Option Addr}{k0 k1 k2 k3 k5:Option Value}{newId:String}
  {nm' q':Str}{N':Addr}{bs' bm':List Value}{hdct':Bool}{sn':List Str}{sub':List Value}{ab':Bool}{col':Option Bool}{dd':Option Addr}{k0' k1' k2' k3' k5':Option Value}{newId':String}
  (hC:h.get? C=some (excClassObj nm q C N bs bm hdct sn sub ab col dd k0 k1 k2 k3 k5 newId)) (hD:h.get? D=some (excClassObj nm' q' D N' bs' bm' hdct' sn' sub' ab' col' dd' k0' k1' k2' k3' k5' newId')) (he:h.get? e=some oe) (hcls:oe.cls=.ref C)
  (hbase:(Value.ref D::bm').contains (.type "BaseException")=true) (hsub:(Value.ref C::bm).contains (.ref D)=true) (hq:Q true ⟨h,g,d,t,os⟩):wpAny M A (excMatches (.ref e) (.ref D)) Q E ⟨h,g,d,t,os⟩:=by
 have f:=tc_notTuple;unfold excMatches
 repeat (first| (with_reducible refine wpAny_loadPart_at he ?_;rw[hcls])|with_reducible refine wpAny_loadPart_at hD ?_|with_reducible refine wpAny_loadPart_at hC ?_| (with_reducible refine wpAny_isSubtype_exc hD ?_;rw[hbase])| (with_reducible refine wpAny_isSubtype_exc hC ?_;rw[hsub])|wp_step)
 exact hq
theorem PS.iT{X:Cx}{st:Stmt}{t:TS}(h:PS X.iT st t):PS X st t:=λpins s σ H D I hw=>
 wpAny_mono (h pins s σ H D (I.jm _) hw) (λ_ _ q=>q.dZ) λ_ _ z=>False.elim z
theorem PA.iT{X:Cx}{es:List Expr}{t:TA}(h:PA X.iT es t):PA X es t:=λpos pins s σ H Q I hw=>
 wpAny_mono (h pos pins s σ H Q (I.jm _) hw) (λ_ _ ⟨v,H',I',r,q⟩=>⟨v,H',I'.dZ,r,q⟩) λ_ _ z=>False.elim z
structure wH(P:Program)(w:World)(K:PySem.W.Frag)(mg:Str->Option Value)(base:Heap)(k:Nat)(x:Str)(sp:Sp):Prop where
 ex:∃(f:Addr) (fd:FuncData) (ps:List Str),dO P w K mg base (vt P w) k f fd ps sp/\mg x=some (.ref f)/\keepIn K (.ref f)=true/\Binds K fd ps []
def Ds(ea C:Addr):Heap->Prop:=λh=>∃ob,h.get? ea=some ob/\ob.cls=.ref C
inductive XP(X:Cx)(pins:List (Addr×Obj))(σ:St)(E:XK)(e:Value)(s':Shared):Prop
 |mk(H H':Hp)(s:Shared)(ea:Addr)(cls:Value)(B:Heap)(I:Inv X pins σ H s)(he:e=.ref ea)(F:Cb X.prog X.w X.stack H H' s ea cls B s')(q:E cls none H')
def Gy(X:Cx)(st:List Stmt)(t:XK->TS):Prop:=∀(pins:List (Addr×Obj)) (s:Shared) (σ:St) (H:Hp) (D:Ends) (E:XK),Inv X pins σ H s->t E D σ H->wpAny (model X.prog X.w) X.A (execs st X.env) (SP X pins D) (XP X pins σ E) s
section
variable {X:Cx}
theorem uB{st:Stmt}{Q:Flow->Shared->Prop}{M:Model}{A:Around}{E:Value->Shared->Prop}{s:Shared}{env:Env}(h:wpAny M A (exec st env) Q E s):wpAny M A (execs [st] env) Q E s:=by
 refine wpAny_execs_cons (cY h λf s1 q=>?_);cases f with
 |next=>exact wpAny_execs_nil q
 |ret v=>exact q
 |brk=>exact q
 |cont=>exact q
theorem AY{k:Nat}{f:Addr}{fd:FuncData}{ps:List Str}{sp:Sp}{x:Str}{e:Expr}{es:List Expr}{t:TA}{p pos epos:Pos}(F:dO X.prog X.w X.K X.mg X.base (vt X.prog X.w) k f fd ps sp)(hr:dr k X.A)(hg:Gl X x)(hm:X.mg x=some (.ref f))(hk:keepIn X.K (.ref f)=true)(hb:Binds X.K fd ps [])
  (ha:PA X.iT (e::es) t) (hdb:(x == ("__debug__" :Str))=false:=by decide) (he:starEach (e::es) X.env=(false,eval e X.env)::starEach es X.env:=by rfl) (hpl:(backTo pos (starEach es X.env)).any (·.1)=false:=by rfl):
  Gy X [.Expr (.Call (.Name x p) (e::es) [] pos) epos] (λE=>sL (kj sp [] E t)):=by
 intro pins s σ H D E I h;refine uB (wpAny_Expr_any (cY (Q:=EP X pins σ λ_ H1=>D.nx σ H1) ?_ λv s1 ⟨x,H1,I1,r1,q1⟩=>⟨σ,H1,I1,q1⟩) I.quiet (jc rfl));refine wpAny_Call_Name_kw (iz I hg hm ?_ hdb);refine callWith_K (h₀:=X.base) I.ok.mod.kin hk (wpAny_mono (ha pos pins s σ H _ (I.jm _) h) (λus s1 ⟨vs,H1,I1,r,q⟩=>⟨I1.ip,?_⟩) λ_ _ z=>False.elim z) he hpl;have r2:Vals (vs++[]) (us++[]):=r.append .nil;have hl:(us++[]).length=ps.length:=by rw[<-r2.length];exact F.len _ _ _ _ q
 have I1':=I1.dZ;refine wpAny_call (codeAny_mono (F.run X.A X.stack s1 H1 ⟨us,[]⟩ (us++[]) (vs++[]) _ E hr I1'.Aa (hb s1 us I1'.ip hl) r2 q) λr s' hq=>?_);cases r with
 |error e=>
  obtain⟨ea,cls,B,H',rfl,fl,hE⟩:=hq;exact⟨H1,H',s1,ea,cls,B,I1',rfl,fl,hE⟩
 |ok fl=>
  cases fl with
  |ret u=>exact I1'.after hq
  |next=>exact False.elim hq
  |brk=>exact False.elim hq
  |cont=>exact False.elim hq
theorem FE{c:Expr}{a b:List Stmt}{tc:TT}{t u:XK->TS}{pos:Pos}(hc:PT X.iT c tc)(ha:Gy X a t)(hb:Gy X b u):Gy X [.If c a b pos] (λE=>rY tc (t E) (u E)):=by
 intro pins s σ H D E I h;refine uB (wpAny_If (wpAny_mono (hc pins s σ H _ (I.jm _) h) (λd s1 ⟨H1,I1,q1⟩=>?_) λ_ _ z=>False.elim z));cases d with
 |true=>exact ha pins s1 σ H1 D E I1.dZ q1
 |false=>exact hb pins s1 σ H1 D E I1.dZ q1
abbrev Cx.mk'(X:Cx)(e:Value):Cx:={ X with A:=X.A.mark (some e),calm:=false,xe:=λ_ _=>False }
theorem Inv.mark{pins:List (Addr×Obj)}{σ:St}{H:Hp}{s:Shared}(I:Inv X pins σ H s)(e:Value):Inv (X.mk' e) pins σ H s:=
 ⟨⟨I.ok.mod,I.ok.kind,I.ok.glob,I.ok.blt,I.ok.above,I.ok.inj,I.ok.has,I.ok.cab,(λz=>nomatch z),I.ok.frames,I.ok.stk,I.ok.exf,I.ok.bs,I.ok.bsz,I.ok.noex,I.ok.exfs,I.ok.kZ,I.ok.frf⟩,I.os,I.bare,I.base,I.loc,I.cell,I.free,I.freeC,I.pin,I.hok,I.len⟩
theorem Inv.unmark{pins:List (Addr×Obj)}{σ:St}{H:Hp}{s:Shared}{e:Value}(I:Inv (X.mk' e) pins σ H s)(ok:X.Ok):Inv X pins σ H s:=⟨ok,I.os,I.bare,I.base,I.loc,I.cell,I.free,I.freeC,I.pin,I.hok,I.len⟩
end
section
variable {X:Cx}
theorem Cb.zG{pins:List (Addr×Obj)}{σ:St}{H H':Hp}{s s':Shared}{ea C:Addr}{B:Heap}(I:Inv X pins σ H s)(F:Cb X.prog X.w X.stack H H' s ea (.ref C) B s'){h':Heap}{a0:Value}(fl:Heap.FlyingW B X.stack ea (.ref C) a0 h')(up:s'.heap.UpToSlots h'):
  Inv X pins σ H' { s' with heap:=h' }/\Inv X pins σ (upd H' ea (.ext (Ds ea C))) { s' with heap:=h' }:=by
 obtain⟨un,hok⟩:=F.on fl.1 up (λb o e m n=>by
  obtain⟨_,o',ho,hd⟩:=I.stack.mem m;rw[e]at ho;cases ho;exact hd) I.iD
 have nw:=F.new;have nb:s.heap.get? ea=none:=by
  cases q:s.heap.get? ea with
  |none=>rfl
  |some o=>
   exfalso
   by_cases m:ea∈fX X.stack
   ·obtain⟨_,o',ho,hd⟩:=I.stack.mem m
    rw[q]at ho;cases ho;obtain⟨sl,h1⟩:=un.slot ea o q (I.iD ea m) m (by simp);obtain⟨oe,ws,_,_,_,he,_,hd',_⟩:=fl.2.2.2;rw[h1]at he;cases he;exact hd _ hd'
   ·obtain⟨o',h1⟩:=F.th ea o q m
    rw[fl.2.1]at h1;cases h1
 obtain⟨ob,hob,hc⟩:=fl.there;refine⟨I.qr (ch:=[]) F.os un hok F.bare (λb z=>by cases z),I.qr (ch:=[]) F.os ⟨un.keep,un.slot,λb o q n hx=>?_,un.there,λb xs q=>?_,λb o u q=>?_,λb ps q=>?_⟩ (gz.xj hok nw ⟨⟨ob,hob,hc⟩,⟨ob,hob⟩,λh1 h2 ⟨o,ho,hc⟩ k=>⟨o,k o ho,hc⟩⟩) F.bare (λb z=>by cases z)⟩
 ·rw[cD (λz=>by rw[z,nb]at q;cases q)]
  exact un.free b o q n hx
 ·have:=un.tups b xs q
  rw[cD (cA this nw)];exact this
 ·have:=un.frzs b o u q
  rw[cD (cA this nw)];exact this
 ·obtain⟨m,this⟩:=un.tbls b ps q
  exact⟨m,by rw[cD (cA this nw)];exact this⟩
end
section
variable {X:Cx}
inductive GK(X:Cx)(Ck:Addr)(i j:Nat)(D:Ends)(σ:St)(cls:Value)(H':Hp):Prop
 |mk(C:Addr)(bm:List Value)(e:cls=.ref C)(O:iA X.K C bm)(sub:(Value.ref C::bm).contains (.ref Ck)=true)(q:∀ea,H' ea=none->D.nx (((σ.set i (some (.ref ea))).set j (some (.ref ea))).set i none) (upd H' ea (.ext (Ds ea C))))
theorem Gm{body:List Stmt}{tb:XK->TS}{xk n er:Str}{Ck:Addr}{bk:List Value}{i j:Nat}{kp ep np apos hpos pos:Pos}(hb:Gy X body tb)(stk:X.stack=X.env::X.outer/\X.env.frame=some X.env.locals)(hg:Gl X xk)(hm:X.mg xk=some (.ref Ck))(O:iA X.K Ck bk)(nd:X.N.Nodup)
  (Sn:Slot X i n) (Sr:Slot X j er) (ij:i≠j) (hl:X.env.scope.names.lookup n=some .local) (hdb:(xk == ("__debug__" :Str))=false):
  PS X (.Try body [.ExceptHandler (some (.Name xk kp)) (some n) [.Assign [.Name er ep] (.Name n np) apos] hpos] [] [] pos) (λD σ H=>tb (λcls _ H'=>GK X Ck i j D σ cls H') D σ H):=by
 intro pins s σ H D I h;refine wpAny_Try_except (wpAny_mono (hb pins s σ H D _ I h) (λf s1 q=>?_) λe s1 q=>?_)
 ·cases f with
  |next=>exact wpAny_execs_nil q
  |ret v=>exact q
  |brk=>exact q
  |cont=>exact q
 obtain⟨H1,H',s0,ea,cls,B,I0,rfl,F,C,bm,rfl,OC,sub,q⟩:=q;obtain⟨a0,hfl⟩:=F.fl;rw[stk.1]at hfl;refine wpAny_looks_onW (I0.ok.frames.trans (congrArg some stk.1)) stk.2 hfl λh4 held4 up4=>?_;refine wpAny_landsW held4 λh5 fl5 up5=>?_;have up45:=up4.trans up5;rw[<-stk.1]at fl5;obtain⟨I5,_⟩:=F.zG I0 fl5 up45;obtain⟨nmC,qC,NC,bsC,hdC,snC,subC,abC,colC,ddC,c0,c1,c2,c3,c5,lkC,_⟩:=OC.ex;obtain⟨nmK,qK,NK,bsK,hdK,snK,subK,abK,colK,ddK,d0,d1,d2,d3,d5,lkK,_,_,htK⟩:=O.ex;obtain⟨oe,hoe,hoc⟩:=fl5.there;have hbK:(Value.ref Ck::bk).contains (.type "BaseException")=true:=by
  have:=(tail_of_in I5.ip htK).hasType excBase_ValueError.hasBase;rw[List.contains_cons,this,Bool.or_true]
 refine wpAny_handleBy_cons (codeAny_handlers_test (iz (I5.mark (.ref ea)) hg hm ?_ hdb)) (by intro q;cases q);refine yU (I5.ip _ _ lkC) (I5.ip _ _ lkK) hoe hoc hbK sub (codeAny_handlers_suite_as ?_);refine lands_againW (s:={ s1 with heap:=h5 }) fl5 λh6 fl6 up6=>?_;obtain⟨_,I6⟩:=F.zG I0 fl6 (up45.trans up6);have nw:=F.new;refine kG (X:=X.mk' (.ref ea)) (I6.mark (.ref ea)) nd Sn.hN Sn.lc (v:=.ref ea) rfl (λs7 I7=>?_) Sn.fn;have il:i < σ.length:=by rw[I0.len];exact(List.getElem?_eq_some_iff.mp Sn.hN).1
 have as:=jC (Slot.set (X:=X.mk' (.ref ea)) (pos':=ep) (pos:=apos) ⟨Sr.hN,Sr.lc,Sr.fn,Sr.db,Sr.cd⟩ nd (Slot.rd (X:=X.mk' (.ref ea)) (p:=np) ⟨Sn.hN,Sn.lc,Sn.fn,Sn.db,Sn.cd⟩)) pins s7 _ _ { nx:=λσ' H2=>σ'=(σ.set i (some (.ref ea))).set j (some (.ref ea))/\H2=upd H' ea (.ext (Ds ea C)),rt:=λ_ _=>False } I7 ⟨.ref ea,getElem?_set_self il,rfl,rfl⟩;refine wpAny_mono as (λf s8 h8=>?_) λ_ _ z=>False.elim z;cases f with
 |next=>
  obtain⟨σ',H2,I8,rfl,rfl⟩:=h8;have I8':=I8.unmark I0.ok;refine wpAny_bind (wpAny_bindName (kG I8' nd Sn.hN Sn.lc (v:=.non) rfl (λs9 I9=>?_) Sn.fn));refine wpAny_onRaise (yR I9 nd Sn.hN hl (v:=.non) (by rw[getElem?_set_self (by rw[length_set,length_set];exact il)]) λs10 I10=>?_);refine⟨_,_,I10,?_⟩;have qq:=q ea nw;rw[List.set_set];exact qq
 |ret v=>
  obtain⟨_,_,_,_,_,z⟩:=h8;exact z.elim
 |brk=>
  obtain⟨_,_,_,z⟩:=h8;exact z.elim
 |cont=>
  obtain⟨_,_,_,z⟩:=h8;exact z.elim
end
section
variable {prog:Program}{w:World}{A:Around}{E:Value->Shared->Prop}{h:Heap}{g:Array GenState}{d:Drawn}{t:Nat}{os:OsState}{a:Addr}{o:Obj}{vs:Array Value}
structure E6(h:Heap)(C Kc:Addr):Prop where
 ex:∃(nm q:Str) (N:Addr) (bs:List Value) (hdct:Bool) (sn:List Str) (sub:List Value) (ab:Bool) (col:Option Bool) (dd:Option Addr) (k0 k1 k2 k3 k5:Option Value) (newId:String) (mN:Str->Option Value),
  h.get? C=some (excClassObj nm q C N bs (.ref Kc::qh) hdct sn sub ab col dd k0 k1 k2 k3 k5 newId)/\h.Ns N mN/\∀n∈qN,mN n=none
 ek:∃(nm q:Str) (N:Addr) (bs:List Value) (hdct:Bool) (sn:List Str) (sub:List Value) (ab:Bool) (col:Option Bool) (dd:Option Addr) (k0 k1 k2 k3 k5:Option Value) (newId:String) (mN:Str->Option Value),
  h.get? Kc=some (excClassObj nm q Kc N bs qh hdct sn sub ab col dd k0 k1 k2 k3 k5 newId)/\h.Ns N mN/\∀n∈qN,mN n=none
theorem jQ {M:Model}{C Kc:Addr}{n:Str}{y:Option Value}{Q:Option Value->Shared->Prop}(T:E6 h C Kc) (hn:n∈qN) (hB:typeLookup (.type "ValueError") n=pure y) (hq:Q y ⟨h,g,d,t,os⟩):wpAny M A (typeLookup (.ref C) n) Q E ⟨h,g,d,t,os⟩:=by
 obtain⟨nm,q,N,bs,hdct,sn,sub,ab,col,dd,k0,k1,k2,k3,k5,newId,mN,hC,hN,hz⟩:=T.ex;obtain⟨nm',q',N',bs',hdct',sn',sub',ab',col',dd',k0',k1',k2',k3',k5',newId',mN',hC',hN',hz'⟩:=T.ek;have hrest:lookupAlong qh n=pure y:=by
  have hB':=hB;rw[typeLookup_eq,excBase_ValueError.mroIs]at hB';exact hB'
 rw[typeLookup_eq];refine wpAny_bind (wpAny_mroOf_exc hC ?_);rw[lookupAlong_cons];refine wpAny_bind (wpAny_classOwn_exc hC hN ?_);rw[hz n hn];dsimp only;rw[lookupAlong_cons];refine wpAny_bind (wpAny_classOwn_exc hC' hN' ?_);rw[hz' n hn];dsimp only;rw[hrest];exact wpAny_pure hq
end
section
open PySem.F
variable {prog:Program}{w:World}{A:Around}{E:Value->Shared->Prop}{h:Heap}{g:Array GenState}{d:Drawn}{t:Nat}{os:OsState}{a C Kc:Addr}{o:Obj}
theorem uw:typeLookup (.type "ValueError") "__class__" =pure (some (.builtin "object.__class__")):=by rw[typeLookup_type,builtinLookup_eq_fast];kernel_rfl
theorem Gj{R:Result->Shared->Prop}(T:E6 h C Kc)(hx:h.get? a=some o)(hc:o.cls=.ref C)(hq:R (.ok (.ret (.ref C))) ⟨h,g,d,t,os⟩):
  codeAny (model prog w) A (.call (.builtin "getset_descriptor.__get__") ⟨[.builtin "object.__class__",.ref a,.ref C],[]⟩) R ⟨h,g,d,t,os⟩:=by
 obtain⟨nm,q,N,bs,hdct,sn,sub,ab,col,dd,k0,k1,k2,k3,k5,newId,mN,hC,hN,hz⟩:=T.ex;have hT5:(⟨h,g,d,t,os⟩:Shared).TypeIs (.builtin "object.__class__") "getset_descriptor" :=typeOf_object_class;have hcB:(Value.ref C::Value.ref Kc::qh).contains (.type (".".intercalate ("object.__class__".cutAt '.').dropLast))=true:=by
  rw[owner_object_class];unfold qh;simp
 refine codeAny_call_builtin slot_gs_get.plain entry_gs_get (slot_gs_get.check _ _ _ _ _ _ _ _ hT5 (args_gs_get _ _ _) ?_)
 repeat (any_goals (first|assumption| (with_reducible refine wpAny_loadPart_at hx ?_;rw[hc])| (with_reducible refine wpAny_isSubtype_exc hC ?_;rw[hcB])|wp_step))
 refine⟨Code.quiet_builtin _ (by decide+kernel),codeAny_builtin entry_object_class ?_⟩;unfold Builtin.«object.__class__»
 repeat (any_goals (first|assumption| (with_reducible refine wpAny_loadPart_at hx ?_;rw[hc])|wp_step))
theorem zu{tk:Tok}{Q:Fin->Shared->Prop}(T:E6 h C Kc)(hx:h.get? a=some o)(hc:o.cls=.ref C)(hq:Q (.done (.ret (.ref C))) ⟨h,g,d,t,os⟩):
  wpAny (model prog w) A (Builtin.«object.__getattribute__» ⟨[.ref a,.str "__class__" tk],[]⟩) Q E ⟨h,g,d,t,os⟩:=by
 have hT5:(⟨h,g,d,t,os⟩:Shared).TypeIs (.builtin "object.__class__") "getset_descriptor" :=typeOf_object_class;have f5:=typeOf_object_class;have f6:=slot_gs_get.lookup;have f7:=slot_gs_set.lookup;have hmA:("__class__" :Str)∈qN:=.tail _ (.tail _ (.tail _ (.head _)))
 repeat (any_goals (first|assumption| (with_reducible refine wpAny_loadPart_at hx ?_;rw[hc])|with_reducible refine jQ T hmA uw ?_|wp_step))
 refine Gj T hx hc ?_
 repeat (any_goals (first|assumption|wp_step))
theorem zZ{M:Model}{n5:Value}{Q:Unit->Shared->Prop}(T:E6 h C Kc)(hx:h.get? a=some o)(hc:o.cls=.ref C)(hq:Q () ⟨h,g,d,t,os⟩):wpAny M A (checkBuiltinCall "BaseException.__getattribute__" ⟨[.ref a,n5],[]⟩) Q E ⟨h,g,d,t,os⟩:=by
 obtain⟨nm,q,N,bs,hdct,sn,sub,ab,col,dd,k0,k1,k2,k3,k5,newId,mN,hC,hN,hz⟩:=T.ex;have hk:builtinKind "BaseException.__getattribute__" =some .slot:=by decide+kernel
 have hsplit:splitId "BaseException.__getattribute__" =some ("BaseException", "__getattribute__"):=by decide+kernel
 have hcB:(Value.ref C::Value.ref Kc::qh).contains (.type "BaseException")=true:=by
  unfold qh;simp
 have ha:=args_bexc_ga (.ref a) n5;simp only[checkBuiltinCall,hk,hsplit];refine wpAny_bind ?_
 ·unfold isInstance
  repeat (first| (with_reducible refine wpAny_loadPart_at hx ?_;rw[hc])| (with_reducible refine wpAny_isSubtype_exc hC ?_;rw[hcB])|wp_step)
  exact hq
theorem HQ{tk:Tok}{Q:Value->Shared->Prop}(T:E6 h C Kc)(hx:h.get? a=some o)(hc:o.cls=.ref C)(hq:Q (.ref C) ⟨h,g,d,t,os⟩):
  wpAny (model prog w) A (getAttrBy (.ref a) (.str "__class__" tk) false) Q E ⟨h,g,d,t,os⟩:=by
 have f3:=attrBase_ValueError.ga.bind (.ref a);have hx2:(Value.builtin "BaseException.__getattribute__" == Value.builtin "object.__getattribute__")=false:=by decide+kernel
 have hx1:(onTheHeap (Value.ref C) && Value.builtin "BaseException.__getattribute__" == Value.builtin "object.__getattribute__")=false:=by rw[hx2];rfl
 have hm1:("__getattribute__" :Str)∈qN:=.tail _ (.head _);have hm2:("__getattr__" :Str)∈qN:=.tail _ (.tail _ (.head _))
 repeat (any_goals (first|assumption| (with_reducible refine wpAny_loadPart_at hx ?_;rw[hc])|with_reducible refine jQ T hm1 attrBase_ValueError.ga.lookup ?_|with_reducible refine jQ T hm2 attrBase_ValueError.noGetattr ?_|wp_step))
 refine codeAny_call_builtin attrBase_ValueError.ga.plain entry_bexc_ga (zZ T hx hc (zu T hx hc ?_))
 repeat (any_goals (first|assumption|wp_step))
theorem Dc{Q:Option Value->Shared->Prop}(T:E6 h C Kc)(hx:h.get? a=some o)(hc:o.cls=.ref C)(hq:Q (some (.ref C)) ⟨h,g,d,t+1,os⟩):wpAny (model prog w) A (getAttr? (.ref a) "__class__") Q E ⟨h,g,d,t,os⟩:=by
 unfold getAttr? getAttrBy?
 repeat (any_goals (first|assumption|with_reducible apply HQ T hx hc|wp_step))
end
theorem uT{K:PySem.W.Frag}{h:Heap}{C Kc:Addr}(X:K.In h)(OC:iA K C (.ref Kc::qh))(OK:iA K Kc qh):E6 h C Kc:=by
 obtain⟨nm,q,N,bs,hdct,sn,sub,ab,col,dd,k0,k1,k2,k3,k5,lk,hok,hni,ht⟩:=OC.ex;obtain⟨nm',q',N',bs',hdct',sn',sub',ab',col',dd',k0',k1',k2',k3',k5',lk',hok',hni',ht'⟩:=OK.ex;exact⟨⟨nm,q,N,bs,hdct,sn,sub,ab,col,dd,k0,k1,k2,k3,k5,_,h.nsMap N,X _ _ lk,.of_isNs (isNs_of_in X hok),λn hn=>nsMap_none_of_in X hok (hni n hn)⟩,
  ⟨nm',q',N',bs',hdct',sn',sub',ab',col',dd',k0',k1',k2',k3',k5',_,h.nsMap N',X _ _ lk',.of_isNs (isNs_of_in X hok'),λn hn=>nsMap_none_of_in X hok' (hni' n hn)⟩⟩
theorem uf{K:PySem.W.Frag}{ea C Kc:Addr}(OC:iA K C (.ref Kc::qh))(OK:iA K Kc qh):PySem.W.KitX K (.ref ea) (.ref C) (Ds ea C) where
 ty:=λM h _ ⟨ob,ho,hc⟩=>by
  rw[<-hc];exact(show Looks M h (typeOf (.ref ea)) ob.cls from (Looks.ld ho).andThen .now)
 it:=λM h X _=>by
  obtain⟨nm,q,N,bs,hdct,sn,sub,ab,col,dd,k0,k1,k2,k3,k5,lk,_⟩:=OC.ex;intro A' Q' E' s' k q;unfold isType loadHead;exact wpAny_bind (wpAny_loadPart (k _ _ (X _ _ lk)) (wpAny_pure q))
 ne:=λh tp dd its n sl X htp=>by
  obtain⟨nm,q,N,bs,hdct,sn,sub,ab,col,dd',k0,k1,k2,k3,k5,lk,_⟩:=OC.ex;refine eq_false_iff.mpr λq=>?_;have e:C=tp:=Value.ref.inj (beq_iff_eq.mp q);subst e;have z:=Option.some.inj ((X _ _ lk).symm.trans htp);have z2:=congrArg Obj.data z;cases z2
 ca:=λ{prog w A E Q s} X ⟨ob,ho,hc⟩ k=>by
  obtain⟨hp,g,d,t,os⟩:=s;exact Dc (uT X OC OK) ho hc k
inductive Jf(K:PySem.W.Frag)(xs:List V)(H:Hp)(Q:VK):Prop
 |own (ea C Kc D:Addr)(b:Bool)(e:xs=[.ref ea,.ref D])(h:H ea=some (.ext (Ds ea C)))(OC:iA K C (.ref Kc::qh))(OK:iA K Kc qh)(k:kitOne K (.ref C) (.ref D)=some b)(q:Q (.bl b) H)
 |ty (ea C Kc:Addr)(n:String)(b:Bool)(e:xs=[.ref ea,.ty n])(h:H ea=some (.ext (Ds ea C)))(OC:iA K C (.ref Kc::qh))(OK:iA K Kc qh)(k:kitOne K (.ref C) (.type n)=some b)(q:Q (.bl b) H)
theorem Bv{X:Cx}:eG X (.builtin "isinstance") (λxs H Q=>Jf X.K xs H Q):=by
 intro pins s σ H xs us Q I r h;cases h with
 |own ea C Kc D b e h OC OK k q=>
  subst e;obtain⟨u,c,rfl,rx,rc⟩:=vals2 r;cases rx;cases rc;exact kia_one (uf OC OK) I.ip (I.hok _ _ h).1 k (λz=>nomatch z) λtk=>⟨.bl b,H,I.tok _,rfl,q⟩
 |ty ea C Kc n b e h OC OK k q=>
  subst e;obtain⟨u,c,rfl,rx,rc⟩:=vals2 r;cases rx;obtain rfl:c=Value.type n:=rc;exact kia_one (uf OC OK) I.ip (I.hok _ _ h).1 k (λz=>nomatch z) λtk=>⟨.bl b,H,I.tok _,rfl,q⟩
section
variable {X:Cx}
inductive Gq(K:PySem.W.Frag)(H:Hp)(z y:V):Prop
 |flat (e:z=y)(f:iV z z=some true)
 |rows (h:sf K z y H True)
inductive Kw(K:PySem.W.Frag)(x y:V)(H:Hp)(Q:VK):Prop
 |same (a b:Addr)(zs ws:List V)(hx:x=.ref a)(hy:y=.ref b)(s:cU K H a zs)(t:cU K H b ws)(l:zs.length=ws.length)(e:∀(j:Nat) z y,zs[j]? =some z->ws[j]? =some y->Gq K H z y)(q:Q (.bl false) H)
end
end L2
namespace J
open PySem PySem.Spec PyProof.Rows
open L2 (Cx V Hp St VK TE TT TA TS TG o7 TI TO R2 Sp XK E0 mG dO dr Gl Binds RelV Vals cH cU dQ oj cE Here wH vt iA)
section
variable {P:Program}{w:World}{K:PySem.W.Frag}{mg:Str->Option Value}{base:Heap}{x qual m:Str}{st:Stmt}{f C:Addr}{fd:FuncData}{N ps:List Str}{k:Nat}{sp:Sp}{xr:Str}{bI:List Value}
theorem BC (D:L2.Df K mg x st ps f fd) (S:cE N ps (L2.cB st)) (O:iA K C bI) (hg:mg xr=some (.ref C)) (hgl:(L2.cB st).names.lookup xr=some .globalImplicit) (hdb:(xr == ("__debug__" :Str))=false) (len:∀vs H Q E,sp vs H Q E->vs.length=ps.length)
  (hbody:∀(X Y:Cx)(H:Hp)(vs:List V)(Q:VK)(E:XK),Here X P w K mg base (L2.cB st) N k->(∀{st t},JS X st t->JS Y st t)->(∀{e t},JT X e t->JT Y e t)->
   (∀{e₀:Expr}{t:TA}{np cpos pos:Pos},JA X [e₀] t->L2.notStar e₀=true->JS Y (.Raise (some (.Call (.Name xr np) [e₀] [] cpos)) none pos) (λ_ σ H=>t σ H λvs H1=>vs.length<=sizeLine/\E (.ref C) none H1))->
   sp vs H Q E->∃t,sJ Y (L2.cS st) t/\t { nx:=λ_ H'=>Q .non H',rt:=Q } (L2.start N vs) H):wH P w K mg base (k+1) x sp:=by
 refine⟨f,fd,ps,?_,D.nm,D.fn.kp,D.bi⟩;obtain⟨oc,od,kV,doc,pm,an,cdv,ct,osl,rfl,lk,hcd⟩:=D.fn.ex;refine L2.zM lk hcd S len λA outer s H vs Q E hr hsp=>?_;obtain⟨t,h,q⟩:=hbody (L2.jH (vt P w) P w K mg base N x (L2.cB st) f cdv A outer s H E).iT (L2.jH (vt P w) P w K mg base N x (L2.cB st) f cdv A outer s H E) H vs Q E ⟨rfl,rfl,rfl,rfl,rfl,rfl,PassesOwn.never,rfl,rfl,S.nd,hr,λ_=>rfl⟩ (λh=>⟨h.out.iT⟩) (λh=>⟨h.out.iT⟩) (λ{e₀ t np cpos pos} ha hs=>⟨L2.zE (x:=xr) (L2.lG (X:=L2.jH (vt P w) P w K mg base N x (L2.cB st) f cdv A outer s H E) hgl hg rfl hdb) O rfl ha.out.iT _ (λpins σ H1 s1 I hE h' ea args hm=>L2.uP I hm hE) (L2.cO hs) rfl⟩) hsp;exact⟨t,h.out,q⟩
end
theorem _root_.bQ{X:Cx}:JF X (.builtin "isinstance") (λxs H Q=>L2.Jf X.K xs H Q):=⟨L2.Bv⟩
section
variable {P:Program}{w:World}{K:PySem.W.Frag}{mg:Str->Option Value}{base:Heap}{x qual m:Str}{st:Stmt}{f C:Addr}{fd:FuncData}{N ps:List Str}{k j:Nat}{sp:Sp}
theorem wI(G:wH P w K mg base k x sp):L2.Gd P w K mg base k x (λvs H Q _=>sp vs H Q E0):=by
 obtain⟨f,fd,ps,F,h2,h3,h4⟩:=G.ex;refine⟨f,fd,ps,⟨λvs H Q E h=>F.len vs H Q E0 h,λA outer s H args us vs Q E hr e0 hb r h=>?_⟩,h2,h3,h4⟩;refine codeAny_mono (F.run A outer s H args us vs Q E0 hr e0 hb r h) λrr s' hq=>?_;cases rr with
 |ok fl=>cases fl<;>exact hq
 |error e=>
  obtain⟨_,_,_,_,_,_,z⟩:=hq;exact z.elim
theorem BL(D:L2.Df K mg x st ps f fd)(S:cE N ps (L2.cB st))(len:∀vs H Q E,sp vs H Q E->vs.length=ps.length)
  (hbody:∀(X:Cx)(H:Hp)(vs:List V)(Q:VK)(E:XK),Here X P w K mg base (L2.cB st) N k->(X.stack=X.env::X.outer/\X.env.frame=some X.env.locals)->(∀{es t},JA X es t->L2.PA X.iT es t)->(∀{e t},JT X e t->L2.PT X.iT e t)->sp vs H Q E->∃t,sJ X (L2.cS st) t/\t { nx:=λ_ H'=>Q .non H',rt:=Q } (L2.start N vs) H):L2.Gd P w K mg base (k+1) x sp:=by
 refine⟨f,fd,ps,J.DO D.fn S len λX cdv A outer s H vs Q E hX hr h=>?_,D.nm,D.fn.kp,D.bi⟩;subst hX;exact hbody _ H vs Q E ⟨rfl,rfl,rfl,rfl,rfl,rfl,PassesOwn.never,rfl,rfl,S.nd,hr,λ_=>rfl⟩ ⟨rfl,rfl⟩ (λh=>h.out) (λh=>h.out) h
structure IU(X:Cx)(st:List Stmt)(t:XK->TS):Prop where
 out:L2.Gy X st t
theorem AQ {X:Cx}{sc:Scope}{e:Expr}{es:List Expr}{t:TA}{p pos epos:Pos}(hh:Here X P w K mg base sc N k) (G:wH P w K mg base j x sp) (ha:L2.PA X.iT (e::es) t) (hg:sc.names.lookup x=some .globalImplicit) (hj:j<=k) (hdb:(x == ("__debug__" :Str))=false) (h1:L2.notStar e=true:=by rfl) (h2:es.all L2.notStar=true:=by rfl):
  IU X [.Expr (.Call (.Name x p) (e::es) [] pos) epos] (λE=>L2.sL (L2.kj sp [] E t)):=by
 obtain⟨f,fd,ps,F,e2,e3,e4⟩:=G.ex;obtain⟨rfl,rfl,rfl,rfl,rfl⟩:=And.intro hh.pr (And.intro hh.wd (And.intro hh.fK (And.intro hh.gm hh.bs)));exact⟨L2.AY F (hh.room.mono hj) (hh.gl hg) e2 e3 e4 ha hdb (L2.cO h1) (L2.eI h2)⟩
theorem Kj{X:Cx}{c:Expr}{a b:List Stmt}{tc:TT}{t u:XK->TS}{pos:Pos}(hc:L2.PT X.iT c tc)(ha:IU X a t)(hb:IU X b u):IU X [.If c a b pos] (λE=>L2.rY tc (t E) (u E)):=⟨L2.FE hc ha.out hb.out⟩
theorem MS{X:Cx}{sc:Scope}{body:List Stmt}{tb:XK->TS}{xk n er:Str}{Ck:Addr}{bk:List Value}{i jj:Nat}{kp ep np apos hpos pos:Pos}(hh:Here X P w K mg base sc N k)(stk:X.stack=X.env::X.outer/\X.env.frame=some X.env.locals)(hb:IU X body tb)(O:iA K Ck bk)(hm:mg xk=some (.ref Ck))
  (Sn:L2.Slot X i n) (Sr:L2.Slot X jj er) (hg:sc.names.lookup xk=some .globalImplicit) (ij:i≠jj) (hl:sc.names.lookup n=some .local) (hdb:(xk == ("__debug__" :Str))=false):
  JS X (.Try body [.ExceptHandler (some (.Name xk kp)) (some n) [.Assign [.Name er ep] (.Name n np) apos] hpos] [] [] pos) (λD σ H=>tb (λcls _ H'=>L2.GK X Ck i jj D σ cls H') D σ H):=by
 have hg':=hh.gl hg;have hsc:=hh.hsc;obtain⟨rfl,rfl,rfl,rfl,rfl⟩:=And.intro hh.pr (And.intro hh.wd (And.intro hh.fK (And.intro hh.gm hh.bs)));exact⟨L2.Gm hb.out stk hg' hm O hh.nd Sn Sr ij (by rw[hsc];exact hl) hdb⟩
end
theorem uQ{X:Cx}:JB X .Mult L2.Ho:=⟨L2.uQ⟩
end J
namespace L2
open PySem PySem.Spec PyProof.Rows
section
variable {M:Model}{A:Around}{Ex:Value->Shared->Prop}{s:Shared}
theorem mT{h h' B B':Heap}{C:Addr}:∀{l:List Env},h.FunFrames B l->(∀b o,B'.get? b=some o->B.get? b=some o)->(∀b,b≠C->h'.get? b=h.get? b)->C ∉ fX l->h'.FunFrames B' l
 |[],_,_,_,_=>trivial
 |env::rest,⟨k,⟨L,o,hf,hn,ho,hd⟩,r⟩,hb,hs,hc=>by
  have ne:L≠C:=λz=>hc (mem_filterMap.mpr ⟨env,.head _,z ▸ hf⟩);refine⟨k,⟨L,o,hf,?_,(hs L ne).trans ho,hd⟩,mT r hb hs λz=>hc ?_⟩
  ·cases q:B'.get? L with
   |none=>rfl
   |some u=>rw[hb _ _ q]at hn;cases hn
  ·obtain⟨env',he,hf'⟩:=mem_filterMap.mp z
   exact mem_filterMap.mpr ⟨env',.tail _ he,hf'⟩
theorem vV{base:Heap}{l:List Env}{e:Addr}{cls a0 fl:Value}{f:Option Addr}{Q:Unit->Shared->Prop}(hkb:base.StaysIn s.heap)(hl:s.heap.FunFrames base l)(ht:s.heap.TracedAtW base e cls a0 fl)
  (h:∀h',base.StaysIn h'->h'.FunFrames base l->h'.TracedAtW base e cls a0 (f.elim .none λf=>rawInt f)->s.heap.UpToSlots h'->Q () { s with heap:=h' }):wpAny M A (setFlight (.ref e) f) Q Ex s:=by
 obtain⟨oe,vs,T,oT,ts,he,hcls,hd,h1,hnT,hTe,hT,hdT,h3⟩:=ht;have sz:3 < ts.size:=(Array.getElem?_eq_some_iff.mp h3).1;have other:∀(g:Obj->Obj) b,b≠T->(s.heap.update T g).get? b=s.heap.get? b:=λg b hb=>Heap.get?_update_other _ _ (Ne.symm hb);have nr:∀b o,s.heap.get? b=some o->(∀vs,o.data≠.fields vs)->b≠T:=λb o hb hn q=>by
  subst q;rw[hT]at hb;cases hb;exact hn _ hdT
 unfold setFlight;refine wpAny_bind (wpAny_field he hd h1 ?_);rw[if_pos (show(Value.ref T != Value.none)=true from by simp)];refine wpAny_setField hT hdT sz (h _ (λb o hb=>(other _ b λq=>by rw[q,hnT]at hb;cases hb).trans (hkb b o hb)) (hl.of_keeps λb o hb hn=>⟨o,(other _ b (nr b o hb hn)).trans hb,rfl⟩) ?_ λb o hb hn=>⟨o.slots,(other _ b (nr b o hb hn)).trans hb⟩);exact⟨oe,vs,T,_,_,(other _ e (Ne.symm hTe)).trans he,hcls,hd,h1,hnT,hTe,Heap.get?_update_self _ hT (Obj.isFreed_of_fields (Obj.data_mapFields hdT _)),Obj.data_mapFields hdT _,by simp[sz]⟩
theorem uz{base:Heap}{env:Env}{outer:List Env}{L e:Addr}{cls a0 fl:Value}{Q:Unit->Shared->Prop}(hfr:A.frames=some (env::outer))(hf:env.frame=some L)(hl:s.heap.FunFrames base (env::outer))(ht:s.heap.TracedAtW base e cls a0 fl)(hkb:base.StaysIn s.heap)(hen:base.get? e=none)
  (hQ:∀h',Heap.FlyingW base outer e cls a0 h'->s.heap.UpToSlots h'->Q () { s with heap:=h' }):wpAny M A (leaving env (.ref e)) Q Ex s:=by
 by_cases hfl:fl=rawInt L
 ·subst hfl
  unfold leaving;refine wpAny_bind (wpAny_noteFrame_againW hf ht ?_);refine wpAny_landsW ⟨hkb,hen,hl,ht⟩ λh' x up=>?_;obtain⟨k1,k2,⟨_,_,k3⟩,k4⟩:=x;exact hQ h' ⟨k1,k2,k3,k4⟩ up
 ·obtain⟨oe,vs,T,oT,ts,he,⟨hcls,h0⟩,hd,h1,hnT,hTe,hT,hdT,h3⟩:=ht
  subst hcls;have other:∀(g:Obj->Obj) b,b≠T->(s.heap.update T g).get? b=s.heap.get? b:=λg b hb=>Heap.get?_update_other _ _ (Ne.symm hb);have nr:∀b o,s.heap.get? b=some o->(∀vs,o.data≠.fields vs)->b≠T:=λb o hb hn q=>by
   subst q;rw[hT]at hb;cases hb;exact hn _ hdT
  unfold leaving noteFrame;simp only[hf];refine wpAny_bind (wpAny_bind (wpAny_field he hd h1 ?_));rw[if_pos (show(Value.ref T != Value.none)=true from by simp)];refine wpAny_bind (wpAny_field hT hdT h3 ?_);rw[if_neg (show ¬((fl == rawInt L)=true) from λz=>hfl (beq_iff_eq.mp z))];refine wpAny_bind (wpAny_setField hT hdT (Array.getElem?_eq_some_iff.mp h3).1 ?_);refine wpAny_newEntryW hfr (hl.of_keeps λb o hb hn=>⟨o,(other _ b (nr b o hb hn)).trans hb,rfl⟩) hf ((other _ e (Ne.symm hTe)).trans he) (λb o hb=>(other _ b λq=>by rw[q,hnT]at hb;cases hb).trans (hkb b o hb)) hen hd (Array.getElem?_eq_some_iff.mp h1).1 h0 λh' hL=>?_;obtain⟨k1,⟨_,_,k2⟩,k3,k4⟩:=hL;exact hQ h' ⟨k1,hen,k2,k3⟩ λb o hb hn=>k4 b o ((other _ b (nr b o hb hn)).trans hb) hn
theorem yT{e:Value}{env env':Env}(h:env'.frame=env.frame):noteFrame e env'=noteFrame e env:=by
 unfold noteFrame PySem.frameOf;rw[h]
end
def Bj(X:Cx)(E:XK):Prop:=∀(pins:List (Addr×Obj)) (σ:St) (H1 H':Hp) (s1 s2:Shared) (ea:Addr) (cls:Value) (B:Heap) (C:Addr) (m:Str->Option Value) (cenv:Env) (use:Option (Value->Sem Unit)) (Q:Value->Shared->Prop) (acc:Value),Inv X pins σ H1 s1->Cb X.prog X.w X.stack H1 H' s1 ea cls B s2->E cls none H'->s1.heap.Ns C m->H1 C=none->C ∉ fX X.stack->X.s₀.heap.get? C=none->cenv.frame=X.env.frame->
 notedBy (model X.prog X.w) X.A cenv (λe s'=>compPost (model X.prog X.w) X.A X.xe use Q acc C (.error e) s') (.ref ea) s2
theorem zJ{P:Program}{w:World}{K:PySem.W.Frag}{mg:Str->Option Value}{base:Heap}{N:List Str}{qual:Str}{scope:Scope}{f:Addr}{cd:Value}{A:Around}{outer:List Env}{s:Shared}{H:Hp}{E:XK}:Bj (jH (vt P w) P w K mg base N qual scope f cd A outer s H E) E:=by
 intro pins σ H1 H' s1 s2 ea cls B C m cenv use Q acc I F hE hC fC nC aC hcf;have stk:=I.stack;have sfr:=I.iD;have frH:∀b,b∈fX outer->∀o,s.heap.get? b=some o->H b=none:=λb m o e=>I.ok.frf b m;unfold notedBy;rw[yT (env:=envOfC qual scope s.heap.objs.size f cd) hcf];obtain⟨a0,fl⟩:=F.fl;refine wpAny_looks_onW I.ok.frames rfl fl λh4 held up4=>?_;obtain⟨k1,k2,k3,k4⟩:=held;obtain⟨oC,esC,epC,hoC,rC⟩:=id hC;have hBC:B.get? C=some oC:=F.kp C oC hoC fC nC;have fC':H' C=none:=F.un.free C oC hoC fC (by simp);have key:∃m,h4.Ns C m/\∀h',Heap.SameBut C h4 h'->∀cenv:Env,cenv.locals=C->wpAny (model P w) (A.deeper (envOfC qual scope s.heap.objs.size f cd)) (passOn "comprehension.variables-let-go" (.ref ea) cenv:Sem Value) (λ_ _=>False) (jH (vt P w) P w K mg base N qual scope f cd A outer s H E).xe { s2 with heap:=h' }:=by
  refine⟨m,⟨oC,esC,epC,k1 _ _ hBC,rC⟩,λh5 sb cenv' _=>?_⟩;have hide:∀b o,B.get? b=some o->b≠C->(hideAll B [C]).get? b=some o:=λb o e n=>hideAll_get _ e (by simpa using n);have less:∀b o,(hideAll B [C]).get? b=some o->B.get? b=some o:=λb o e=>of_hideAll _ e;have noC:(hideAll B [C]).get? C=none:=PySem.W.hideAll_none _ (.head _);generalize hideAll B [C]=B' at hide less noC;have nea:B'.get? ea=none:=by
   cases q:B'.get? ea with
   |none=>rfl
   |some u=>rw[less _ _ q]at k2;cases k2
  have st5:B'.StaysIn h5:=λb o e=>by
   have nb:b≠C:=λz=>by rw[z,noC]at e;cases e
   exact(sb.2 b nb).trans (k1 _ _ (less _ _ e))
  have fr5:h5.FunFrames B' (envOfC qual scope s.heap.objs.size f cd::outer):=mT k3 less sb.2 nC;have tr5:h5.TracedAtW B' ea cls a0 (rawInt s.heap.objs.size):=by
   obtain⟨oe,vs,T,oT,ts,he,hcls,hd,h1,hnT,hTe,hT,hdT,h3⟩:=k4;have n1:ea≠C:=λz=>by rw[z,hBC]at k2;cases k2
   have n2:T≠C:=λz=>by rw[z,hBC]at hnT;cases hnT
   refine⟨oe,vs,T,oT,ts,(sb.2 _ n1).trans he,hcls,hd,h1,?_,hTe,(sb.2 _ n2).trans hT,hdT,h3⟩;cases q:B'.get? T with
   |none=>rfl
   |some u=>rw[less _ _ q]at hnT;cases hnT
  unfold PySem.passOn;obtain⟨oe,vs,T,oT,ts,he,hcls,hd,h1,r5⟩:=id tr5;refine wpAny_bind (wpAny_field (s:={ s2 with heap:=h5 }) he hd h1 ?_);rw[if_neg (show ¬((Value.ref T == Value.none)=true) from λz=>nomatch beq_iff_eq.mp z)];refine wpAny_bind (vV (s:={ s2 with heap:=h5 }) st5 fr5 tr5 λh6 st6 fr6 tr6 up6=>?_);refine wpAny_throw ?_;refine uz (s:={ s2 with heap:=h6 }) I.ok.frames rfl fr6 tr6 st6 nea λh7 fly7 up7=>?_;have st7:=fly7.1;have b0:Un (fX outer) [] H H1 s.heap s1.heap:=I.base;have inS:∀b o,s.heap.get? b=some o->b ∉ fX outer->b ∉ fX (envOfC qual scope s.heap.objs.size f cd::outer):=λb o e n m=>by
   rcases mem_filterMap.mp m with ⟨env,he,hf⟩
   rcases mem_cons.mp he with rfl|he
   ·exact absurd (lt_size e) (by rw[<-Option.some.inj hf];exact lt_irrefl _)
   ·exact n (mem_filterMap.mpr ⟨env,he,hf⟩)
  have upS:∀b,b∈fX outer->b∈fX (envOfC qual scope s.heap.objs.size f cd::outer):=λb m=>by
   obtain⟨env,he,hf⟩:=mem_filterMap.mp m;exact mem_filterMap.mpr ⟨env,.tail _ he,hf⟩
  have neC:∀b o,s.heap.get? b=some o->b≠C:=λb o e z=>by
   have aC':s.heap.get? C=none:=aC;rw[z,aC']at e;cases e
  have slot:∀b o,s.heap.get? b=some o->H b=none->b∈fX outer->∃sl,h7.get? b=some { o with slots:=sl }:=λb o e n m=>by
   obtain⟨sl,e1⟩:=b0.slot b o e n m (by simp);obtain⟨_,of,hof,hd'⟩:=stk.mem (upS b m);rw[e1]at hof;cases hof;obtain⟨sl2,e2⟩:=F.un.slot b _ e1 (sfr b (upS b m)) (upS b m) (by simp);obtain⟨sl4,e4⟩:=up4 b _ e2 hd';have e5:h5.get? b=_:=(sb.2 b (neC b o e)).trans e4;obtain⟨sl6,e6⟩:=up6 b _ e5 hd';obtain⟨sl7,e7⟩:=up7 b _ e6 hd';exact⟨sl7,e7⟩
  have kp:∀b o,s.heap.get? b=some o->H b=none->b ∉ fX outer->B'.get? b=some o:=λb o e n m=>
   hide b o (F.kp b o (b0.keep b o e n m (by simp)) (b0.free b o e n (by simp)) (inS b o e m)) (neC b o e)
  have th:∀b o,s.heap.get? b=some o->b ∉ fX outer->∃o',B'.get? b=some o':=λb o e m=>by
   obtain⟨o1,e1⟩:=b0.there b o e (by simp);obtain⟨o2,e2⟩:=F.th b o1 e1 (inS b o e m);exact⟨o2,hide b o2 e2 (neC b o e)⟩
  have trB:∀b o,H' b≠none->s2.heap.get? b=some o->B'.get? b=some o:=λb o n e=>hide b o (F.tr b o n e) λz=>n (by rw[z];exact fC');refine⟨ea,cls,B',H',rfl,⟨F.os.trans I.os,F.bare,⟨λb o e n m _=>st7 _ _ (kp b o e n m),λb o e n m _=>slot b o e n m,λb o e n hx=>?_,λb o e _=>?_,λb xs q=>F.un.tups b xs (b0.tups b xs q),λb o u q=>F.un.frzs b o u (b0.frzs b o u q),λb ps q=>?_⟩,λa o e=>?_,λb o n e=>?_,kp,th,⟨a0,fly7⟩⟩,hE⟩
  ·obtain⟨sl,e1⟩:=b0.any e n hx
   exact F.un.free b _ e1 (b0.free b o e n hx) (by simp)
  ·by_cases mm:b∈fX outer
   ·obtain⟨sl,h⟩:=slot b o e (frH b mm o e) mm
    exact⟨_,h⟩
   ·obtain⟨o',h⟩:=th b o e mm
    exact⟨o',st7 _ _ h⟩
  ·obtain⟨m1,q1⟩:=b0.tbls b ps q
   obtain⟨m2,q2⟩:=F.un.tbls b _ q1;exact⟨m1++m2,by rw[q2];simp⟩
  ·refine(F.hok a o e).fB (λb u hb q=>st7 _ _ (trB b u ?_ q)) (λ_ q=>q) λ_ _ q=>q
   rcases hb with rfl|hb
   ·rw[e];exact λz=>by cases z
   ·rw[hb];exact λz=>by cases z
  ·obtain⟨u,hu⟩:∃u,H' b=some u:=Option.ne_none_iff_exists'.mp n
   obtain⟨o1,h1'⟩:=(F.hok b u hu).there;have e2:=st7 _ _ (trB b o1 n h1');have e':h7.get? b=some o:=e;rw[e2]at e';cases e';exact trB b _ n h1'
 cases use<;>exact key
theorem PI.iT{X:Cx}{tg it:Expr}{wi:TI}(h:PI X.iT tg it wi):PI X tg it wi:=λpins s σ H R I hw=>
 wpAny_mono (h pins s σ H R (I.jm _) hw) (λv s1 q=>wpAny_mono q (λitv s2 q2=>by
  obtain⟨it,fp,tn,J,H2,e,I2,r⟩:=q2;exact⟨it,fp,tn,J,H2,e,I2.dZ,r⟩) λ_ _ z=>False.elim z) λ_ _ z=>False.elim z
def Ju(X:Cx)(c:Expr)(t:XK->St->Hp->Prop):Prop:=∀(pins:List (Addr×Obj)) (s:Shared) (σ:St) (H:Hp) (E:XK),Inv X pins σ H s->t E σ H->wpAny (model X.prog X.w) X.A (isTrue c X.env (eval c X.env)) (λ_ _=>False) (XP X pins σ E) s
theorem yM{X:Cx}{k:Nat}{f:Addr}{fd:FuncData}{ps:List Str}{sp:Sp}{x:Str}{e:Expr}{es:List Expr}{t:TA}{p pos cpos pos':Pos}{j:Nat}(F:dO X.prog X.w X.K X.mg X.base (vt X.prog X.w) k f fd ps sp)(hr:dr k X.A)(hg:Gl X x)(hm:X.mg x=some (.ref f))(hk:keepIn X.K (.ref f)=true)(hb:Binds X.K fd ps [])
  (ha:PA X.iT (e::es) t) (hdb:(x == ("__debug__" :Str))=false:=by decide) (he:starEach (e::es) X.env=(false,eval e X.env)::starEach es X.env:=by rfl) (hpl:(backTo pos (starEach es X.env)).any (·.1)=false:=by rfl):
  Ju X (.Compare (.Call (.Name x p) (e::es) [] pos) [.Is] [.Constant .none j pos'] cpos) (λE σ H=>kj sp [] E t σ H λ_ _=>False):=by
 intro pins s σ H E I h;refine wpAny_isTrue_Compare1 (wpAny_mono (Q:=λ_ _=>False) ?_ (λ_ _ z=>False.elim z) λ_ _ y=>y) (oB _ (by decide) (by decide));refine wpAny_Call_Name_kw (iz I hg hm ?_ hdb);refine callWith_K (h₀:=X.base) I.ok.mod.kin hk (wpAny_mono (ha pos pins s σ H _ (I.jm _) h) (λus s1 ⟨vs,H1,I1,r,q⟩=>⟨I1.ip,?_⟩) λ_ _ z=>False.elim z) he hpl;have r2:Vals (vs++[]) (us++[]):=r.append .nil;have hl:(us++[]).length=ps.length:=by rw[<-r2.length];exact F.len _ _ _ _ q
 have I1':=I1.dZ;refine wpAny_call (codeAny_mono (F.run X.A X.stack s1 H1 ⟨us,[]⟩ (us++[]) (vs++[]) _ E hr I1'.Aa (hb s1 us I1'.ip hl) r2 q) λr s' hq=>?_);cases r with
 |error e=>
  obtain⟨ea,cls,B,H',rfl,fl,hE⟩:=hq;exact⟨H1,H',s1,ea,cls,B,I1',rfl,fl,hE⟩
 |ok fl=>
  cases fl with
  |ret u=>
   obtain⟨_,_,_,_,z⟩:=I1'.after hq;exact z
  |next=>exact False.elim hq
  |brk=>exact False.elim hq
  |cont=>exact False.elim hq
structure vB(J:It)(n:Nat)(is:List Nat)(g:TG)(tx:XK->St->Hp->Prop)(E:XK)(σ:St)(H1:Hp):Prop where
 h:∀D,H1 D=none->J.go 0 (upd H1 D (.lst []))/\∀(os:St) v H3,os.length=n->J.yld 0 (upd H1 D (.lst [])) v H3->g v (os++dw is σ) H3 λσ' H4=>(∃os':St,os'.length=n/\σ'=os'++dw is σ)/\tx E σ' H4
section
variable {X:Cx}{xs:List Str}{tg:Expr}{pos:Pos}{elt iter:Expr}{ct:Expr}{scope:Scope}{wi:TI}{g:TG}{tx:XK->St->Hp->Prop}{is:List Nat}{ns:List Str}{E:XK}
theorem ve{sc:Scope}{N:List Str}{use:Option (Value->Sem Unit)}{Qv:Value->Shared->Prop}{cp:Pos}{pins:List (Addr×Obj)}{s:Shared}{σ:St}{H:Hp}(th:Bj X E)(I:Inv X pins σ H s)(h:wi σ H λJ H1=>vB J xs.length is g tx E σ H1)(hc:X.calm=true)(hi:PI X.iT tg iter wi)(L:mV sc N xs scope is ns)
  (hg:∀cl fp s3 H3 C,PG (cV X (xs++ns) scope cl fp s3 H3 C) tg g)(hct:∀cl fp s3 H3 C,Ju (cV X (xs++ns) scope cl fp s3 H3 C) ct tx)(hsc:X.env.scope=sc)(hN:X.N=N)(hs:∀x,foldedSetIterable iter X.env x=pure x):
  wpAny (model X.prog X.w) X.A (comprehension (.ListComp elt [⟨tg,iter,[ct],0⟩] scope pos) scope X.env cp (newList []) false (eval iter X.env) use) Qv X.xe s:=by
 subst hsc hN;obtain⟨cl,hcl,cl1,cl2⟩:=o4 (env:=X.env) (scope:=scope) (λy hy hf=>I.ok.has y.1 (.inl (L.free y hy hf)));refine wpAny_comprehension_free rfl hs hcl L.kind L.names (cY (hi.iT pins s σ H _ I h) λv s1 h1=>cY h1 λitv s2 h2=>?_);obtain⟨it,fp,tn,J,H2,e,I2,T,st2,f2,h2⟩:=h2;subst e;refine wpAny_newObj_type (wpAny_newFunctionEnv L.nocell (by intro y hy;simp at hy) (λh₁ hns₁ hsb₁=>?_) L.kind);have hD:H2 s2.heap.objs.size=none:=I2.hok.fresh (le_refl _);have I3:Inv X pins σ (upd H2 s2.heap.objs.size (.lst [])) { s2 with heap:=s2.heap.push { cls:=.type "list",dict:=none,data:=.seq ([]:List Value).toArray } }:=
  I2.laid (t':=s2.toks) (λb u e=>get?_push_of_some _ e) (le_refl _) ⟨zero_le _,[],0,.nil,get?_push_size _ rfl⟩
 have kp23:∀b u,s2.heap.get? b=some u->(s2.heap.push { cls:=.type "list",dict:=none,data:=.seq ([]:List Value).toArray }).get? b=some u:=λb u e=>get?_push_of_some _ e;obtain⟨go,step⟩:=h2.h s2.heap.objs.size hD;dsimp only at hns₁ hsb₁ ⊢;generalize hD0:s2.heap.objs.size=D at *;generalize hp3:s2.heap.push { cls:=.type "list",dict:=none,data:=.seq ([]:List Value).toArray }=p3 at *;generalize hH3:upd H2 D (.lst [])=H3 at *;have fpD:∀b∈fp,b≠D:=λb hb=>by
  obtain⟨o,e,_⟩:=T.obj 0 s2.heap st2 b hb;rw[<-hD0];exact ne_of_lt (lt_size e)
 have fp3:∀b∈fp,kq X pins H3 b:=λb hb=>⟨by rw[<-hH3,cD (fpD b hb)];exact(f2 b hb).1,(f2 b hb).2⟩;have st3:tn 0 p3:=T.keep 0 s2.heap p3 st2 λb _ o e=>kp23 b o e;have fplt:∀b∈fp,b < p3.objs.size:=λb hb=>by
  obtain⟨o,e,_⟩:=T.obj 0 p3 st3 b hb;exact lt_size e
 have old:∀b u,p3.get? b=some u->h₁.get? b=some u:=λb u e=>hsb₁.extBut b u (ne_of_lt (lt_size e)) (get?_push_of_some _ e);generalize hC:p3.objs.size=C at *;have hfree:∀b∈fp,H3 b=none:=λb hb=>(fp3 b hb).1;have okX:(cV X (xs++ns) scope cl fp { s2 with heap:=p3 } H3 C).Ok:=by
  refine⟨I.ok.mod,L.kind,I.ok.glob,I.ok.blt,le_of_eq hC,λy z c e1 e2=>I.ok.inj y z c (cl1 y c e1) (cl1 z c e2),λy hy=>?_,λ_ _ z=>(by cases z),I.ok.hd,I.ok.frames,.inl rfl,λb hb=>⟨ne_of_lt (fplt b hb),λy c e=>(fp3 b hb).2.2.2.2.1 y c (cl1 y c e)⟩,I3.bs,le_trans I3.ok.bsz I3.sz,λb o e hb=>?_,λb hb z=>?_,I3.stack,I3.iD⟩
  ·have hm:(y,NameKind.free)∈scope.names:=by
    rcases hy with hy|hy
    ·exact fM hy (.inl rfl) L.nocell
    ·exact fM hy (.inr rfl) L.nocell
   obtain⟨c,hc'⟩:=I.ok.has y (.inl (L.free _ hm rfl));exact⟨c,(cl2 _ hm rfl).trans hc'⟩
  ·rcases (fp3 b hb).2.2.2.1 with z|z
   ·exact I.ok.noex b o e z
   ·exact absurd (lt_of_lt_of_le (lt_size e) (le_trans I.ok.bsz z)) (lt_irrefl _)
  ·exact(mem_cons.mp (I3.qM b z)).elim (fp3 b hb).2.1 (fp3 b hb).2.2.1
 have hlen:(dw is σ).length=ns.length:=by
  have:=congrArg List.length L.cap;rw[length_map,length_map]at this;rw[dw,length_map];exact this.symm
 have rl:(List.replicate xs.length (none:Option V)).length=xs.length:=length_replicate ..;have I4:Inv (cV X (xs++ns) scope cl fp { s2 with heap:=p3 } H3 C) [] (List.replicate xs.length none++dw is σ) H3 { s2 with heap:=h₁,toks:=s2.toks+0 }:=by
  refine⟨okX,rfl,I3.bare,Un.kept old,⟨_,hns₁,λi y v e1 e2 e3=>?_⟩,λy c e=>?_,?_,λy c e=>I3.freeC y c (cl1 y c e),λp hp=>absurd (show p∈([]:List (Addr×Obj)) from hp) (by simp),I3.hok.kept old,by show(List.replicate xs.length none++dw is σ).length=(xs++ns).length;rw[length_append,length_append,hlen,rl]⟩
  ·have e1:(xs++ns)[i]? =some y:=e1
   by_cases hi:i < xs.length
   ·rw[getElem?_append_left (by rw[rl];exact hi),List.getElem?_replicate,if_pos hi]at e2
    cases e2
   ·rw[getElem?_append_right (by rw[rl];omega),rl]at e2
    rw[getElem?_append_right (by omega)]at e1;generalize i - xs.length=j at e1 e2;have e1':ns[j]? =some y:=e1;have e2':(dw is σ)[j]? =some (some v):=e2;have hy:=L.capf y (mem_of_getElem? e1');have hcap:(ns.map some)[j]? =(is.map λi=>X.N[i]?)[j]? :=by rw[L.cap]
    rw[getElem?_map,getElem?_map,e1']at hcap;rw[dw,getElem?_map]at e2';cases hk:is[j]? with
    |none=>rw[hk]at e2';cases e2'
    |some k=>
     rw[hk]at hcap e2';have hN:X.N[k]? =some y:=(Option.some.inj hcap).symm;have hσ:σ[k]? =some (some v):=by
      have q:(σ[k]?).join=some v:=Option.some.inj e2';cases z:σ[k]? with
      |none=>rw[z]at q;cases q
      |some o=>rw[z]at q;exact congrArg some q
     obtain⟨m,hn,hl⟩:=I3.loc;obtain⟨u,r,l⟩:=hl k y v hN hσ (.inr (.inl hy.2));refine⟨u,r,?_⟩;rcases l with ⟨hk',_⟩|⟨hk',c,ec,o,ho,hd⟩
     ·have hk2:X.env.scope.names.lookup y=some .local:=hk'
      rw[hy.2]at hk2;cases hk2
     ·exact .inr ⟨.inl (iu I.ok.kind hy.1 hy.2),c,(cl2 _ (PySem.mem_of_lookup hy.1) rfl).trans ec,o,old c o ho,hd⟩
  ·obtain⟨v,o,ho,hd⟩:=I3.cell y c (cl1 y c e)
   exact⟨v,o,old c o ho,hd⟩
  ·show H3 C=none
   rw[<-hC];exact I3.hok.fresh (le_refl _)
 have st4:tn 0 h₁:=T.keep 0 p3 h₁ st3 λb _ o e=>old b o e;have stat:∀{H':Hp},(∀b∈fp,H' b=none)->∀b∈fp,kq (cV X (xs++ns) scope cl fp { s2 with heap:=p3 } H3 C) [] H' b:=λ{H'} hn b hb=>
  ⟨hn b hb,ne_of_lt (fplt b hb),okX.exfs b hb,.inl hb,λy c e=>(fp3 b hb).2.2.2.2.1 y c (cl1 y c e),λp hp=>absurd (show p∈([]:List (Addr×Obj)) from hp) (by simp)⟩
 have loop:codeAny (model X.prog X.w) X.A (.compLoop (.ListComp elt [⟨tg,iter,[ct],0⟩] scope pos) 0 (.ref it) (.ref D) (compEnvC scope cl C X.env))
   (compPost (model X.prog X.w) X.A X.xe use Qv (.ref D) C) { s2 with heap:=h₁,toks:=s2.toks+0 }:=by
  refine jr (λ_ s'=>s'={ s2 with heap:=h₁,toks:=s2.toks+0 }) ?_ 0 rfl;rintro n s5 rfl;refine cY (T.item (cV X (xs++ns) scope cl fp { s2 with heap:=p3 } H3 C) rfl rfl rfl hc 0 [] _ _ H3 _ I4 (stat hfree) st4 go) λr s6 ⟨u,hr,h6⟩=>?_;subst hr;refine cY h6 λ_ s7 hpat=>?_;obtain⟨v,H7,I7,r7,y7,st7,fr7⟩:=hpat;have I7':=I7.pinned (stat fr7) (T.obj _ _ st7);refine wpAny_mono (hg cl fp { s2 with heap:=p3 } H3 C _ s7 (List.replicate xs.length none++dw is σ) H7 v u _ I7' r7 (step _ v H7 rl y7)) (λ_ s8 ⟨σ8,H8,I8,⟨os',hos',e8⟩,q8⟩=>?_) λ_ _ z=>False.elim z;refine wpAny_tests_one (wpAny_mono (hct cl fp { s2 with heap:=p3 } H3 C _ s8 _ H8 E I8 q8) (λ_ _ z=>False.elim z) λe s9 xp=>?_);obtain⟨Ha,H',sa,ea,cls,B,Ia,rfl,F,q⟩:=xp;obtain⟨m,hn,_⟩:=id Ia.loc;have IX:Inv X pins σ Ha sa:=I3.qr (s':=sa) (ch:=fp) Ia.os ⟨λb o e nn hb hx=>Ia.base.keep b o e nn hb hx,λb o e nn hb hx=>Ia.base.slot b o e nn hb hx,Ia.base.free,λb o e hx=>Ia.base.there b o e hx,Ia.base.tups,Ia.base.frzs,Ia.base.tbls⟩ (λb ob e=>Ia.hok b ob e) Ia.bare λb hb=>⟨(fp3 b hb).2.2.2.1,(fp3 b hb).2.1,(fp3 b hb).2.2.2.2.1,(fp3 b hb).2.2.2.2.2⟩;refine th pins σ Ha H' sa s9 ea cls B C m _ use Qv _ IX F q hn Ia.free (λz=>?_) ?_ rfl
  ·obtain⟨_,o,ho,_⟩:=I3.stack.mem z
   exact absurd (lt_size ho) (by rw[<-hC];exact lt_irrefl _)
  ·cases z:X.s₀.heap.get? C with
   |none=>rfl
   |some o=>exact absurd (lt_of_lt_of_le (lt_size z) I3.sz) (by rw[<-hC];exact lt_irrefl _)
 exact codeAny_compStart_list loop (T.self X.A 0 _ _ _ st4 loop)
theorem yI{sc:Scope}{N:List Str}{rpos:Pos}(th:Bj X E)(hc:X.calm=true)(hi:PI X.iT tg iter wi)(L:mV sc N xs scope is ns)(hg:∀cl fp s3 H3 C,PG (cV X (xs++ns) scope cl fp s3 H3 C) tg g)(hct:∀cl fp s3 H3 C,Ju (cV X (xs++ns) scope cl fp s3 H3 C) ct tx)
  (hsc:X.env.scope=sc)(hN:X.N=N)(hs:∀x,foldedSetIterable iter X.env x=pure x):PS X (.Return (some (.ListComp elt [⟨tg,iter,[ct],0⟩] scope pos)) rpos) (λ_ σ H=>wi σ H λJ H1=>vB J xs.length is g tx E σ H1):=by
 intro pins s σ H D I h;refine wpAny_Return_some ?_;rw[eval_ListComp];exact ve th I h hc hi L hg hct hsc hN hs
end
structure GX(X:Cx)(x:Str)(sp:Sp):Prop where
 ex:∃(k:Nat) (f:Addr) (fd:FuncData) (ps:List Str),dO X.prog X.w X.K X.mg X.base (vt X.prog X.w) k f fd ps sp/\dr k X.A/\X.mg x=some (.ref f)/\keepIn X.K (.ref f)=true/\Binds X.K fd ps []
 db:(x == ("__debug__" :Str))=false
theorem Here.Kq {X:Cx}{P:Program}{w:World}{K:PySem.W.Frag}{mg:Str->Option Value}{base:Heap}{sc:Scope}{N:List Str}{k j:Nat}{x:Str}{sp:Sp}(h:Here X P w K mg base sc N k) (G:wH P w K mg base j x sp) (hj:j<=k) (db:(x == ("__debug__" :Str))=false):GX X x sp:=by
 obtain⟨f,fd,ps,h1,h2,h3,h4⟩:=G.ex;obtain⟨rfl,rfl,rfl,rfl,rfl⟩:=And.intro h.pr (And.intro h.wd (And.intro h.fK (And.intro h.gm h.bs)));exact⟨⟨j,f,fd,ps,h1,h.room.mono hj,h2,h3,h4⟩,db⟩
end L2
namespace J
open PySem PySem.Spec PyProof.Rows
open L2 (Cx V Hp St VK TE TT TA TS TG o7 TI TO R2 Sp XK E0 mG dO dr Gl Binds RelV Vals cH cU dQ oj cE Here wH vt iA)
section
variable {P:Program}{w:World}{K:PySem.W.Frag}{mg:Str->Option Value}{base:Heap}{x qual m:Str}{st:Stmt}{f C:Addr}{fd:FuncData}{N ps:List Str}{k j:Nat}{sp:Sp}
theorem CB(D:L2.Df K mg x st ps f fd)(S:cE N ps (L2.cB st))(len:∀vs H Q E,sp vs H Q E->vs.length=ps.length)
  (hbody:∀(X Y:Cx)(H:Hp)(vs:List V)(Q:VK)(E:XK),X=Y.iT->Here X P w K mg base (L2.cB st) N k->(∀{st t},JS X st t->JS Y st t)->L2.Bj Y E->sp vs H Q E->∃t,sJ Y (L2.cS st) t/\t { nx:=λ_ H'=>Q .non H',rt:=Q } (L2.start N vs) H):wH P w K mg base (k+1) x sp:=by
 refine⟨f,fd,ps,?_,D.nm,D.fn.kp,D.bi⟩;obtain⟨oc,od,kV,doc,pm,an,cdv,ct,osl,rfl,lk,hcd⟩:=D.fn.ex;refine L2.zM lk hcd S len λA outer s H vs Q E hr hsp=>?_;obtain⟨t,h,q⟩:=hbody (L2.jH (vt P w) P w K mg base N x (L2.cB st) f cdv A outer s H E).iT (L2.jH (vt P w) P w K mg base N x (L2.cB st) f cdv A outer s H E) H vs Q E rfl ⟨rfl,rfl,rfl,rfl,rfl,rfl,PassesOwn.never,rfl,rfl,S.nd,hr,λ_=>rfl⟩ (λh=>⟨h.out.iT⟩) L2.zJ hsp;exact⟨t,h.out,q⟩
structure Lk(X:Cx)(c:Expr)(t:XK->L2.St->Hp->Prop):Prop where
 out:L2.Ju X c t
theorem Ah{X:Cx}{N':List Str}{scope:Scope}{cl:List (Str×Addr)}{fp:List Addr}{s3:Shared}{H3:Hp}{CC:Addr}{e:Expr}{es:List Expr}{t:TA}{p pos cpos pos':Pos}{jj:Nat}(B:L2.GX X x sp)(ha:JA (L2.cV X N' scope cl fp s3 H3 CC) (e::es) t)(hg:scope.names.lookup x=some .globalImplicit)(h1:L2.notStar e=true:=by rfl)(h2:es.all L2.notStar=true:=by rfl):
  Lk (L2.cV X N' scope cl fp s3 H3 CC) (.Compare (.Call (.Name x p) (e::es) [] pos) [.Is] [.Constant .none jj pos'] cpos) (λE σ H=>L2.kj sp [] E t σ H λ_ _=>False):=by
 obtain⟨k,f,fd,ps,F,r,e2,e3,e4⟩:=B.ex;exact⟨L2.yM (X:=L2.cV X N' scope cl fp s3 H3 CC) F r (L2.eP (by decide) hg) e2 e3 e4 ha.out B.db (L2.cO h1) (L2.eI h2)⟩
end
theorem E8{Y:Cx}{E:XK}{sc:Scope}{N xs ns:List Str}{tg it elt ct:Expr}{scope:Scope}{wi:TI}{g:TG}{tx:XK->L2.St->Hp->Prop}{is:List Nat}{pos rpos:Pos}(th:L2.Bj Y E)(hc:Y.iT.calm=true)(hi:JI Y.iT tg it wi)(L:L2.mV sc N xs scope is ns)(hg:∀cl fp s3 H3 C,JG (L2.cV Y.iT (xs++ns) scope cl fp s3 H3 C) tg g)(hct:∀cl fp s3 H3 C,Lk (L2.cV Y.iT (xs++ns) scope cl fp s3 H3 C) ct tx)
  (hsc:Y.iT.env.scope=sc)(hN:Y.iT.N=N)(hs:∀x,foldedSetIterable it Y.env x=pure x:=by intro _;rfl):JS Y (.Return (some (.ListComp elt [⟨tg,it,[ct],0⟩] scope pos)) rpos) (λ_ σ H=>wi σ H λJ H1=>L2.vB J xs.length is g tx E σ H1):=
 ⟨L2.yI th hc hi.out L (λcl fp s3 H3 C=>(hg cl fp s3 H3 C).out) (λcl fp s3 H3 C=>(hct cl fp s3 H3 C).out) hsc hN hs⟩
end J
namespace L2
open PySem
theorem zc:0<=sizeLine:=by decide
theorem Km:1<=sizeLine:=by decide
theorem Gz:2<=sizeLine:=by decide
theorem m7:3<=sizeLine:=by decide
theorem JY:4<=sizeLine:=by decide
theorem kI {K:PySem.W.Frag}{T n:String}(hT:T∈tys:=by decide) (hn:n∈["int", "bool", "str", "list", "tuple"]:=by decide):kitOne K (.type T) (.type n)=some (yh T n):=dz hT hn
theorem iP{c A B:Prop} [Decidable c] (h:A)(hc:c:=by decide+kernel):if c then A else B:=fh hc h
theorem iN{c A B:Prop} [Decidable c] (h:B)(hc:¬c:=by decide+kernel):if c then A else B:=gY hc h
end L2
namespace K32
open PySem L2
variable {P:Program}{w:World}{K:PySem.W.Frag}{mg:Str->Option Value}{base:Heap}{kw C:Addr}{f:Addr}{fd:FuncData}
def kept:List Str:=["person", "talk", "saw", "knew", "heard", "told", "not", "nobody", "never", "by", "from", "to"]
def uj:V->Bool
 |.int i=>decide (0<=i) && decide (i<=10 ^ Int.toNat 18)
 |_=>false
def i9:V->Bool
 |.str w=> !decide (w.cps.toList < ("a" :Str).cps.toList) && !decide (("z" :Str).cps.toList < w.cps.toList)
 |_=>false
def dJ(z:Str):Bool:=decide (1<=(z.length:Int)) && (decide ((z.length:Int)<=12) && (((signs z).map i9).all id && !wW (.str z) (kept.map V.str)))
def n5:V->Bool
 |.str z=>dJ z
 |_=>false
def xF(K:PySem.W.Frag):Sp:=λvs H Q _=>∃x T,vs=[x]/\dQ K H x (.type T)/\T∈tys/\Q (.bl (T == "int")) H
def lI(K:PySem.W.Frag):Sp:=λvs H Q _=>∃x T,vs=[x]/\dQ K H x (.type T)/\T∈tys/\Q (.bl (uj x)) H
def pj(K:PySem.W.Frag):Sp:=λvs H Q _=>∃x T,vs=[x]/\dQ K H x (.type T)/\T∈tys/\(∀z,x=.str z->z.length<=sizeLine)/\∀H',cC H H'->Q (.bl (n5 x)) H'
def lets:Str:= "bcdfghijklmnpqrstuvwxz"
def uO(z:Str):Prop:=∀c∈z.cps.toList,c∈lets.cps.toList
theorem xH:∀c∈lets.cps.toList,i9 (.str ⟨#[c]⟩)=true:=by decide+kernel
theorem Ay:∀w∈kept,(w.cps.toList.any λc=> !lets.cps.toList.contains c)=true:=by decide+kernel
theorem nG(a b:Str):(a++b).cps.toList=a.cps.toList++b.cps.toList:=by
 show(a.cps++b.cps).toList=_;rw[toList_append]
theorem C2(a b:Str):(a++b).length=a.length+b.length:=Array.size_append
theorem lE(a:Str):a.cps.toList.length=a.length:=length_toList
theorem Bd{z:Str}(h:uO z)(h1:1<=z.length)(h2:z.length<=12):dJ z=true:=by
 unfold dJ;rw[decide_eq_true (by omega),decide_eq_true (by omega),Bool.true_and,Bool.true_and,and_eq_true];refine⟨?_,?_⟩
 ·rw[all_map,all_eq_true]
  intro v hv;obtain⟨c,hc,rfl⟩:=mem_map.mp hv;exact xH c (h c hc)
 ·cases e:wW (.str z) (kept.map V.str) with
  |false=>rfl
  |true=>
   have e':(kept.map V.str).any (λy=>sH y (.str z))=true:=e;rw[any_map,any_eq_true]at e';obtain⟨w,hw,e2⟩:=e';have e3:(w == z)=true:=e2;have e4:w=z:=eq_of_beq e3;have ko:=Ay w hw;rw[any_eq_true]at ko;obtain⟨c,hc,nc⟩:=ko;rw[e4]at hc;have:=h c hc;rw[<-List.contains_iff_mem]at this;rw[this]at nc;cases nc
def putIn(z:Str)(k:Int)(c:Nat):Str:=(E1 z none (some k)++(⟨#[c]⟩:Str))++E1 z (some k) none
theorem CD{a b:Str}(ha:uO a)(hb:uO b):uO (a++b):=by
 intro c hc;rw[nG,mem_append]at hc;exact hc.elim (ha c) (hb c)
def KA(f:Nat->Str)(more:Str):Nat->List Str
 |0=>[]
 |i+1=>KA f more i++[f i,f i++more]
structure JK(us:List Str):Prop where
 len:us.length=24
 nd:us.Nodup
 nm:∀z∈us,dJ z=true
def Ls(i:Int):Nat:=lets.cps.toList.getD i.toNat 0
def cN(h:Int):Prop:=0<=h/\h<=10 ^ Int.toNat 18
theorem gU{h:Int}(k:cN h):uj (.int h)=true:=by
 show(decide (0<=h) && decide (h<=10 ^ Int.toNat 18))=true;rw[decide_eq_true k.1,decide_eq_true k.2];rfl
theorem zX{z:Str}(h:dJ z=true):z.length<=12:=by
 unfold dJ at h;rw[and_eq_true,and_eq_true,decide_eq_true_iff,decide_eq_true_iff]at h;have:=h.2.1;omega
theorem y4{z:Str}(h:dJ z=true):z.length<=sizeLine:=by
 have h1:=zX h;have:sizeLine=16777216:=sizeLine_eq;omega
theorem mH{z:Str}(h:dJ z=true):∀y,V.str z=V.str y->y.length<=sizeLine:=λy e=>by
 cases e;exact y4 h
structure fj(ps:List Str):Prop where
 lo:1<=ps.length
 hi:ps.length<=24
 nd:ps.Nodup
 nm:∀z∈ps,dJ z=true
inductive dU  (ps:List Str)(H:Hp)(v:V):Prop
 |mk(a:Addr)(z:Str)(h:Int)(ta:Addr)(ws:List Str)(h0:v=.ref a)(h1:H a=some (.tup [.str z,.int h,.ref ta]))(h2:z∈ps)(h3:cN h)(h4:H ta=some (.tup (ws.map V.str)))(h5:1<=ws.length)(h6:ws.length<=6)(h7:∀x∈ws,dJ x=true)
inductive eT  (ps:List Str)(H:Hp)(v:V):Prop
 |mk (a:Addr) (h:Int) (p q w:Str) (h0:v=.ref a) (h1:H a=some (.tup [.int h,.str p,.str q,.str w])) (h2:cN h) (h3:p∈ps) (h4:q∈ps) (h5:p≠q) (h6:(w= "both" \/w= "one"))
inductive eK  (ps:List Str)(H:Hp)(v:V):Prop
 |mk (a:Addr) (h0:v=.ref a) (h1:((∃(p:Str) (h:Int),H a=some (.tup [.str "knew",.str p,.int h])/\p∈ps/\cN h)\/    (∃(p:Str) (b:V),H a=some (.tup [.str "unheard",.str p,b])/\p∈ps/\(b=.non\/∃h:Int,b=.int h/\cN h))\/    (∃(p:Str) (h k:Int),H a=some (.tup [.str "silent",.str p,.int h,.int k])/\p∈ps/\cN h/\cN k/\h<=k)\/    (∃p q:Str,H a=some (.tup [.str "barred",.str p,.str q])/\p∈ps/\q∈ps/\p≠q)))
def Tk(H H':Hp):Prop:=∀b xs,H b=some (.tup xs)->H' b=some (.tup xs)
theorem Tk.of{H H':Hp}(s:cC H H'):Tk H H':=λb _ e=>s b _ e
theorem Tk.trans{H H1 H2:Hp}(a:Tk H H1)(b:Tk H1 H2):Tk H H2:=λc xs e=>b c xs (a c xs e)
theorem Tk.upd{H:Hp}{l:Addr}{xs ys:List V}(h:H l=some (.lst xs)):Tk H (upd H l (.lst ys)):=λb zs e=>by
 rw[cD (pF e h (by intro z;cases z))];exact e
theorem dU.mono{ps:List Str}{H H':Hp}{v:V}(s:Tk H H')(h:dU ps H v):dU ps H' v:=by
 obtain⟨a,z,h,ta,ws,e,ha,hz,hh,ht,r1,r2,r3⟩:=h;exact⟨a,z,h,ta,ws,e,s _ _ ha,hz,hh,s _ _ ht,r1,r2,r3⟩
theorem eT.mono{ps:List Str}{H H':Hp}{v:V}(s:Tk H H')(h:eT ps H v):eT ps H' v:=by
 obtain⟨a,h,p,q,w,e,ha,r1,r2,r3,r4,r5⟩:=h;exact⟨a,h,p,q,w,e,s _ _ ha,r1,r2,r3,r4,r5⟩
theorem eK.mono{ps:List Str}{H H':Hp}{v:V}(s:Tk H H')(h:eK ps H v):eK ps H' v:=by
 obtain⟨a,e,h⟩:=h;refine⟨a,e,?_⟩;rcases h with ⟨p,h,ha,r⟩|⟨p,b,ha,r⟩|⟨p,h,k,ha,r⟩|⟨p,q,ha,r⟩
 ·exact .inl ⟨p,h,s _ _ ha,r⟩
 ·exact .inr (.inl ⟨p,b,s _ _ ha,r⟩)
 ·exact .inr (.inr (.inl ⟨p,h,k,s _ _ ha,r⟩))
 ·exact .inr (.inr (.inr ⟨p,q,s _ _ ha,r⟩))
theorem tD{z:Str}{ps:List Str}(h:z∈ps):wW (.str z) (ps.map V.str)=true:=by
 show(ps.map V.str).any (λy=>sH y (.str z))=true;rw[any_map,any_eq_true];exact⟨z,h,by show(z == z)=true;exact beq_self_eq_true z⟩
theorem mB(ps:List Str):(ps.map V.str).all cW=true:=by
 rw[all_map,all_eq_true];intro z _;rfl
theorem all_true{α:Type}{f:α->Bool}{xs:List α}(h:∀x∈xs,f x=true):(xs.map f).all id=true:=by
 rw[all_map,all_eq_true];exact λx hx=>h x hx
theorem j9{xs:List V}{n:Nat}{m:Int}(h:xs.length=n)(hm:(n:Int)≠m):¬decide (V.int (xs.length:Nat)=V.int m)=true:=by
 rw[decide_eq_true_iff,h];intro e;injection e with e
 exact hm e
theorem rO{xs:List V}{n:Nat}{m:Int}(h:xs.length=n)(hm:(n:Int)=m):decide (V.int (xs.length:Nat)=V.int m)=true:=by
 rw[decide_eq_true_iff,h,hm]
inductive yK  (vs:List V)(H:Hp)(Q:VK):Prop
 |mk(p:Addr)(xs:List V)(m:Int)(h0:vs=[.ref p,.int m])(h1:H p=some (.lst xs))(h2:(xs.length:Int)<=m)(h3:Q (.bl true) H)
def gT  :Sp:=λvs H Q _=>yK  vs H Q
inductive AD  (vs:List V)(H:Hp)(Q:VK):Prop
 |mk(p:Addr)(xs:List V)(m:Int)(h0:vs=[.ref p,.int m])(h1:H p=some (.tup xs))(h2:(xs.length:Int)=m)(h3:Q (.bl true) H)
def nK  :Sp:=λvs H Q _=>AD  vs H Q
inductive yX  (vs:List V)(H:Hp)(Q:VK):Prop
 |mk(p:Addr)(ps:List Str)(z:Str)(h0:vs=[.ref p,.str z])(h1:H p=some (.lst (ps.map V.str)))(h2:fj ps)(h3:z∈ps)(h4:∀H',cC H H'->Q (.bl true) H')
def hV  :Sp:=λvs H Q _=>yX  vs H Q
inductive yB  (vs:List V)(H:Hp)(Q:VK):Prop
 |mk(p:Addr)(ps:List Str)(y z:Str)(h0:vs=[.ref p,.str y,.str z])(h1:H p=some (.lst (ps.map V.str)))(h2:fj ps)(h3:y∈ps)(h4:z∈ps)(h5:y≠z)(h6:∀H',cC H H'->Q (.bl true) H')
def ku  :Sp:=λvs H Q _=>yB  vs H Q
inductive Dk  (vs:List V)(H:Hp)(Q:VK):Prop
 |mk(t:Addr)(ws:List Str)(h0:vs=[.ref t])(h1:H t=some (.tup (ws.map V.str)))(h2:1<=ws.length)(h3:ws.length<=6)(h4:(∀x∈ws,dJ x=true))(h5:∀H',cC H H'->Q (.bl true) H')
def vX  :Sp:=λvs H Q _=>Dk  vs H Q
inductive Ai  (vs:List V)(H:Hp)(Q:VK):Prop
 |mk(p:Addr)(ps:List Str)(v:V)(h0:vs=[.ref p,v])(h1:H p=some (.lst (ps.map V.str)))(h2:fj ps)(h3:dU ps H v)(h4:∀H',cC H H'->Q (.bl true) H')
def qV  :Sp:=λvs H Q _=>Ai  vs H Q
inductive Fb  (vs:List V)(H:Hp)(Q:VK):Prop
 |mk (w:Str) (h0:vs=[.str w]) (h1:(w= "both" \/w= "one")) (h2:∀H',cC H H'->Q (.bl true) H')
def zA  :Sp:=λvs H Q _=>Fb  vs H Q
inductive De  (vs:List V)(H:Hp)(Q:VK):Prop
 |mk(p:Addr)(ps:List Str)(v:V)(h0:vs=[.ref p,v])(h1:H p=some (.lst (ps.map V.str)))(h2:fj ps)(h3:eT ps H v)(h4:∀H',cC H H'->Q (.bl true) H')
def vN  :Sp:=λvs H Q _=>De  vs H Q
inductive CS  (vs:List V)(H:Hp)(Q:VK):Prop
 |mk(h k:Int)(h0:vs=[.int h,.int k])(h1:cN h)(h2:cN k)(h3:h<=k)(h4:Q (.bl true) H)
def uY  :Sp:=λvs H Q _=>CS  vs H Q
inductive zB  (vs:List V)(H:Hp)(Q:VK):Prop
 |mk (p:Addr) (ps:List Str) (kd y:Str) (b:V) (h0:vs=[.ref p,.str kd,.str y,b]) (h1:H p=some (.lst (ps.map V.str))) (h2:fj ps) (h3:y∈ps) (h4:((kd= "barred" /\∃z,b=.str z/\z∈ps/\y≠z)\/(kd= "unheard" /\(b=.non\/∃h:Int,b=.int h/\cN h))\/(kd= "knew" /\∃h:Int,b=.int h/\cN h))) (h5:∀H',cC H H'->Q (.bl true) H')
def sv  :Sp:=λvs H Q _=>zB  vs H Q
inductive yV  (vs:List V)(H:Hp)(Q:VK):Prop
 |mk(p:Addr)(ps:List Str)(v:V)(h0:vs=[.ref p,v])(h1:H p=some (.lst (ps.map V.str)))(h2:fj ps)(h3:eK ps H v)(h4:∀H',cC H H'->Q (.bl true) H')
def pq  :Sp:=λvs H Q _=>yV  vs H Q
inductive vE  (vs:List V)(H:Hp)(Q:VK):Prop
 |mk(p:Addr)(ps:List Str)(h0:vs=[.ref p])(h1:H p=some (.lst (ps.map V.str)))(h2:fj ps)(h3:∀H',cC H H'->Q (.bl true) H')
def mF  :Sp:=λvs H Q _=>vE  vs H Q
inductive Dt  (M:List Str->Hp->V->Prop)(n:Nat)(vs:List V)(H:Hp)(Q:VK):Prop
 |mk(p q:Addr)(ps:List Str)(xs:List V)(h0:vs=[.ref p,.ref q])(h1:H p=some (.lst (ps.map V.str)))(h2:fj ps)(h3:H q=some (.lst xs))(h4:xs.length<=n)(h5:(∀v∈xs,M ps H v))(h6:∀H',cC H H'->Q (.bl true) H')
def iC  (M:List Str->Hp->V->Prop)(n:Nat):Sp:=λvs H Q _=>Dt M n vs H Q
def ng(p s t y:Addr):List (Str×V):=fE "kept_sayings" (.ref y) (fE "kept_talks" (.ref t) (fE "kept_sights" (.ref s) (fE "kept_persons" (.ref p) [])))
theorem GR(p s t y:Addr):(ng p s t y).lookup ("kept_persons" :Str)=some (.ref p):=by
 unfold ng;rw[cL,if_neg (by decide+kernel),cL,if_neg (by decide+kernel),cL,if_neg (by decide+kernel),cL,if_pos rfl]
theorem Je(p s t y:Addr):(ng p s t y).lookup ("kept_sights" :Str)=some (.ref s):=by
 unfold ng;rw[cL,if_neg (by decide+kernel),cL,if_neg (by decide+kernel),cL,if_pos rfl]
theorem DI(p s t y:Addr):(ng p s t y).lookup ("kept_talks" :Str)=some (.ref t):=by
 unfold ng;rw[cL,if_neg (by decide+kernel),cL,if_pos rfl]
theorem Hi(p s t y:Addr):(ng p s t y).lookup ("kept_sayings" :Str)=some (.ref y):=by
 unfold ng;rw[cL,if_pos rfl]
theorem fZ (p s t y:Addr){m:Str}(h1:¬m= "kept_sayings") (h2:¬m= "kept_talks") (h3:¬m= "kept_sights") (h4:¬m= "kept_persons"):(ng p s t y).lookup m=none:=by
 unfold ng;rw[cL,if_neg h1,cL,if_neg h2,cL,if_neg h3,cL,if_neg h4];rfl
structure Parts(H:Hp)(ps:List Str)(ss ts ys:List V):Prop where
 ok:fj ps
 sl:ss.length<=24
 sg:∀v∈ss,dU ps H v
 tl:ts.length<=120
 tg:∀v∈ts,eT ps H v
 yl:ys.length<=60
 yg:∀v∈ys,eK ps H v
theorem Parts.mono{H H':Hp}{ps:List Str}{ss ts ys:List V}(s:Tk H H')(g:Parts H ps ss ts ys):Parts H' ps ss ts ys:=
 ⟨g.ok,g.sl,λv h=>(g.sg v h).mono s,g.tl,λv h=>(g.tg v h).mono s,g.yl,λv h=>(g.yg v h).mono s⟩
structure Bk(C:Addr)(H:Hp)(x p s t y:Addr)(ps:List Str)(ss ts ys:List V):Prop where
 ob:∃dx,H x=some (.ins C dx (ng p s t y))
 hp:H p=some (.lst (ps.map V.str))
 hs:H s=some (.lst ss)
 ht:H t=some (.lst ts)
 hy:H y=some (.lst ys)
theorem Bk.mono{C:Addr}{H H':Hp}{x p s t y:Addr}{ps:List Str}{ss ts ys:List V}(m:cC H H')(b:Bk C H x p s t y ps ss ts ys):Bk C H' x p s t y ps ss ts ys:=by
 obtain⟨⟨dx,e⟩,h1,h2,h3,h4⟩:=b;exact⟨⟨dx,m _ _ e⟩,m _ _ h1,m _ _ h2,m _ _ h3,m _ _ h4⟩
inductive BO  (C:Addr)(vs:List V)(H:Hp)(Q:VK):Prop
 |mk(x dx p a b c:Addr)(ps:List Str)(ss ts ys:List V)(h0:vs=[.ref x,.ref p,.ref a,.ref b,.ref c])(h1:H x=some (.ins C dx []))(h2:H p=some (.lst (ps.map V.str)))(h3:H a=some (.lst ss))(h4:H b=some (.lst ts))(h5:H c=some (.lst ys))(h6:Parts H ps ss ts ys)(h7:∀(p' s' t' y':Addr)(H':Hp),H p'=none->H s'=none->H t'=none->H y'=none->Bk C H' x p' s' t' y' ps ss ts ys->(∀d o,H d=some o->d≠x->H' d=some o)->Q .non H')
def wk  (C:Addr):Sp:=λvs H Q _=>BO C vs H Q
structure Txt(K:PySem.W.Frag)(mg:Str->Option Value)(kw C:Addr):Prop where
 b_isinstance:mg "isinstance" =none
 b_int:mg "int" =none
 b_bool:mg "bool" =none
 b_str:mg "str" =none
 b_len:mg "len" =none
 b_all:mg "all" =none
 b_range:mg "range" =none
 b_list:mg "list" =none
 b_tuple:mg "tuple" =none
 b_set:mg "set" =none
 b_zip:mg "zip" =none
 b_enumerate:mg "enumerate" =none
 b_min:mg "min" =none
 b_max:mg "max" =none
 b_any:mg "any" =none
 b_sorted:mg "sorted" =none
 b_dict:mg "dict" =none
 b_sum:mg "sum" =none
 b_reversed:mg "reversed" =none
 kwm:mg "KEPT_WORDS" =some (.ref kw)
 kwt:∃(o:Obj) (its:Array Value) (n:Nat),K.lookup kw=some o/\o.cls=.type "tuple" /\o.data=.seq its n/\its.size<=sizeLine/\Vals (kept.map V.str) its.toList
 g_MOST_PERSONS:∃u,mg "MOST_PERSONS" =some u/\RelV (.int 24) u
 g_MOST_SIGHTS:∃u,mg "MOST_SIGHTS" =some u/\RelV (.int 24) u
 g_MOST_TALKS:∃u,mg "MOST_TALKS" =some u/\RelV (.int 120) u
 g_MOST_SAYINGS:∃u,mg "MOST_SAYINGS" =some u/\RelV (.int 60) u
 g_MOST_WORDS:∃u,mg "MOST_WORDS" =some u/\RelV (.int 6) u
 cl:uL K C
 nP:f9 K C "kept_persons"
 nS:f9 K C "kept_sights"
 nT:f9 K C "kept_talks"
 nY:f9 K C "kept_sayings"
theorem MB:cE ["thing"] ["thing"] (cB iG):={}
theorem zQ (F:oj K "is_whole" "is_whole" iG f fd) (T:Txt K mg kw C):dO P w K mg base mG 1 f fd ["thing"] (xF K):=by
 refine F.ok MB (λvs H Q E h=>?_) (λcdv A outer s H vs Q E hr h=>?_)
 ·obtain⟨x,t,rfl,_⟩:=h
  rfl
 ·obtain⟨x,t,rfl,ty,ht,k⟩:=h
  refine⟨_,jC (oU (rK (ig i6 rfl T.b_isinstance cG (fc (pv 0) (fc (nj (v:=.ty "int") rfl T.b_int rG rfl) jR)))
   (rm (l9 (ig i6 rfl T.b_isinstance cG (fc (pv 0) (fc (nj (v:=.ty "bool") rfl T.b_bool rT rfl) jR))))))),?_⟩
  refine⟨_,rfl,_,_,_,_,rfl,ty,dz ht (by decide),_,rfl,?_⟩;refine c8 (λh1=>?_) (λh1=>?_)
  ·refine⟨_,rfl,_,_,_,_,rfl,ty,dz ht (by decide),_,rfl,?_⟩
   have e:(!yh t "bool")=(t == "int"):=by
    simp only[tys,mem_cons,not_mem_nil,or_false]at ht;rcases ht with rfl|rfl|rfl|rfl|rfl|rfl|rfl<;>first|rfl| (exfalso;revert h1;decide)
   show Q (.bl (!yh t "bool")) H;rw[e];exact k
  ·have e:(t == "int")=false:=by
    simp only[tys,mem_cons,not_mem_nil,or_false]at ht;rcases ht with rfl|rfl|rfl|rfl|rfl|rfl|rfl<;>first|rfl| (exfalso;revert h1;decide)
   show Q (.bl false) H;rw[<-e];exact k
theorem L6:cE ["thing"] ["thing"] (cB mP):={}
theorem Dh {f fW:Addr}{fd fdW:FuncData}(F:oj K "is_hour" "is_hour" mP f fd) (DW:Df K mg "is_whole" iG ["thing"] fW fdW) (T:Txt K mg kw C):dO P w K mg base mG 2 f fd ["thing"] (lI K):=by
 have GW:dO P w K mg base mG 1 fW fdW ["thing"] (xF K):=zQ DW.fn T;refine F.ok L6 (λvs H Q E h=>?_) (λcdv A outer s H vs Q E hr h=>?_)
 ·obtain⟨x,t,rfl,_⟩:=h
  rfl
 ·obtain⟨x,t,rfl,ty,ht,k⟩:=h
  refine⟨_,jC (oU (rK (xx GW hr rfl DW.nm DW.fn.kp DW.bi .nil wx (fc (pv 0) jR))
   (rm (ic tG tG mK (pv 0) (D5 ma mK mK))))),?_⟩
  refine⟨_,rfl,x,t,rfl,ty,ht,_,rfl,?_⟩;refine c8 (λh1=>?_) (λh1=>?_)
  ·have e:t= "int" :=eq_of_beq h1
   subst e;obtain⟨i,rfl⟩:=ty_int ty
   ·refine⟨_,rfl,_,_,rfl,rfl,_,rfl,?_⟩
    refine c8 (λh2=>?_) (λh2=>?_)
    ·refine⟨_,_,rfl,rfl,⟨by decide,by decide,by decide⟩,_,_,rfl,rfl,?_⟩
     have e2:uj (.int i)=decide (i<=10 ^ Int.toNat 18):=by
      show(decide (0<=i) && decide (i<=10 ^ Int.toNat 18))=_;rw[h2,Bool.true_and]
     rw[e2]at k;exact k
    ·have e2:uj (.int i)=false:=by
      show(decide (0<=i) && decide (i<=10 ^ Int.toNat 18))=_;rw[eq_false_iff.mpr h2,Bool.false_and]
     rw[e2]at k;exact k
  ·have e2:uj x=false:=by
    cases x with
    |int i=>exact absurd (beq_iff_eq.mpr (xV ty)) h1
    |_=>rfl
   rw[e2]at k;exact k
theorem Mf:cE ["thing"] ["thing"] (cB jB):={}
theorem Dg (F:oj K "is_name" "is_name" jB f fd) (T:Txt K mg kw C):dO P w K mg base mG 1 f fd ["thing"] (pj K):=by
 refine F.ok Mf (λvs H Q E h=>?_) (λcdv A outer s H vs Q E hr h=>?_)
 ·obtain⟨x,t,rfl,_⟩:=h
  rfl
 ·obtain⟨x,t,rfl,ty,ht,hz,k⟩:=h
  refine⟨_,uF (DM (PW.pt (D0 (vn (u4 (ig i6 rfl T.b_isinstance cG (fc (pv 0) (fc (nj (v:=.ty "str") rfl T.b_str vJ rfl) jR)))))
    (Ak (vn (kO tG tG mK (ig qQ rfl T.b_len dD (fc (pv 0) jR)) mK))))) (jC (oU DE)) wO)
   (jC (oU (rK (ig (qx rfl) rfl T.b_all mR (fc (Bf (sc:=cB jB) (N:=["thing"]) (is:=[]) (ns:=[]) rfl (F3 (pv 0))
     {} (λ_ _ _ _ _=>ic qi qi vM (pv 0) vM)) jR))
    (rm (wB fN (pv 0) (lG (v:=.ref kw) rfl T.kwm rfl) (by with_unfolding_all rfl)))))),?_⟩
  refine⟨_,rfl,_,_,_,_,rfl,ty,dz ht (by decide),_,rfl,?_⟩;by_cases hs:t= "str"
  ·subst hs
   obtain⟨z,rfl⟩:=ty_str ty
   ·have hz':=hz z rfl
    refine cR ?_;refine⟨_,rfl,z,rfl,hz',_,_,rfl,rfl,_,rfl,?_⟩;by_cases h1:1<=(z.length:Int)
    ·rw[decide_eq_true h1]
     refine dv ⟨_,_,rfl,rfl,_,rfl,?_⟩;by_cases h2:(z.length:Int)<=12
     ·rw[decide_eq_true h2]
      refine cR ?_;refine⟨_,rfl,z,rfl,Eu (λv=>.bl (i9 v)) hz' (λv H2 Q' hv sm q'=>?_) λD hD=>?_⟩
      ·obtain⟨c,_,rfl⟩:=mem_map.mp hv
       refine⟨_,rfl,_,_,rfl,rfl,_,rfl,c8 (λh=>⟨_,_,rfl,rfl,?_⟩) (λh=>?_)⟩
       ·have e:i9 (.str ⟨#[c]⟩)= !decide (("z" :Str).cps.toList < (⟨#[c]⟩:Str).cps.toList):=by
         show(!decide ((⟨#[c]⟩:Str).cps.toList < ("a" :Str).cps.toList) && _)=_;rw[h,Bool.true_and]
        rw[e]at q';exact q'
       ·have e:i9 (.str ⟨#[c]⟩)=false:=by
         show(!decide ((⟨#[c]⟩:Str).cps.toList < ("a" :Str).cps.toList) && _)=_;rw[eq_false_iff.mpr h,Bool.false_and]
        rw[e]at q';exact q'
      ·refine⟨D,(signs z).map i9,rfl,cH.of (cz.trans (by rw[map_map];rfl)),_,rfl,?_⟩
       have e:dJ z=(((signs z).map i9).all id && !wW (.str z) (kept.map V.str)):=by
        unfold dJ;rw[decide_eq_true h1,decide_eq_true h2,Bool.true_and,Bool.true_and]
       have k':=k _ (cC.upd (o:=.lst (((signs z).map λv=>V.bl (i9 v)))) hD);have k2:Q (.bl (dJ z)) _:=k';rw[e]at k2;refine c8 (λh=>?_) (λh=>?_)
       ·rw[h,Bool.true_and]at k2
        refine⟨_,rfl,kw,_,rfl,.inr (.inr T.kwt),rfl,?_,k2⟩
        decide+kernel
       ·rw[eq_false_iff.mpr h,Bool.false_and]at k2
        exact k2
     ·rw[decide_eq_false h2]
      refine dv ?_;have e:dJ z=false:=by
       unfold dJ;rw[decide_eq_false h2,Bool.false_and,Bool.and_false]
      have k2:Q (.bl (dJ z)) H:=k H (cC.refl H);rw[e]at k2;exact k2
    ·rw[decide_eq_false h1]
     refine cR ⟨_,rfl,dv ?_⟩;have e:dJ z=false:=by
      unfold dJ;rw[decide_eq_false h1,Bool.false_and]
     have k2:Q (.bl (dJ z)) H:=k H (cC.refl H);rw[e]at k2;exact k2
  ·have e:yh t "str" =false:=by
    unfold yh;rw[beq_eq_false_iff_ne.mpr hs,Bool.false_or];exact Bool.and_false _
   rw[e];refine dv (dv ?_);have e2:n5 x=false:=by
    cases x with
    |str z=>exact absurd (xI ty) hs
    |_=>rfl
   have k2:=k H (cC.refl H);rw[e2]at k2;exact k2
theorem DP{α:Type}{xs:List α}{i:Int}(h0:0<=i)(h1:i < xs.length):∃v,pQ xs i=some v/\v∈xs:=by
 have hj:i.toNat < xs.length:=by omega
 have e:((i.toNat:Nat):Int)=i:=Int.toNat_of_nonneg h0;refine⟨xs[i.toNat],?_,getElem_mem hj⟩;have:=cQ (xs:=xs) (j:=i.toNat) (v:=xs[i.toNat]) (by simp[hj]);rw[e]at this;exact this
theorem mQ:cE ["thing", "most"] ["thing", "most"] (cB fq):={}
theorem vd (D:Df K mg "is_list_up_to" fq ["thing", "most"] f fd) (T:Txt K mg kw C):Gd P w K mg base 1 "is_list_up_to" gT:=by
 refine aF D mQ λX H vs Q E hh h=>?_;obtain⟨p,xs,m,rfl,hp,hm,k⟩:=h;obtain⟨S0,S1,_⟩:=hh.d7 [0,1];have B_isinstance:=hh.b T.b_isinstance;have B_len:=hh.b T.b_len;have B_list:=hh.b T.b_list;refine⟨_,(ag (au (aS (aD B_isinstance bK L2.cG (aA (aa S0) (J.ty B_list L2.dy))) (aZ (aR bH (aD B_len bq L2.dD (ak (aa S0))) (aa S1) (L2.cF _)))))),?_⟩;refine⟨_,rfl,_,_,_,_,rfl,.lst hp,dz (T:= "list") (by decide) (by decide),_,rfl,iP ?_⟩;refine⟨_,rfl,p,xs,rfl,.inl (cH.of hp),_,rfl,_,_,rfl,rfl,?_⟩;show Q (.bl (decide ((xs.length:Int)<=m))) H;rw[decide_eq_true hm];exact k
theorem nQ:cE ["thing", "length"] ["thing", "length"] (cB gL):={}
theorem xZ (D:Df K mg "is_tuple_of" gL ["thing", "length"] f fd) (T:Txt K mg kw C):Gd P w K mg base 1 "is_tuple_of" nK:=by
 refine aF D nQ λX H vs Q E hh h=>?_;obtain⟨p,xs,m,rfl,hp,hm,k⟩:=h;obtain⟨S0,S1,_⟩:=hh.d7 [0,1];have B_isinstance:=hh.b T.b_isinstance;have B_len:=hh.b T.b_len;have B_tuple:=hh.b T.b_tuple;refine⟨_,(ag (au (aS (aD B_isinstance bK L2.cG (aA (aa S0) (J.ty B_tuple L2.i7))) (aZ (aR aL (aD B_len bq L2.dD (ak (aa S0))) (aa S1) (L2.cF _)))))),?_⟩;refine⟨_,rfl,_,_,_,_,rfl,.tup hp,dz (T:= "tuple") (by decide) (by decide),_,rfl,iP ?_⟩;refine⟨_,rfl,p,xs,rfl,.inr (cU.of hp),_,rfl,rfl,?_⟩;rw[hm,decide_eq_true rfl];exact k
theorem qE:cE ["persons", "thing"] ["persons", "thing"] (cB iW):={}
theorem xY (D:Df K mg "is_person" iW ["persons", "thing"] f fd) (G_is_name:Gd P w K mg base 1 "is_name" (pj K)):Gd P w K mg base 2 "is_person" hV:=by
 refine aF D qE λX H vs Q E hh h=>?_;obtain⟨p,ps,z,rfl,hp,hP,hz,k⟩:=h;obtain⟨S0,S1,_⟩:=hh.d7 [0,1];have C_is_name:=hh.c G_is_name;have hn:=hP.nm z hz;refine⟨_,(ag (au (aS (aw C_is_name (ak (aa S1))) (aZ (aR J.fQ (aa S1) (aa S0) cw))))),?_⟩;refine⟨_,rfl,.str z, "str",rfl,.str z,by decide,mH hn,λH1 s1=>⟨_,rfl,fh hn ?_⟩⟩;refine⟨_,rfl,_,rfl,p,_,rfl,.inl (cH.of (s1 _ _ hp)),rfl,mB ps,?_⟩;show Q (.bl (wW (.str z) (ps.map V.str))) H1;rw[tD hz];exact k H1 s1
theorem iQ:cE ["persons", "one", "other"] ["persons", "one", "other"] (cB dR):={}
theorem yN (D:Df K mg "are_unlike_persons" dR ["persons", "one", "other"] f fd) (G_is_person:Gd P w K mg base 2 "is_person" hV):Gd P w K mg base 3 "are_unlike_persons" ku:=by
 refine aF D iQ λX H vs Q E hh h=>?_;obtain⟨p,ps,y,z,rfl,hp,hP,hy,hz,hne,k⟩:=h;obtain⟨S0,S1,S2,_⟩:=hh.d7 [0,1,2];have C_is_person:=hh.c G_is_person;refine⟨_,(ag (au (aS (aw C_is_person (aA (aa S0) (aa S1))) (aS (aw C_is_person (aA (aa S0) (aa S2))) (aZ (aR bU (aa S1) (aa S2) (L2.cF _))))))),?_⟩;refine⟨_,rfl,_,rfl,p,ps,y,rfl,hp,hP,hy,λH1 s1=>⟨_,rfl,dv ?_⟩⟩;refine⟨_,rfl,_,rfl,p,ps,z,rfl,s1 _ _ hp,hP,hz,λH2 s2=>⟨_,rfl,dv ?_⟩⟩;refine⟨_,rfl,_,rfl,rfl,?_⟩;rw[decide_eq_false (by intro e;cases e;exact hne rfl)];exact k H2 (s1.trans s2)
theorem wj:cE ["thing"] ["thing"] (cB lX):={}
theorem CY (D:Df K mg "is_tale" lX ["thing"] f fd) (T:Txt K mg kw C) (G_is_name:Gd P w K mg base 1 "is_name" (pj K)):Gd P w K mg base 2 "is_tale" vX:=by
 refine aF D wj λX H vs Q E hh h=>?_;obtain⟨t,ws,rfl,ht,w1,w6,hw,k⟩:=h;obtain⟨S0,_⟩:=hh.d7 [0];have B_all:=hh.b T.b_all;have B_isinstance:=hh.b T.b_isinstance;have B_len:=hh.b T.b_len;have B_tuple:=hh.b T.b_tuple;have g_MOST_WORDS:∀{p:Pos},J.JE X (.Name "MOST_WORDS" p) (L2.tC (.int 6)):=bD hh T.g_MOST_WORDS rfl (by decide);have CI_is_name:=hh.ci G_is_name;have hl:(ws.map V.str).length=ws.length:=length_map ..;have hz:(ws.map V.str).length<=sizeLine:=by
  have:sizeLine=16777216:=sizeLine_eq;omega
 refine⟨_,(ah (aH (aU (bg (aY (aQ (aD B_isinstance bK L2.cG (aA (aa S0) (J.ty B_tuple L2.i7))))) (bz (aY (J.kO bH bH ae (aD B_len bq L2.dD (ak (aa S0))) g_MOST_WORDS L2.j6)))))
 (ag (au a5))
 aJ)
 (ag (au (aD B_all (cm hh.calm) L2.mR (ak (bV (is:=[]) (ns:=[]) hh.calm (J.wo (aa S0)) {} (λ_ _ _ _ _=>(aw (CI_is_name.lc rfl) (ak (bY rfl (by decide) (by decide))))) hh.hsc hh.hN)))))),?_⟩
 refine⟨_,rfl,_,_,_,_,rfl,.tup ht,dz (T:= "tuple") (by decide) (by decide),_,rfl,iN ?_⟩;refine⟨_,rfl,t,_,rfl,.inr (cU.of ht),_,_,rfl,rfl,_,rfl,fh (decide_eq_true (by omega)) ⟨_,_,rfl,rfl,_,rfl,?_⟩⟩;rw[decide_eq_true (show((ws.map V.str).length:Int)<=6 by omega)];refine cR ?_;refine⟨_,rfl,t,rfl,⟨_,cU.of ht⟩,BB (λv=>.bl (n5 v)) (cU.of ht) hz (λv H2 Q' hv sm q'=>?_) (λD' H' hD sm hl'=>?_)⟩
 ·obtain⟨x,hx,rfl⟩:=mem_map.mp hv
  exact⟨_,rfl,.str x, "str",rfl,.str x,by decide,mH (hw x hx),λH3 s3=>q' H3 s3⟩
 ·refine⟨D',ws.map dJ,rfl,cH.of (hl'.trans (by rw[map_map,map_map];rfl)),?_⟩
  rw[all_true hw];exact k H' sm
theorem tK:cE ["persons", "thing"] ["persons", "thing"] (cB jP):={}
theorem zR (D:Df K mg "is_sight" jP ["persons", "thing"] f fd) (G_is_tuple_of:Gd P w K mg base 1 "is_tuple_of" nK) (G_is_person:Gd P w K mg base 2 "is_person" hV)
  (G_is_hour:Gd P w K mg base 2 "is_hour" (lI K)) (G_is_tale:Gd P w K mg base 2 "is_tale" vX):Gd P w K mg base 3 "is_sight" qV:=by
 refine aF D tK λX H vs Q E hh h=>?_;obtain⟨p,ps,v,rfl,hp,hP,⟨a,z,hr,ta,ws,rfl,ha,hz,hho,hta,w1,w6,hw⟩,k⟩:=h;obtain⟨S0,S1,_⟩:=hh.d7 [0,1];have C_is_hour:=hh.c G_is_hour;have C_is_person:=hh.c G_is_person;have C_is_tale:=hh.c G_is_tale;have C_is_tuple_of:=hh.c G_is_tuple_of;refine⟨_,(ah (aH (aY (aQ (aw C_is_tuple_of (aA (aa S1) ae))))
 (ag (au a5))
 aJ)
 (ag (au (aS (aw C_is_person (aA (aa S0) (af ao (aa S1) ae aj))) (aS (aw C_is_hour (ak (af ao (aa S1) ae aj))) (aZ (aw C_is_tale (ak (af ao (aa S1) ae aj))))))))),?_⟩
 refine⟨_,rfl,a,_,3,rfl,ha,rfl,_,rfl,cR ?_⟩;refine⟨_,rfl,_,rfl,xT ha rfl ⟨p,ps,z,rfl,hp,hP,hz,λH1 s1=>⟨_,rfl,dv ?_⟩⟩⟩;refine⟨_,rfl,xT (s1 _ _ ha) rfl ⟨.int hr, "int",rfl,.int hr,by decide,_,rfl,fh (gU hho) ?_⟩⟩;exact⟨_,rfl,xT (s1 _ _ ha) rfl ⟨ta,ws,rfl,s1 _ _ hta,w1,w6,hw,λH2 s2=>k H2 (s1.trans s2)⟩⟩
theorem yx:cE ["thing"] ["thing"] (cB oA):={}
theorem EZ (D:Df K mg "is_way" oA ["thing"] f fd) (T:Txt K mg kw C):Gd P w K mg base 1 "is_way" zA:=by
 refine aF D yx λX H vs Q E hh h=>?_;obtain⟨z,rfl,hz,k⟩:=h;obtain⟨S0,_⟩:=hh.d7 [0];have B_isinstance:=hh.b T.b_isinstance;have B_str:=hh.b T.b_str;refine⟨_,(ag (au (aS (aD B_isinstance bK L2.cG (aA (aa S0) (J.ty B_str L2.vJ))) (aZ (aR J.fQ (aa S0) (aV (aA aO aO)) J.Ar))))),?_⟩;refine⟨_,rfl,_,_,_,_,rfl,.str z,dz (T:= "str") (by decide) (by decide),_,rfl,iP ?_⟩;refine⟨_,rfl,Gz,λq hq=>⟨q,_,rfl,.inr (cU.of cz),rfl,by decide+kernel,?_⟩⟩;show Q (.bl (wW (.str z) [.str "both",.str "one"])) _;have e:wW (.str z) [.str "both",.str "one"]=true:=by
  rcases hz with rfl|rfl<;>decide+kernel
 rw[e];exact k _ (cC.upd hq)
theorem vS:cE ["persons", "thing"] ["persons", "thing"] (cB mC):={}
theorem C8 (D:Df K mg "is_talk" mC ["persons", "thing"] f fd) (G_is_tuple_of:Gd P w K mg base 1 "is_tuple_of" nK) (G_are_unlike_persons:Gd P w K mg base 3 "are_unlike_persons" ku)
  (G_is_hour:Gd P w K mg base 2 "is_hour" (lI K)) (G_is_way:Gd P w K mg base 1 "is_way" zA):Gd P w K mg base 4 "is_talk" vN:=by
 refine aF D vS λX H vs Q E hh h=>?_;obtain⟨p,ps,v,rfl,hp,hP,⟨a,hr,y,z,wy,rfl,ha,hho,hy,hz,hne,hw⟩,k⟩:=h;obtain⟨S0,S1,_⟩:=hh.d7 [0,1];have C_are_unlike_persons:=hh.c G_are_unlike_persons;have C_is_hour:=hh.c G_is_hour;have C_is_tuple_of:=hh.c G_is_tuple_of;have C_is_way:=hh.c G_is_way;refine⟨_,(ah (aH (aY (aQ (aw C_is_tuple_of (aA (aa S1) ae))))
 (ag (au a5))
 aJ)
 (ag (au (aS (aw C_is_hour (ak (af ao (aa S1) ae aj))) (aS (aw C_are_unlike_persons (aM (aa S0) (af ao (aa S1) ae aj) (af ao (aa S1) ae aj))) (aZ (aw C_is_way (ak (af ao (aa S1) ae aj))))))))),?_⟩
 refine⟨_,rfl,a,_,4,rfl,ha,rfl,_,rfl,cR ?_⟩;refine⟨_,rfl,xT ha rfl ⟨.int hr, "int",rfl,.int hr,by decide,_,rfl,fh (gU hho) ?_⟩⟩;refine⟨_,rfl,_,rfl,xT ha rfl ⟨_,rfl,xT ha rfl ⟨p,ps,y,z,rfl,hp,hP,hy,hz,hne,λH1 s1=>⟨_,rfl,dv ?_⟩⟩⟩⟩;exact⟨_,rfl,xT (s1 _ _ ha) rfl ⟨wy,rfl,hw,λH2 s2=>k H2 (s1.trans s2)⟩⟩
theorem vF:cE ["begin", "end"] ["begin", "end"] (cB lU):={}
theorem Dm (D:Df K mg "is_span" lU ["begin", "end"] f fd) (G_is_hour:Gd P w K mg base 2 "is_hour" (lI K)):Gd P w K mg base 3 "is_span" uY:=by
 refine aF D vF λX H vs Q E hh h=>?_;obtain⟨a,b,rfl,h1,h2,h3,k⟩:=h;obtain⟨S0,S1,_⟩:=hh.d7 [0,1];have C_is_hour:=hh.c G_is_hour;refine⟨_,(ag (au (aS (aw C_is_hour (ak (aa S0))) (aS (aw C_is_hour (ak (aa S1))) (aZ (aR bH (aa S0) (aa S1) (L2.cF _))))))),?_⟩;refine⟨_,rfl,.int a, "int",rfl,.int a,by decide,_,rfl,fh (gU h1) ?_⟩;refine⟨_,rfl,.int b, "int",rfl,.int b,by decide,_,rfl,fh (gU h2) ?_⟩;refine⟨_,rfl,_,rfl,_,_,rfl,rfl,?_⟩;show Q (.bl (decide (a<=b))) H;rw[decide_eq_true h3];exact k
theorem kh:cE ["persons", "kind", "person", "behind"] ["persons", "kind", "person", "behind"] (cB eN):={}
theorem zI (D:Df K mg "is_short_saying" eN ["persons", "kind", "person", "behind"] f fd) (G_are_unlike_persons:Gd P w K mg base 3 "are_unlike_persons" ku)
  (G_is_person:Gd P w K mg base 2 "is_person" hV) (G_is_hour:Gd P w K mg base 2 "is_hour" (lI K)):Gd P w K mg base 4 "is_short_saying" sv:=by
 refine aF D kh λX H vs Q E hh h=>?_;obtain⟨p,ps,kd,y,b,rfl,hp,hP,hy,hk,k⟩:=h;obtain⟨S0,S1,S2,S3,_⟩:=hh.d7 [0,1,2,3];have C_are_unlike_persons:=hh.c G_are_unlike_persons;have C_is_hour:=hh.c G_is_hour;have C_is_person:=hh.c G_is_person;refine⟨_,(ah (aH (aB aL (aa S1) aO (L2.cF _))
 (ag (au (aw C_are_unlike_persons (aM (aa S0) (aa S2) (aa S3)))))
 aJ)
 (ah (aH (aY (aQ (aw C_is_person (aA (aa S0) (aa S2)))))
 (ag (au a5))
 aJ)
 (ah (aH (aB aL (aa S1) aO (L2.cF _))
 (ag (au (J.qv (aR b5 (aa S3) bC (L2.cF _)) (aZ (aw C_is_hour (ak (aa S3)))))))
 aJ)
 (ag (au (aS (aR aL (aa S1) aO (L2.cF _)) (aZ (aw C_is_hour (ak (aa S3)))))))))),?_⟩
 refine⟨_,rfl,rfl,_,rfl,?_⟩;rcases hk with ⟨rfl,z,rfl,hz,hne⟩|⟨rfl,hb⟩|⟨rfl,h,rfl,hho⟩
 ·refine fh (decide_eq_true rfl) ?_
  exact⟨_,rfl,_,rfl,_,rfl,p,ps,y,z,rfl,hp,hP,hy,hz,hne,k⟩
 ·refine iN ?_
  refine⟨_,rfl,_,rfl,p,ps,y,rfl,hp,hP,hy,λH1 s1=>⟨_,rfl,cR ?_⟩⟩;refine⟨_,rfl,rfl,_,rfl,fh (decide_eq_true rfl) ?_⟩;rcases hb with rfl|⟨h,rfl,hho⟩
  ·exact⟨_,rfl,rfl,_,rfl,fh (decide_eq_true rfl) (k H1 s1)⟩
  ·refine⟨_,rfl,rfl,_,rfl,gY (by rw[decide_eq_true_iff];intro e;cases e) ?_⟩
   refine⟨_,rfl,.int h, "int",rfl,.int h,by decide,?_⟩;rw[gU hho];exact k H1 s1
 ·refine iN ?_
  refine⟨_,rfl,_,rfl,p,ps,y,rfl,hp,hP,hy,λH1 s1=>⟨_,rfl,cR ?_⟩⟩;refine⟨_,rfl,rfl,_,rfl,iN ?_⟩;refine⟨_,rfl,rfl,_,rfl,fh (decide_eq_true rfl) ?_⟩;refine⟨_,rfl,.int h, "int",rfl,.int h,by decide,?_⟩;rw[gU hho];exact k H1 s1
theorem qD:cE ["persons", "thing"] ["persons", "thing"] (cB i8):={}
theorem xJ (D:Df K mg "is_saying" i8 ["persons", "thing"] f fd) (T:Txt K mg kw C) (G_is_person:Gd P w K mg base 2 "is_person" hV) (G_is_span:Gd P w K mg base 3 "is_span" uY)
  (G_is_short_saying:Gd P w K mg base 4 "is_short_saying" sv):Gd P w K mg base 5 "is_saying" pq:=by
 refine aF D qD λX H vs Q E hh h=>?_;obtain⟨p,ps,v,rfl,hp,hP,⟨a,rfl,hk⟩,k⟩:=h;obtain⟨S0,S1,_⟩:=hh.d7 [0,1];have B_isinstance:=hh.b T.b_isinstance;have B_len:=hh.b T.b_len;have B_str:=hh.b T.b_str;have B_tuple:=hh.b T.b_tuple;have C_is_person:=hh.c G_is_person;have C_is_short_saying:=hh.c G_is_short_saying;have C_is_span:=hh.c G_is_span;refine⟨_,(ah (aH (aU (bg (aY (aQ (aD B_isinstance bK L2.cG (aA (aa S1) (J.ty B_tuple L2.i7))))) (bg (aB aL (aD B_len bq L2.dD (ak (aa S1))) ae (L2.cF _)) (bz (aY (aQ (aD B_isinstance bK L2.cG (aA (af ao (aa S1) ae aj) (J.ty B_str L2.vJ)))))))))
 (ag (au a5))
 aJ)
 (ah (aH (aB aL (aD B_len bq L2.dD (ak (aa S1))) ae (L2.cF _))
 (ag (au (aS (aR aL (af ao (aa S1) ae aj) aO (L2.cF _)) (aS (aw C_is_person (aA (aa S0) (af ao (aa S1) ae aj))) (aZ (aw C_is_span (aA (af ao (aa S1) ae aj) (af ao (aa S1) ae aj))))))))
 aJ)
 (ag (au (aS (aR aL (aD B_len bq L2.dD (ak (aa S1))) ae (L2.cF _)) (aZ (aw C_is_short_saying (b8 (aa S0) (af ao (aa S1) ae aj) (af ao (aa S1) ae aj) (af ao (aa S1) ae aj))))))))),?_⟩
 rcases hk with ⟨y,h,ha,hy,hho⟩|⟨y,b,ha,hy,hb⟩|⟨y,h,h2,ha,hy,hho,hho2,hle⟩|⟨y,z,ha,hy,hz,hne⟩
 ·refine⟨_,rfl,_,_,_,_,rfl,.tup ha,dz (T:= "tuple") (by decide) (by decide),_,rfl,iN ?_⟩
  refine⟨_,rfl,a,_,rfl,.inr (cU.of ha),rfl,_,rfl,gY (j9 (n:=3) rfl (by decide)) ?_⟩;refine⟨_,rfl,xT ha rfl ⟨_,_,_,_,rfl,.str _,dz (T:= "str") (by decide) (by decide),_,rfl,iN ?_⟩⟩;refine⟨_,rfl,a,_,rfl,.inr (cU.of ha),rfl,_,rfl,gY (j9 (n:=3) rfl (by decide)) ?_⟩;refine⟨_,rfl,a,_,rfl,.inr (cU.of ha),rfl,_,rfl,fh (rO (n:=3) rfl (by decide)) ?_⟩;exact⟨_,rfl,_,rfl,xT ha rfl ⟨_,rfl,xT ha rfl ⟨_,rfl,xT ha rfl ⟨p,ps,_,y,_,rfl,hp,hP,hy,.inr (.inr ⟨rfl,h,rfl,hho⟩),k⟩⟩⟩⟩
 ·refine⟨_,rfl,_,_,_,_,rfl,.tup ha,dz (T:= "tuple") (by decide) (by decide),_,rfl,iN ?_⟩
  refine⟨_,rfl,a,_,rfl,.inr (cU.of ha),rfl,_,rfl,gY (j9 (n:=3) rfl (by decide)) ?_⟩;refine⟨_,rfl,xT ha rfl ⟨_,_,_,_,rfl,.str _,dz (T:= "str") (by decide) (by decide),_,rfl,iN ?_⟩⟩;refine⟨_,rfl,a,_,rfl,.inr (cU.of ha),rfl,_,rfl,gY (j9 (n:=3) rfl (by decide)) ?_⟩;refine⟨_,rfl,a,_,rfl,.inr (cU.of ha),rfl,_,rfl,fh (rO (n:=3) rfl (by decide)) ?_⟩;exact⟨_,rfl,_,rfl,xT ha rfl ⟨_,rfl,xT ha rfl ⟨_,rfl,xT ha rfl ⟨p,ps,_,y,_,rfl,hp,hP,hy,.inr (.inl ⟨rfl,hb⟩),k⟩⟩⟩⟩
 ·refine⟨_,rfl,_,_,_,_,rfl,.tup ha,dz (T:= "tuple") (by decide) (by decide),_,rfl,iN ?_⟩
  refine⟨_,rfl,a,_,rfl,.inr (cU.of ha),rfl,_,rfl,gY (j9 (n:=4) rfl (by decide)) ?_⟩;refine⟨_,rfl,xT ha rfl ⟨_,_,_,_,rfl,.str _,dz (T:= "str") (by decide) (by decide),_,rfl,iN ?_⟩⟩;refine⟨_,rfl,a,_,rfl,.inr (cU.of ha),rfl,_,rfl,fh (rO (n:=4) rfl (by decide)) ?_⟩;refine⟨_,rfl,xT ha rfl ⟨rfl,_,rfl,iP ?_⟩⟩;refine⟨_,rfl,_,rfl,xT ha rfl ⟨p,ps,y,rfl,hp,hP,hy,λH1 s1=>⟨_,rfl,dv ?_⟩⟩⟩;exact⟨_,rfl,xT (s1 _ _ ha) rfl ⟨_,rfl,xT (s1 _ _ ha) rfl ⟨h,h2,rfl,hho,hho2,hle,k H1 s1⟩⟩⟩
 ·refine⟨_,rfl,_,_,_,_,rfl,.tup ha,dz (T:= "tuple") (by decide) (by decide),_,rfl,iN ?_⟩
  refine⟨_,rfl,a,_,rfl,.inr (cU.of ha),rfl,_,rfl,gY (j9 (n:=3) rfl (by decide)) ?_⟩;refine⟨_,rfl,xT ha rfl ⟨_,_,_,_,rfl,.str _,dz (T:= "str") (by decide) (by decide),_,rfl,iN ?_⟩⟩;refine⟨_,rfl,a,_,rfl,.inr (cU.of ha),rfl,_,rfl,gY (j9 (n:=3) rfl (by decide)) ?_⟩;refine⟨_,rfl,a,_,rfl,.inr (cU.of ha),rfl,_,rfl,fh (rO (n:=3) rfl (by decide)) ?_⟩;exact⟨_,rfl,_,rfl,xT ha rfl ⟨_,rfl,xT ha rfl ⟨_,rfl,xT ha rfl ⟨p,ps,_,y,_,rfl,hp,hP,hy,.inl ⟨rfl,z,rfl,hz,hne⟩,k⟩⟩⟩⟩
theorem oy:cE ["thing"] ["thing"] (cB gJ):={}
theorem u6 (D:Df K mg "are_persons" gJ ["thing"] f fd) (T:Txt K mg kw C) (G_is_list_up_to:Gd P w K mg base 1 "is_list_up_to" gT) (G_is_name:Gd P w K mg base 1 "is_name" (pj K)):Gd P w K mg base 2 "are_persons" mF:=by
 refine aF D oy λX H vs Q E hh h=>?_;obtain⟨p,ps,rfl,hp,hP,k⟩:=h;obtain⟨S0,_⟩:=hh.d7 [0];have B_all:=hh.b T.b_all;have B_len:=hh.b T.b_len;have B_set:=hh.b T.b_set;have g_MOST_PERSONS:∀{p:Pos},J.JE X (.Name "MOST_PERSONS" p) (L2.tC (.int 24)):=bD hh T.g_MOST_PERSONS rfl (by decide);have C_is_list_up_to:=hh.c G_is_list_up_to;have CI_is_name:=hh.ci G_is_name;have hl:(ps.map V.str).length=ps.length:=length_map ..;have h24:=hP.hi;have h1:=hP.lo;have hz:(ps.map V.str).length<=sizeLine:=by
  have:sizeLine=16777216:=sizeLine_eq;omega
 refine⟨_,(ah (aH (aU (bg (aY (aQ (aw C_is_list_up_to (aA (aa S0) g_MOST_PERSONS)))) (bz (aB aL (aD B_len bq L2.dD (ak (aa S0))) ae (L2.cF _)))))
 (ag (au a5))
 aJ)
 (ag (au (aS (aD B_all (cm hh.calm) L2.mR (ak (bV (is:=[]) (ns:=[]) hh.calm (aP (aa S0)) {} (λ_ _ _ _ _=>(aw (CI_is_name.lc rfl) (ak (bY rfl (by decide) (by decide))))) hh.hsc hh.hN))) (aZ (aR aL (aD B_len J.gI L2.dD (ak (br B_set (J.lN hh.calm) L2.EV (ak (aa S0))))) (aD B_len bq L2.dD (ak (aa S0))) (L2.cF _))))))),?_⟩
 refine⟨_,rfl,p,_,24,rfl,hp,(by omega),_,rfl,cR ?_⟩;refine⟨_,rfl,p,_,rfl,.inl (cH.of hp),rfl,_,rfl,gY ?_ ?_⟩
 ·rw[decide_eq_true_iff]
  intro e;injection e with e
  omega
 ·refine⟨_,rfl,p,rfl,⟨_,cH.of hp⟩,kC (λv=>.bl (n5 v)) (cH.of hp) hz (λv H2 Q' hv sm q'=>?_) (λD' H' hD sm hl'=>?_)⟩
  ·obtain⟨x,hx,rfl⟩:=mem_map.mp hv
   exact⟨_,rfl,.str x, "str",rfl,.str x,by decide,mH (hP.nm x hx),λH3 s3=>q' H3 s3⟩
  ·refine⟨D',ps.map dJ,rfl,cH.of (hl'.trans (by rw[map_map,map_map];rfl)),_,rfl,fh (all_true hP.nm) ?_⟩
   refine⟨_,rfl,p,ps,rfl,cH.of (sm _ _ hp),hP.nd,by omega,λq hq=>?_⟩;refine⟨q,ps.length,rfl,cz,_,rfl,p,_,rfl,.inl (cH.of ((cC.upd hq) _ _ (sm _ _ hp))),rfl,?_⟩;rw[hl,decide_eq_true rfl];exact k _ (sm.trans (cC.upd hq))
theorem pJ:cE ["persons", "thing"] ["persons", "thing"] (cB iJ):={}
theorem pS (D:Df K mg "are_sights" iJ ["persons", "thing"] f fd) (T:Txt K mg kw C) (G_is_list_up_to:Gd P w K mg base 1 "is_list_up_to" gT) (G_is_sight:Gd P w K mg base 3 "is_sight" qV):Gd P w K mg base 4 "are_sights" (iC dU 24):=by
 refine aF D pJ λX H vs Q E hh h=>?_;obtain⟨p,q,ps,xs,rfl,hp,hP,hq,hn,hg,k⟩:=h;obtain⟨S0,S1,_⟩:=hh.d7 [0,1];have B_all:=hh.b T.b_all;have g_MOST_SIGHTS:∀{p:Pos},J.JE X (.Name "MOST_SIGHTS" p) (L2.tC (.int 24)):=bD hh T.g_MOST_SIGHTS rfl (by decide);have C_is_list_up_to:=hh.c G_is_list_up_to;have CI_is_sight:=hh.ci G_is_sight;have hz:xs.length<=sizeLine:=by
  have:sizeLine=16777216:=sizeLine_eq;omega
 refine⟨_,(ag (au (aS (aw C_is_list_up_to (aA (aa S1) g_MOST_SIGHTS)) (aZ (aD B_all (cm hh.calm) L2.mR (ak (bV (is:=[0]) (ns:=["persons"]) hh.calm (aP (aa S1)) {} (λ_ _ _ _ _=>(aw (CI_is_sight.lc rfl) (aA (cy (i:=0) rfl rfl (by decide) (by decide)) (bY rfl (by decide) (by decide))))) hh.hsc hh.hN))))))),?_⟩;refine⟨_,rfl,q,_,24,rfl,hq,(by omega),_,rfl,dv ?_⟩;refine⟨_,rfl,q,rfl,⟨_,cH.of hq⟩,kC (λ_=>.bl true) (cH.of hq) hz (λv H2 Q' hv sm q'=>?_) (λD' H' hD sm hl'=>?_)⟩
 ·exact⟨_,rfl,_,rfl,p,ps,v,rfl,sm _ _ hp,hP,(hg v hv).mono (Tk.of sm),λH3 s3=>q' H3 s3⟩
 ·refine⟨D',xs.map λ_=>true,rfl,cH.of (hl'.trans (by rw[map_map];rfl)),?_⟩
  rw[all_true λ_ _=>rfl];exact k H' sm
theorem qB:cE ["persons", "thing"] ["persons", "thing"] (cB iY):={}
theorem rL (D:Df K mg "are_talks" iY ["persons", "thing"] f fd) (T:Txt K mg kw C) (G_is_list_up_to:Gd P w K mg base 1 "is_list_up_to" gT) (G_is_talk:Gd P w K mg base 4 "is_talk" vN):Gd P w K mg base 5 "are_talks" (iC eT 120):=by
 refine aF D qB λX H vs Q E hh h=>?_;obtain⟨p,q,ps,xs,rfl,hp,hP,hq,hn,hg,k⟩:=h;obtain⟨S0,S1,_⟩:=hh.d7 [0,1];have B_all:=hh.b T.b_all;have g_MOST_TALKS:∀{p:Pos},J.JE X (.Name "MOST_TALKS" p) (L2.tC (.int 120)):=bD hh T.g_MOST_TALKS rfl (by decide);have C_is_list_up_to:=hh.c G_is_list_up_to;have CI_is_talk:=hh.ci G_is_talk;have hz:xs.length<=sizeLine:=by
  have:sizeLine=16777216:=sizeLine_eq;omega
 refine⟨_,(ag (au (aS (aw C_is_list_up_to (aA (aa S1) g_MOST_TALKS)) (aZ (aD B_all (cm hh.calm) L2.mR (ak (bV (is:=[0]) (ns:=["persons"]) hh.calm (aP (aa S1)) {} (λ_ _ _ _ _=>(aw (CI_is_talk.lc rfl) (aA (cy (i:=0) rfl rfl (by decide) (by decide)) (bY rfl (by decide) (by decide))))) hh.hsc hh.hN))))))),?_⟩;refine⟨_,rfl,q,_,120,rfl,hq,(by omega),_,rfl,dv ?_⟩;refine⟨_,rfl,q,rfl,⟨_,cH.of hq⟩,kC (λ_=>.bl true) (cH.of hq) hz (λv H2 Q' hv sm q'=>?_) (λD' H' hD sm hl'=>?_)⟩
 ·exact⟨_,rfl,_,rfl,p,ps,v,rfl,sm _ _ hp,hP,(hg v hv).mono (Tk.of sm),λH3 s3=>q' H3 s3⟩
 ·refine⟨D',xs.map λ_=>true,rfl,cH.of (hl'.trans (by rw[map_map];rfl)),?_⟩
  rw[all_true λ_ _=>rfl];exact k H' sm
theorem nX:cE ["persons", "thing"] ["persons", "thing"] (cB gD):={}
theorem oG (D:Df K mg "are_sayings" gD ["persons", "thing"] f fd) (T:Txt K mg kw C) (G_is_list_up_to:Gd P w K mg base 1 "is_list_up_to" gT) (G_is_saying:Gd P w K mg base 5 "is_saying" pq):Gd P w K mg base 6 "are_sayings" (iC eK 60):=by
 refine aF D nX λX H vs Q E hh h=>?_;obtain⟨p,q,ps,xs,rfl,hp,hP,hq,hn,hg,k⟩:=h;obtain⟨S0,S1,_⟩:=hh.d7 [0,1];have B_all:=hh.b T.b_all;have g_MOST_SAYINGS:∀{p:Pos},J.JE X (.Name "MOST_SAYINGS" p) (L2.tC (.int 60)):=bD hh T.g_MOST_SAYINGS rfl (by decide);have C_is_list_up_to:=hh.c G_is_list_up_to;have CI_is_saying:=hh.ci G_is_saying;have hz:xs.length<=sizeLine:=by
  have:sizeLine=16777216:=sizeLine_eq;omega
 refine⟨_,(ag (au (aS (aw C_is_list_up_to (aA (aa S1) g_MOST_SAYINGS)) (aZ (aD B_all (cm hh.calm) L2.mR (ak (bV (is:=[0]) (ns:=["persons"]) hh.calm (aP (aa S1)) {} (λ_ _ _ _ _=>(aw (CI_is_saying.lc rfl) (aA (cy (i:=0) rfl rfl (by decide) (by decide)) (bY rfl (by decide) (by decide))))) hh.hsc hh.hN))))))),?_⟩;refine⟨_,rfl,q,_,60,rfl,hq,(by omega),_,rfl,dv ?_⟩;refine⟨_,rfl,q,rfl,⟨_,cH.of hq⟩,kC (λ_=>.bl true) (cH.of hq) hz (λv H2 Q' hv sm q'=>?_) (λD' H' hD sm hl'=>?_)⟩
 ·exact⟨_,rfl,_,rfl,p,ps,v,rfl,sm _ _ hp,hP,(hg v hv).mono (Tk.of sm),λH3 s3=>q' H3 s3⟩
 ·refine⟨D',xs.map λ_=>true,rfl,cH.of (hl'.trans (by rw[map_map];rfl)),?_⟩
  rw[all_true λ_ _=>rfl];exact k H' sm
theorem yv:cE ["self", "persons", "sights", "talks", "sayings"] ["self", "persons", "sights", "talks", "sayings"] (cB hJ):={}
theorem B3 (F:oj K "__init__" "Book.__init__" hJ f fd) (mk:Mk K C f) (bi:Binds K fd ["self", "persons", "sights", "talks", "sayings"] []) (nm:mg "Book" =some (.ref C)) (T:Txt K mg kw C)
  (G_are_persons:Gd P w K mg base 2 "are_persons" mF) (G_are_sights:Gd P w K mg base 4 "are_sights" (iC dU 24)) (G_are_talks:Gd P w K mg base 5 "are_talks" (iC eT 120)) (G_are_sayings:Gd P w K mg base 6 "are_sayings" (iC eK 60)):
  Kd P w K mg base 7 "Book" C (wk C):=by
 refine J.BV F mk bi nm yv (λvs H Q E h=>?_) (λX H vs Q E hh h=>?_)
 ·obtain⟨x,dx,p,a,b,c,ps,ss,ts,ys,rfl,_⟩:=h
  rfl
 ·obtain⟨x,dx,p,a,b,c,ps,ss,ts,ys,rfl,hx,hp,ha,hb,hc,g,k⟩:=h
  obtain⟨S0,S1,S2,S3,S4,_⟩:=hh.d7 [0,1,2,3,4];have B_list:=hh.b T.b_list;have C_are_persons:=hh.c G_are_persons;have C_are_sayings:=hh.c G_are_sayings;have C_are_sights:=hh.c G_are_sights;have C_are_talks:=hh.c G_are_talks;obtain⟨hP,sl,sg,tl,tg,yl,yg⟩:=id g;obtain rfl:=hh.fK;refine⟨_,(ah (aH (aY (aQ (aw C_are_persons (ak (aa S1)))))
 J.fV
 aJ)
 (ah (aH (aY (aQ (aw C_are_sights (aA (aa S1) (aa S2)))))
 J.fV
 aJ)
 (ah (aH (aY (aQ (aw C_are_talks (aA (aa S1) (aa S3)))))
 J.fV
 aJ)
 (ah (aH (aY (aQ (aw C_are_sayings (aA (aa S1) (aa S4)))))
 J.fV
 aJ)
 (ah (J.mh (aa S0) (br B_list bE L2.dy (ak (aa S1))))
 (ah (J.mh (aa S0) (br B_list bE L2.dy (ak (aa S2))))
 (ah (J.mh (aa S0) (br B_list bE L2.dy (ak (aa S3))))
 (ag (J.mh (aa S0) (br B_list bE L2.dy (ak (aa S4)))))))))))),?_⟩
  refine⟨_,rfl,p,ps,rfl,hp,hP,λH1 s1=>⟨_,rfl,cR ?_⟩⟩;refine⟨_,rfl,_,rfl,p,a,ps,ss,rfl,s1 _ _ hp,hP,s1 _ _ ha,sl,λv hv=>(sg v hv).mono (Tk.of s1),λH2 s2'=>⟨_,rfl,cR ?_⟩⟩;have s2:=s1.trans s2';refine⟨_,rfl,_,rfl,p,b,ps,ts,rfl,s2 _ _ hp,hP,s2 _ _ hb,tl,λv hv=>(tg v hv).mono (Tk.of s2),λH3 s3'=>⟨_,rfl,cR ?_⟩⟩;have s3:=s2.trans s3';refine⟨_,rfl,_,rfl,p,c,ps,ys,rfl,s3 _ _ hp,hP,s3 _ _ hc,yl,λv hv=>(yg v hv).mono (Tk.of s3),λH4 s4'=>⟨_,rfl,cR ?_⟩⟩;have s4:=s3.trans s4';clear s1 s2' s2 s3' s3 s4';refine⟨_,rfl,p,_,rfl,.inl (cH.of (s4 _ _ hp)),λp' np=>⟨_,rfl,x,C,dx,[],rfl,(by rw[cD (cA (s4 _ _ hx) np)];exact s4 _ _ hx),T.cl,T.nP,(by show 0 < 1000;decide),?_⟩⟩;have xp:x≠p':=cA (s4 _ _ hx) np;have k1:∀d o,H4 d=some o->d≠x->upd (upd H4 p' (.lst (ps.map V.str))) x (.ins C dx (fE "kept_persons" (.ref p') [])) d=some o:=λd o e n=>by
   rw[cD n,cD (cA e np)];exact e
  have ax:a≠x:=pF (s4 _ _ ha) (s4 _ _ hx) (by intro z;cases z);have bx:b≠x:=pF (s4 _ _ hb) (s4 _ _ hx) (by intro z;cases z);have cx:c≠x:=pF (s4 _ _ hc) (s4 _ _ hx) (by intro z;cases z);refine⟨_,rfl,a,_,rfl,.inl (cH.of (k1 _ _ (s4 _ _ ha) ax)),λs' ns=>⟨_,rfl,x,C,dx,_,rfl,(by rw[cD (cA cz ns)];exact cz),T.cl,T.nS,(by show 1 < 1000;decide),?_⟩⟩;have xs:x≠s':=cA cz ns;have ps':p'≠s':=cA (by rw[cD xp.symm];exact cz) ns;have ns4:H4 s'=none:=by
   rw[cD xs.symm,cD ps'.symm]at ns;exact ns
  have k2:∀d o,H4 d=some o->d≠x->upd (upd (upd (upd H4 p' (.lst (ps.map V.str))) x (.ins C dx (fE "kept_persons" (.ref p') []))) s' (.lst ss)) x (.ins C dx (fE "kept_sights" (.ref s') (fE "kept_persons" (.ref p') []))) d=some o:=λd o e n=>by
   rw[cD n,cD (cA e ns4)];exact k1 d o e n
  refine⟨_,rfl,b,_,rfl,.inl (cH.of (k2 _ _ (s4 _ _ hb) bx)),λt' nt=>⟨_,rfl,x,C,dx,_,rfl,(by rw[cD (cA cz nt)];exact cz),T.cl,T.nT,(by show 2 < 1000;decide),?_⟩⟩;have xt:x≠t':=cA cz nt;have st':s'≠t':=cA (by rw[cD xs.symm];exact cz) nt;have pt':p'≠t':=cA (by rw[cD xp.symm,cD ps',cD xp.symm];exact cz) nt;have nt4:H4 t'=none:=by
   rw[cD xt.symm,cD st'.symm,cD xt.symm,cD pt'.symm]at nt;exact nt
  refine⟨_,rfl,c,_,rfl,.inl (cH.of (by rw[cD cx,cD (cA (s4 _ _ hc) nt4)];exact k2 _ _ (s4 _ _ hc) cx)),λy' ny=>⟨_,rfl,x,C,dx,_,rfl,(by rw[cD (cA cz ny)];exact cz),T.cl,T.nY,(by show 3 < 1000;decide),?_⟩⟩;have xy:x≠y':=cA cz ny;have ty':t'≠y':=cA (by rw[cD xt.symm];exact cz) ny;have sy':s'≠y':=cA (by rw[cD xs.symm,cD st',cD xs.symm];exact cz) ny;have py':p'≠y':=cA (by rw[cD xp.symm,cD pt',cD xp.symm,cD ps',cD xp.symm];exact cz) ny;have ny4:H4 y'=none:=by
   rw[cD xy.symm,cD ty'.symm,cD xy.symm,cD sy'.symm,cD xy.symm,cD py'.symm]at ny;exact ny
  refine k p' s' t' y' _ (s4.free np) (s4.free ns4) (s4.free nt4) (s4.free ny4) ⟨⟨dx,cz⟩,?_,?_,?_,?_⟩ λd o e n=>?_
  ·rw[cD xp.symm,cD py',cD xp.symm,cD pt',cD xp.symm,cD ps',cD xp.symm]
   exact cz
  ·rw[cD xs.symm,cD sy',cD xs.symm,cD st',cD xs.symm]
   exact cz
  ·rw[cD xt.symm,cD ty',cD xt.symm]
   exact cz
  ·rw[cD xy.symm]
   exact cz
  ·rw[cD n,cD (cA (s4 _ _ e) ny4),cD n,cD (cA (s4 _ _ e) nt4)]
   exact k2 d o (s4 _ _ e) n
end K32
namespace K32
open PySem L2
variable {P:Program}{w:World}{K:PySem.W.Frag}{mg:Str->Option Value}{base:Heap}{kw C:Addr}{f:Addr}{fd:FuncData}
abbrev TD:=Str×Str×Str
def dP(k:Nat)(d:TD):List (Nat×Str×Str):=if d.2.2= "both" then [(k,d.1,d.2.1),(k,d.2.1,d.1)] else [(k,d.1,d.2.1)]
def gd(k:Nat):List TD->List (Nat×Str×Str)
 |[]=>[]
 |d::r=>dP k d++gd (k+1) r
theorem sP(d:TD):∀(l:List TD) (k:Nat),gd k (l++[d])=gd k l++dP (k+l.length) d
 |[],k=>by
  show dP k d++[]=[]++dP (k+0) d;rw[append_nil,nil_append,Nat.add_zero]
 |e::r,k=>by
  show dP k e++gd (k+1) (r++[d])=(dP k e++gd (k+1) r)++dP (k+(r.length+1)) d;rw[sP d r (k+1),append_assoc,show k+1+r.length=k+(r.length+1) by omega]
theorem vU(k:Nat)(d:TD):(dP k d).length<=2:=by
 unfold dP;split
 ·exact le_refl 2
 ·exact le_succ 1
theorem jv:∀(l:List TD) (k:Nat),(gd k l).length<=2 * l.length
 |[],_=>le_refl 0
 |d::r,k=>by
  show(dP k d++gd (k+1) r).length<=2 * (r.length+1);rw[length_append];have:=vU k d;have:=jv r (k+1);omega
inductive Ir  (H:Hp)(v:V)(d:TD):Prop
 |mk(a:Addr)(h:Int)(h0:v=.ref a)(h1:H a=some (.tup [.int h,.str d.1,.str d.2.1,.str d.2.2]))
def Hg(H:Hp)(ts:List V)(td:List TD):Prop:=ts.length=td.length/\∀(i:Nat) v d,ts[i]? =some v->td[i]? =some d->Ir H v d
theorem Hg.mono{H H':Hp}{ts:List V}{td:List TD}(s:Tk H H')(h:Hg H ts td):Hg H' ts td:=⟨h.1,λi v d hv hd=>by
 obtain⟨a,t,e,ha⟩:=h.2 i v d hv hd;exact⟨a,t,e,s _ _ ha⟩⟩
inductive oQ  (H:Hp)(v:V)(t:Nat×Str×Str):Prop
 |mk(a:Addr)(h0:v=.ref a)(h1:H a=some (.tup [.int t.1,.str t.2.1,.str t.2.2]))
def eR(H:Hp)(us:List V)(ks:List (Nat×Str×Str)):Prop:=us.length=ks.length/\∀(i:Nat) u t,us[i]? =some u->ks[i]? =some t->oQ H u t
theorem oQ.mono{H H':Hp}{v:V}{t:Nat×Str×Str}(s:Tk H H')(h:oQ H v t):oQ H' v t:=by
 obtain⟨a,e,ha⟩:=h;exact⟨a,e,s _ _ ha⟩
theorem eR.mono{H H':Hp}{us:List V}{ks:List (Nat×Str×Str)}(s:Tk H H')(h:eR H us ks):eR H' us ks:=⟨h.1,λi u t hu ht=>(h.2 i u t hu ht).mono s⟩
theorem eR.nil{H:Hp}:eR H [] []:=⟨rfl,λi u t hu=>by cases hu⟩
theorem eR.snoc{H:Hp}{us:List V}{ks:List (Nat×Str×Str)}{u:V}{t:Nat×Str×Str}(h:eR H us ks)(hv:oQ H u t):eR H (us++[u]) (ks++[t]):=by
 refine⟨by rw[length_append,length_append,h.1];rfl,λi x e hu he=>?_⟩;by_cases hi:i < us.length
 ·rw[getElem?_append_left hi]at hu
  rw[getElem?_append_left (by rw[<-h.1];exact hi)]at he;exact h.2 i x e hu he
 ·rw[getElem?_append_right (by omega)]at hu
  rw[getElem?_append_right (by rw[<-h.1];omega),<-h.1]at he;cases hj:i - us.length with
  |zero=>
   rw[hj]at hu he;cases hu;cases he;exact hv
  |succ j=>
   rw[hj]at hu;cases hu
inductive ud  (C:Addr)(vs:List V)(H:Hp)(Q:VK):Prop
 |mk(x p s t y:Addr)(ps:List Str)(ss ts ys:List V)(td:List TD)(h0:vs=[.ref x])(h1:Bk C H x p s t y ps ss ts ys)(h2:Hg H ts td)(h3:ts.length<=120)(h4:∀(l:Addr)(us:List V)(H':Hp),cC H H'->H l=none->H' l=some (.lst us)->eR H' us (gd 0 td)->Q (.ref l) H')
def kf  (C:Addr):Sp:=λvs H Q _=>ud C vs H Q
inductive Hn(x l:Addr)(H:Hp)(td:List TD)(i:Nat)(σ:St)(H2:Hp):Prop
 |mk(us:List V)(e1 e2:Option V)(e:σ=[some (.ref x),some (.ref l),e1,e2])(s:cC H H2)(hl:H2 l=some (.lst us))(tl:eR H2 us (gd 0 (td.take i)))
theorem nA{H:Hp}{us:List V}{td:List TD}{i:Nat}{d:TD}(hd:td[i]? =some d)(t:eR H us (gd 0 (td.take i))):
  (d.2.2= "both" ->∀u v,oQ H u (i,d.1,d.2.1)->oQ H v (i,d.2.1,d.1)->eR H ((us++[u])++[v]) (gd 0 (td.take (i+1))))/\(d.2.2≠ "both" ->∀u,oQ H u (i,d.1,d.2.1)->eR H (us++[u]) (gd 0 (td.take (i+1)))):=by
 have hi:i < td.length:=(List.getElem?_eq_some_iff.mp hd).1;have e:gd 0 (td.take (i+1))=gd 0 (td.take i)++dP i d:=by
  rw[take_add_one,hd];show gd 0 (td.take i++[d])=_;rw[sP,length_take,zero_add,Nat.min_eq_left (le_of_lt hi)]
 rw[e];refine⟨λhb u v hu hv=>?_,λhb u hu=>?_⟩
 ·rw[show dP i d=[(i,d.1,d.2.1)]++[(i,d.2.1,d.1)] by unfold dP;rw[if_pos hb];rfl,<-append_assoc]
  exact(t.snoc hu).snoc hv
 ·rw[show dP i d=[(i,d.1,d.2.1)] by unfold dP;rw[if_neg hb]]
  exact t.snoc hu
theorem pH:cE ["self", "told", "k", "talk"] ["self"] (cB dX):={}
theorem t7 (F:oj K "tellings" "Book.tellings" dX f fd) (me:Meth K C "tellings" f) (bi:Binds K fd ["self"] []) (T:Txt K mg kw C):Md P w K mg base 1 C "tellings" (kf C):=by
 refine cq F me bi T.cl pH (λvs H Q E h=>?_) (λX H vs Q E hh h=>?_)
 ·obtain⟨x,p,s,t,y,ps,ss,ts,ys,td,rfl,_⟩:=h
  rfl
 ·obtain⟨x,p,s,t,y,ps,ss,ts,ys,td,rfl,bk,tls,l120,k⟩:=h
  obtain⟨S0,S1,S2,S3,_⟩:=hh.d7 [0,1,2,3];have B_enumerate:=hh.b T.b_enumerate;obtain rfl:=hh.fK;have hsz:sizeLine=16777216:=sizeLine_eq;obtain⟨⟨dx,hx⟩,_,_,ht,_⟩:=id bk;refine⟨_,(ah (aE S1 hh.nd (bh bJ))
 (ah (bp hh.own hh.calm (J.lD B_enumerate (ak (cn (aa S0)))) (bu hh.calm (aI (aG S2 hh.nd) (aI (aG S3 hh.nd) bj)))
 (ah (bG (bI plainAttrs_list PySem.F.slot_list_append PySem.F.type_list_append bL (aa S1) (ak (aV (aM (aa S2) (af ao (aa S3) ae aj) (af ao (aa S3) ae aj))))))
 (ag (aH (aB aL (af ao (aa S3) ae aj) aO (L2.cF _))
 (ag (bG (bI plainAttrs_list PySem.F.slot_list_append PySem.F.type_list_append bL (aa S1) (ak (aV (aM (aa S2) (af ao (aa S3) ae aj) (af ao (aa S3) ae aj)))))))
 aJ))))
 (ag (au (aa S1))))),?_⟩
  refine⟨zc,λl hl=>?_⟩;have s1:=cC.upd (o:=.lst []) hl;refine⟨_,rfl,x,C,dx,_,_,rfl,s1 _ _ hx,T.cl,T.nT,DI _ _ _ _,t,rfl,⟨_,cH.of (s1 _ _ ht)⟩,AV (K:=X.K) (a:=t) (xs:=ts) (Hn x l H td)
   ⟨[],none,none,rfl,s1,cz,eR.nil⟩ ?_ ?_ ?_⟩
  ·rintro i σ H2 ⟨_,_,_,_,s2,_⟩
   exact cH.of (s2 _ _ ht)
  ·rintro i v q σ H2 hv hq ⟨us,e1,e2,rfl,s2,hl2,tl⟩
   have hi:i < ts.length:=(List.getElem?_eq_some_iff.mp hv).1;have hd:td[i]? =some (td[i]'(by rw[<-tls.1];exact hi)):=getElem?_eq_getElem _;generalize (td[i]'(by rw[<-tls.1];exact hi))=d at hd;obtain⟨a,h,rfl,ha⟩:=tls.2 i v d hv hd;have ul:us.length<=240:=by
    have:=jv (td.take i) 0;rw[length_take]at this;have:=tl.1;have:=tls.1;omega
   refine⟨q,_,rfl,cU.of cz,rfl,_,_,rfl,_,_,rfl,rfl,?_⟩;have s3:=cC.upd (o:=.tup [.int i,.ref a]) hq;have ha3:=s3 _ _ (s2 _ _ ha);have hl3:=s3 _ _ hl2;have tl3:=tl.mono (Tk.of s3);have s03:=s2.trans s3;generalize upd H2 q (.tup [.int i,.ref a])=H3 at ha3 hl3 tl3 s03;refine⟨_,rfl,.inl ⟨rfl,_,cH.of hl3⟩,_,rfl,_,rfl,xT ha3 rfl ⟨_,rfl,xT ha3 rfl ⟨m7,λt1 ht1=>?_⟩⟩⟩;have s4:=cC.upd (o:=.tup [.int i,.str d.1,.str d.2.1]) ht1;refine⟨l,us,.ref t1,rfl,rfl,s4 _ _ hl3,by omega,?_⟩;have al:a≠l:=pF ha3 hl3 (by intro z;cases z);have t1l:t1≠l:=(cA hl3 ht1).symm;have ha5:upd (upd H3 t1 (.tup [.int i,.str d.1,.str d.2.1])) l (.lst (us++[.ref t1])) a=some (.tup [.int h,.str d.1,.str d.2.1,.str d.2.2]):=by
    rw[cD al];exact s4 _ _ ha3
   have tv5:oQ (upd (upd H3 t1 (.tup [.int i,.str d.1,.str d.2.1])) l (.lst (us++[.ref t1]))) (.ref t1) (i,d.1,d.2.1):=⟨t1,rfl,by rw[cD t1l];exact cz⟩;have tk5:=(Tk.of s4).trans (Tk.upd (s4 _ _ hl3) (ys:=us++[.ref t1]));have tl5:=tl3.mono tk5;have hl5:upd (upd H3 t1 (.tup [.int i,.str d.1,.str d.2.1])) l (.lst (us++[.ref t1])) l=some (.lst (us++[.ref t1])):=cz;have s05:cC H (upd (upd H3 t1 (.tup [.int i,.str d.1,.str d.2.1])) l (.lst (us++[.ref t1]))):=λb o e=>by
    rw[cD (cA e hl)];exact s4 _ _ (s03 _ _ e)
   generalize upd (upd H3 t1 (.tup [.int i,.str d.1,.str d.2.1])) l (.lst (us++[.ref t1]))=H5 at ha5 tv5 tl5 hl5 s05;refine⟨_,rfl,xT ha5 rfl ⟨rfl,_,rfl,c8 (λhb=>?_) (λhb=>?_)⟩⟩
   ·have hb':d.2.2= "both" :=V.str.inj (of_decide_eq_true hb)
    refine⟨_,rfl,.inl ⟨rfl,_,cH.of hl5⟩,_,rfl,_,rfl,xT ha5 rfl ⟨_,rfl,xT ha5 rfl ⟨m7,λt2 ht2=>?_⟩⟩⟩;have s6:=cC.upd (o:=.tup [.int i,.str d.2.1,.str d.1]) ht2;refine⟨l,_,.ref t2,rfl,rfl,s6 _ _ hl5,by rw[length_append];show us.length+1 < _;omega,?_⟩;have t2l:t2≠l:=(cA hl5 ht2).symm;have tk7:=(Tk.of s6).trans (Tk.upd (s6 _ _ hl5) (ys:=(us++[.ref t1])++[.ref t2]));refine⟨_,_,_,rfl,λb o e=>?_,cz,(nA hd (tl5.mono tk7)).1 hb' _ _ (tv5.mono tk7) ⟨t2,rfl,?_⟩⟩
    ·rw[cD (cA e hl)]
     exact s6 _ _ (s05 _ _ e)
    ·rw[cD t2l]
     exact cz
   ·have hb':d.2.2≠ "both" :=λe=>hb (decide_eq_true (congrArg V.str e))
    exact⟨_,_,_,rfl,s05,hl5,(nA hd tl5).2 hb' _ tv5⟩
  ·rintro σ H2 ⟨us,e1,e2,rfl,s2,hl2,tl⟩
   rw[tls.1,take_length]at tl;exact⟨_,rfl,k l us H2 s2 hl hl2 tl⟩
inductive SD where
 |knew (p:Str)(h:Int)
 |unh (p:Str)(h:Option Int)
 |sil (p:Str)(b e:Int)
 |bar (p q:Str)
def oV:Option Int->V
 |none=>.non
 |some h=>.int h
def SD.tup:SD->List V
 |.knew p h=>[.str "knew",.str p,.int h]
 |.unh p h=>[.str "unheard",.str p,oV h]
 |.sil p b e=>[.str "silent",.str p,.int b,.int e]
 |.bar p q=>[.str "barred",.str p,.str q]
def CZ(ps:List Str):SD->Prop
 |.knew p h=>p∈ps/\cN h
 |.unh p h=>p∈ps/\∀i,h=some i->cN i
 |.sil p b e=>p∈ps/\cN b/\cN e/\b<=e
 |.bar p q=>p∈ps/\q∈ps/\p≠q
inductive t6  (H:Hp)(v:V)(d:SD):Prop
 |mk(a:Addr)(h0:v=.ref a)(h1:H a=some (.tup d.tup))
def Sys(H:Hp)(ys:List V)(sd:List SD):Prop:=ys.length=sd.length/\∀(i:Nat) v d,ys[i]? =some v->sd[i]? =some d->t6 H v d
theorem Sys.mono{H H':Hp}{ys:List V}{sd:List SD}(s:Tk H H')(h:Sys H ys sd):Sys H' ys sd:=⟨h.1,λi v d hv hd=>by
 obtain⟨a,e,ha⟩:=h.2 i v d hv hd;exact⟨a,e,s _ _ ha⟩⟩
theorem Sys.nil{H:Hp}:Sys H [] []:=⟨rfl,λi v d hv=>by cases hv⟩
theorem Sys.at{H:Hp}{ys:List V}{sd:List SD}{i:Nat}{v:V}(h:Sys H ys sd)(hv:ys[i]? =some v):∃d a,sd[i]? =some d/\v=.ref a/\H a=some (.tup d.tup):=by
 have hi:i < sd.length:=by
  rw[<-h.1];exact(List.getElem?_eq_some_iff.mp hv).1
 obtain⟨a,e,ha⟩:=h.2 i v sd[i] hv (getElem?_eq_getElem hi);exact⟨sd[i],a,getElem?_eq_getElem hi,e,ha⟩
theorem uu{ps:List Str}{H:Hp}{v:V}(h:eK ps H v):∃d,t6 H v d/\CZ ps d:=by
 obtain⟨a,e,h⟩:=h;rcases h with ⟨p,h,ha,h1,h2⟩|⟨p,b,ha,h1,h2⟩|⟨p,h,k,ha,h1,h2,h3,h4⟩|⟨p,q,ha,h1,h2,h3⟩
 ·exact⟨.knew p h,⟨a,e,ha⟩,h1,h2⟩
 ·rcases h2 with rfl|⟨h,rfl,h2⟩
  ·exact⟨.unh p none,⟨a,e,ha⟩,h1,λi z=>by cases z⟩
  ·exact⟨.unh p (some h),⟨a,e,ha⟩,h1,λi z=>by cases z;exact h2⟩
 ·exact⟨.sil p h k,⟨a,e,ha⟩,h1,h2,h3,h4⟩
 ·exact⟨.bar p q,⟨a,e,ha⟩,h1,h2,h3⟩
theorem mw{ps:List Str}{H:Hp}:∀{ys:List V},(∀v∈ys,eK ps H v)->∃sd,Sys H ys sd/\∀d∈sd,CZ ps d
 |[],_=>⟨[],Sys.nil,λd hd=>by cases hd⟩
 |v::r,h=>by
  obtain⟨sd,⟨l,g⟩,k⟩:=mw λu hu=>h u (mem_cons_of_mem _ hu);obtain⟨d,hd,kd⟩:=uu (h v (mem_cons_self ..));refine⟨d::sd,⟨by rw[length_cons,length_cons,l],λi u e hu he=>?_⟩,λe he=>?_⟩
  ·cases i with
   |zero=>
    cases hu;cases he;exact hd
   |succ j=>exact g j u e hu he
  ·rcases mem_cons.mp he with rfl|he
   ·exact kd
   ·exact k e he
theorem dF{α:Type}{l:List α}{i:Nat}{d:α}(h:l[i]? =some d):l.drop i=d::l.drop (i+1):=by
 obtain⟨hi,rfl⟩:=List.getElem?_eq_some_iff.mp h;exact List.drop_eq_getElem_cons hi
def iR{α:Type}(l:List α)(p:α->Bool)(i:Nat):Bool:=match l[i]? with
 |some d=>p d
 |none=>false
def sX{α:Type}(l:List α)(f:α->V)(i:Nat):V:=match l[i]? with
 |some d=>f d
 |none=>.non
theorem dN{α:Type}{l:List α}{p:α->Bool}{i:Nat}{d:α}(h:l[i]? =some d):iR l p i=p d:=by
 unfold iR;rw[h]
theorem gf{α:Type}{l:List α}{f:α->V}{i:Nat}{d:α}(h:l[i]? =some d):sX l f i=f d:=by
 unfold sX;rw[h]
theorem dE{α:Type}(p:α->Bool)(f:α->V):∀l:List α,((List.range l.length).filter (iR l p)).map (sX l f)=(l.filter p).map f
 |[]=>rfl
 |d::r=>by
  have ih:=dE p f r;have e1:(iR (d::r) p ∘ Nat.succ)=iR r p:=rfl;have e2:(sX (d::r) f ∘ Nat.succ)=sX r f:=rfl;rw[length_cons,List.range_succ_eq_map,filter_cons,filter_map,e1];have e3:iR (d::r) p 0=p d:=rfl;rw[e3,filter_cons];cases p d with
  |true=>
   rw[if_pos rfl,if_pos rfl,map_cons,map_cons,map_map,e2,ih];rfl
  |false=>
   rw[if_neg Bool.false_ne_true,if_neg Bool.false_ne_true,map_map,e2,ih]
def ug(z:Str):SD->Bool
 |.unh q _=>decide (q=z)
 |_=>false
def SD.hr:SD->Option Int
 |.unh _ h=>h
 |_=>none
def jk(z:Str)(sd:List SD):List (Option Int):=(sd.filter (ug z)).map SD.hr
def DC(acc:Int):List (Option Int)->Option Int
 |[]=>some acc
 |none::_=>none
 |some h::r=>DC (if h > acc then h else acc) r
def floorOf(z:Str)(sd:List SD):Option Int:=DC (-1) (jk z sd)
theorem gB{z:Str}{d:SD}{r:List SD}(h:ug z d=false):jk z (d::r)=jk z r:=by
 unfold jk;rw[filter_cons,if_neg (by rw[h];exact Bool.false_ne_true)]
theorem uq{z:Str}{h:Option Int}{r:List SD}:jk z (.unh z h::r)=h::jk z r:=by
 unfold jk;rw[filter_cons,if_pos (show ug z (.unh z h)=true from decide_eq_true rfl)];rfl
theorem kP:∀{us:List (Option Int)}{acc:Int},none∈us->DC acc us=none
 |[],_,h=>by cases h
 |none::_,_,_=>rfl
 |some h::r,acc,m=>by
  show DC _ r=none;exact kP (by rcases mem_cons.mp m with z|z;cases z;exact z)
theorem kD:∀(vs:List Int) (acc:Int),∃m,DC acc (vs.map some)=some m/\m∈acc::vs/\∀a∈acc::vs,a<=m
 |[],acc=>⟨acc,rfl,mem_cons_self ..,λa h=>by
  rcases mem_cons.mp h with rfl|h
  ·exact Int.le_refl _
  ·cases h⟩
 |v::r,acc=>by
  obtain⟨m,e,hm,hx⟩:=kD r (if v > acc then v else acc);refine⟨m,e,?_,λa ha=>?_⟩
  ·rcases mem_cons.mp hm with z|z
   ·by_cases c:v > acc
    ·rw[if_pos c]at z
     rw[z];exact mem_cons_of_mem _ (mem_cons_self ..)
    ·rw[if_neg c]at z
     rw[z];exact mem_cons_self ..
   ·exact mem_cons_of_mem _ (mem_cons_of_mem _ z)
  ·have h0:=hx _ (mem_cons_self ..)
   rcases mem_cons.mp ha with rfl|ha
   ·split at h0<;>omega
   ·rcases mem_cons.mp ha with rfl|ha
    ·split at h0<;>omega
    ·exact hx a (mem_cons_of_mem _ ha)
inductive zf  (C:Addr)(M:Addr->Addr->Addr->Addr->Addr)(vs:List V)(H:Hp)(Q:VK):Prop
 |mk(x p s t y:Addr)(xs:List V)(h0:vs=[.ref x])(h1:(∃dx,H x=some (.ins C dx (ng p s t y))))(h2:H (M p s t y)=some (.lst xs))(h3:∀l,H l=none->Q (.ref l) (upd H l (.lst xs)))
def dk  (C:Addr)(M:Addr->Addr->Addr->Addr->Addr):Sp:=λvs H Q _=>zf C M vs H Q
inductive FC(C:Addr)(vs:List V)(H:Hp)(Q:VK):Prop
 |mk(x p s t y:Addr)(ps:List Str)(ss ts ys:List V)(z:Str)(sd:List SD)(e:vs=[.ref x,.str z])(bk:Bk C H x p s t y ps ss ts ys)(sy:Sys H ys sd)(l:ys.length<=60)(k:∀H',cC H H'->Q (oV (floorOf z sd)) H')
def rB(C:Addr):Sp:=λvs H Q _=>FC C vs H Q
theorem sh:cE ["self"] ["self"] (cB ej):={}
theorem rX (F:oj K "sayings" "Book.sayings" ej f fd) (me:Meth K C "sayings" f) (bi:Binds K fd ["self"] []) (T:Txt K mg kw C):Md P w K mg base 1 C "sayings" (dk C (λ_ _ _ y=>y)):=by
 refine cq F me bi T.cl sh (λvs H Q E h=>?_) (λX H vs Q E hh h=>?_)
 ·obtain⟨x,p,s,t,y,xs,rfl,_⟩:=h
  rfl
 ·obtain⟨x,p,s,t,y,xs,rfl,⟨dx,hx⟩,hl,k⟩:=h
  obtain⟨S0,_⟩:=hh.d7 [0];have B_list:=hh.b T.b_list;obtain rfl:=hh.fK;refine⟨_,(ag (au (br B_list bE L2.dy (ak (cn (aa S0)))))),?_⟩;exact⟨_,rfl,x,C,dx,_,_,rfl,hx,T.cl,T.nY,Hi _ _ _ _,_,_,rfl,.inl (cH.of hl),k⟩
theorem ui:cE ["book", "person", "floor", "saying"] ["book", "person"] (cB kg):={}
theorem tQ (D:Df K mg "floor_of" kg ["book", "person"] f fd) (T:Txt K mg kw C) (G_sayings:Md P w K mg base 1 C "sayings" (dk C λ_ _ _ y=>y)):Gd P w K mg base 2 "floor_of" (rB C):=by
 refine aF D ui λX H vs Q E hh h=>?_;obtain⟨x,p,s,t,y,ps,ss,ts,ys,z,sd,rfl,bk,sy,l60,k⟩:=h;obtain⟨S0,S1,S2,S3,_⟩:=hh.d7 [0,1,2,3];have B_max:=hh.b T.b_max;have M_sayings:=hh.met G_sayings (by decide);obtain⟨⟨dx,hx⟩,hp,hs,ht,hy⟩:=id bk;refine⟨_,(ah (aE S2 hh.nd (J.Bu J.vC ae))
 (ah (bp hh.own hh.calm (aP (bM M_sayings (aa S0) rfl)) (aG S3 hh.nd)
 (ag (aH (aU (bo (aB aL (af ao (aa S3) ae aj) aO (L2.cF _)) (bB (aB aL (af ao (aa S3) ae aj) (aa S1) (L2.cF _)))))
 (ah (aH (aB b5 (af ao (aa S3) ae aj) bC (L2.cF _))
 (ag (au bC))
 aJ)
 (ag (aE S2 hh.nd (aD B_max (J.gS hh.calm) L2.wg (aA (aa S2) (af ao (aa S3) ae aj))))))
 aJ)))
 (ag (au (aa S2))))),?_⟩
 refine⟨_,rfl,_,rfl,x,dx,_,rfl,hx,fZ _ _ _ _ (by decide+kernel) (by decide+kernel) (by decide+kernel) (by decide+kernel),x,p,s,t,y,ys,rfl,⟨dx,hx⟩,hy,λl hl=>?_⟩;have s1:=cC.upd (o:=.lst ys) hl;have hl1:upd H l (.lst ys) l=some (.lst ys):=cz;generalize upd H l (.lst ys)=H1 at s1 hl1;refine⟨l,rfl,⟨_,cH.of hl1⟩,dA (K:=X.K) (a:=l) (xs:=ys) (λi σ H2=>∃(acc:Int) (e:Option V),σ=[some (.ref x),some (.str z),some (.int acc),e]/\cC H1 H2/\DC acc (jk z (sd.drop i))=floorOf z sd)
  ⟨_,none,rfl,cC.refl _,rfl⟩ ?_ ?_ ?_⟩
 ·rintro i σ H2 hi ⟨acc,e,rfl,s2,hf⟩
  exact cH.of (s2 _ _ hl1)
 ·rintro i v σ H2 hv ⟨acc,e,rfl,s2,hf⟩
  obtain⟨d,a,hd,rfl,ha⟩:=sy.at hv;have ha2:=s2 _ _ (s1 _ _ ha);rw[dF hd]at hf;cases d with
  |knew q h=>
   rw[gB rfl]at hf;exact⟨_,rfl,xT ha2 rfl ⟨rfl,_,rfl,iN (cR ⟨acc,_,rfl,s2,hf⟩)⟩⟩
  |sil q b e'=>
   rw[gB rfl]at hf;exact⟨_,rfl,xT ha2 rfl ⟨rfl,_,rfl,iN (cR ⟨acc,_,rfl,s2,hf⟩)⟩⟩
  |bar q q'=>
   rw[gB rfl]at hf;exact⟨_,rfl,xT ha2 rfl ⟨rfl,_,rfl,iN (cR ⟨acc,_,rfl,s2,hf⟩)⟩⟩
  |unh q h=>
   refine⟨_,rfl,xT ha2 rfl ⟨rfl,_,rfl,iP ⟨_,rfl,xT ha2 rfl ⟨_,rfl,rfl,_,rfl,c8 (λhq=>?_) (λhq=>?_)⟩⟩⟩⟩
   ·have hq':q=z:=V.str.inj (of_decide_eq_true hq)
    subst hq';rw[uq]at hf;cases h with
    |none=>
     refine⟨_,rfl,xT ha2 rfl ⟨rfl,_,rfl,fh (decide_eq_true rfl) ?_⟩⟩;have hf':none=floorOf q sd:=hf;have:=k H2 (s1.trans s2);rw[<-hf']at this;exact this
    |some h=>
     refine⟨_,rfl,xT ha2 rfl ⟨rfl,_,rfl,gY (by rw[decide_eq_true_iff];intro e;cases e) ?_⟩⟩;exact⟨_,rfl,_,rfl,xT ha2 rfl ⟨acc,h,rfl,_,_,rfl,s2,hf⟩⟩
   ·have hq':ug z (.unh q h)=false:=decide_eq_false λe=>hq (decide_eq_true (congrArg V.str e))
    rw[gB hq']at hf;exact⟨acc,_,rfl,s2,hf⟩
 ·rintro σ H2 ⟨acc,e,rfl,s2,hf⟩
  rw[sy.1,List.drop_length]at hf;have hf':some acc=floorOf z sd:=hf;have:=k H2 (s1.trans s2);rw[<-hf']at this;exact⟨_,rfl,this⟩
def gH(h:Int):Option Int->Bool
 |none=>false
 |some m=>decide (m < h)
inductive EC(vs:List V)(H:Hp)(Q:VK):Prop
 |mk(h:Int)(f:Option Int)(e:vs=[.int h,oV f])(k:Q (.bl (gH h f)) H)
def nM:Sp:=λvs H Q _=>EC vs H Q
def Jt(H:Hp)(d:Addr)(ps:List Str)(sd:List SD):Prop:=∃kvs:List (Key×V),H d=some (.dK kvs)/\∀z∈ps,dB kvs (Sum.inr z)=some (oV (floorOf z sd))
theorem Jt.mono{H H':Hp}{d:Addr}{ps:List Str}{sd:List SD}(s:cC H H')(h:Jt H d ps sd):Jt H' d ps sd:=by
 obtain⟨kvs,e,k⟩:=h;exact⟨kvs,s _ _ e,k⟩
inductive CJ(C:Addr)(vs:List V)(H:Hp)(Q:VK):Prop
 |mk(x p s t y:Addr)(ps:List Str)(ss ts ys:List V)(sd:List SD)(e:vs=[.ref x])(bk:Bk C H x p s t y ps ss ts ys)(pl:ps.length<=24)(sy:Sys H ys sd)(l:ys.length<=60)(k:∀d H',cC H H'->H d=none->Jt H' d ps sd->Q (.ref d) H')
def lC(C:Addr):Sp:=λvs H Q _=>CJ C vs H Q
theorem rq:cE ["self"] ["self"] (cB eJ):={}
theorem qT (F:oj K "persons" "Book.persons" eJ f fd) (me:Meth K C "persons" f) (bi:Binds K fd ["self"] []) (T:Txt K mg kw C):Md P w K mg base 1 C "persons" (dk C (λp _ _ _=>p)):=by
 refine cq F me bi T.cl rq (λvs H Q E h=>?_) (λX H vs Q E hh h=>?_)
 ·obtain⟨x,p,s,t,y,xs,rfl,_⟩:=h
  rfl
 ·obtain⟨x,p,s,t,y,xs,rfl,⟨dx,hx⟩,hl,k⟩:=h
  obtain⟨S0,_⟩:=hh.d7 [0];have B_list:=hh.b T.b_list;obtain rfl:=hh.fK;refine⟨_,(ag (au (br B_list bE L2.dy (ak (cn (aa S0)))))),?_⟩;exact⟨_,rfl,x,C,dx,_,_,rfl,hx,T.cl,T.nP,GR _ _ _ _,_,_,rfl,.inl (cH.of hl),k⟩
theorem uc:cE ["hour", "floor"] ["hour", "floor"] (cB jX):={}
theorem uo (D:Df K mg "is_above" jX ["hour", "floor"] f fd):Gd P w K mg base 1 "is_above" nM:=by
 refine aF D uc λX H vs Q E hh h=>?_;obtain⟨h,f,rfl,k⟩:=h;obtain⟨S0,S1,_⟩:=hh.d7 [0,1];refine⟨_,(ag (au (aS (aR J.kW (aa S1) bC (L2.cF _)) (aZ (aR bT (aa S0) (aa S1) (L2.cF _)))))),?_⟩;cases f with
 |none=>exact⟨_,rfl,rfl,_,rfl,iN k⟩
 |some m=>exact⟨_,rfl,rfl,_,rfl,fh (by rw[not_eq_true',decide_eq_false_iff_not];intro e;cases e) ⟨_,rfl,_,rfl,_,_,rfl,rfl,k⟩⟩
theorem mM:cE ["book", "floors", "person"] ["book"] (cB fF):={}
theorem y8 (D:Df K mg "floors_of_all" fF ["book"] f fd) (T:Txt K mg kw C) (G_persons:Md P w K mg base 1 C "persons" (dk C λp _ _ _=>p)) (G_floor_of:Gd P w K mg base 2 "floor_of" (rB C)):Gd P w K mg base 3 "floors_of_all" (lC C):=by
 refine aF D mM λX H vs Q E hh h=>?_;obtain⟨x,p,s,t,y,ps,ss,ts,ys,sd,rfl,bk,pl,sy,l60,k⟩:=h;obtain⟨S0,S1,S2,_⟩:=hh.d7 [0,1,2];have C_floor_of:=hh.c G_floor_of;have M_persons:=hh.met G_persons (by decide);have hu:=eS hh.room;have hsz:sizeLine=16777216:=sizeLine_eq;obtain⟨⟨dx,hx⟩,hp,hs,ht,hy⟩:=id bk;refine⟨_,(ah (aE S1 hh.nd cv)
 (ah (bp hh.own hh.calm (aP (bM M_persons (aa S0) rfl)) (aG S2 hh.nd)
 (ag (b7 hu (aa S1) (aa S2) (aw C_floor_of (aA (aa S0) (aa S2))))))
 (ag (au (aa S1))))),?_⟩
 refine λd hdn=>?_;have s1:=cC.upd (o:=.dK []) hdn;have hd1:upd H d (.dK []) d=some (.dK []):=cz;refine⟨_,rfl,x,dx,_,rfl,s1 _ _ hx,fZ _ _ _ _ (by decide+kernel) (by decide+kernel) (by decide+kernel) (by decide+kernel),x,p,s,t,y,_,rfl,⟨dx,s1 _ _ hx⟩,s1 _ _ hp,λl hl=>?_⟩;have s2:=cC.upd (o:=.lst (ps.map V.str)) hl;have ld:l≠d:=(cA hd1 hl).symm;refine⟨l,rfl,⟨_,cH.of cz⟩,dA (K:=X.K) (a:=l) (xs:=ps.map V.str) (λi σ H2=>∃(kvs:List (Key×V)) (e:Option V),σ=[some (.ref x),some (.ref d),e]/\cC H H2/\H2 l=some (.lst (ps.map V.str))/\H2 d=some (.dK kvs)/\kvs.length<=i/\∀z∈ps.take i,dB kvs (Sum.inr z)=some (oV (floorOf z sd)))
  ⟨[],none,rfl,s1.trans s2,cz,s2 _ _ hd1,le_refl 0,λz hz=>by cases hz⟩ ?_ ?_ ?_⟩
 ·rintro i σ H2 hi ⟨kvs,e,rfl,s2,hl2,_⟩
  exact cH.of hl2
 ·rintro i v σ H2 hv ⟨kvs,e,rfl,s3,hl2,hd2,kl,hk⟩
  rw[getElem?_map]at hv;obtain⟨z,hz,rfl⟩:=map_eq_some_iff.mp hv;have hi:i < ps.length:=(List.getElem?_eq_some_iff.mp hz).1;refine⟨_,rfl,_,rfl,x,p,s,t,y,ps,ss,ts,ys,z,sd,rfl,bk.mono s3,sy.mono (Tk.of s3),l60,λH5 s5=>?_⟩;refine⟨_,rfl,_,rfl,d,_,rfl,lT.k (k:=Sum.inr z) (s5 _ _ hd2) (by omega),_,_,rfl,λb o e=>?_,?_,cz,?_,λz' hz'=>?_⟩
  ·rw[cD (cA e hdn)]
   exact s5 _ _ (s3 _ _ e)
  ·rw[cD ld]
   exact s5 _ _ hl2
  ·have:=gA kvs (Sum.inr z:Key) (oV (floorOf z sd))
   omega
  ·rw[gx]
   by_cases c:(Sum.inr z':Key)=Sum.inr z
   ·rw[if_pos c]
    have c':z'=z:=Sum.inr.inj c;rw[c']
   ·rw[if_neg c]
    rw[take_add_one,hz,mem_append]at hz';rcases hz' with hz'|hz'
    ·exact hk z' hz'
    ·exact absurd (congrArg Sum.inr (mem_singleton.mp hz')) c
 ·rintro σ H2 ⟨kvs,e,rfl,s3,hl2,hd2,kl,hk⟩
  rw[length_map,take_length]at hk;exact⟨_,rfl,k d H2 s3 hdn ⟨kvs,hd2,hk⟩⟩
def Lz{α:Type}(R:Hp->V->α->Prop)(H:Hp)(xs:List V)(ds:List α):Prop:=xs.length=ds.length/\∀(i:Nat) v d,xs[i]? =some v->ds[i]? =some d->R H v d
theorem Lz.mono{α:Type}{R:Hp->V->α->Prop}{H H':Hp}{xs:List V}{ds:List α}(m:∀v d,R H v d->R H' v d)(h:Lz R H xs ds):Lz R H' xs ds:=⟨h.1,λi v d hv hd=>m v d (h.2 i v d hv hd)⟩
theorem Lz.at{α:Type}{R:Hp->V->α->Prop}{H:Hp}{xs:List V}{ds:List α}{i:Nat}{v:V}(h:Lz R H xs ds)(hv:xs[i]? =some v):∃d,ds[i]? =some d/\R H v d:=by
 have hi:i < ds.length:=by
  rw[<-h.1];exact(List.getElem?_eq_some_iff.mp hv).1
 exact⟨ds[i],getElem?_eq_getElem hi,h.2 i v ds[i] hv (getElem?_eq_getElem hi)⟩
theorem qX{α:Type}{R:Hp->V->α->Prop}{H:Hp}{Ok:α->Prop}:∀{xs:List V},(∀v∈xs,∃d,R H v d/\Ok d)->∃ds,Lz R H xs ds/\∀d∈ds,Ok d
 |[],_=>⟨[],⟨rfl,λi v d hv=>by cases hv⟩,λd hd=>by cases hd⟩
 |v::r,h=>by
  obtain⟨ds,⟨l,g⟩,k⟩:=qX λu hu=>h u (mem_cons_of_mem _ hu);obtain⟨d,hd,kd⟩:=h v (mem_cons_self ..);refine⟨d::ds,⟨by rw[length_cons,length_cons,l],λi u e hu he=>?_⟩,λe he=>?_⟩
  ·cases i with
   |zero=>
    cases hu;cases he;exact hd
   |succ j=>exact g j u e hu he
  ·rcases mem_cons.mp he with rfl|he
   ·exact kd
   ·exact k e he
abbrev GD:=Str×Int
inductive dq  (H:Hp)(v:V)(d:GD):Prop
 |mk(a ta:Addr)(h0:v=.ref a)(h1:H a=some (.tup [.str d.1,.int d.2,.ref ta]))
theorem dq.mono{H H':Hp}(s:Tk H H')(v:V)(d:GD)(h:dq H v d):dq H' v d:=by
 obtain⟨a,ta,e,ha⟩:=h;exact⟨a,ta,e,s _ _ ha⟩
theorem mY{ps:List Str}{H:Hp}{ss:List V}(h:∀v∈ss,dU ps H v):∃sg,Lz dq H ss sg/\∀d∈sg,d.1∈ps/\cN d.2:=
 qX λv hv=>by
  obtain⟨a,z,i,ta,ws,e,ha,hz,hi,_⟩:=h v hv;exact⟨(z,i),⟨a,ta,e,ha⟩,hz,hi⟩
def eD(sd:List SD)(d:GD):Bool:=gH d.2 (floorOf d.1 sd)
def fD(sg:List GD)(sd:List SD)(n:Nat):List V:=((List.range n).filter (iR sg (eD sd))).map λi=>V.int (i:Nat)
theorem vG(sg:List GD)(sd:List SD)(n:Nat):(fD sg sd n).length<=n:=by
 unfold fD;rw[length_map];have:=length_filter_le (iR sg (eD sd)) (List.range n);rw[length_range]at this;exact this
inductive Fc(C:Addr)(vs:List V)(H:Hp)(Q:VK):Prop
 |mk(x p s t y:Addr)(ps:List Str)(ss ts ys:List V)(sg:List GD)(sd:List SD)(e:vs=[.ref x])(bk:Bk C H x p s t y ps ss ts ys)(pl:ps.length<=24)(sl:ss.length<=24)(gs:Lz dq H ss sg)(gp:∀d∈sg,d.1∈ps)(sy:Sys H ys sd)(l:ys.length<=60)
   (k:∀l H',cC H H'->H l=none->H' l=some (.lst (fD sg sd sg.length))->Q (.ref l) H')
def qA(C:Addr):Sp:=λvs H Q _=>Fc C vs H Q
theorem tF:cE ["self"] ["self"] (cB eU):={}
theorem uI (F:oj K "sights" "Book.sights" eU f fd) (me:Meth K C "sights" f) (bi:Binds K fd ["self"] []) (T:Txt K mg kw C):Md P w K mg base 1 C "sights" (dk C (λ_ s _ _=>s)):=by
 refine cq F me bi T.cl tF (λvs H Q E h=>?_) (λX H vs Q E hh h=>?_)
 ·obtain⟨x,p,s,t,y,xs,rfl,_⟩:=h
  rfl
 ·obtain⟨x,p,s,t,y,xs,rfl,⟨dx,hx⟩,hl,k⟩:=h
  obtain⟨S0,_⟩:=hh.d7 [0];have B_list:=hh.b T.b_list;obtain rfl:=hh.fK;refine⟨_,(ag (au (br B_list bE L2.dy (ak (cn (aa S0)))))),?_⟩;exact⟨_,rfl,x,C,dx,_,_,rfl,hx,T.cl,T.nS,Je _ _ _ _,_,_,rfl,.inl (cH.of hl),k⟩
theorem oY:cE ["book", "floors"] ["book"] (cB gN):={}
theorem nV (D:Df K mg "open_sights" gN ["book"] f fd) (T:Txt K mg kw C) (G_sights:Md P w K mg base 1 C "sights" (dk C λ_ s _ _=>s)) (G_floors_of_all:Gd P w K mg base 3 "floors_of_all" (lC C)) (G_is_above:Gd P w K mg base 1 "is_above" nM):Gd P w K mg base 4 "open_sights" (qA C):=by
 refine aF D oY λX H vs Q E hh h=>?_;obtain⟨x,p,s,t,y,ps,ss,ts,ys,sg,sd,rfl,bk,pl,sl,gs,gp,sy,l60,k⟩:=h;obtain⟨S0,S1,_⟩:=hh.d7 [0,1];have B_enumerate:=hh.b T.b_enumerate;have C_floors_of_all:=hh.c G_floors_of_all;have CI_is_above:=hh.ci G_is_above;have M_sights:=hh.met G_sights (by decide);have hu:=eS hh.room;have hsz:sizeLine=16777216:=sizeLine_eq;refine⟨_,(ah (aE S1 hh.nd (aw C_floors_of_all (ak (aa S0))))
 (ag (au (bF (is:=[1]) (xs:=["i", "sight"]) (ns:=["floors"]) hh.calm (J.lD B_enumerate (ak (bM M_sights (aa S0) rfl))) {} (λ_ _ _ _ _=>(J.nO (n:=2) hh.calm (aI (aX (i:=0) (by decide+kernel) rfl rfl) (aI (aX (i:=1) (by decide+kernel) rfl rfl) bj)))) (λ_ _ _ _ _=>(bA (aQ (aw (CI_is_above.lg rfl) (aA (af bf (aK (i:=1) rfl rfl (by decide) (by decide)) ae aj) (bP hu (a9 (i:=2) rfl rfl (by decide) (by decide)) (af bf (aK (i:=1) rfl rfl (by decide) (by decide)) ae aj) b4)))))) (λ_ _ _ _ _=>(aK (i:=0) rfl rfl (by decide) (by decide))) hh.hsc hh.hN)))),?_⟩
 refine⟨_,rfl,x,p,s,t,y,ps,ss,ts,ys,sd,rfl,bk,pl,sy,l60,λd H1 s1 dn fl=>?_⟩;obtain⟨⟨dx,hx⟩,hp,hs,ht,hy⟩:=bk.mono s1;refine⟨_,rfl,x,dx,_,rfl,hx,fZ _ _ _ _ (by decide+kernel) (by decide+kernel) (by decide+kernel) (by decide+kernel),x,p,s,t,y,ss,rfl,⟨dx,hx⟩,hs,λl hl=>?_⟩;have s2:=cC.upd (o:=.lst ss) hl;refine⟨l,rfl,⟨_,cH.of cz⟩,ue (xs:=ss) (iR sg (eD sd)) (λi=>V.int (i:Nat)) (cH.of cz) (by omega) ?_ ?_⟩
 ·intro i os v q H2 K1 K2 hv hos s3 hq k1 k2
  match os,hos with
  |[o1,o2],_=>
   obtain⟨g,hg,a,ta,rfl,ha⟩:=gs.at hv;rw[dN hg]at k1 k2;have s4:=cC.upd (o:=.tup [.int i,.ref a]) hq;have s14:=(s2.trans s3).trans s4;have ha4:=s14 _ _ (s1 _ _ ha);obtain⟨kvs,hd4,hk⟩:=fl.mono s14;have dg:eX (upd H2 q (.tup [.int i,.ref a])) d (.str g.1) (some (oV (floorOf g.1 sd))):=by
    rw[<-hk g.1 (gp g (mem_of_getElem? hg))];exact eX.k (k:=Sum.inr g.1) hd4
   refine⟨q,_,rfl,cU.of cz,rfl,_,_,rfl,_,_,rfl,rfl,⟨[_,_],rfl,rfl⟩,?_⟩;refine⟨_,rfl,xT ha4 rfl ⟨_,rfl,_,rfl,xT ha4 rfl ⟨d,_,rfl,dg,g.2,floorOf g.1 sd,rfl,_,rfl,c8 (λhb=>⟨_,rfl,k1 hb _ s4⟩) (λhb=>k2 (eq_false_of_ne_true hb) _ s4)⟩⟩⟩
 ·intro D' H' hD' s' hd'
  have e:((List.range ss.length).filter (iR sg (eD sd))).map (λi=>V.int (i:Nat))=fD sg sd sg.length:=by
   rw[gs.1];rfl
  rw[e]at hd';exact k D' H' ((s1.trans s2).trans s') ((s1.trans s2).free hD') hd'
def jM(z:Str):SD->Bool
 |.sil q _ _=>decide (q=z)
 |_=>false
def mX(h:Int):SD->Bool
 |.sil _ b e=>if b<=h then decide (h<=e) else false
 |_=>false
def qO(z:Str)(h:Int)(d:SD):Bool:=jM z d && mX h d
def uC(he te:Str):SD->Bool
 |.bar p q=>decide (p=he) && decide (q=te)
 |_=>false
theorem tJ{α β:Type}{f:α->Bool}{g:β->Bool}:∀{xs:List α}{ds:List β},xs.length=ds.length->(∀(i:Nat) v d,xs[i]? =some v->ds[i]? =some d->f v=g d)->xs.any f=ds.any g
 |[],[],_,_=>rfl
 |[],_::_,h,_=>by cases h
 |_::_,[],h,_=>by cases h
 |x::xs,d::ds,h,k=>by
  rw[any_cons,any_cons,k 0 x d rfl rfl,tJ (Nat.succ.inj h) λi v e hv he=>k (i+1) v e hv he]
theorem kB{α β:Type}:∀{xs:List α}{ds:List β}{i:Nat}{p:α×β},(xs.zip ds)[i]? =some p->xs[i]? =some p.1/\ds[i]? =some p.2
 |[],_,_,_,h=>by cases h
 |_::_,[],_,_,h=>by cases h
 |x::xs,d::ds,i,p,h=>by
  cases i with
  |zero=>
   cases h;exact⟨rfl,rfl⟩
  |succ j=>
   have h':(xs.zip ds)[j]? =some p:=h;exact kB (xs:=xs) (ds:=ds) (i:=j) h'
theorem j4{α β:Type}:∀{xs:List α}{ds:List β}{i:Nat}{v:α}{d:β},xs[i]? =some v->ds[i]? =some d->(xs.zip ds)[i]? =some (v,d)
 |[],_,_,_,_,h,_=>by cases h
 |_::_,[],_,_,_,_,h=>by cases h
 |x::xs,e::ds,i,v,d,h,h'=>by
  cases i with
  |zero=>
   cases h;cases h';rfl
  |succ j=>exact j4 (xs:=xs) (ds:=ds) (i:=j) h h'
theorem xl{α β:Type}(f:β->Bool):∀{xs:List α}{ds:List β},xs.length=ds.length->((xs.zip ds).any λp=>f p.2)=ds.any f
 |[],[],_=>rfl
 |[],_::_,h=>by cases h
 |_::_,[],h=>by cases h
 |x::xs,d::ds,h=>by
  show(f d || (xs.zip ds).any λp=>f p.2)=(f d || ds.any f);rw[xl f (Nat.succ.inj h)]
inductive Kg(vs:List V)(H:Hp)(Q:VK):Prop
 |mk(y:Addr)(ys:List V)(z:Str)(h:Int)(sd:List SD)(e:vs=[.ref y,.str z,.int h])(hy:H y=some (.lst ys))(sy:Sys H ys sd)(l:ys.length<=60)(k:∀H',cC H H'->Q (.bl (sd.any (qO z h))) H')
def wz:Sp:=λvs H Q _=>Kg vs H Q
inductive Lh(vs:List V)(H:Hp)(Q:VK):Prop
 |mk(y:Addr)(ys:List V)(he te:Str)(sd:List SD)(e:vs=[.ref y,.str he,.str te])(hy:H y=some (.lst ys))(sy:Sys H ys sd)(k:∀H',cC H H'->Q (.bl (sd.any (uC he te))) H')
def xi:Sp:=λvs H Q _=>Lh vs H Q
theorem uA(d:SD):d.tup.all cW=true:=by
 cases d with
 |unh q h=>cases h<;>rfl
 |_=>rfl
theorem wC(he te:Str)(d:SD):uK d.tup [.str "barred",.str he,.str te]=uC he te d:=by
 cases d with
 |knew p h=>exact Bool.and_eq_false_imp.mpr (λh=>absurd h (by
   rw[all_eq_true];intro k;exact absurd (k 0 (mem_range.mpr (lt_min.mpr ⟨succ_pos _,succ_pos _⟩))) (by show ¬(("knew" :Str) == "barred")=true;decide+kernel)))
 |unh p h=>exact Bool.and_eq_false_imp.mpr (λh=>absurd h (by
   rw[all_eq_true];intro k;exact absurd (k 0 (mem_range.mpr (lt_min.mpr ⟨succ_pos _,succ_pos _⟩))) (by show ¬(("unheard" :Str) == "barred")=true;decide+kernel)))
 |sil p b e=>exact Bool.and_eq_false_imp.mpr (λh=>absurd h (by
   rw[all_eq_true];intro k;exact absurd (k 0 (mem_range.mpr (lt_min.mpr ⟨succ_pos _,succ_pos _⟩))) (by show ¬(("silent" :Str) == "barred")=true;decide+kernel)))
 |bar p q=>
  show((("barred" :Str) == "barred") && ((p == he) && ((q == te) && true)) && true)=(decide (p=he) && decide (q=te));rw[show(("barred" :Str) == "barred")=true from beq_self_eq_true _,Bool.true_and,Bool.and_true,Bool.and_true]
  congr 1<;>exact beq_eq_decide _ _
theorem CQ{H:Hp}{v:V}{d:SD}{xs:List V}(h:t6 H v d):Gx H xs v=uK d.tup xs:=by
 obtain⟨a,rfl,ha⟩:=h;show(match H a with|some (.tup zs)=>uK zs xs|_=>false)=_;rw[ha]
theorem rA:cE ["sayings", "person", "hour", "own"] ["sayings", "person", "hour"] (cB jg):={}
theorem rh (D:Df K mg "is_silent" jg ["sayings", "person", "hour"] f fd) (T:Txt K mg kw C):Gd P w K mg base 1 "is_silent" wz:=by
 refine aF D rA λX H vs Q E hh h=>?_;obtain⟨y,ys,z,h,sd,rfl,hy,sy,l60,k⟩:=h;obtain⟨S0,S1,S2,S3,_⟩:=hh.d7 [0,1,2,3];have B_any:=hh.b T.b_any;have hsz:sizeLine=16777216:=sizeLine_eq;refine⟨_,(ah (bR (is:=[1]) (xs:=["saying"]) (ns:=["person"]) S3 hh.nd hh.calm (aP (aa S0)) {} (λ_ _ _ _ _=>(aX (i:=0) (by decide+kernel) rfl rfl)) (λ_ _ _ _ _=>(bA (aU (bo (aB aL (af bf (aK (i:=0) rfl rfl (by decide) (by decide)) ae aj) aO (L2.cF _)) (bB (aB aL (af bf (aK (i:=0) rfl rfl (by decide) (by decide)) ae aj) (a9 (i:=1) rfl rfl (by decide) (by decide)) (L2.cF _))))))) (λ_ _ _ _ _=>(aK (i:=0) rfl rfl (by decide) (by decide))) hh.hsc hh.hN (by decide+kernel))
 (ag (au (aD B_any (J.hZ hh.calm) L2.wq (ak (bF (is:=[2]) (xs:=["saying"]) (ns:=["hour"]) hh.calm (aP (aa S3)) {} (λ_ _ _ _ _=>(aX (i:=0) (by decide+kernel) rfl rfl)) (λ_ _ _ _ _=>bW) (λ_ _ _ _ _=>(J.ic bH bH (af bf (aK (i:=0) rfl rfl (by decide) (by decide)) ae aj) (a9 (i:=1) rfl rfl (by decide) (by decide)) (af bf (aK (i:=0) rfl rfl (by decide) (by decide)) ae aj) L2.j6)) hh.hsc hh.hN)))))),?_⟩
 have zl:(ys.zip sd).length=ys.length:=by
  rw[length_zip,<-sy.1,min_self]
 refine⟨_,rfl,y,rfl,⟨_,cH.of hy⟩,df (xs:=ys) (iR (ys.zip sd) λp=>jM z p.2) (sX (ys.zip sd) λp=>p.1) (cH.of hy) (by omega) ?_ ?_⟩
 ·intro i os v H2 K1 K2 hv hos s2 k1 k2
  match os,hos with
  |[o],_=>
   obtain⟨d,a,hd,rfl,ha⟩:=sy.at hv;have ha2:=s2 _ _ ha;rw[dN (j4 hv hd)]at k1 k2;rw[gf (j4 hv hd)]at k1;refine⟨⟨[some (.ref a)],rfl,rfl⟩,?_⟩;cases d with
   |knew q h=>exact⟨_,rfl,xT ha2 rfl ⟨rfl,_,rfl,iN (cR (k2 rfl H2 (cC.refl _)))⟩⟩
   |unh q h=>exact⟨_,rfl,xT ha2 rfl ⟨rfl,_,rfl,iN (cR (k2 rfl H2 (cC.refl _)))⟩⟩
   |bar q q'=>exact⟨_,rfl,xT ha2 rfl ⟨rfl,_,rfl,iN (cR (k2 rfl H2 (cC.refl _)))⟩⟩
   |sil q b e=>
    refine⟨_,rfl,xT ha2 rfl ⟨rfl,_,rfl,iP ⟨_,rfl,xT ha2 rfl ⟨_,rfl,rfl,_,rfl,c8 (λhq=>?_) (λhq=>?_)⟩⟩⟩⟩
    ·have hq':q=z:=V.str.inj (of_decide_eq_true hq)
     exact⟨_,rfl,k1 (decide_eq_true hq') H2 (cC.refl _)⟩
    ·exact k2 (decide_eq_false λe=>hq (decide_eq_true (congrArg V.str e))) H2 (cC.refl _)
 ·intro o H' ho s' hd'
  rw[<-zl,dE (λp=>jM z p.2) (λp=>p.1) (ys.zip sd)]at hd';have om:∀p∈(ys.zip sd).filter λp=>jM z p.2,t6 H p.1 p.2/\jM z p.2=true:=λp hp=>by
   obtain⟨hp1,hp2⟩:=mem_filter.mp hp;obtain⟨i,hi⟩:=getElem?_of_mem hp1;obtain⟨h1,h2⟩:=kB hi;exact⟨sy.2 i _ _ h1 h2,hp2⟩
  have ol:((ys.zip sd).filter λp=>jM z p.2).length<=60:=by
   have:=length_filter_le (λp:V×SD=>jM z p.2) (ys.zip sd);omega
  have ev:(((ys.zip sd).filter λp=>jM z p.2).any λp=>mX h p.2)=sd.any (qO z h):=by
   rw[List.any_filter];exact xl (λd=>jM z d && mX h d) sy.1
  generalize (ys.zip sd).filter (λp=>jM z p.2)=l at hd' om ol ev;refine⟨_,rfl,o,rfl,⟨_,cH.of hd'⟩,df (xs:=l.map λp=>p.1) (iR l λ_=>true) (sX l λp=>V.bl (mX h p.2)) (cH.of hd') (by rw[length_map];omega) ?_ ?_⟩
  ·intro i os v H2 K1 K2 hv hos s2 k1 k2
   match os,hos with
   |[o],_=>
    rw[getElem?_map]at hv;obtain⟨p,hp,rfl⟩:=map_eq_some_iff.mp hv;obtain⟨⟨a,ea,ha⟩,hz⟩:=om p (mem_of_getElem? hp);have ha2:=s2 _ _ (s' _ _ ha);rw[dN hp]at k1;rw[gf hp]at k1;have kk:=k1 rfl;clear k1 k2;refine⟨⟨[some p.1],rfl,rfl⟩,dv (B:=K2 H2) ?_⟩;obtain⟨v,d⟩:=p;dsimp only at ea ha2 kk hz;subst ea;cases d with
    |sil q b e=>
     refine⟨_,rfl,xT ha2 rfl ⟨_,rfl,_,_,rfl,rfl,_,rfl,?_⟩⟩;have k2:K1 (V.bl (if b<=h then decide (h<=e) else false)) H2:=kk H2 (cC.refl _);refine c8 (λhb=>?_) (λhb=>?_)
     ·rw[if_pos (of_decide_eq_true hb)]at k2
      exact⟨_,rfl,xT ha2 rfl ⟨_,_,rfl,rfl,k2⟩⟩
     ·rw[if_neg (λe=>hb (decide_eq_true e))]at k2
      exact k2
    |knew q h=>exact absurd hz Bool.false_ne_true
    |unh q h=>exact absurd hz Bool.false_ne_true
    |bar q q'=>exact absurd hz Bool.false_ne_true
  ·intro D2 H3 hD2 s3 hd3
   have e2:((List.range (l.map λp=>p.1).length).filter (iR l λ_=>true)).map (sX l λp=>V.bl (mX h p.2))=(l.map λp=>mX h p.2).map V.bl:=by
    rw[length_map,dE (λ_=>true) (λp=>V.bl (mX h p.2)) l,filter_eq_self.mpr (λ_ _=>rfl),map_map];rfl
   rw[e2]at hd3;refine⟨D2,_,rfl,cH.of hd3,?_⟩;have e3:(l.map λp=>mX h p.2).any id=sd.any (qO z h):=by
    rw[any_map,<-ev];rfl
   rw[e3];exact k H3 (s'.trans s3)
theorem qG:cE ["sayings", "hearer", "teller"] ["sayings", "hearer", "teller"] (cB je):={}
theorem q0 (D:Df K mg "is_barred" je ["sayings", "hearer", "teller"] f fd):Gd P w K mg base 1 "is_barred" xi:=by
 refine aF D qG λX H vs Q E hh h=>?_;obtain⟨y,ys,he,te,sd,rfl,hy,sy,k⟩:=h;obtain⟨S0,S1,S2,_⟩:=hh.d7 [0,1,2];have hu:=eS hh.room;refine⟨_,(ag (au (aR (J.jY hu) (aV (aM aO (aa S1) (aa S2))) (aa S0) cw))),?_⟩;refine⟨_,rfl,_,rfl,m7,λq hq=>?_⟩;have s1:=cC.upd (o:=.tup [.str "barred",.str he,.str te]) hq;have sy1:=sy.mono (Tk.of s1);refine⟨_,rfl,q,y,_,ys,rfl,rfl,cz,cH.of (s1 _ _ hy),rfl,λv hv=>?_,?_⟩
 ·obtain⟨i,hi⟩:=getElem?_of_mem hv
  obtain⟨d,a,_,e,ha⟩:=sy1.at hi;exact⟨a,d.tup,e,ha,uA d⟩
 ·rw[tJ (g:=uC he te) sy1.1 λi v d hv hd=>(CQ (sy1.2 i v d hv hd)).trans (wC he te d)]
  exact k _ s1
abbrev QD:=Int×Str×Str×Str
inductive dC  (H:Hp)(v:V)(d:QD):Prop
 |mk(a:Addr)(h0:v=.ref a)(h1:H a=some (.tup [.int d.1,.str d.2.1,.str d.2.2.1,.str d.2.2.2]))
theorem dC.mono{H H':Hp}(s:Tk H H')(v:V)(d:QD)(h:dC H v d):dC H' v d:=by
 obtain⟨a,e,ha⟩:=h;exact⟨a,e,s _ _ ha⟩
def j5(ps:List Str)(d:QD):Prop:=cN d.1/\d.2.1∈ps/\d.2.2.1∈ps/\(d.2.2.2= "both" \/d.2.2.2= "one")
theorem zp{ps:List Str}{H:Hp}{ts:List V}(h:∀v∈ts,eT ps H v):∃qd,Lz dC H ts qd/\∀d∈qd,j5 ps d:=
 qX λv hv=>by
  obtain⟨a,i,p,q,w,e,ha,hi,hp,hq,_,hw⟩:=h v hv;exact⟨(i,p,q,w),⟨a,e,ha⟩,hi,hp,hq,hw⟩
def gE(qd:List QD):List TD:=qd.map λd=>d.2
theorem Ci{H:Hp}{ts:List V}{qd:List QD}(h:Lz dC H ts qd):Hg H ts (gE qd):=by
 refine⟨by rw[h.1];exact(length_map ..).symm,λi v d hv hd=>?_⟩;unfold gE at hd;rw[getElem?_map]at hd;obtain⟨q,hq,rfl⟩:=map_eq_some_iff.mp hd;obtain⟨a,e,ha⟩:=h.2 i v q hv hq;exact⟨a,q.1,e,ha⟩
def ef(qd:List QD)(k:Nat):Int:=match qd[k]? with
 |some d=>d.1
 |none=>0
theorem gW{qd:List QD}{k:Nat}{d:QD}(h:qd[k]? =some d):ef qd k=d.1:=by
 unfold ef;rw[h]
abbrev TK:=Nat×Str×Str
def cX(qd:List QD)(sd:List SD)(t:TK):Bool:=gH (ef qd t.1) (floorOf t.2.2 sd) && !(sd.any (qO t.2.1 (ef qd t.1)) || sd.any (uC t.2.2 t.2.1))
theorem qR{t:TK}:∀{l:List TD}{k:Nat},t∈gd k l->∃(j:Nat) (d:TD),l[j]? =some d/\t.1=k+j/\(t.2=(d.1,d.2.1)\/t.2=(d.2.1,d.1))
 |[],_,h=>by cases h
 |d::r,k,h=>by
  have h':t∈dP k d++gd (k+1) r:=h;rcases mem_append.mp h' with h|h
  ·refine⟨0,d,rfl,?_⟩
   unfold dP at h;split at h
   ·rcases mem_cons.mp h with rfl|h
    ·exact⟨rfl,.inl rfl⟩
    ·rw[mem_singleton]at h
     subst h;exact⟨rfl,.inr rfl⟩
   ·rw[mem_singleton]at h
    subst h;exact⟨rfl,.inl rfl⟩
  ·obtain⟨j,e,he,h1,h2⟩:=qR h
   exact⟨j+1,e,he,by omega,h2⟩
theorem Ij{ps:List Str}{qd:List QD}(ok:∀d∈qd,j5 ps d){t:TK}(h:t∈gd 0 (gE qd)):∃q,qd[t.1]? =some q/\t.2.2∈ps:=by
 obtain⟨j,d,hd,e1,e2⟩:=qR h;unfold gE at hd;rw[getElem?_map]at hd;obtain⟨q,hq,rfl⟩:=map_eq_some_iff.mp hd;rw[zero_add]at e1;have:=ok q (mem_of_getElem? hq);refine⟨q,by rw[e1];exact hq,?_⟩;rcases e2 with e2|e2
 ·rw[e2]
  exact this.2.2.1
 ·rw[e2]
  exact this.2.1
theorem Cv{ta tb:TE}{σ:St}{H:Hp}{Q:VK}(b1 b2:Bool)(h1:∀Q':VK,(∀H',cC H H'->Q' (.bl b1) H')->ta σ H Q')(h2:∀H1 (Q':VK),cC H H1->(∀H',cC H1 H'->Q' (.bl b2) H')->tb σ H1 Q')(q:∀H',cC H H'->Q (.bl (b1 || b2)) H'):C6 ta tb σ H Q:=by
 refine h1 _ λH1 s1=>⟨_,rfl,?_⟩;cases b1 with
 |true=>exact dv (q H1 s1)
 |false=>exact cR (h2 H1 _ s1 λH' s'=>q H' (s1.trans s'))
theorem Gs{ta tb:TE}{i j:Nat}{v:V}{u:TS}{D:Ends}{σ:St}{H:Hp}(b1 b2:Bool)(h1:∀Q':VK,(∀H',cC H H'->Q' (.bl b1) H')->ta (σ.set i (some v)) H Q')(h2:∀H1 (Q':VK),cC H H1->(∀H',cC H1 H'->Q' (.bl b2) H')->tb (σ.set i (some v)) H1 Q')
  (q:∀H',cC H H'->u D ((σ.set i (some v)).set j (some (.bl (b1 || b2)))) H'):eQ i v σ H (vR (uD (C6 ta tb) (eQ j)) u D):=Cv (ta:=ta) (tb:=tb) b1 b2 h1 h2 q
inductive Gg(C:Addr)(vs:List V)(H:Hp)(Q:VK):Prop
 |mk(x p s t y:Addr)(ps:List Str)(ss ts ys:List V)(qd:List QD)(sd:List SD)(e:vs=[.ref x])(bk:Bk C H x p s t y ps ss ts ys)(pl:ps.length<=24)(tl:ts.length<=120)(qs:Lz dC H ts qd)(qk:∀d∈qd,j5 ps d)(sy:Sys H ys sd)(l:ys.length<=60)
   (k:∀l us H',cC H H'->H l=none->H' l=some (.lst us)->eR H' us ((gd 0 (gE qd)).filter (cX qd sd))->Q (.ref l) H')
inductive HR(x tb yb d fo:Addr)(H5:Hp)(tl:List TK)(op:TK->Bool)(i:Nat)(σ:St)(H6:Hp):Prop
 |mk(us:List V)(e1 e2 e3 e4 e5:Option V)(e:σ=[some (.ref x),some (.ref tb),some (.ref yb),some (.ref d),some (.ref fo),e1,e2,e3,e4,e5])(kp:∀b o,H5 b=some o->b≠fo->H6 b=some o)(hf:H6 fo=some (.lst us))(ul:us.length<=i)(tu:eR H6 us ((tl.take i).filter op))
def se(C:Addr):Sp:=λvs H Q _=>Gg C vs H Q
theorem uW:cE ["self"] ["self"] (cB fO):={}
theorem vk (F:oj K "talks" "Book.talks" fO f fd) (me:Meth K C "talks" f) (bi:Binds K fd ["self"] []) (T:Txt K mg kw C):Md P w K mg base 1 C "talks" (dk C (λ_ _ t _=>t)):=by
 refine cq F me bi T.cl uW (λvs H Q E h=>?_) (λX H vs Q E hh h=>?_)
 ·obtain⟨x,p,s,t,y,xs,rfl,_⟩:=h
  rfl
 ·obtain⟨x,p,s,t,y,xs,rfl,⟨dx,hx⟩,hl,k⟩:=h
  obtain⟨S0,_⟩:=hh.d7 [0];have B_list:=hh.b T.b_list;obtain rfl:=hh.fK;refine⟨_,(ag (au (br B_list bE L2.dy (ak (cn (aa S0)))))),?_⟩;exact⟨_,rfl,x,C,dx,_,_,rfl,hx,T.cl,T.nT,DI _ _ _ _,_,_,rfl,.inl (cH.of hl),k⟩
theorem mJ:cE ["book", "talks", "sayings", "floors", "found", "k", "teller", "hearer", "hour", "hushed"] ["book"] (cB fH):={}
theorem l5 (D:Df K mg "open_tellings" fH ["book"] f fd) (T:Txt K mg kw C) (G_talks:Md P w K mg base 1 C "talks" (dk C λ_ _ t _=>t)) (G_sayings:Md P w K mg base 1 C "sayings" (dk C λ_ _ _ y=>y)) (G_tellings:Md P w K mg base 1 C "tellings" (kf C))
  (G_floors_of_all:Gd P w K mg base 3 "floors_of_all" (lC C)) (G_is_above:Gd P w K mg base 1 "is_above" nM) (G_is_silent:Gd P w K mg base 1 "is_silent" wz) (G_is_barred:Gd P w K mg base 1 "is_barred" xi):Gd P w K mg base 4 "open_tellings" (se C):=by
 refine aF D mJ λX H vs Q E hh h=>?_;obtain⟨x,p,s,t,y,ps,ss,ts,ys,qd,sd,rfl,bk,pl,tl,qs,qk,sy,l60,k⟩:=h;obtain⟨S0,S1,S2,S3,S4,S5,S6,S7,S8,S9,_⟩:=hh.d7 [0,1,2,3,4,5,6,7,8,9];have C_floors_of_all:=hh.c G_floors_of_all;have C_is_above:=hh.c G_is_above;have C_is_barred:=hh.c G_is_barred;have C_is_silent:=hh.c G_is_silent;have M_sayings:=hh.met G_sayings (by decide);have M_talks:=hh.met G_talks (by decide);have M_tellings:=hh.met G_tellings (by decide);have hu:=eS hh.room;have hsz:sizeLine=16777216:=sizeLine_eq;obtain⟨⟨dx,hx⟩,hp,hs,ht,hy⟩:=id bk;refine⟨_,(ah (aE S1 hh.nd (bM M_talks (aa S0) rfl))
 (ah (aE S2 hh.nd (bM M_sayings (aa S0) rfl))
 (ah (aE S3 hh.nd (aw C_floors_of_all (ak (aa S0))))
 (ah (aE S4 hh.nd (bh bJ))
 (ah (bp hh.own hh.calm (aP (bM M_tellings (aa S0) rfl)) (bu hh.calm (aI (aG S5 hh.nd) (aI (aG S6 hh.nd) (aI (aG S7 hh.nd) bj))))
 (ah (aE S8 hh.nd (af ao (af aT (aa S1) (aa S5) a8) ae aj))
 (ah (aE S9 hh.nd (J.qv (aw C_is_silent (aM (aa S2) (aa S6) (aa S8))) (aZ (aw C_is_barred (aM (aa S2) (aa S7) (aa S6))))))
 (ag (aH (aU (bo (aQ (aw C_is_above (aA (aa S8) (bP hu (aa S3) (aa S7) a8)))) (bB (aY (J.wZ (aa S9))))))
 (ag (bG (bI plainAttrs_list PySem.F.slot_list_append PySem.F.type_list_append bL (aa S4) (ak (aV (aM (aa S5) (aa S6) (aa S7)))))))
 aJ)))))
 (ag (au (aa S4)))))))),?_⟩
 refine⟨_,rfl,x,dx,_,rfl,hx,fZ _ _ _ _ (by decide+kernel) (by decide+kernel) (by decide+kernel) (by decide+kernel),x,p,s,t,y,ts,rfl,⟨dx,hx⟩,ht,λtb htb=>?_⟩;have s1:=cC.upd (o:=.lst ts) htb;have htb1:upd H tb (.lst ts) tb=some (.lst ts):=cz;generalize upd H tb (.lst ts)=H1 at s1 htb1;refine⟨_,rfl,x,dx,_,rfl,s1 _ _ hx,fZ _ _ _ _ (by decide+kernel) (by decide+kernel) (by decide+kernel) (by decide+kernel),x,p,s,t,y,ys,rfl,⟨dx,s1 _ _ hx⟩,s1 _ _ hy,λyb hyb=>?_⟩;have s2:=cC.upd (o:=.lst ys) hyb;have hyb2:upd H1 yb (.lst ys) yb=some (.lst ys):=cz;generalize upd H1 yb (.lst ys)=H2 at s2 hyb2;have s02:=s1.trans s2;refine⟨_,rfl,x,p,s,t,y,ps,ss,ts,ys,sd,rfl,bk.mono s02,pl,sy.mono (Tk.of s02),l60,λd H3 s3 dn fl=>?_⟩;have s03:=s02.trans s3;refine⟨zc,λfo hfo=>?_⟩;have s4:=cC.upd (o:=.lst []) hfo;have s04:=s03.trans s4;have hfo4:upd H3 fo (.lst []) fo=some (.lst []):=cz;have nfo:H fo=none:=s03.free hfo;have fl4:=fl.mono s4;have htb4:=s4 _ _ (s3 _ _ (s2 _ _ htb1));have hyb4:=s4 _ _ (s3 _ _ hyb2);have fotb:tb≠fo:=cA (s3 _ _ (s2 _ _ htb1)) hfo;have foyb:yb≠fo:=cA (s3 _ _ hyb2) hfo;have fod:d≠fo:=by
  obtain⟨kvs,e,_⟩:=fl;exact cA e hfo
 generalize upd H3 fo (.lst [])=H4 at s4 s04 hfo4 fl4 htb4 hyb4;clear s1 htb1 s2 hyb2 s02 s3 fl s03 hfo s4;refine⟨_,rfl,x,dx,_,rfl,s04 _ _ hx,fZ _ _ _ _ (by decide+kernel) (by decide+kernel) (by decide+kernel) (by decide+kernel),x,p,s,t,y,ps,ss,ts,ys,gE qd,rfl,bk.mono s04,(Ci qs).mono (Tk.of s04),tl,λm vs H5 s5 mn hm tm=>?_⟩;have fom:m≠fo:=(cA hfo4 mn).symm;have ml:vs.length<=240:=by
  have:=jv (gE qd) 0;have:=tm.1;have:=(Ci qs).1;omega
 refine⟨m,rfl,⟨_,cH.of hm⟩,dA (K:=X.K) (a:=m) (xs:=vs) (HR x tb yb d fo H5 (gd 0 (gE qd)) (cX qd sd))
  ⟨[],none,none,none,none,none,rfl,λb o e _=>e,s5 _ _ hfo4,le_refl 0,eR.nil⟩ ?_ ?_ ?_⟩
 ·rintro i σ H6 hi ⟨us,e1,e2,e3,e4,e5,rfl,kp,_⟩
  exact cH.of (kp _ _ hm fom)
 ·rintro i v σ H6 hv ⟨us,e1,e2,e3,e4,e5,rfl,kp,hf6,ul,tu⟩
  have hi:i < vs.length:=(List.getElem?_eq_some_iff.mp hv).1;obtain⟨tk,htk⟩:∃tk,(gd 0 (gE qd))[i]? =some tk:=⟨_,getElem?_eq_getElem (by rw[<-tm.1];exact hi)⟩;obtain⟨a,rfl,ha⟩:=tm.2 i v tk hv htk;obtain⟨q,hq,hps⟩:=Ij qk (mem_of_getElem? htk);have kpT:∀b xs,H b=some (.tup xs)->H6 b=some (.tup xs):=λb xs e=>kp b _ (s5 _ _ (s04 _ _ e)) (cA e nfo);have ha6:=kp _ _ ha (pF ha (s5 _ _ hfo4) (by intro z;cases z));have htb6:=kp _ _ (s5 _ _ htb4) fotb;have hyb6:=kp _ _ (s5 _ _ hyb4) foyb;obtain⟨kvs,hd6,hk⟩:=fl4;have hd6:=kp _ _ (s5 _ _ hd6) fod;obtain⟨vq,hvq⟩:∃vq,ts[tk.1]? =some vq:=⟨_,getElem?_eq_getElem (by rw[qs.1];exact(List.getElem?_eq_some_iff.mp hq).1)⟩;obtain⟨aq,rfl,haq⟩:=qs.2 _ _ _ hvq hq;have haq6:=kpT _ _ haq;have sy6:Sys H6 ys sd:=sy.mono kpT;refine⟨a,_,rfl,cU.of ha6,rfl,_,_,rfl,_,_,rfl,_,_,rfl,rfl,?_⟩;refine⟨_,rfl,_,rfl,xL htb6 (cQ hvq) (xT haq6 rfl ?_)⟩;rw[<-gW hq];refine Gs (i:=8) (j:=9) (ta:=kj wz [] E0 (dH (kJ 2) (dH (kJ 6) (dH (kJ 8) oW)))) (tb:=kj xi [] E0 (dH (kJ 2) (dH (kJ 7) (dH (kJ 6) oW)))) (sd.any (qO tk.2.1 (ef qd tk.1))) (sd.any (uC tk.2.2 tk.2.1)) (λQ' q'=>⟨_,rfl,_,rfl,_,rfl,yb,ys,tk.2.1,ef qd tk.1,sd,rfl,hyb6,sy6,l60,q'⟩) (λH7 Q' s7 q'=>⟨_,rfl,_,rfl,_,rfl,yb,ys,tk.2.2,tk.2.1,sd,rfl,s7 _ _ hyb6,sy6.mono (Tk.of s7),q'⟩) (λH7 s7=>?_);have dg:eX H7 d (.str tk.2.2) (some (oV (floorOf tk.2.2 sd))):=by
   rw[<-hk _ hps];exact eX.k (k:=Sum.inr tk.2.2) (s7 _ _ hd6)
  have et:(gd 0 (gE qd)).take (i+1)=(gd 0 (gE qd)).take i++[tk]:=by
   rw[take_add_one,htk];rfl
  have hf7:=s7 _ _ hf6;have kp7:∀b o,H5 b=some o->b≠fo->H7 b=some o:=λb o e n=>s7 _ _ (kp b o e n);have tu7:=tu.mono (Tk.of s7);have no:cX qd sd tk=false->eR H7 us (((gd 0 (gE qd)).take (i+1)).filter (cX qd sd)):=λh=>by
   rw[et,filter_append,filter_cons,if_neg (by rw[h];exact Bool.false_ne_true),List.filter_nil,append_nil];exact tu7
  refine⟨_,rfl,_,rfl,_,rfl,d,_,rfl,dg,ef qd tk.1,floorOf tk.2.2 sd,rfl,_,rfl,c8 (λhab=>⟨_,rfl,_,rfl,c8 (λhs=>?_) (λhs=>?_)⟩) (λhab=>cR ?_)⟩
  ·have ot:cX qd sd tk=true:=by
    unfold cX;rw[hab,hs];rfl
   refine⟨_,rfl,.inl ⟨rfl,_,cH.of hf7⟩,_,rfl,_,rfl,_,rfl,m7,λt1 ht1=>?_⟩;have s8:=cC.upd (o:=.tup [.int tk.1,.str tk.2.1,.str tk.2.2]) ht1;have t1f:t1≠fo:=(cA hf7 ht1).symm;refine⟨fo,us,.ref t1,rfl,rfl,s8 _ _ hf7,by omega,us++[.ref t1],_,_,_,_,_,rfl,λb o e n=>?_,cz,by rw[length_append];show us.length+1<=i+1;omega,?_⟩
   ·rw[cD n]
    exact s8 _ _ (kp7 b o e n)
   ·rw[et,filter_append,filter_cons,if_pos ot,List.filter_nil]
    refine(tu7.mono ((Tk.of s8).trans (Tk.upd (s8 _ _ hf7)))).snoc ⟨t1,rfl,?_⟩;rw[cD t1f];exact cz
  ·refine⟨us,_,_,_,_,_,rfl,kp7,hf7,by omega,no ?_⟩
   unfold cX;rw[eq_false_of_ne_true hs,Bool.and_false]
  ·refine⟨us,_,_,_,_,_,rfl,kp7,hf7,by omega,no ?_⟩
   unfold cX;rw[eq_false_of_ne_true hab,Bool.false_and]
 ·rintro σ H6 ⟨us,e1,e2,e3,e4,e5,rfl,kp,hf6,ul,tu⟩
  rw[tm.1,take_length]at tu;exact⟨_,rfl,k fo us H6 (λb o e=>kp b o (s5 _ _ (s04 _ _ e)) (cA e nfo)) nfo hf6 tu⟩
end K32
namespace K32
open PySem L2
variable {P:Program}{w:World}{K:PySem.W.Frag}{mg:Str->Option Value}{base:Heap}{kw C:Addr}{f:Addr}{fd:FuncData}
inductive FZ  (vs:List V)(H:Hp)(Q:VK):Prop
 |mk(c k:Int)(h0:vs=[.int c,.int k])(h1:0<=k)(h2:k<=1000)(h3:∀m:Int,0<=m->m < 2147483647->Q (.int m) H)
def xh  :Sp:=λvs H Q _=>FZ  vs H Q
structure nH(hs:List Int):Prop where
 len:hs.length=21
 ok:∀h∈hs,cN h
 mono:∀(i j:Nat) (a b:Int),i<=j->hs[i]? =some a->hs[j]? =some b->a<=b
inductive Af  (vs:List V)(H:Hp)(Q:VK):Prop
 |mk(c:Int)(h0:vs=[.int c])(h1:∀(l:Addr)(hs:List Int)(H':Hp),cC H H'->H l=none->H' l=some (.lst (hs.map V.int))->nH hs->Q (.ref l) H')
def sj  :Sp:=λvs H Q _=>Af  vs H Q
def LP(ps:List Str):SD->Prop
 |.knew p h=>p∈ps/\cN h
 |.unh p h=>p∈ps/\∀i,h=some i->cN i
 |.sil p b e=>p∈ps/\cN b/\cN e/\b<=e
 |.bar p q=>p∈ps/\q∈ps
inductive Cg  (vs:List V)(H:Hp)(Q:VK):Prop
 |mk(n at_:Int)(p q:Str)(cl:Addr)(hs:List Int)(ps:List Str)(h0:vs=[.int n,.str p,.str q,.ref cl,.int at_])(h1:H cl=some (.lst (hs.map V.int)))(h2:nH hs)(h3:0<=at_)(h4:at_<=20)(h5:p∈ps)(h6:q∈ps)(h7:∀(v:V)(d:SD)(H':Hp),cC H H'->t6 H' v d->LP ps d->Q v H')
def vI  :Sp:=λvs H Q _=>Cg  vs H Q
inductive Ct  (vs:List V)(H:Hp)(Q:VK):Prop
 |mk(n k m:Int)(h0:vs=[.int n,.int k,.int m])(h1:0<=n)(h2:0<=k)(h3:1<=m)(h4:∀(t:Addr)(a f st:Int)(H':Hp),cC H H'->H' t=some (.tup [.int a,.int f,.int st])->0<=a->a<=20->0<=f->f < m->0<=st->Q (.ref t) H')
def u0  :Sp:=λvs H Q _=>Ct  vs H Q
theorem kK{hs:List Int}(ok:nH hs){i:Int}(h0:0<=i)(h1:i<=20):∃h:Int,pQ (hs.map V.int) i=some (.int h)/\hs[i.toNat]? =some h/\cN h:=by
 have hi:i.toNat < hs.length:=by
  rw[ok.len];omega
 have e:((i.toNat:Nat):Int)=i:=Int.toNat_of_nonneg h0;have:=cQ (xs:=hs.map V.int) (j:=i.toNat) (v:=V.int hs[i.toNat]) (by rw[getElem?_map,getElem?_eq_getElem hi];rfl);rw[e]at this;exact⟨hs[i.toNat],this,getElem?_eq_getElem hi,ok.ok _ (getElem_mem hi)⟩
theorem both{G A:Prop}(g:G)(f:G->A):A:=f g
theorem cT(x:Int){m:Int}(h:0 < m):0<=x % m/\x % m < m:=⟨Int.emod_nonneg _ (Int.ne_of_gt h),Int.emod_lt_of_pos _ h⟩
theorem zL:cE ["_law_cell", "_law_k", "_law_some"] ["_law_cell", "_law_k"] (cB r6):={}
theorem Gi (D:Df K mg "_law_mix" r6 ["_law_cell", "_law_k"] f fd):Gd P w K mg base 1 "_law_mix" xh:=by
 refine aF D zL λX H vs Q E hh h=>?_;obtain⟨c,k,rfl,k0,k1,q⟩:=h;obtain⟨S0,S1,S2,_⟩:=hh.d7 [0,1,2];refine⟨_,(ah (aE S2 hh.nd (az bw (az bw (az a7 (aa S0) ae) (az bO (az bO ae (aa S1)) (aa S1))) ae))
 (ag (au (az a7 (az bO (az a7 (az bO (aa S2) (aa S2)) ae) (az bw (aa S1) ae)) ae)))),?_⟩
 refine⟨_,rfl,_,_,rfl,rfl,(by show(0:Int) < 1000000007;decide),_,rfl,_,_,rfl,rfl,.inl ⟨by decide,by decide⟩,_,rfl,_,_,rfl,rfl,.inr ⟨by omega,by omega⟩,_,_,rfl,rfl,_,_,rfl,rfl,?_⟩;have a:=cT c (m:=1000000007) (by decide);have b:0<=31 * k * k/\31 * k * k<=31000000:=by
  have h1:31 * k * k=31 * (k * k):=Int.mul_assoc 31 k k;have h2:0<=k * k:=Int.mul_nonneg k0 k0;have h3:k * k<=1000 * 1000:=Int.mul_le_mul k1 k1 k0 (by decide);omega
 dsimp only;have sb:0<=c % 1000000007+31 * k * k+1/\c % 1000000007+31 * k * k+1<=1100000000:=by omega
 generalize c % 1000000007+31 * k * k+1=S at sb;clear a b;have r:=cT (S * S % 2147483629 * (k+7)) (m:=2147483647) (by decide);exact⟨_,rfl,_,rfl,_,_,rfl,rfl,.inl ⟨by omega,by omega⟩,_,_,rfl,rfl,(by show(0:Int) < 2147483629;decide),_,rfl,_,_,rfl,rfl,_,_,rfl,rfl,.inr ⟨by omega,by omega⟩,_,_,rfl,rfl,(by show(0:Int) < 2147483647;decide),q _ r.1 r.2⟩
theorem vD:cE ["_law_cell", "_law_step", "_law_low"] ["_law_cell"] (cB lV):={}
theorem Bi (D:Df K mg "_law_clock" lV ["_law_cell"] f fd) (T:Txt K mg kw C):Gd P w K mg base 1 "_law_clock" sj:=by
 refine aF D vD λX H vs Q E hh h=>?_;obtain⟨c,rfl,q⟩:=h;obtain⟨S0,S1,S2,_⟩:=hh.d7 [0,1,2];have B_range:=hh.b T.b_range;have hsz:sizeLine=16777216:=sizeLine_eq;have e16:(10:Int) ^ Int.toNat 16=10000000000000000:=by decide+kernel
 have e17:(10:Int) ^ Int.toNat 17=100000000000000000:=by decide+kernel
 have e18:(10:Int) ^ Int.toNat 18=1000000000000000000:=by decide+kernel
 refine⟨_,(ah (aE S1 hh.nd (af aT (bh (b8 ae ae ae (az bO ae (az J.ma ae ae)))) (az a7 (aa S0) ae) cb))
 (ah (aE S2 hh.nd (af aT (bh (aM ae (az a7 (az ba (aa S0) ae) (az J.ma ae ae)) (az J.pf (az J.ma ae ae) (az bO ae (aa S1))))) (az a7 (az ba (aa S0) ae) ae) cb))
 (ag (au (bV (is:=[1,2]) (ns:=["_law_step", "_law_low"]) hh.calm (b9 B_range (ak ae)) {} (λ_ _ _ _ _=>(az bw (cy (i:=1) rfl rfl (by decide) (by decide)) (az bO (cy (i:=0) rfl rfl (by decide) (by decide)) (bY rfl (by decide) (by decide))))) hh.hsc hh.hN))))),?_⟩
 refine⟨_,_,rfl,rfl,⟨by decide,by decide,by decide⟩,_,_,rfl,rfl,.inl ⟨by decide,by decide⟩,JY,λl1 hl1=>?_⟩;have s1:=cC.upd (o:=.lst [.int 1,.int 1,.int 7,.int (4 * 10 ^ Int.toNat 16)]) hl1;have m4:=cT c (m:=4) (by decide);obtain⟨st,hst,st0⟩:∃st:Int,pQ [V.int 1,.int 1,.int 7,.int (4 * 10 ^ Int.toNat 16)] (c % 4)=some (.int st)/\(st=1\/st=7\/st=40000000000000000):=by
  have:c % 4=0\/c % 4=1\/c % 4=2\/c % 4=3:=by omega
  rcases this with e|e|e|e<;>rw[e]
  ·exact⟨1,rfl,.inl rfl⟩
  ·exact⟨1,rfl,.inl rfl⟩
  ·exact⟨7,rfl,.inr (.inl rfl)⟩
  ·exact⟨_,rfl,.inr (.inr (by rw[e16];rfl))⟩
 refine⟨_,rfl,_,_,rfl,rfl,(by show(0:Int) < 4;decide),xL cz hst ?_⟩;have m3:=cT (c / 4) (m:=3) (by decide);have m17:=cT (c / 4) (m:=10 ^ Int.toNat 17) (by rw[e17];decide);obtain⟨lw,hlw,lw0,lw1⟩:∃lw:Int,pQ [V.int 0,.int (c / 4 % 10 ^ Int.toNat 17),.int (10 ^ Int.toNat 18 - 20 * st)] (c / 4 % 3)=some (.int lw)/\0<=lw/\lw+st * 20<=1000000000000000000:=by
  have:c / 4 % 3=0\/c / 4 % 3=1\/c / 4 % 3=2:=by omega
  rcases this with e|e|e<;>rw[e]
  ·exact⟨0,rfl,by decide,by rcases st0 with z|z|z<;>rw[z]<;>decide⟩
  ·exact⟨_,rfl,m17.1,by rw[e17]at *;rcases st0 with z|z|z<;>rw[z]<;>omega⟩
  ·exact⟨_,rfl,by rw[e18];rcases st0 with z|z|z<;>rw[z]<;>decide,by rw[e18];omega⟩
 refine⟨_,rfl,_,_,rfl,rfl,⟨by decide,by decide⟩,_,_,rfl,rfl,⟨by decide,by decide,by decide⟩,_,_,rfl,rfl,(by show(0:Int) < 10 ^ Int.toNat 17;rw[e17];decide),_,_,rfl,rfl,⟨by decide,by decide,by decide⟩,_,rfl,_,_,rfl,rfl,.inl ⟨by decide,by decide⟩,_,_,rfl,rfl,m7,λl2 hl2=>?_⟩;have s2:=s1.trans (cC.upd (o:=.lst [.int 0,.int (c / 4 % 10 ^ Int.toNat 17),.int (10 ^ Int.toNat 18 - 20 * st)]) hl2);refine⟨_,rfl,_,_,rfl,rfl,⟨by decide,by decide⟩,_,_,rfl,rfl,(by show(0:Int) < 3;decide),xL cz hlw ?_⟩;refine⟨21,rfl,by decide,by decide,AO (lo:=0) (n:=21) (λv=>match v with|.int i=>.int (lw+st * i)|_=>.non) (by omega) (λi H2 Q' hi sm q'=>?_) (λD' hD=>?_)⟩
 ·exact⟨_,rfl,_,rfl,_,rfl,_,_,rfl,rfl,.inr ⟨by omega,by omega⟩,_,_,rfl,rfl,q'⟩
 ·have s3:=s2.trans (cC.upd (o:=.lst ((List.range 21).map λ(i:Nat)=>V.int (lw+st * (0+(i:Int))))) hD)
  have stp:0 < st:=by rcases st0 with z|z|z<;>rw[z]<;>decide
  refine q D' ((List.range 21).map λ(i:Nat)=>lw+st * (0+(i:Int))) _ s3 (s2.free hD) ?_ ⟨by rw[length_map,length_range],λh hm=>?_,λi j a b hij ha hb=>?_⟩
  ·rw[cz,map_map]
   rfl
  ·obtain⟨i,hi,rfl⟩:=mem_map.mp hm
   have hi':=mem_range.mp hi;have h1:st * (0+(i:Int))<=st * 20:=Int.mul_le_mul_of_nonneg_left (by omega) (by omega);have h2:0<=st * (0+(i:Int)):=Int.mul_nonneg (by omega) (by omega);exact⟨by omega,by rw[e18];omega⟩
  ·rw[getElem?_map]at ha hb
   obtain⟨i',hi',rfl⟩:=map_eq_some_iff.mp ha;obtain⟨j',hj',rfl⟩:=map_eq_some_iff.mp hb;obtain⟨h1,rfl⟩:=List.getElem?_eq_some_iff.mp hi';obtain⟨h2,rfl⟩:=List.getElem?_eq_some_iff.mp hj';rw[List.getElem_range,List.getElem_range];have h3:st * (0+(i:Int))<=st * (0+(j:Int)):=Int.mul_le_mul_of_nonneg_left (by omega) (by omega);omega
theorem tI:cE ["_law_number", "_law_one", "_law_other", "_law_clock_here", "_law_at", "_law_way", "_law_late"] ["_law_number", "_law_one", "_law_other", "_law_clock_here", "_law_at"] (cB jZ):={}
theorem BY (D:Df K mg "_law_saying" jZ ["_law_number", "_law_one", "_law_other", "_law_clock_here", "_law_at"] f fd) (T:Txt K mg kw C):Gd P w K mg base 1 "_law_saying" vI:=by
 refine aF D tI λX H vs Q E hh h=>?_;obtain⟨n,at_,p,q,cl,hs,ps,rfl,hc,ok,a0,a1,hp,hq,k⟩:=h;obtain⟨S0,S1,S2,S3,S4,S5,S6,_⟩:=hh.d7 [0,1,2,3,4,5,6];have B_max:=hh.b T.b_max;have B_min:=hh.b T.b_min;refine⟨_,(ah (aE S5 hh.nd (az a7 (az ba (aa S0) ae) ae))
 (ah (aE S6 hh.nd (af aT (aa S3) (aD B_min (J.fP hh.calm) L2.rb (aA ae (az bw (aa S4) (az a7 (az ba (aa S0) ae) ae)))) J.qL))
 (ah (aH (aB bS (aa S5) ae (L2.cF _))
 (ag (au (aV (aM aO (aa S1) (aa S6)))))
 aJ)
 (ah (aH (aU (bo (aB aL (aa S5) ae (L2.cF _)) (bB (aB aL (az a7 (az ba (aa S0) ae) ae) ae (L2.cF _)))))
 (ag (au (aV (aM aO (aa S1) bC))))
 aJ)
 (ah (aH (aB bS (aa S5) ae (L2.cF _))
 (ag (au (aV (aM aO (aa S1) (af aT (aa S3) (aD B_max (J.gS hh.calm) L2.wg (aA ae (az J.pf (aa S4) (az a7 (az ba (aa S0) ae) ae)))) J.qL)))))
 aJ)
 (ah (aH (aB bS (aa S5) ae (L2.cF _))
 (ag (au (aV (b8 aO (aa S1) (af aT (aa S3) (aa S4) a8) (aa S6)))))
 aJ)
 (ag (au (aV (aM aO (aa S1) (aa S2))))))))))),?_⟩
 have x8:=cT (n / 131072) (m:=8) (by decide);have x6:=cT (n / 131072) (m:=6) (by decide);obtain⟨late,eL,iL,kL⟩:=kK ok (i:=if at_+n / 131072 % 8 < 20 then at_+n / 131072 % 8 else 20) (by split<;>omega) (by split<;>omega);obtain⟨here,eH,iH,kH⟩:=kK ok (i:=at_) a0 a1;obtain⟨erl,eE,iE,kE⟩:=kK ok (i:=if at_ - n / 131072 % 6 > 0 then at_ - n / 131072 % 6 else 0) (by split<;>omega) (by split<;>omega);have le:here<=late:=ok.mono _ _ _ _ (by split<;>omega) iH iL;refine⟨_,rfl,_,_,rfl,rfl,⟨by decide,by decide⟩,_,_,rfl,rfl,(by show(0:Int) < 8;decide),?_⟩;refine⟨_,rfl,_,rfl,_,rfl,_,_,rfl,rfl,⟨by decide,by decide⟩,_,_,rfl,rfl,(by show(0:Int) < 8;decide),_,_,rfl,rfl,_,_,rfl,xL hc eL ?_⟩;refine⟨_,rfl,_,_,rfl,rfl,_,rfl,c8 (λ_=>?_) (λ_=>?_)⟩
 ·exact⟨_,rfl,_,rfl,m7,λt ht=>k _ (.knew p late) _ (cC.upd ht) ⟨t,rfl,cz⟩ ⟨hp,kL⟩⟩
 refine both ?_ λother=>⟨_,rfl,rfl,_,rfl,c8 (λ_=>⟨_,rfl,_,_,rfl,rfl,⟨by decide,by decide⟩,_,_,rfl,rfl,(by show(0:Int) < 6;decide),rfl,_,rfl,c8 (λ_=>?_) (λ_=>other)⟩) (λ_=>cR other)⟩
 ·refine⟨_,rfl,_,_,rfl,rfl,_,rfl,c8 (λ_=>?_) (λ_=>?_)⟩
  ·exact⟨_,rfl,_,rfl,_,rfl,_,rfl,_,_,rfl,rfl,⟨by decide,by decide⟩,_,_,rfl,rfl,(by show(0:Int) < 6;decide),_,_,rfl,rfl,_,_,rfl,xL hc eE ⟨m7,λt ht=>k _ (.unh p (some erl)) _ (cC.upd ht) ⟨t,rfl,cz⟩ ⟨hp,λi e=>by cases e;exact kE⟩⟩⟩
  refine⟨_,rfl,_,_,rfl,rfl,_,rfl,c8 (λ_=>?_) (λ_=>?_)⟩
  ·exact⟨_,rfl,_,rfl,_,rfl,xL hc eH ⟨_,rfl,JY,λt ht=>k _ (.sil p here late) _ (cC.upd ht) ⟨t,rfl,cz⟩ ⟨hp,kH,kL,le⟩⟩⟩
  ·exact⟨_,rfl,_,rfl,m7,λt ht=>k _ (.bar p q) _ (cC.upd ht) ⟨t,rfl,cz⟩ ⟨hp,hq⟩⟩
 ·exact⟨_,rfl,m7,λt ht=>k _ (.unh p none) _ (cC.upd ht) ⟨t,rfl,cz⟩ ⟨hp,λi e=>by cases e⟩⟩
theorem y3:cE ["_law_number", "_law_k", "_law_many", "_law_at"] ["_law_number", "_law_k", "_law_many"] (cB oX):={}
theorem CT (D:Df K mg "_law_spot" oX ["_law_number", "_law_k", "_law_many"] f fd) (T:Txt K mg kw C):Gd P w K mg base 1 "_law_spot" u0:=by
 refine aF D y3 λX H vs Q E hh h=>?_;obtain⟨n,k,m,rfl,n0,k0,m1,q⟩:=h;obtain⟨S0,S1,S2,S3,_⟩:=hh.d7 [0,1,2,3];have B_max:=hh.b T.b_max;have B_min:=hh.b T.b_min;refine⟨_,(ah (aH (aB bT (aa S2) ae (L2.cF _))
 (ag (au (aV (aM (aD B_min (J.fP hh.calm) L2.rb (aA ae (az ba (az bw (aa S1) ae) ae))) (az a7 (az ba (aa S1) ae) (aa S2)) ae))))
 aJ)
 (ah (aE S3 hh.nd (aD B_min (J.fP hh.calm) L2.rb (aA ae (az bw (az ba (aa S1) ae) (az a7 (az ba (aa S0) ae) ae)))))
 (ag (au (aV (aM (aa S3) (az a7 (az ba (aa S0) ae) (aa S2)) (az bw ae (az a7 (az ba (aa S0) ae) (aD B_max (J.gS hh.calm) L2.wg (aA ae (az J.pf (aa S2) ae))))))))))),?_⟩
 refine⟨_,rfl,_,_,rfl,rfl,_,rfl,c8 (λ_=>?_) (λ_=>?_)⟩
 ·have a:=cT (k / 3) (m:=m) (by omega)
  refine⟨_,rfl,_,_,rfl,rfl,_,_,rfl,rfl,⟨by decide,by decide⟩,_,_,rfl,_,rfl,_,_,rfl,rfl,⟨by decide,by decide⟩,_,rfl,_,_,rfl,rfl,(by omega),m7,λt ht=>q t _ _ _ _ (cC.upd ht) cz ?_ ?_ a.1 a.2 (by decide)⟩
  ·split<;>omega
  ·split<;>omega
 ·have b:=cT (n / 8) (m:=6) (by decide)
  have c:=cT (n / 64) (m:=m) (by omega);refine⟨_,rfl,_,_,rfl,rfl,⟨by decide,by decide⟩,_,rfl,_,_,rfl,rfl,⟨by decide,by decide⟩,_,_,rfl,rfl,(by show(0:Int) < 6;decide),_,_,rfl,rfl,_,_,rfl,?_⟩;refine⟨_,rfl,_,rfl,_,_,rfl,rfl,⟨by decide,by decide⟩,_,rfl,_,_,rfl,rfl,(by omega),_,rfl,_,_,rfl,rfl,⟨by decide,by decide⟩,_,rfl,_,_,rfl,rfl,_,_,rfl,_,_,rfl,rfl,(by split<;>omega),_,_,rfl,rfl,m7,λt ht=>q t _ _ _ _ (cC.upd ht) cz ?_ ?_ c.1 c.2 ?_⟩
  ·split<;>omega
  ·split<;>omega
  ·have:=Int.emod_nonneg (n / 1024) (b:=if m - 1 > 1 then m - 1 else 1) (by split<;>omega)
   omega
def DR(z:Str)(h:Int):SD->Bool
 |.unh q none=>decide (q=z)
 |.unh q (some i)=>decide (q=z) && decide (h<=i)
 |_=>false
def Jq(h:Int):Option Int->Bool
 |none=>false
 |some i=>decide (i < h)
theorem qf(h:Int):∀(us:List (Option Int)) (acc:Int),gH h (DC acc us)=(decide (acc < h) && us.all (Jq h))
 |[],acc=>by
  show decide (acc < h)=(decide (acc < h) && true);rw[Bool.and_true]
 |none::r,acc=>by
  show false=(decide (acc < h) && (false && r.all (Jq h)));rw[Bool.false_and,Bool.and_false]
 |some i::r,acc=>by
  show gH h (DC (if i > acc then i else acc) r)=(decide (acc < h) && (decide (i < h) && r.all (Jq h)));rw[qf h r,<-Bool.and_assoc]
  congr 1
  rw[Bool.eq_iff_iff,and_eq_true,decide_eq_true_iff,decide_eq_true_iff,decide_eq_true_iff];split<;>omega
theorem t9(z:Str)(h:Int):∀sd:List SD,(jk z sd).all (Jq h)= !(sd.any (DR z h))
 |[]=>rfl
 |d::r=>by
  have ih:=t9 z h r;rw[any_cons,Bool.not_or,<-ih];cases d with
  |unh q o=>
   by_cases e:q=z
   ·subst e
    rw[uq,all_cons]
    congr 1
    cases o with
    |none=>
     show false= !(decide (q=q));rw[decide_eq_true rfl];rfl
    |some i=>
     show decide (i < h)= !(decide (q=q) && decide (h<=i));rw[decide_eq_true rfl,Bool.true_and];by_cases c:i < h
     ·rw[decide_eq_true c,decide_eq_false (by omega)]
      rfl
     ·rw[decide_eq_false c,decide_eq_true (by omega)]
      rfl
   ·rw[gB (show ug z (.unh q o)=false from decide_eq_false e)]
    have:DR z h (.unh q o)=false:=by
     cases o with
     |none=>exact decide_eq_false e
     |some i=>
      show(decide (q=z) && decide (h<=i))=false;rw[decide_eq_false e,Bool.false_and]
    rw[this];rfl
  |knew q i=>
   rw[gB rfl];rfl
  |sil q b e=>
   rw[gB rfl];rfl
  |bar q q'=>
   rw[gB rfl];rfl
theorem Dl{z:Str}{h:Int}{sd:List SD}(h0:0<=h):gH h (floorOf z sd)= !(sd.any (DR z h)):=by
 unfold floorOf;rw[qf,t9,decide_eq_true (show(-1:Int) < h by omega),Bool.true_and]
inductive Cr  (vs:List V)(H:Hp)(Q:VK):Prop
 |mk(y:Addr)(ys:List V)(z:Str)(h:Int)(sd:List SD)(h0:vs=[.ref y,.str z,.int h])(h1:H y=some (.lst ys))(h2:Sys H ys sd)(h3:0<=h)(h4:∀H',cC H H'->Q (.bl (gH h (floorOf z sd))) H')
def rg  :Sp:=λvs H Q _=>Cr  vs H Q
inductive BN  (vs:List V)(H:Hp)(Q:VK):Prop
 |mk(t:Addr)(ts:List V)(qd:List QD)(h0:vs=[.ref t])(h1:H t=some (.lst ts))(h2:Lz dC H ts qd)(h3:ts.length<=120)(h4:∀(l:Addr)(us:List V)(H':Hp),cC H H'->H l=none->H' l=some (.lst us)->eR H' us (gd 0 (gE qd))->Q (.ref l) H')
def wc  :Sp:=λvs H Q _=>BN  vs H Q
inductive yA  (vs:List V)(H:Hp)(Q:VK):Prop
 |mk(t y:Addr)(ts ys:List V)(v:V)(tk:TK)(qd:List QD)(sd:List SD)(q:QD)(h0:vs=[.ref t,.ref y,v])(h1:H t=some (.lst ts))(h2:H y=some (.lst ys))(h3:Lz dC H ts qd)(h4:Sys H ys sd)(h5:oQ H v tk)(h6:qd[tk.1]? =some q)(h7:cN q.1)(h8:∀H',cC H H'->Q (.bl (cX qd sd tk)) H')
def oZ  :Sp:=λvs H Q _=>yA  vs H Q
theorem tY{α:Type}{f:α->Bool}{l:List α}{i:Nat}{d:α}(h:l[i]? =some d)(h0:(l.take i).any f=false)(h1:f d=false):(l.take (i+1)).any f=false:=by
 rw[take_add_one,h,List.any_append,h0];show(false || (f d || false))=false;rw[h1];rfl
theorem zt{α:Type}(f g:α->Bool):∀l:List α,(l.any λd=>f d || g d)=(l.any f || l.any g)
 |[]=>rfl
 |d::r=>by
  rw[any_cons,any_cons,any_cons,zt f g r];cases f d<;>cases g d<;>cases r.any f<;>cases r.any g<;>rfl
theorem yu:cE ["_law_sayings", "_law_person", "_law_when", "_law_row"] ["_law_sayings", "_law_person", "_law_when"] (cB ow):={}
theorem CH (D:Df K mg "_law_free" ow ["_law_sayings", "_law_person", "_law_when"] f fd):Gd P w K mg base 1 "_law_free" rg:=by
 refine aF D yu λX H vs Q E hh h=>?_;obtain⟨y,ys,z,h,sd,rfl,hy,sy,h0,k⟩:=h;obtain⟨S0,S1,S2,S3,_⟩:=hh.d7 [0,1,2,3];rw[Dl h0]at k;refine⟨_,(ah (bp hh.own hh.calm (aP (aa S0)) (aG S3 hh.nd)
 (ag (aH (aU (bo (aB aL (af ao (aa S3) ae aj) aO (L2.cF _)) (bo (aB aL (af ao (aa S3) ae aj) (aa S1) (L2.cF _)) (bB (aU (bg (aB b5 (af ao (aa S3) ae aj) bC (L2.cF _)) (bz (aB bH (aa S2) (af ao (aa S3) ae aj) (L2.cF _)))))))))
 (ag (au a5))
 aJ)))
 (ag (au a5))),?_⟩
 refine⟨_,rfl,y,rfl,⟨_,cH.of hy⟩,dA (K:=X.K) (a:=y) (xs:=ys) (λi σ H2=>∃e:Option V,σ=[some (.ref y),some (.str z),some (.int h),e]/\cC H H2/\(sd.take i).any (DR z h)=false)
  ⟨none,rfl,cC.refl _,rfl⟩ ?_ ?_ ?_⟩
 ·rintro i σ H2 hi ⟨e,rfl,s2,_⟩
  exact cH.of (s2 _ _ hy)
 ·rintro i v σ H2 hv ⟨e,rfl,s2,ha0⟩
  obtain⟨d,a,hd,rfl,ha⟩:=sy.at hv;have ha2:=s2 _ _ ha;have yes:DR z h d=true->Q (.bl false) H2:=λhk=>by
   have:=k H2 s2;rw[show sd.any (DR z h)=true from any_eq_true.mpr ⟨d,mem_of_getElem? hd,hk⟩]at this;exact this
  have no:DR z h d=false->(sd.take (i+1)).any (DR z h)=false:=tY hd ha0;cases d with
  |knew q i'=>exact⟨_,rfl,xT ha2 rfl ⟨rfl,_,rfl,iN (cR ⟨_,rfl,s2,no rfl⟩)⟩⟩
  |sil q b e'=>exact⟨_,rfl,xT ha2 rfl ⟨rfl,_,rfl,iN (cR ⟨_,rfl,s2,no rfl⟩)⟩⟩
  |bar q q'=>exact⟨_,rfl,xT ha2 rfl ⟨rfl,_,rfl,iN (cR ⟨_,rfl,s2,no rfl⟩)⟩⟩
  |unh q o=>
   refine⟨_,rfl,xT ha2 rfl ⟨rfl,_,rfl,iP ⟨_,rfl,xT ha2 rfl ⟨_,rfl,rfl,_,rfl,c8 (λhq=>?_) (λhq=>cR ?_)⟩⟩⟩⟩
   ·have hq':q=z:=V.str.inj (of_decide_eq_true hq)
    cases o with
    |none=>exact⟨_,rfl,xT ha2 rfl ⟨rfl,_,rfl,fh (decide_eq_true rfl) (dv (yes (decide_eq_true hq')))⟩⟩
    |some j=>
     refine⟨_,rfl,xT ha2 rfl ⟨rfl,_,rfl,gY (by rw[decide_eq_true_iff];intro e;cases e) ⟨_,rfl,_,rfl,xT ha2 rfl ⟨_,_,rfl,rfl,_,rfl,c8 (λhj=>yes ?_) (λhj=>⟨_,rfl,s2,no ?_⟩)⟩⟩⟩⟩
     ·show(decide (q=z) && decide (h<=j))=true
      rw[decide_eq_true hq',hj];rfl
     ·show(decide (q=z) && decide (h<=j))=false
      rw[eq_false_of_ne_true hj,Bool.and_false]
   ·refine⟨_,rfl,s2,no ?_⟩
    have hq':¬q=z:=λe=>hq (decide_eq_true (congrArg V.str e));cases o with
    |none=>exact decide_eq_false hq'
    |some j=>
     show(decide (q=z) && decide (h<=j))=false;rw[decide_eq_false hq',Bool.false_and]
 ·rintro σ H2 ⟨e,rfl,s2,ha0⟩
  rw[sy.1,take_length]at ha0;have:=k H2 s2;rw[ha0]at this;exact this
theorem pL:cE ["_law_talks", "_law_found", "_law_k"] ["_law_talks"] (cB iI):={}
theorem B6 (D:Df K mg "_law_tellings" iI ["_law_talks"] f fd) (T:Txt K mg kw C):Gd P w K mg base 1 "_law_tellings" wc:=by
 refine aF D pL λX H vs Q E hh h=>?_;obtain⟨t,ts,qd,rfl,ht,qs,l120,k⟩:=h;obtain⟨S0,S1,S2,_⟩:=hh.d7 [0,1,2];have B_len:=hh.b T.b_len;have B_range:=hh.b T.b_range;have hsz:sizeLine=16777216:=sizeLine_eq;refine⟨_,(ah (aE S1 hh.nd (bh bJ))
 (ah (bp hh.own hh.calm (b9 B_range (ak (aD B_len bq L2.dD (ak (aa S0))))) (aG S2 hh.nd)
 (ah (bG (bI plainAttrs_list PySem.F.slot_list_append PySem.F.type_list_append bL (aa S1) (ak (aV (aM (aa S2) (af ao (af aT (aa S0) (aa S2) a8) ae aj) (af ao (af aT (aa S0) (aa S2) a8) ae aj))))))
 (ag (aH (aB aL (af ao (af aT (aa S0) (aa S2) a8) ae aj) aO (L2.cF _))
 (ag (bG (bI plainAttrs_list PySem.F.slot_list_append PySem.F.type_list_append bL (aa S1) (ak (aV (aM (aa S2) (af ao (af aT (aa S0) (aa S2) a8) ae aj) (af ao (af aT (aa S0) (aa S2) a8) ae aj)))))))
 aJ))))
 (ag (au (aa S1))))),?_⟩
 refine⟨zc,λl hl=>?_⟩;have s1:=cC.upd (o:=.lst []) hl;refine⟨_,rfl,t,_,rfl,.inl (cH.of (s1 _ _ ht)),(ts.length:Int),rfl,by omega,by omega,jy (lo:=0) (n:=((ts.length:Nat):Int).toNat) (λi σ H2=>∃(us:List V) (e1:Option V),σ=[some (.ref t),some (.ref l),e1]/\cC H H2/\H2 l=some (.lst us)/\us.length<=2 * i/\eR H2 us (gd 0 ((gE qd).take i)))
  ⟨[],none,rfl,s1,cz,le_refl 0,eR.nil⟩ ?_ ?_⟩
 ·rintro i σ H2 hi ⟨us,e1,rfl,s2,hl2,ul,tl⟩
  rw[Int.toNat_natCast]at hi;have hv:ts[i]? =some ts[i]:=getElem?_eq_getElem hi;generalize ts[i]=v at hv;obtain⟨d,hd,a,rfl,ha⟩:=qs.at hv;have hd':(gE qd)[i]? =some d.2:=by
   unfold gE;rw[getElem?_map,hd];rfl
  have ha2:=s2 _ _ ha;have ht2:=s2 _ _ ht;have av:pQ ts ((0:Int)+(i:Int))=some (.ref a):=by rw[Int.zero_add];exact cQ hv
  refine⟨_,rfl,.inl ⟨rfl,_,cH.of hl2⟩,_,rfl,_,rfl,_,rfl,xL ht2 av (xT ha2 rfl ⟨_,rfl,_,rfl,xL ht2 av (xT ha2 rfl ⟨m7,λt1 ht1=>?_⟩)⟩)⟩;rw[Int.zero_add];have s4:=cC.upd (o:=.tup [.int i,.str d.2.1,.str d.2.2.1]) ht1;refine⟨l,us,.ref t1,rfl,rfl,s4 _ _ hl2,by omega,?_⟩;have t1l:t1≠l:=(cA hl2 ht1).symm;have tv5:oQ (upd (upd H2 t1 (.tup [.int i,.str d.2.1,.str d.2.2.1])) l (.lst (us++[.ref t1]))) (.ref t1) (i,d.2.1,d.2.2.1):=⟨t1,rfl,by rw[cD t1l];exact cz⟩;have tk5:=(Tk.of s4).trans (Tk.upd (s4 _ _ hl2) (ys:=us++[.ref t1]));have tl5:=tl.mono tk5;have hl5:upd (upd H2 t1 (.tup [.int i,.str d.2.1,.str d.2.2.1])) l (.lst (us++[.ref t1])) l=some (.lst (us++[.ref t1])):=cz;have s05:cC H (upd (upd H2 t1 (.tup [.int i,.str d.2.1,.str d.2.2.1])) l (.lst (us++[.ref t1]))):=λb o e=>by
   rw[cD (cA e hl)];exact s4 _ _ (s2 _ _ e)
  generalize upd (upd H2 t1 (.tup [.int i,.str d.2.1,.str d.2.2.1])) l (.lst (us++[.ref t1]))=H5 at tv5 tl5 hl5 s05;have ha5:=s05 _ _ ha;have ht5:=s05 _ _ ht;have av':pQ ts (i:Int)=some (.ref a):=cQ hv;refine⟨_,rfl,_,rfl,xL ht5 av' (xT ha5 rfl ⟨rfl,_,rfl,c8 (λhb=>?_) (λhb=>?_)⟩)⟩
  ·have hb':d.2.2.2= "both" :=V.str.inj (of_decide_eq_true hb)
   refine⟨_,rfl,.inl ⟨rfl,_,cH.of hl5⟩,_,rfl,_,rfl,_,rfl,xL ht5 av' (xT ha5 rfl ⟨_,rfl,_,rfl,xL ht5 av' (xT ha5 rfl ⟨m7,λt2 ht2'=>?_⟩)⟩)⟩;have s6:=cC.upd (o:=.tup [.int i,.str d.2.2.1,.str d.2.1]) ht2';refine⟨l,_,.ref t2,rfl,rfl,s6 _ _ hl5,by rw[length_append];show us.length+1 < _;omega,?_⟩;have t2l:t2≠l:=(cA hl5 ht2').symm;have tk7:=(Tk.of s6).trans (Tk.upd (s6 _ _ hl5) (ys:=(us++[.ref t1])++[.ref t2]));refine⟨_,_,rfl,λb o e=>?_,cz,?_,(nA hd' (tl5.mono tk7)).1 hb' _ _ (tv5.mono tk7) ⟨t2,rfl,?_⟩⟩
   ·rw[cD (cA e hl)]
    exact s6 _ _ (s05 _ _ e)
   ·rw[length_append,length_append]
    show us.length+1+1<=2 * (i+1);omega
   ·rw[cD t2l]
    exact cz
  ·have hb':d.2.2.2≠ "both" :=λe=>hb (decide_eq_true (congrArg V.str e))
   exact⟨_,_,rfl,s05,hl5,by rw[length_append];show us.length+1<=2 * (i+1);omega,(nA hd' tl5).2 hb' _ tv5⟩
 ·rintro σ H2 ⟨us,e1,rfl,s2,hl2,ul,tl⟩
  rw[Int.toNat_natCast,qs.1,show qd.length=(gE qd).length from (length_map ..).symm,take_length]at tl;exact⟨_,rfl,k l us H2 s2 hl hl2 tl⟩
theorem C9{i:Nat}{v:V}{tc:TT}{u t2:TS}{D:Ends}{σ:St}{H:Hp}(b:Bool)(hc:∀Q:Bool->Hp->Prop,Q b H->tc (σ.set i (some v)) H Q)(h1:b=true->u { D with nx:=t2 D } (σ.set i (some v)) H)(h2:b=false->t2 D (σ.set i (some v)) H):
  eQ i v σ H (λσ2 H2=>vR (rY tc u oi) t2 D σ2 H2):=by
 refine hc _ ?_;cases b with
 |true=>exact dv (h1 rfl)
 |false=>exact cR (h2 rfl)
def vA(te he:Str)(h:Int)(d:SD):Bool:=qO te h d || uC he te d
theorem ro:cE ["_law_talks", "_law_sayings", "_law_telling", "_law_k", "_law_teller", "_law_hearer", "_law_when", "_law_row"] ["_law_talks", "_law_sayings", "_law_telling"] (cB iX):={}
theorem vp (D:Df K mg "_law_is_open" iX ["_law_talks", "_law_sayings", "_law_telling"] f fd) (T:Txt K mg kw C) (G__law_free:Gd P w K mg base 1 "_law_free" rg):Gd P w K mg base 2 "_law_is_open" oZ:=by
 refine aF D ro λX H vs Q E hh h=>?_;obtain⟨t,y,ts,ys,v,tk,qd,sd,q,rfl,ht,hy,qs,sy,⟨a,rfl,ha⟩,hq,hk,k⟩:=h;obtain⟨S0,S1,S2,S3,S4,S5,S6,S7,_⟩:=hh.d7 [0,1,2,3,4,5,6,7];have C__law_free:=hh.c G__law_free;have hu:=eS hh.room;obtain⟨vq,hvq⟩:∃vq,ts[tk.1]? =some vq:=⟨_,getElem?_eq_getElem (by rw[qs.1];exact(List.getElem?_eq_some_iff.mp hq).1)⟩;obtain⟨aq,rfl,haq⟩:=qs.2 _ _ _ hvq hq;have ok:∀H',cC H H'->Q (.bl (gH q.1 (floorOf tk.2.2 sd) && !(sd.any (vA tk.2.1 tk.2.2 q.1)))) H':=λH' s'=>by
  have:=k H' s';unfold cX at this;rw[gW hq,<-zt]at this;exact this
 refine⟨_,(ah (bN (aa S2) (bu hh.calm (aI (aG S3 hh.nd) (aI (aG S4 hh.nd) (aI (aG S5 hh.nd) bj)))))
 (ah (aE S6 hh.nd (af ao (af aT (aa S0) (aa S3) a8) ae aj))
 (ah (bp hh.own hh.calm (aP (aa S1)) (aG S7 hh.nd)
 (ah (aH (aU (bo (aB aL (af ao (aa S7) ae aj) aO (L2.cF _)) (bo (aB aL (af ao (aa S7) ae aj) (aa S4) (L2.cF _)) (bo (aB bH (af ao (aa S7) ae aj) (aa S6) (L2.cF _)) (bB (aB bH (aa S6) (af ao (aa S7) ae aj) (L2.cF _)))))))
 (ag (au a5))
 aJ)
 (ag (aH (aB (J.nE hu) (aa S7) (aV (aM aO (aa S5) (aa S4))) (L2.cF _))
 (ag (au a5))
 aJ))))
 (ag (au (aw C__law_free (aM (aa S1) (aa S5) (aa S6)))))))),?_⟩
 refine⟨_,rfl,a,_,rfl,cU.of ha,rfl,_,_,rfl,_,_,rfl,_,_,rfl,rfl,?_⟩;refine⟨_,rfl,_,rfl,xL ht (cQ hvq) (xT haq rfl ?_)⟩;refine⟨_,rfl,y,rfl,⟨_,cH.of hy⟩,dA (K:=X.K) (a:=y) (xs:=ys) (λi σ H2=>∃e:Option V,σ=[some (.ref t),some (.ref y),some (.ref a),some (.int tk.1),some (.str tk.2.1),some (.str tk.2.2),some (.int q.1),e]/\cC H H2/\(sd.take i).any (vA tk.2.1 tk.2.2 q.1)=false)
  ⟨none,rfl,cC.refl _,rfl⟩ ?_ ?_ ?_⟩
 ·rintro i σ H2 hi ⟨e,rfl,s2,_⟩
  exact cH.of (s2 _ _ hy)
 ·rintro i v σ H2 hv ⟨e,rfl,s2,ha0⟩
  obtain⟨d,b,hd,rfl,hb⟩:=sy.at hv;have hb2:=s2 _ _ hb;have yes:vA tk.2.1 tk.2.2 q.1 d=true->∀H3,cC H2 H3->Q (.bl false) H3:=λhk H3 s3=>by
   have:=ok H3 (s2.trans s3);rw[show sd.any (vA tk.2.1 tk.2.2 q.1)=true from any_eq_true.mpr ⟨d,mem_of_getElem? hd,hk⟩,Bool.not_true,Bool.and_false]at this;exact this
  refine C9 (qO tk.2.1 q.1 d) (λQ' q'=>?_) (λe=>yes ?_ H2 (cC.refl _)) (λe=>?_)
  ·cases d with
   |knew z i'=>exact⟨_,rfl,xT hb2 rfl ⟨rfl,_,rfl,iN q'⟩⟩
   |unh z i'=>exact⟨_,rfl,xT hb2 rfl ⟨rfl,_,rfl,iN q'⟩⟩
   |bar z z'=>exact⟨_,rfl,xT hb2 rfl ⟨rfl,_,rfl,iN q'⟩⟩
   |sil z c c'=>
    have q2:Q' (decide (z=tk.2.1) && (if c<=q.1 then decide (q.1<=c') else false)) H2:=q';refine⟨_,rfl,xT hb2 rfl ⟨rfl,_,rfl,iP ⟨_,rfl,xT hb2 rfl ⟨_,rfl,rfl,_,rfl,c8 (λhz=>⟨_,rfl,xT hb2 rfl ⟨_,rfl,_,_,rfl,rfl,_,rfl,c8 (λhc=>⟨_,rfl,_,rfl,xT hb2 rfl ⟨_,_,rfl,rfl,_,rfl,?_⟩⟩) (λhc=>?_)⟩⟩) (λhz=>?_)⟩⟩⟩⟩
    ·rw[if_pos (of_decide_eq_true hc),decide_eq_true (V.str.inj (of_decide_eq_true hz)),Bool.true_and]at q2
     exact q2
    ·rw[if_neg (λe=>hc (decide_eq_true e)),Bool.and_false]at q2
     exact q2
    ·rw[decide_eq_false (λe=>hz (decide_eq_true (congrArg V.str e))),Bool.false_and]at q2
     exact q2
  ·unfold vA
   rw[e];rfl
  ·refine⟨_,rfl,_,rfl,_,rfl,m7,λc2 hc2=>?_⟩
   have s3:=cC.upd (o:=.tup [.str "barred",.str tk.2.2,.str tk.2.1]) hc2;refine⟨b,c2,_,_,rfl,rfl,s3 _ _ hb2,cz,uA d,rfl,_,rfl,?_⟩;have ek:vA tk.2.1 tk.2.2 q.1 d=uK d.tup [.str "barred",.str tk.2.2,.str tk.2.1]:=by
    unfold vA;rw[e,Bool.false_or,wC]
   rw[<-ek];exact c8 (λhk=>yes hk _ s3) (λhk=>⟨_,rfl,s2.trans s3,tY hd ha0 (eq_false_of_ne_true hk)⟩)
 ·rintro σ H2 ⟨e,rfl,s2,ha0⟩
  rw[sy.1,take_length]at ha0;refine⟨_,rfl,_,rfl,_,rfl,y,ys,tk.2.2,q.1,sd,rfl,s2 _ _ hy,sy.mono (Tk.of s2),hk.1,λH3 s3=>?_⟩;have:=ok H3 (s2.trans s3);rw[ha0,Bool.not_false,Bool.and_true]at this;exact this
theorem tq{H:Hp}{us:List V}{ks:List TK}(p:TK->Bool)(h:eR H us ks):eR H (((us.zip ks).filter λx=>p x.2).map λx=>x.1) (ks.filter p):=by
 have e:ks.filter p=((us.zip ks).filter λx=>p x.2).map (λx=>x.2):=by
  have:(us.zip ks).map Prod.snd=ks:=List.map_snd_zip (by rw[h.1];exact le_refl _);have e2:ks.filter p=((us.zip ks).map Prod.snd).filter p:=by rw[this]
  rw[e2,filter_map];rfl
 rw[e];refine⟨by rw[length_map,length_map],λi u t hu ht=>?_⟩;rw[getElem?_map]at hu ht;obtain⟨x,hx,rfl⟩:=map_eq_some_iff.mp hu;rw[hx]at ht;cases ht;obtain⟨j,hj⟩:=getElem?_of_mem (mem_filter.mp (mem_of_getElem? hx)).1;obtain⟨h1,h2⟩:=kB hj;exact h.2 j _ _ h1 h2
inductive Es(vs:List V)(H:Hp)(Q:VK):Prop
 |mk(tt s t y:Addr)(ps:List Str)(ss ts ys:List V)(sg:List GD)(qd:List QD)(sd:List SD)(e:vs=[.ref tt])(htt:H tt=some (.tup [.ref s,.ref t,.ref y]))(hs:H s=some (.lst ss))(ht:H t=some (.lst ts))(hy:H y=some (.lst ys))(sl:ss.length<=24)(tl:ts.length<=120)
   (gs:Lz dq H ss sg)(gh:∀d∈sg,cN d.2)(qs:Lz dC H ts qd)(qk:∀d∈qd,j5 ps d)(sy:Sys H ys sd)
   (k:∀(r nl tl:Addr)(us:List V)(H':Hp),cC H H'->H r=none->H nl=none->H tl=none->H' r=some (.tup [.ref nl,.ref tl])->H' nl=some (.lst (fD sg sd sg.length))->H' tl=some (.lst us)->eR H' us ((gd 0 (gE qd)).filter (cX qd sd))->Q (.ref r) H')
def jx:Sp:=λvs H Q _=>Es vs H Q
theorem yJ:cE ["_law_things_here", "_law_sights", "_law_talks", "_law_sayings", "_law_numbers"] ["_law_things_here"] (cB pC):={}
theorem B9 (D:Df K mg "_law_open" pC ["_law_things_here"] f fd) (T:Txt K mg kw C) (G__law_free:Gd P w K mg base 1 "_law_free" rg) (G__law_tellings:Gd P w K mg base 1 "_law_tellings" wc) (G__law_is_open:Gd P w K mg base 2 "_law_is_open" oZ):Gd P w K mg base 3 "_law_open" jx:=by
 refine aF D yJ λX H vs Q E hh h=>?_;obtain⟨tt,s,t,y,ps,ss,ts,ys,sg,qd,sd,rfl,htt,hs,ht,hy,sl,tl,gs,gh,qs,qk,sy,k⟩:=h;obtain⟨S0,S1,S2,S3,S4,_⟩:=hh.d7 [0,1,2,3,4];have B_len:=hh.b T.b_len;have B_range:=hh.b T.b_range;have C__law_tellings:=hh.c G__law_tellings;have CI__law_free:=hh.ci G__law_free;have CI__law_is_open:=hh.ci G__law_is_open;have hsz:sizeLine=16777216:=sizeLine_eq;refine⟨_,(ah (bN (aa S0) (bu hh.calm (aI (aG S1 hh.nd) (aI (aG S2 hh.nd) (aI (aG S3 hh.nd) bj)))))
 (ah (bR (is:=[1,3]) (xs:=["_law_i"]) (ns:=["_law_sights", "_law_sayings"]) S4 hh.nd hh.calm (b9 B_range (ak (aD B_len bq L2.dD (ak (aa S1))))) {} (λ_ _ _ _ _=>(aX (i:=0) (by decide+kernel) rfl rfl)) (λ_ _ _ _ _=>(bA (aQ (aw (CI__law_free.lg rfl) (aM (a9 (i:=2) rfl rfl (by decide) (by decide)) (af bf (af J.lh (a9 (i:=1) rfl rfl (by decide) (by decide)) (aK (i:=0) rfl rfl (by decide) (by decide)) a8) ae aj) (af bf (af J.lh (a9 (i:=1) rfl rfl (by decide) (by decide)) (aK (i:=0) rfl rfl (by decide) (by decide)) a8) ae aj)))))) (λ_ _ _ _ _=>(aK (i:=0) rfl rfl (by decide) (by decide))) hh.hsc hh.hN (by decide+kernel))
 (ag (au (aV (aA (aa S4) (bF (is:=[2,3]) (xs:=["_law_telling"]) (ns:=["_law_talks", "_law_sayings"]) hh.calm (aP (aw C__law_tellings (ak (aa S2)))) {} (λ_ _ _ _ _=>(aX (i:=0) (by decide+kernel) rfl rfl)) (λ_ _ _ _ _=>(bA (aQ (aw (CI__law_is_open.lg rfl) (aM (a9 (i:=1) rfl rfl (by decide) (by decide)) (a9 (i:=2) rfl rfl (by decide) (by decide)) (aK (i:=0) rfl rfl (by decide) (by decide))))))) (λ_ _ _ _ _=>(aK (i:=0) rfl rfl (by decide) (by decide))) hh.hsc hh.hN))))))),?_⟩
 refine⟨_,rfl,tt,_,rfl,cU.of htt,rfl,_,_,rfl,_,_,rfl,_,_,rfl,rfl,?_⟩;refine⟨_,rfl,s,_,rfl,.inl (cH.of hs),(ss.length:Int),rfl,by omega,by omega,xR (lo:=0) (N:=((ss.length:Nat):Int).toNat) (iR sg (eD sd)) (λi=>V.int (0+(i:Int))) (by omega) ?_ ?_⟩
 ·intro i os H2 K1 K2 hi hos s2 k1 k2
  match os,hos with
  |[o],_=>
   rw[Int.toNat_natCast]at hi;have hv:ss[i]? =some ss[i]:=getElem?_eq_getElem hi;generalize ss[i]=v at hv;obtain⟨g,hg,a,ta,rfl,ha⟩:=gs.at hv;rw[dN hg]at k1 k2;have ha2:=s2 _ _ ha;have av:pQ ss ((0:Int)+(i:Int))=some (.ref a):=by rw[Int.zero_add];exact cQ hv
   have g0:=gh g (mem_of_getElem? hg);exact⟨⟨[_],rfl,rfl⟩,_,rfl,_,rfl,_,rfl,xL (s2 _ _ hs) av (xT ha2 rfl ⟨_,rfl,_,rfl,xL (s2 _ _ hs) av (xT ha2 rfl ⟨y,ys,g.1,g.2,sd,rfl,s2 _ _ hy,sy.mono (Tk.of s2),g0.1,λH3 s3=>⟨_,rfl,c8 (λhb=>⟨_,rfl,k1 hb H3 s3⟩) (λhb=>k2 (eq_false_of_ne_true hb) H3 s3)⟩⟩)⟩)⟩
 ·intro nl H1 nln s1 hnl
  have e:((List.range ((ss.length:Nat):Int).toNat).filter (iR sg (eD sd))).map (λ(i:Nat)=>V.int (0+(i:Int)))=fD sg sd sg.length:=by
   rw[Int.toNat_natCast,gs.1];unfold fD;exact map_congr_left λi _=>by rw[Int.zero_add]
  rw[e]at hnl;refine⟨_,rfl,_,rfl,t,ts,qd,rfl,s1 _ _ ht,qs.mono (dC.mono (Tk.of s1)),tl,λl us H2 s2 ln hl tus=>?_⟩;have s12:=s1.trans s2;have ul:us.length<=240:=by
   have:=jv (gE qd) 0;have:=tus.1;have:=(Ci qs).1;omega
  refine⟨l,rfl,⟨_,cH.of hl⟩,df (xs:=us) (iR (us.zip (gd 0 (gE qd))) λx=>cX qd sd x.2) (sX (us.zip (gd 0 (gE qd))) λx=>x.1) (cH.of hl) (by omega) ?_ ?_⟩
  ·intro i os v H3 K1 K2 hv hos s3 k1 k2
   match os,hos with
   |[o],_=>
    have hi:i < us.length:=(List.getElem?_eq_some_iff.mp hv).1;obtain⟨tk,htk⟩:∃tk,(gd 0 (gE qd))[i]? =some tk:=⟨_,getElem?_eq_getElem (by rw[<-tus.1];exact hi)⟩;rw[dN (j4 hv htk)]at k1 k2;rw[gf (j4 hv htk)]at k1;obtain⟨q,hq,_⟩:=Ij qk (mem_of_getElem? htk);have s13:=s12.trans s3;exact⟨⟨[_],rfl,rfl⟩,_,rfl,_,rfl,_,rfl,t,y,ts,ys,v,tk,qd,sd,q,rfl,s13 _ _ ht,s13 _ _ hy,qs.mono (dC.mono (Tk.of s13)),sy.mono (Tk.of s13),(tus.2 i v tk hv htk).mono (Tk.of s3),hq,(qk q (mem_of_getElem? hq)).1,λH4 s4=>⟨_,rfl,c8 (λhb=>⟨_,rfl,k1 hb H4 s4⟩) (λhb=>k2 (eq_false_of_ne_true hb) H4 s4)⟩⟩
  ·intro m H3 mn s3 hm
   have zl:(us.zip (gd 0 (gE qd))).length=us.length:=by
    rw[length_zip,<-tus.1,min_self]
   rw[<-zl,dE (λx=>cX qd sd x.2) (λx=>x.1) (us.zip (gd 0 (gE qd)))]at hm;refine⟨Gz,λr hr=>?_⟩;have s4:=cC.upd (o:=.tup [.ref nl,.ref m]) hr;have s13:=s12.trans s3;exact k r nl m _ _ (s13.trans s4) (s13.free hr) nln (s12.free mn) cz (s4 _ _ (s3 _ _ (s2 _ _ hnl))) (s4 _ _ hm) ((tq (cX qd sd) tus).mono (Tk.of (s3.trans s4)))
def o8:Str:= "bcdfghjklmnpqrstvwxz"
def rN(i:Int):Nat:=o8.cps.toList.getD i.toNat 0
theorem A0:∀i:Fin 20,pQ o8.cps.toList ((i.val:Nat):Int)=some (rN (i.val:Nat))/\rN (i.val:Nat)∈lets.cps.toList:=by decide+kernel
theorem tO:∀i j:Fin 20,rN (i.val:Nat)=rN (j.val:Nat)->i=j:=by decide+kernel
theorem wu{i:Int}(h0:0<=i)(h1:i < 20):pQ o8.cps.toList i=some (rN i)/\rN i∈lets.cps.toList:=by
 have e:((i.toNat:Nat):Int)=i:=Int.toNat_of_nonneg h0;have:=A0 ⟨i.toNat,by omega⟩;rw[e]at this;exact this
theorem AZ{i j:Int}(h0:0<=i)(h1:i < 20)(g0:0<=j)(g1:j < 20)(h:rN i=rN j):i=j:=by
 have e:((i.toNat:Nat):Int)=i:=Int.toNat_of_nonneg h0;have f:((j.toNat:Nat):Int)=j:=Int.toNat_of_nonneg g0;have:=tO ⟨i.toNat,by omega⟩ ⟨j.toNat,by omega⟩ (by rw[e,f];exact h);have:=congrArg Fin.val this;dsimp only at this;omega
def lf(c a k:Int)(j:Nat):Nat:=rN ((c+((j:Int) * j+3 * k * (if decide (V.int (j:Int)=V.int a)=true then 1 else 0))) % 20)
def wordOf(c a k:Int):Nat->Str
 |0=> ""
 |j+1=>wordOf c a k j++⟨#[lf c a k j]⟩
theorem gr(c a k:Int):∀n,(wordOf c a k n).cps.toList=(List.range n).map (lf c a k)
 |0=>rfl
 |n+1=>by
  show(wordOf c a k n++⟨#[lf c a k n]⟩).cps.toList=_;rw[nG,gr c a k n,range_succ,map_append];rfl
theorem gw(c a k:Int)(n:Nat):(wordOf c a k n).length=n:=by
 rw[<-lE,gr,length_map,length_range]
theorem HN(c a k:Int)(j:Nat):lf c a k j∈lets.cps.toList:=(wu (cT _ (by decide)).1 (cT _ (by decide)).2).2
theorem vc(c a k:Int)(n:Nat):uO (wordOf c a k n):=λx hx=>by
 rw[gr]at hx;obtain⟨j,_,rfl⟩:=mem_map.mp hx;exact HN c a k j
def Jw(n:Int):Str:=Txt.mul "m" n
def nameOf(c a:Int)(n:Nat)(k:Nat):Str:=wordOf c a k n++Jw ((k:Int) / 20)
theorem rJ{k:Nat}(h:k < 24):((k:Int) / 20=0\/(k:Int) / 20=1)/\(Jw ((k:Int) / 20)).length=k / 20/\uO (Jw ((k:Int) / 20)):=by
 by_cases c:k < 20
 ·have e:(k:Int) / 20=0:=by omega
  rw[e];exact⟨.inl rfl,by rw[show k / 20=0 by omega];rfl,λx hx=>by have:x∈([]:List Nat):=hx;cases this⟩
 ·have e:(k:Int) / 20=1:=by omega
  rw[e];refine⟨.inr rfl,by rw[show k / 20=1 by omega];decide+kernel,?_⟩;show uO "m";intro x hx
  revert x
  decide+kernel
theorem Cq{c a:Int}{n k:Nat}(n1:1<=n)(n2:n<=11)(hk:k < 24):dJ (nameOf c a n k)=true:=by
 obtain⟨_,hl,hL⟩:=rJ hk;have e:(nameOf c a n k).length=n+k / 20:=by
  unfold nameOf;rw[C2,gw,hl]
 exact Bd (CD (vc c a k n) hL) (by omega) (by omega)
theorem BH{c a:Int}{n i j:Nat}(a0:0<=a)(an:a < n)(hij:i < j)(hj:j < 24):nameOf c a n i≠nameOf c a n j:=by
 intro e;obtain⟨_,li,_⟩:=rJ (k:=i) (by omega);obtain⟨_,lj,_⟩:=rJ hj;have e1:=congrArg (λz:Str=>z.cps.toList) e;unfold nameOf at e1;rw[nG,nG]at e1;have hl:(wordOf c a i n).cps.toList.length=(wordOf c a j n).cps.toList.length:=by rw[lE,lE,gw,gw]
 obtain⟨w,m⟩:=List.append_inj e1 hl;have m2:=congrArg List.length m;rw[lE,lE,li,lj]at m2;rw[gr,gr]at w;have aN:a.toNat < n:=by omega
 have w2:=congrArg (λl:List Nat=>l[a.toNat]?) w;rw[getElem?_map,getElem?_map,List.getElem?_range aN]at w2;have w3:lf c a i a.toNat=lf c a j a.toNat:=Option.some.inj w2;have ea:((a.toNat:Nat):Int)=a:=Int.toNat_of_nonneg a0;unfold lf at w3;rw[ea,decide_eq_true rfl]at w3;have w4:=AZ (cT _ (by decide)).1 (cT _ (by decide)).2 (cT _ (by decide)).1 (cT _ (by decide)).2 w3;simp only[if_true,Int.mul_one]at w4;generalize a * a=A at w4;omega
theorem nodup_range{f:Nat->Str}{n:Nat}(h:∀i j,i < j->j < n->f i≠f j):((List.range n).map f).Nodup:=by
 unfold List.Nodup;rw[List.pairwise_map];exact List.Pairwise.imp_of_mem (λ{a b} _ hb hab=>h a b hab (mem_range.mp hb)) List.pairwise_lt_range
inductive yP  (vs:List V)(H:Hp)(Q:VK):Prop
 |mk(c m:Int)(h0:vs=[.int c,.int m])(h1:0<=c)(h2:1<=m)(h3:m<=24)(h4:∀(l:Addr)(us:List Str)(H':Hp),cC H H'->H l=none->H' l=some (.lst (us.map V.str))->fj us->Q (.ref l) H')
def oF  :Sp:=λvs H Q _=>yP  vs H Q
theorem wm:cE ["_law_cell", "_law_many", "_law_letters", "_law_size", "_law_at", "_law_names_here", "_law_k", "_law_word", "_law_j", "_law_step"] ["_law_cell", "_law_many"] (cB lP):={}
theorem yq (D:Df K mg "_law_names" lP ["_law_cell", "_law_many"] f fd) (T:Txt K mg kw C):Gd P w K mg base 1 "_law_names" oF:=by
 refine aF D wm λX H vs Q E hh h=>?_;obtain⟨c,m,rfl,c0,m1,m24,k⟩:=h;obtain⟨S0,S1,S2,S3,S4,S5,S6,S7,S8,S9,_⟩:=hh.d7 [0,1,2,3,4,5,6,7,8,9];have B_int:=hh.b T.b_int;have B_range:=hh.b T.b_range;have hsz:sizeLine=16777216:=sizeLine_eq;refine⟨_,(ah (aE S2 hh.nd aO)
 (ah (aE S3 hh.nd (az bw ae (az a7 (aa S0) ae)))
 (ah (aE S4 hh.nd (az a7 (az ba (aa S0) ae) (aa S3)))
 (ah (aE S5 hh.nd (bh bJ))
 (ah (bp hh.own hh.calm (b9 B_range (ak (aa S1))) (aG S6 hh.nd)
 (ah (aE S7 hh.nd aO)
 (ah (bp hh.own hh.calm (b9 B_range (ak (aa S3))) (aG S8 hh.nd)
 (ah (aE S9 hh.nd (az bw (az bO (aa S8) (aa S8)) (az bO (az bO ae (aa S6)) (br B_int J.jE L2.rG (ak (aR aL (aa S8) (aa S4) (L2.cF _)))))))
 (ag (aE S7 hh.nd (az J.iM (aa S7) (af J.vo (aa S2) (az a7 (az bw (az ba (aa S0) ae) (aa S9)) ae) cb))))))
 (ag (bG (bI plainAttrs_list PySem.F.slot_list_append PySem.F.type_list_append bL (aa S5) (ak (az J.iM (aa S7) (az J.su aO (az ba (aa S6) ae))))))))))
 (ag (au (aa S5)))))))),?_⟩
 have m11:=cT c (m:=11) (by decide);refine⟨_,rfl,_,_,rfl,rfl,(by show(0:Int) < 11;decide),_,_,rfl,rfl,?_⟩;dsimp only;have sb:1<=1+c % 11/\1+c % 11<=11:=by omega
 generalize 1+c % 11=S at sb;clear m11;refine⟨_,rfl,_,_,rfl,rfl,⟨by decide,by decide⟩,_,rfl,_,_,rfl,rfl,(by omega),?_⟩;have ab:=cT (c / 11) (m:=S) (by omega);dsimp only;generalize c / 11 % S=A at ab;refine⟨zc,λl hl=>?_⟩;refine⟨_,rfl,m,rfl,by omega,by omega,jy (lo:=0) (n:=m.toNat) (λi σ H2=>∃e1 e2 e3 e4:Option V,σ=[some (.int c),some (.int m),some (.str o8),some (.int S),some (.int A),some (.ref l),e1,e2,e3,e4]/\cC H H2/\H2 l=some (.lst ((List.range i).map λj=>V.str (nameOf (c / 121) A S.toNat j))))
  ⟨none,none,none,none,rfl,cC.upd hl,cz⟩ ?_ ?_⟩
 ·rintro i σ H2 hi ⟨e1,e2,e3,e4,rfl,s2,hl2⟩
  rw[Int.zero_add];refine⟨_,rfl,S,rfl,by omega,by omega,jy (lo:=0) (n:=S.toNat) (λj σ H3=>∃e3 e4:Option V,σ=[some (.int c),some (.int m),some (.str o8),some (.int S),some (.int A),some (.ref l),some (.int i),some (.str (wordOf (c / 121) A i j)),e3,e4]/\H3=H2)
   ⟨_,_,rfl,rfl⟩ ?_ ?_⟩
  ·rintro j σ H3 hj ⟨e3,e4,rfl,rfl⟩
   rw[Int.zero_add];have jb:(j:Int) < S:=by omega
   refine⟨_,rfl,_,rfl,_,_,rfl,rfl,.inl ⟨by omega,by omega⟩,_,rfl,_,_,rfl,rfl,.inl ⟨by decide,by decide⟩,_,rfl,_,rfl,rfl,.inr ⟨_,rfl,_,_,rfl,rfl,.inl ⟨by omega,by omega⟩,_,_,rfl,rfl,?_⟩⟩;have am:=cT (c / 121+((j:Int) * j+3 * (i:Int) * (if decide (V.int (j:Int)=V.int A)=true then 1 else 0))) (m:=20) (by decide);have wl:=gw (c / 121) A i j;refine⟨_,rfl,_,rfl,_,rfl,_,_,rfl,rfl,⟨by decide,by decide⟩,_,rfl,_,_,rfl,rfl,_,_,rfl,rfl,(by show(0:Int) < 20;decide),o8,_,_,rfl,rfl,(by show o8.length<=sizeLine;decide+kernel),(wu am.1 am.2).1,_,_,rfl,rfl,(by show _+1<=_;omega),_,_,rfl,rfl⟩
  ·rintro σ H3 ⟨e3,e4,rfl,rfl⟩
   have wl:=gw (c / 121) A i S.toNat;obtain⟨h01,el,_⟩:=rJ (k:=i) (by omega);refine⟨_,rfl,.inl ⟨rfl,_,cH.of hl2⟩,_,rfl,_,rfl,_,_,rfl,rfl,⟨by decide,by decide⟩,_,_,rfl,rfl,h01,_,_,rfl,rfl,(by show _+(Jw _).length<=_;omega),l,_,_,rfl,rfl,hl2,(by rw[length_map,length_range];omega),_,_,_,_,rfl,λb o e=>?_,?_⟩
   ·rw[cD (cA e hl)]
    exact s2 _ _ e
   ·rw[cz,range_succ,map_append]
    rfl
 ·rintro σ H2 ⟨e1,e2,e3,e4,rfl,s2,hl2⟩
  refine⟨_,rfl,k l ((List.range m.toNat).map λj=>nameOf (c / 121) A S.toNat j) H2 s2 hl (by rw[map_map];exact hl2) ⟨by rw[length_map,length_range];omega,by rw[length_map,length_range];omega,nodup_range λi j hij hj=>BH ab.1 (by omega) hij (by omega),λz hz=>?_⟩⟩;obtain⟨j,hj,rfl⟩:=mem_map.mp hz;have:=mem_range.mp hj;exact Cq (by omega) (by omega) (by omega)
theorem FL{ps:List Str}{H:Hp}{v:V}{d:SD}(h:t6 H v d)(k:CZ ps d):eK ps H v:=by
 obtain⟨a,e,ha⟩:=h;refine⟨a,e,?_⟩;cases d with
 |knew p h=>exact .inl ⟨p,h,ha,k.1,k.2⟩
 |unh p h=>
  refine .inr (.inl ⟨p,oV h,ha,k.1,?_⟩);cases h with
  |none=>exact .inl rfl
  |some i=>exact .inr ⟨i,rfl,k.2 i rfl⟩
 |sil p b e=>exact .inr (.inr (.inl ⟨p,b,e,ha,k.1,k.2.1,k.2.2.1,k.2.2.2⟩))
 |bar p q=>exact .inr (.inr (.inr ⟨p,q,ha,k.1,k.2.1,k.2.2⟩))
inductive DD(c nl cl tt S Tt Y:Addr)(H5:Hp)(ps:List Str)(i:Nat)(σ:St)(H':Hp):Prop
 |mk(ss ts ys:List V)(e1 e2 e3 e4 e5 e6 e7 e8 e9:Option V)(e:σ=[some (.ref c),some (.ref nl),some (.ref cl),some (.ref tt),e1,e2,e3,e4,e5,e6,e7,e8,e9])
   (hs:H' S=some (.lst ss))(ht:H' Tt=some (.lst ts))(hy:H' Y=some (.lst ys))(kp:∀b o,H5 b=some o->b≠S->b≠Tt->b≠Y->H' b=some o)
   (ls:ss.length<=24)(li:ss.length<=i)(lt:ts.length<=i)(ly:ys.length<=i)(gs:∀v∈ss,dU ps H' v)(gt:∀v∈ts,eT ps H' v)(gy:∀v∈ys,eK ps H' v)
inductive BP(vs:List V)(H:Hp)(Q:VK):Prop
 |mk(c nl cl:Addr)(ns:List Int)(ps:List Str)(hs:List Int)(e:vs=[.ref c,.ref nl,.ref cl])(hc:H c=some (.lst (ns.map V.int)))(n60:ns.length<=60)(hn:H nl=some (.lst (ps.map V.str)))(po:fj ps)(hcl:H cl=some (.lst (hs.map V.int)))(ck:nH hs)
   (k:∀(tt s t y:Addr)(ss ts ys:List V)(H':Hp),cC H H'->H tt=none->H s=none->H t=none->H y=none->[tt,s,t,y].Nodup->H' tt=some (.tup [.ref s,.ref t,.ref y])->H' s=some (.lst ss)->H' t=some (.lst ts)->H' y=some (.lst ys)->ss.length<=24->ts.length<=60->ys.length<=ns.length->
    (∀v∈ss,dU ps H' v)->(∀v∈ts,eT ps H' v)->(∀v∈ys,eK ps H' v)->Q (.ref tt) H')
def pe:Sp:=λvs H Q _=>BP vs H Q
theorem xE{ps:List Str}{i:Int}(h0:0<=i)(h1:i < ps.length):∃z,pQ (ps.map V.str) i=some (.str z)/\z∈ps:=by
 have hi:i.toNat < ps.length:=by omega
 have e:((i.toNat:Nat):Int)=i:=Int.toNat_of_nonneg h0;have:=cQ (xs:=ps.map V.str) (j:=i.toNat) (v:=V.str ps[i.toNat]) (by rw[getElem?_map,getElem?_eq_getElem hi];rfl);rw[e]at this;exact⟨_,this,getElem_mem hi⟩
theorem Hq{ps:List Str}{d:SD}(w:LP ps d):∃v1 v2:V,pQ d.tup 1=some v1/\pQ d.tup 2=some v2/\Ge v1 v2=true/\(v1≠v2->CZ ps d):=by
 cases d with
 |knew p h=>exact⟨_,_,rfl,rfl,rfl,λ_=>w⟩
 |unh p h=>
  cases h with
  |none=>exact⟨_,_,rfl,rfl,rfl,λ_=>w⟩
  |some i=>exact⟨_,_,rfl,rfl,rfl,λ_=>w⟩
 |sil p b e=>exact⟨_,_,rfl,rfl,rfl,λ_=>w⟩
 |bar p q=>exact⟨_,_,rfl,rfl,rfl,λn=>⟨w.1,w.2,λe=>n (congrArg V.str e)⟩⟩
theorem Eb:dJ "red" =true:=by decide+kernel
theorem tX:cE ["_law_cells", "_law_names_here", "_law_clock_here", "_law_things_here", "_law_k", "_law_number", "_law_at", "_law_first", "_law_steps", "_law_one", "_law_other", "_law_saying_here", "_law_way"] ["_law_cells", "_law_names_here", "_law_clock_here"] (cB j7):={}
theorem yt (D:Df K mg "_law_things" j7 ["_law_cells", "_law_names_here", "_law_clock_here"] f fd) (T:Txt K mg kw C) (G__law_mix:Gd P w K mg base 1 "_law_mix" xh) (G__law_spot:Gd P w K mg base 1 "_law_spot" u0) (G__law_saying:Gd P w K mg base 1 "_law_saying" vI):Gd P w K mg base 2 "_law_things" pe:=by
 refine aF D tX λX H vs Q E hh h=>?_;obtain⟨c,nl,cl,ns,ps,hs,rfl,hc,n60,hn,po,hcl,ck,k⟩:=h;obtain⟨S0,S1,S2,S3,S4,S5,S6,S7,S8,S9,S10,S11,S12,_⟩:=hh.d7 [0,1,2,3,4,5,6,7,8,9,10,11,12];have B_len:=hh.b T.b_len;have B_range:=hh.b T.b_range;have C__law_mix:=hh.c G__law_mix;have C__law_saying:=hh.c G__law_saying;have C__law_spot:=hh.c G__law_spot;have hsz:sizeLine=16777216:=sizeLine_eq;have pl:(ps.map V.str).length=ps.length:=length_map ..;have plo:=po.lo;have nln:(ns.map V.int).length=ns.length:=length_map ..;refine⟨_,(ah (aE S3 hh.nd (aV (aM (bh bJ) (bh bJ) (bh bJ))))
 (ah (bp hh.own hh.calm (b9 B_range (ak (aD B_len bq L2.dD (ak (aa S0))))) (aG S4 hh.nd)
 (ah (aE S5 hh.nd (aw C__law_mix (aA (af aT (aa S0) (aa S4) a8) (aa S4))))
 (ah (bN (aw C__law_spot (aM (aa S5) (aa S4) (aD B_len bq L2.dD (ak (aa S1))))) (bu hh.calm (aI (aG S6 hh.nd) (aI (aG S7 hh.nd) (aI (aG S8 hh.nd) bj)))))
 (ah (aE S9 hh.nd (af aT (aa S1) (aa S7) a8))
 (ah (aE S10 hh.nd (af aT (aa S1) (az a7 (az bw (aa S7) (aa S8)) (aD B_len bq L2.dD (ak (aa S1)))) cb))
 (ag (aH (aU (bg (aB aL (aa S4) ae (L2.cF _)) (bz (aU (bo (aB aL (az a7 (aa S5) ae) ae (L2.cF _)) (bB (aB bS (aD B_len bq L2.dD (ak (af ao (aa S3) ae aj))) ae (L2.cF _))))))))
 (ag (bG (bI plainAttrs_list PySem.F.slot_list_append PySem.F.type_list_append bL (af ao (aa S3) ae aj) (ak (aV (aM (aa S9) (af aT (aa S2) (aa S6) a8) (aV (ak aO))))))))
 (ag (aH (aU (bg (aB bS (az a7 (aa S5) ae) ae (L2.cF _)) (bz (aB aL (aa S9) (aa S10) (L2.cF _)))))
 (ah (aE S11 hh.nd (aw C__law_saying (J.MC (aa S5) (aa S9) (aa S10) (aa S2) (aa S6))))
 (ag (aH (aB bU (af ao (aa S11) ae aj) (af ao (aa S11) ae aj) (L2.cF _))
 (ag (bG (bI plainAttrs_list PySem.F.slot_list_append PySem.F.type_list_append bL (af ao (aa S3) ae aj) (ak (aa S11)))))
 aJ)))
 (ah (aE S12 hh.nd (af aT (bh (aA aO aO)) (az a7 (az ba (aa S5) ae) ae) cb))
 (ag (bG (bI plainAttrs_list PySem.F.slot_list_append PySem.F.type_list_append bL (af ao (aa S3) ae aj) (ak (aV (b8 (af aT (aa S2) (aa S6) a8) (aa S9) (aa S10) (aa S12)))))))))))))))))
 (ag (au (aa S3))))),?_⟩
 refine⟨zc,λS hSn=>⟨zc,λTt hTn=>⟨zc,λY hYn=>⟨m7,λtt httn=>?_⟩⟩⟩⟩;have sS:=cC.upd (o:=.lst []) hSn;have sT:=cC.upd (o:=.lst []) hTn;have sY:=cC.upd (o:=.lst []) hYn;have sU:=cC.upd (o:=.tup [.ref S,.ref Tt,.ref Y]) httn;have nST:S≠Tt:=cA cz hTn;have nSY:S≠Y:=cA (sT _ _ cz) hYn;have nTY:Tt≠Y:=cA cz hYn;have nuS:tt≠S:=(cA (sY _ _ (sT _ _ cz)) httn).symm;have nuT:tt≠Tt:=(cA (sY _ _ cz) httn).symm;have nuY:tt≠Y:=(cA cz httn).symm;have s05:=((sS.trans sT).trans sY).trans sU;have fS:H S=none:=hSn;have fT:H Tt=none:=sS.free hTn;have fY:H Y=none:=(sS.trans sT).free hYn;have fU:H tt=none:=((sS.trans sT).trans sY).free httn;have hS5:=sU _ _ (sY _ _ (sT _ _ (show upd H S (.lst []) S=some (.lst []) from cz)));have hT5:=sU _ _ (sY _ _ (show upd (upd H S (.lst [])) Tt (.lst []) Tt=some (.lst []) from cz));have hY5:=sU _ _ (show upd (upd (upd H S (.lst [])) Tt (.lst [])) Y (.lst []) Y=some (.lst []) from cz);have hU5:upd (upd (upd (upd H S (.lst [])) Tt (.lst [])) Y (.lst [])) tt (.tup [.ref S,.ref Tt,.ref Y]) tt=some (.tup [.ref S,.ref Tt,.ref Y]):=cz;generalize upd (upd (upd (upd H S (.lst [])) Tt (.lst [])) Y (.lst [])) tt (.tup [.ref S,.ref Tt,.ref Y])=H5 at s05 hS5 hT5 hY5 hU5;have hc5:=s05 _ _ hc;have hn5:=s05 _ _ hn;have hcl5:=s05 _ _ hcl;have keep:∀{b:Addr}{o:HO}{H6:Hp},(∀b o,H5 b=some o->b≠S->b≠Tt->b≠Y->H6 b=some o)->H b=some o->H6 b=some o:=λkp e=>kp _ _ (s05 _ _ e) (cA e fS) (cA e fT) (cA e fY);clear sS sT sY sU hSn hTn hYn httn;refine⟨_,rfl,c,_,rfl,.inl (cH.of hc5),(ns.length:Int),(by rw[nln]),by omega,by omega,jy (lo:=0) (n:=((ns.length:Nat):Int).toNat) (DD c nl cl tt S Tt Y H5 ps)
  ⟨[],[],[],none,none,none,none,none,none,none,none,none,rfl,hS5,hT5,hY5,λb o e _ _ _=>e,by decide,le_refl 0,le_refl 0,le_refl 0,(λv hv=>by cases hv),(λv hv=>by cases hv),(λv hv=>by cases hv)⟩ ?_ ?_⟩
 ·rintro i σ H6 hi ⟨ss,ts,ys,e1,e2,e3,e4,e5,e6,e7,e8,e9,rfl,hs6,ht6,hy6,kp,ls,li,lt,ly,gs,gt,gy⟩
  rw[Int.toNat_natCast]at hi;have hc6:=keep kp hc;have hn6:=keep kp hn;have hcl6:=keep kp hcl;have hu6:=kp _ _ hU5 nuS nuT nuY;have av:pQ (ns.map V.int) ((0:Int)+(i:Int))=some (.int ns[i]):=by
   rw[Int.zero_add];exact cQ (by rw[getElem?_map,getElem?_eq_getElem hi];rfl)
  refine⟨_,rfl,_,rfl,xL hc6 av ⟨_,rfl,_,_,rfl,by omega,by omega,λN n0 n1=>?_⟩⟩;refine⟨_,rfl,_,rfl,_,rfl,nl,_,rfl,.inl (cH.of hn6),_,_,_,rfl,n0,by omega,by rw[pl];omega,λt a f st H7 s7 htp a0 a20 f0 fm st0=>?_⟩;rw[pl]at fm;obtain⟨y1,ay1,my1⟩:=xE f0 fm;have om:=cT (f+st) (m:=(ps.length:Int)) (by omega);obtain⟨y2,ay2,my2⟩:=xE om.1 om.2;have hn7:=s7 _ _ hn6;have hcl7:=s7 _ _ hcl6;have hu7:=s7 _ _ hu6;have hs7:=s7 _ _ hs6;have ht7:=s7 _ _ ht6;have hy7:=s7 _ _ hy6;have kp7:∀b o,H5 b=some o->b≠S->b≠Tt->b≠Y->H7 b=some o:=λb o e n1 n2 n3=>s7 _ _ (kp b o e n1 n2 n3);have gs7:∀v∈ss,dU ps H7 v:=λv hv=>(gs v hv).mono (Tk.of s7);have gt7:∀v∈ts,eT ps H7 v:=λv hv=>(gt v hv).mono (Tk.of s7);have gy7:∀v∈ys,eK ps H7 v:=λv hv=>(gy v hv).mono (Tk.of s7);refine⟨t,_,rfl,cU.of htp,rfl,_,_,rfl,_,_,rfl,_,_,rfl,rfl,?_⟩;refine⟨_,rfl,_,rfl,xL hn7 ay1 ?_⟩;refine⟨_,rfl,_,rfl,_,rfl,_,_,rfl,rfl,_,rfl,nl,_,rfl,.inl (cH.of hn7),_,_,rfl,rfl,(by rw[pl];omega),xL hn7 (by rw[pl];exact ay2) ?_⟩;obtain⟨hr,eH,iH,kH⟩:=kK ck (i:=a) a0 a20;clear htp s7 gs gt gy hs6 ht6 hy6 kp hu6 hn6 hcl6 hc6;refine both (G:=ss.length < 24->_) ?_ λput=>both (G:=_) ?_ λother=>⟨_,rfl,rfl,_,rfl,c8 (λhk=>dv (put ?_)) (λ_=>⟨_,rfl,_,_,rfl,rfl,(by show(0:Int) < 8;decide),rfl,_,rfl,c8 (λ_=>⟨_,rfl,xT hu7 rfl ⟨S,_,rfl,.inl (cH.of hs7),_,_,rfl,rfl,_,rfl,c8 (λh24=>put ?_) (λ_=>other)⟩⟩) (λ_=>cR other)⟩)⟩
  ·intro h24
   refine⟨_,rfl,xT hu7 rfl ⟨.inl ⟨rfl,_,cH.of hs7⟩,_,rfl,_,rfl,_,rfl,xL hcl7 eH ⟨Km,λta hta=>⟨m7,λtp htp=>?_⟩⟩⟩⟩;have s8:=cC.upd (o:=.tup [.str "red"]) hta;have s9:=s8.trans (cC.upd (o:=.tup [.str y1,.int hr,.ref ta]) htp);refine⟨S,ss,.ref tp,rfl,rfl,s9 _ _ hs7,by omega,?_⟩;have tk:=(Tk.of s9).trans (Tk.upd (s9 _ _ hs7) (ys:=ss++[.ref tp]));have n1:tp≠S:=(cA (s8 _ _ hs7) htp).symm;have n2:ta≠S:=(cA hs7 hta).symm;refine⟨ss++[.ref tp],ts,ys,_,_,_,_,_,_,_,_,_,rfl,cz,(by rw[cD nST.symm];exact s9 _ _ ht7),(by rw[cD nSY.symm];exact s9 _ _ hy7),λb o e n1 n2 n3=>(by rw[cD n1];exact s9 _ _ (kp7 b o e n1 n2 n3)),(by rw[length_append];show ss.length+1<=24;omega),(by rw[length_append];show ss.length+1<=i+1;omega),by omega,by omega,λv hv=>?_,λv hv=>(gt7 v hv).mono tk,λv hv=>(gy7 v hv).mono tk⟩;rw[mem_append,mem_singleton]at hv;rcases hv with hv|rfl
   ·exact(gs7 v hv).mono tk
   ·exact⟨tp,y1,hr,ta,["red"],rfl,(by rw[cD n1];exact cz),my1,kH,(by rw[cD n2];exact(cC.upd htp) _ _ cz),by decide,by decide,λx hx=>by rw[mem_singleton]at hx;rw[hx];exact Eb⟩
  ·refine both (G:=_) ?_ λsaying=>⟨_,rfl,_,_,rfl,rfl,(by show(0:Int) < 8;decide),_,_,rfl,rfl,_,rfl,c8 (λ_=>dv saying) (λ_=>⟨_,rfl,_,rfl,rfl,_,rfl,c8 (λ_=>saying) (λhne=>?_)⟩)⟩
   ·refine⟨_,rfl,_,rfl,_,rfl,_,rfl,_,rfl,N,a,y1,y2,cl,hs,ps,rfl,hcl7,ck,a0,a20,my1,my2,λv d H8 s8 sd8 w8=>?_⟩
    obtain⟨b,rfl,hb⟩:=sd8;have keep8:∀{b:Addr}{o:HO},H7 b=some o->H8 b=some o:=λe=>s8 _ _ e;have fB:DD c nl cl tt S Tt Y H5 ps (i+1) [some (.ref c),some (.ref nl),some (.ref cl),some (.ref tt),some (.int (0+(i:Int))),some (.int N),some (.int a),some (.int f),some (.int st),some (.str y1),some (.str y2),some (.ref b),e9] H8:=
     ⟨ss,ts,ys,_,_,_,_,_,_,_,_,_,rfl,s8 _ _ hs7,s8 _ _ ht7,s8 _ _ hy7,λb o e n1 n2 n3=>s8 _ _ (kp7 b o e n1 n2 n3),ls,by omega,by omega,by omega,λv hv=>(gs7 v hv).mono (Tk.of s8),λv hv=>(gt7 v hv).mono (Tk.of s8),λv hv=>(gy7 v hv).mono (Tk.of s8)⟩
    obtain⟨v1,v2,av1,av2,sc12,ok12⟩:=Hq w8;refine⟨_,rfl,xT hb av1 ⟨_,rfl,xT hb av2 ⟨sc12,_,rfl,c8 (λhne=>?_) (λ_=>fB)⟩⟩⟩;have ok:=ok12 λe=>by rw[decide_eq_true e]at hne;cases hne
    have si:=FL ⟨b,rfl,hb⟩ ok;refine⟨_,rfl,xT (s8 _ _ hu7) rfl ⟨.inl ⟨rfl,_,cH.of (s8 _ _ hy7)⟩,_,rfl,Y,ys,.ref b,rfl,rfl,s8 _ _ hy7,by omega,?_⟩⟩;have tk:=(Tk.of s8).trans (Tk.upd (s8 _ _ hy7) (ys:=ys++[.ref b]));refine⟨ss,ts,ys++[.ref b],_,_,_,_,_,_,_,_,_,rfl,(by rw[cD nSY];exact s8 _ _ hs7),(by rw[cD nTY];exact s8 _ _ ht7),cz,λb o e n1 n2 n3=>(by rw[cD n3];exact s8 _ _ (kp7 b o e n1 n2 n3)),ls,by omega,by omega,(by rw[length_append];show ys.length+1<=i+1;omega),λv hv=>(gs7 v hv).mono tk,λv hv=>(gt7 v hv).mono tk,λv hv=>?_⟩;rw[mem_append,mem_singleton]at hv;rcases hv with hv|rfl
    ·exact(gy7 v hv).mono tk
    ·exact si.mono (Tk.upd (s8 _ _ hy7))
   ·obtain⟨wv,hw,hwm⟩:=DP (xs:=[V.str "both",V.str "one"]) (i:=N / 8192 % 2) (Int.emod_nonneg _ (by decide)) (by
     have:N / 8192 % 2 < 2:=Int.emod_lt_of_pos _ (by decide);show _ < (2:Int);omega)
    have hwy:∃wy:Str,wv=.str wy/\(wy= "both" \/wy= "one"):=by
     simp only[mem_cons,not_mem_nil,or_false]at hwm;rcases hwm with rfl|rfl
     ·exact⟨_,rfl,.inl rfl⟩
     ·exact⟨_,rfl,.inr rfl⟩
    obtain⟨wy,rfl,hwy⟩:=hwy;refine⟨Gz,λb3 hb3=>?_⟩;have s8:=cC.upd (o:=.lst [.str "both",.str "one"]) hb3;refine⟨_,rfl,_,_,rfl,rfl,⟨by decide,by decide⟩,_,_,rfl,rfl,(by show(0:Int) < 2;decide),xL cz hw ?_⟩;refine⟨_,rfl,xT (s8 _ _ hu7) rfl ⟨.inl ⟨rfl,_,cH.of (s8 _ _ ht7)⟩,_,rfl,_,rfl,xL (s8 _ _ hcl7) eH ⟨_,rfl,_,rfl,_,rfl,JY,λtp htp=>?_⟩⟩⟩;have s9:=s8.trans (cC.upd (o:=.tup [.int hr,.str y1,.str y2,.str wy]) htp);refine⟨Tt,ts,.ref tp,rfl,rfl,s9 _ _ ht7,by omega,?_⟩;have tk:=(Tk.of s9).trans (Tk.upd (s9 _ _ ht7) (ys:=ts++[.ref tp]));have n1:tp≠Tt:=(cA (s8 _ _ ht7) htp).symm;refine⟨ss,ts++[.ref tp],ys,_,_,_,_,_,_,_,_,_,rfl,(by rw[cD nST];exact s9 _ _ hs7),cz,(by rw[cD nTY.symm];exact s9 _ _ hy7),λb o e n1 n2 n3=>(by rw[cD n2];exact s9 _ _ (kp7 b o e n1 n2 n3)),ls,by omega,(by rw[length_append];show ts.length+1<=i+1;omega),by omega,λv hv=>(gs7 v hv).mono tk,λv hv=>?_,λv hv=>(gy7 v hv).mono tk⟩;rw[mem_append,mem_singleton]at hv;rcases hv with hv|rfl
    ·exact(gt7 v hv).mono tk
    ·exact⟨tp,hr,y1,y2,wy,rfl,(by rw[cD n1];exact cz),kH,my1,my2,λe=>hne (decide_eq_true (congrArg V.str e)),hwy⟩
  ·have:((0:Int)+(i:Int))=0:=by injection of_decide_eq_true hk
   omega
  ·rw[decide_eq_true_iff]at h24
   omega
 ·rintro σ H6 ⟨ss,ts,ys,e1,e2,e3,e4,e5,e6,e7,e8,e9,rfl,hs6,ht6,hy6,kp,ls,li,lt,ly,gs,gt,gy⟩
  rw[Int.toNat_natCast]at li lt ly;refine⟨_,rfl,k tt S Tt Y ss ts ys H6 (λb o e=>keep kp e) fU fS fT fY ?_ (kp _ _ hU5 nuS nuT nuY) hs6 ht6 hy6 ls (by omega) (by omega) gs gt gy⟩;simp only[nodup_cons,mem_cons,not_mem_nil,or_false,not_or,nodup_nil,and_true,not_false_eq_true];exact⟨⟨nuS,nuT,nuY⟩,⟨nST,nSY⟩,nTY⟩
def SK(kvs:List (Key×V))(zs:List Str):Prop:=kvs.map (·.1)=zs.map Sum.inr
def IV(kvs:List (Key×V)):Prop:=∃zs,SK kvs zs/\zs.Nodup
theorem Ac{kvs:List (Key×V)}{zs:List Str}{z:Str}(h:SK kvs zs):z∈zs↔(dB kvs (Sum.inr z)).isSome=true:=by
 rw[<-gn,any_eq_true];constructor
 ·intro m
  have:Sum.inr z∈kvs.map (·.1):=by rw[show kvs.map (·.1)=zs.map Sum.inr from h];exact List.mem_map_of_mem m
  obtain⟨kv,m1,e⟩:=mem_map.mp this;exact⟨kv,m1,decide_eq_true e⟩
 ·rintro⟨kv,m,e⟩
  have:(Sum.inr z:Key)∈zs.map Sum.inr:=by rw[<-show kvs.map (·.1)=zs.map Sum.inr from h,<-of_decide_eq_true e];exact List.mem_map_of_mem m
  obtain⟨y,m1,e1⟩:=mem_map.mp this;cases e1;exact m1
theorem zD{kvs:List (Key×V)}{z:Str}{v:V}(h:IV kvs):IV (putK kvs (Sum.inr z) v):=by
 obtain⟨zs,h,nd⟩:=h;have e0:kvs.map (·.1)=zs.map Sum.inr:=h;unfold putK;rw[gn];cases c:(dB kvs (Sum.inr z)).isSome with
 |true=>
  rw[if_pos rfl];refine⟨zs,?_,nd⟩;show(kvs.map _).map _=_;rw[<-e0,map_map];refine map_congr_left λkv _=>?_;show(if kv.1=_ then(kv.1,v) else kv).1=kv.1;split<;>rfl
 |false=>
  rw[if_neg Bool.false_ne_true];refine⟨zs++[z],?_,List.nodup_append.mpr ⟨nd,nodup_cons.mpr ⟨not_mem_nil,nodup_nil⟩,λa ha b hb e=>?_⟩⟩
  ·show(kvs++[_]).map _=_
   rw[map_append,map_append,e0];rfl
  ·rw[mem_singleton.mp hb]at e
   have:=(Ac h).mp (e ▸ ha);rw[c]at this;cases this
theorem oz:∀{zs ps:List Str},zs.Nodup->(∀z∈zs,z∈ps)->zs.length<=ps.length
 |[],_,_,_=>zero_le _
 |z::r,ps,nd,m=>by
  obtain⟨n1,n2⟩:=nodup_cons.mp nd;have mz:=m z mem_cons_self;have:=oz (ps:=ps.erase z) n2 λy hy=>(List.mem_erase_of_ne λe=>n1 (by rw[<-e];exact hy)).mpr (m y (mem_cons_of_mem _ hy));rw[List.length_erase_of_mem mz]at this;have pl:=List.length_pos_of_mem mz;show r.length+1<=_;omega
def Mv(kvs:List (Key×V)):Prop:=∀(z:Str) (v:V),dB kvs (Sum.inr z)=some v->∃i:Int,v=.int i
def pI(F:Str->Option Int):SD->Bool
 |.knew q h=>match F q with
  |none=>false
  |some i=>decide (i<=h)
 |_=>true
inductive xQ  (vs:List V)(H:Hp)(Q:VK):Prop
 |mk(y d:Addr)(ys:List V)(sd:List SD)(kvs:List (Key×V))(F:Str->Option Int)(h0:vs=[.ref y,.ref d])(h1:H y=some (.lst ys))(h2:Sys H ys sd)(h3:H d=some (.dK kvs))(h4:(∀z,dB kvs (Sum.inr z)=(F z).map V.int))(h5:Q (.bl (sd.all (pI F))) H)
def gX  :Sp:=λvs H Q _=>xQ  vs H Q
theorem rH:cE ["_law_sayings", "_law_found", "_law_row"] ["_law_sayings", "_law_found"] (cB ji):={}
theorem uV (D:Df K mg "_law_knew_so" ji ["_law_sayings", "_law_found"] f fd):Gd P w K mg base 1 "_law_knew_so" gX:=by
 refine aF D rH λX H vs Q E hh h=>?_;obtain⟨y,m,ys,sd,kvs,F,rfl,hy,sy,hm,get,k⟩:=h;obtain⟨S0,S1,S2,_⟩:=hh.d7 [0,1,2];have hu:=eS hh.room;refine⟨_,(ah (bp hh.own hh.calm (aP (aa S0)) (aG S2 hh.nd)
 (ag (aH (aU (bo (aB aL (af ao (aa S2) ae aj) aO (L2.cF _)) (bB (aU (bg (J.qp hu (af ao (aa S2) ae aj) (aa S1)) (bz (aB bT (bP hu (aa S1) (af ao (aa S2) ae aj) b4) (af ao (aa S2) ae aj) (L2.cF _))))))))
 (ag (au a5))
 aJ)))
 (ag (au a5))),?_⟩
 refine⟨_,rfl,y,rfl,⟨_,cH.of hy⟩,dA (K:=X.K) (a:=y) (xs:=ys) (λi σ H2=>∃e:Option V,σ=[some (.ref y),some (.ref m),e]/\H2=H/\∀d∈sd.take i,pI F d=true)
  ⟨none,rfl,rfl,λd hd=>by cases hd⟩ ?_ ?_ ?_⟩
 ·rintro i σ H2 hi ⟨e,rfl,rfl,al⟩
  exact cH.of hy
 ·rintro i v σ H2 hv ⟨e,rfl,rfl,al⟩
  obtain⟨d,a,hd,rfl,ha⟩:=sy.at hv;have nx:pI F d=true->∃e:Option V,[some (V.ref y),some (.ref m),some (.ref a)]=[some (.ref y),some (.ref m),e]/\H2=H2/\∀d∈sd.take (i+1),pI F d=true:=λo=>⟨_,rfl,rfl,λd' hd'=>by
   rw[take_add_one,hd,mem_append]at hd';rcases hd' with h|h
   ·exact al d' h
   ·rw[mem_singleton.mp h]
    exact o⟩
  have no:pI F d=false->Q (.bl false) H2:=λo=>by
   have e:sd.all (pI F)=false:=List.all_eq_false.mpr ⟨d,mem_of_getElem? hd,by rw[o];exact Bool.false_ne_true⟩;rw[<-e];exact k
  cases d with
  |unh q i'=>exact⟨_,rfl,xT ha rfl ⟨rfl,_,rfl,iN (cR (nx rfl))⟩⟩
  |sil q b e'=>exact⟨_,rfl,xT ha rfl ⟨rfl,_,rfl,iN (cR (nx rfl))⟩⟩
  |bar q q'=>exact⟨_,rfl,xT ha rfl ⟨rfl,_,rfl,iN (cR (nx rfl))⟩⟩
  |knew q h=>
   have dg:=eX.k (k:=Sum.inr q) hm;rw[get]at dg;have ke:pI F (.knew q h)=(match F q with|none=>false|some i=>decide (i<=h)):=rfl;refine⟨_,rfl,xT ha rfl ⟨rfl,_,rfl,iP ⟨_,rfl,xT ha rfl ⟨_,rfl,m,_,rfl,dg,_,rfl,?_⟩⟩⟩⟩;cases hF:F q with
   |none=>
    rw[hF]at ke;exact fh rfl (dv (no ke))
   |some j=>
    rw[hF]at ke dg;refine gY Bool.false_ne_true ⟨_,rfl,_,rfl,xT ha rfl ⟨m,_,rfl,dg,_,rfl,xT ha rfl ⟨_,_,rfl,rfl,_,rfl,c8 (λe=>no ?_) (λe=>nx ?_)⟩⟩⟩
    ·rw[ke]
     have:=of_decide_eq_true e;exact decide_eq_false (by omega)
    ·rw[ke]
     have:¬j > h:=λx=>e (decide_eq_true x);exact decide_eq_true (by omega)
 ·rintro σ H2 ⟨e,rfl,rfl,al⟩
  rw[sy.1,take_length]at al;rw[all_eq_true.mpr al]at k;exact k
abbrev FH:=Str->Option Int
def mv:Option Int->Nat
 |none=>1000000000000000002
 |some i=>i.toNat
def nv:Option Int->Nat
 |none=>1
 |some _=>0
def mu(g:Option Int->Nat)(F:FH):List Str->Nat
 |[]=>0
 |z::r=>g (F z)+mu g F r
def iO(F:FH)(z:Str)(h:Int):FH:=λy=>if y=z then some h else F y
theorem dG{F:FH}{z:Str}{h:Int}:iO F z h z=some h:=if_pos rfl
theorem dI{F:FH}{z y:Str}{h:Int}(n:¬y=z):iO F z h y=F y:=if_neg n
theorem Ae{g:Option Int->Nat}{F:FH}{z:Str}{h:Int}(l:g (some h)<=g (F z)):∀ps:List Str,mu g (iO F z h) ps<=mu g F ps
 |[]=>le_refl _
 |y::r=>by
  have ih:=Ae l r;show g (iO F z h y)+mu g (iO F z h) r<=g (F y)+mu g F r;by_cases e:y=z
  ·subst e
   rw[dG];omega
  ·rw[dI e]
   omega
theorem AG{g:Option Int->Nat}{F:FH}{z:Str}{h:Int}(l:g (some h) < g (F z)):∀ps:List Str,z∈ps->mu g (iO F z h) ps < mu g F ps
 |[],m=>by cases m
 |y::r,m=>by
  have ih:=Ae (le_of_lt l) r;show g (iO F z h y)+mu g (iO F z h) r < g (F y)+mu g F r;by_cases e:y=z
  ·subst e
   rw[dG];omega
  ·rw[dI e]
   rcases mem_cons.mp m with e'|m'
   ·exact absurd e'.symm e
   ·have:=AG l r m'
    omega
theorem wX:∀ps:List Str,mu nv (λ_=>none) ps=ps.length
 |[]=>rfl
 |z::r=>by
  show 1+mu nv (λ_=>none) r=r.length+1;rw[wX r];omega
structure Bs(R:Str->Int->Prop)(ps:List Str)(kvs:List (Key×V))(F:FH):Prop where
 get:∀z,dB kvs (Sum.inr z)=(F z).map V.int
 ok:∀z i,F z=some i->cN i
 rc:∀z i,F z=some i->R z i
 len:kvs.length+mu nv F ps<=ps.length
 sk:IV kvs
theorem Bs.new{R:Str->Int->Prop}{ps:List Str}:Bs R ps [] (λ_=>none):=⟨λ_=>rfl,(λ_ _ e=>by cases e),(λ_ _ e=>by cases e),(by rw[wX];show 0+_<=_;omega),⟨[],rfl,nodup_nil⟩⟩
theorem Bs.put{R:Str->Int->Prop}{ps:List Str}{kvs:List (Key×V)}{F:FH}{z:Str}{h:Int}(d:Bs R ps kvs F)(hz:z∈ps)(hh:cN h)(hc:R z h):Bs R ps (putK kvs (Sum.inr z) (.int h)) (iO F z h):=by
 refine⟨λy=>?_,λy i e=>?_,λy i e=>?_,?_,zD d.sk⟩
 ·rw[gx]
  by_cases e:y=z
  ·subst e
   rw[if_pos rfl,dG];rfl
  ·rw[if_neg (λq=>e (Sum.inr.inj q)),dI e]
   exact d.get y
 ·by_cases q:y=z
  ·subst q
   rw[dG]at e;cases e;exact hh
  ·rw[dI q]at e
   exact d.ok y i e
 ·by_cases q:y=z
  ·subst q
   rw[dG]at e;cases e;exact hc
  ·rw[dI q]at e
   exact d.rc y i e
 ·have dl:=d.len
  unfold putK;rw[gn,d.get z];cases hF:F z with
  |none=>
   have:=AG (g:=nv) (F:=F) (z:=z) (h:=h) (by rw[hF];exact Nat.zero_lt_one) ps hz;show(kvs++[_]).length+_<=_;rw[length_append];show kvs.length+1+_<=_;omega
  |some j=>
   have:=Ae (g:=nv) (F:=F) (z:=z) (h:=h) (zero_le _) ps;show(kvs.map _).length+_<=_;rw[length_map];omega
def JP(F:FH)(g:GD):Prop:=∃j,F g.1=some j/\j<=g.2
def Jh(qd:List QD)(F:FH)(t:TK):Prop:=∀a,F t.2.1=some a->a < ef qd t.1->∃b,F t.2.2=some b/\b<=ef qd t.1
theorem JP.set{F:FH}{g:GD}{z:Str}{m:Int}(h:JP F g)(l:∀j,F z=some j->m<=j):JP (iO F z m) g:=by
 obtain⟨j,e,k⟩:=h;by_cases q:g.1=z
 ·have:=l j (by rw[<-q];exact e)
  exact⟨m,(by rw[q];exact dG),by omega⟩
 ·exact⟨j,(by rw[dI q];exact e),k⟩
def uk(sg:List GD)(F:FH)(ix:List Nat):Prop:=∀i∈ix,∀g,sg[i]? =some g->JP F g
theorem uk.set{sg:List GD}{F:FH}{ix:List Nat}{z:Str}{m:Int}(h:uk sg F ix)(l:∀j,F z=some j->m<=j):uk sg (iO F z m) ix:=λi hi g hg=>(h i hi g hg).set l
theorem qa{α:Type}{l:List α}{i:Nat}{x y:α}(h:l[i]? =some x)(m:y∈l.take (i+1)):y∈l.take i\/y=x:=by
 rw[take_add_one,h,mem_append]at m;rcases m with m|m
 ·exact .inl m
 ·exact .inr (mem_singleton.mp m)
inductive jt(sg:List GD)(qd:List QD)(ix:List Nat)(ks:List TK):Str->Int->Prop
 |saw {i:Nat}{g:GD}(m:i∈ix)(e:sg[i]? =some g):jt sg qd ix ks g.1 g.2
 |hrd {t:TK}{h':Int}(m:t∈ks)(r:jt sg qd ix ks t.2.1 h')(l:h' < ef qd t.1):jt sg qd ix ks t.2.2 (ef qd t.1)
inductive Lc(vs:List V)(H:Hp)(Q:VK):Prop
 |mk(th nb tl s t y:Addr)(ps:List Str)(ss ts us:List V)(sg:List GD)(qd:List QD)(ix:List Nat)(ks:List TK)(e:vs=[.ref th,.ref nb,.ref tl])(hth:H th=some (.tup [.ref s,.ref t,.ref y]))(hs:H s=some (.lst ss))(ht:H t=some (.lst ts))(hnb:H nb=some (.lst (ix.map λi=>V.int (i:Nat))))(htl:H tl=some (.lst us))
   (gs:Lz dq H ss sg)(gk:∀d∈sg,d.1∈ps/\cN d.2)(qs:Lz dC H ts qd)(qk:∀d∈qd,cN d.1)(tu:eR H us ks)(kk:∀t∈ks,t.1 < qd.length/\t.2.2∈ps)(ik:∀i∈ix,i < sg.length)(pl:ps.length<=24)
   (k:∀(d:Addr)(kvs:List (Key×V))(F:FH)(H':Hp),cC H H'->H d=none->H' d=some (.dK kvs)->Bs (jt sg qd ix ks) ps kvs F->uk sg F ix->(∀t∈ks,Jh qd F t)->Q (.ref d) H')
def sO:Sp:=λvs H Q _=>Lc vs H Q
inductive Ly(R:Str->Int->Prop)(th nb tl s t y d:Addr)(H1:Hp)(ps:List Str)(sg:List GD)(ix:List Nat)(i:Nat)(σ:St)(H2:Hp):Prop
 |mk(e1:Option V)(kvs:List (Key×V))(F:FH)(e:σ=[some (.ref th),some (.ref nb),some (.ref tl),some (.ref s),some (.ref t),some (.ref y),some (.ref d),e1,none,none,none,none,none])(kp:∀b o,H1 b=some o->b≠d->H2 b=some o)(hd:H2 d=some (.dK kvs))(hr:Bs R ps kvs F)(so:uk sg F (ix.take i))
inductive Lm(R:Str->Int->Prop)(th nb tl s t y d:Addr)(H1:Hp)(ps:List Str)(sg:List GD)(qd:List QD)(ix:List Nat)(ks:List TK)(m:Nat)(σ:St)(H2:Hp):Prop
 |mk(b:Bool)(e1 e2 e3 e4 e5:Option V)(kvs:List (Key×V))(F:FH)(e:σ=[some (.ref th),some (.ref nb),some (.ref tl),some (.ref s),some (.ref t),some (.ref y),some (.ref d),e1,some (.bl b),e2,e3,e4,e5])(kp:∀b o,H1 b=some o->b≠d->H2 b=some o)(hd:H2 d=some (.dK kvs))(hr:Bs R ps kvs F)(so:uk sg F ix)(to:b=false->∀t∈ks,Jh qd F t)(me:m=2 * mu mv F ps+b.toNat)
inductive J6(R:Str->Int->Prop)(th nb tl s t y d:Addr)(H1:Hp)(ps:List Str)(sg:List GD)(qd:List QD)(ix:List Nat)(ks:List TK)(F0:FH)(i:Nat)(σ:St)(H2:Hp):Prop
 |mk(b:Bool)(e1 e2 e3 e4 e5:Option V)(kvs:List (Key×V))(F:FH)(e:σ=[some (.ref th),some (.ref nb),some (.ref tl),some (.ref s),some (.ref t),some (.ref y),some (.ref d),e1,some (.bl b),e2,e3,e4,e5])(kp:∀b o,H1 b=some o->b≠d->H2 b=some o)(hd:H2 d=some (.dK kvs))(hr:Bs R ps kvs F)(so:uk sg F ix)(to:b=false->F=F0/\∀t∈ks.take i,Jh qd F t)(me:b=true->mu mv F ps < mu mv F0 ps)
theorem vz:cE ["_law_things_here", "_law_numbers", "_law_tellings_here", "_law_sights", "_law_talks", "_law_sayings", "_law_found", "_law_i", "_law_changing", "_law_k", "_law_teller", "_law_hearer", "_law_when"] ["_law_things_here", "_law_numbers", "_law_tellings_here"] (cB mS):={}
theorem AN (D:Df K mg "_law_hours" mS ["_law_things_here", "_law_numbers", "_law_tellings_here"] f fd) (T:Txt K mg kw C):Gd P w K mg base 1 "_law_hours" sO:=by
 refine aF D vz λX H vs Q E hh h=>?_;obtain⟨th,nb,tl,s,t,y,ps,ss,ts,us,sg,qd,ix,ks,rfl,hth,hs,ht,hnb,htl,gs,gk,qs,qk,tu,kk,ik,pl,k⟩:=h;obtain⟨S0,S1,S2,S3,S4,S5,S6,S7,S8,S9,S10,S11,S12,_⟩:=hh.d7 [0,1,2,3,4,5,6,7,8,9,10,11,12];have B_min:=hh.b T.b_min;have hu:=eS hh.room;have hsz:sizeLine=16777216:=sizeLine_eq;have small:∀{kvs:List (Key×V)}{F:FH},Bs (jt sg qd ix ks) ps kvs F->kvs.length < sizeLine:=λhr=>by
  have:=hr.len;omega
 clear hsz;refine⟨_,(ah (bN (aa S0) (bu hh.calm (aI (aG S3 hh.nd) (aI (aG S4 hh.nd) (aI (aG S5 hh.nd) bj)))))
 (ah (aE S6 hh.nd cv)
 (ah (bp hh.own hh.calm (aP (aa S1)) (aG S7 hh.nd)
 (ag (b7 hu (aa S6) (af ao (af aT (aa S3) (aa S7) a8) ae aj) (aD B_min (J.fP hh.calm) L2.rb (aA (af ao (af aT (aa S3) (aa S7) a8) ae aj) (J.Ig hu (aa S6) (af ao (af aT (aa S3) (aa S7) a8) ae aj) (af ao (af aT (aa S3) (aa S7) a8) ae aj)))))))
 (ah (aE S8 hh.nd a5)
 (ah (J.Le hh.own (J.wZ (aa S8))
 (ah (aE S8 hh.nd a5)
 (ag (bp hh.own hh.calm (aP (aa S2)) (bu hh.calm (aI (aG S9 hh.nd) (aI (aG S10 hh.nd) (aI (aG S11 hh.nd) bj))))
 (ah (aE S12 hh.nd (af ao (af aT (aa S4) (aa S9) a8) ae aj))
 (ag (aH (aU (bo (J.Fj hu (aa S10) (aa S6)) (bo (aB bS (bP hu (aa S6) (aa S10) a8) (aa S12) (L2.cF _)) (bB (aB bT (J.Ig hu (aa S6) (aa S11) (az bw (aa S12) ae)) (aa S12) (L2.cF _))))))
 (ah (b7 hu (aa S6) (aa S11) (aa S12))
 (ag (aE S8 hh.nd a5)))
 aJ)))))))
 (ag (au (aa S6)))))))),?_⟩
 refine⟨_,rfl,th,_,rfl,cU.of hth,rfl,_,_,rfl,_,_,rfl,_,_,rfl,rfl,λd hdn=>?_⟩;have s1:=cC.upd (o:=.dK []) hdn;have hd1:upd H d (.dK []) d=some (.dK []):=cz;generalize upd H d (.dK [])=H1 at s1 hd1;have keep:∀{b:Addr}{o:HO}{H2:Hp},(∀b o,H1 b=some o->b≠d->H2 b=some o)->H b=some o->H2 b=some o:=λkp e=>kp _ _ (s1 _ _ e) (cA e hdn);refine⟨_,rfl,nb,rfl,⟨_,cH.of (s1 _ _ hnb)⟩,dA (K:=X.K) (a:=nb) (xs:=ix.map λi=>V.int (i:Nat)) (Ly (jt sg qd ix ks) th nb tl s t y d H1 ps sg ix)
  ⟨none,[],_,rfl,λb o e _=>e,hd1,Bs.new,(λi hi=>by cases hi)⟩ ?_ ?_ ?_⟩
 ·rintro i σ H2 hi ⟨e1,kvs,F,rfl,kp,hd,hr,so⟩
  exact cH.of (keep kp hnb)
 ·rintro i v σ H2 hv ⟨e1,kvs,F,rfl,kp,hd,hr,so⟩
  rw[getElem?_map]at hv;obtain⟨n,hn,rfl⟩:=map_eq_some_iff.mp hv;have hnl:=ik n (mem_of_getElem? hn);obtain⟨g,hg⟩:∃g,sg[n]? =some g:=⟨_,getElem?_eq_getElem hnl⟩;obtain⟨vg,hvg⟩:∃vg,ss[n]? =some vg:=⟨_,getElem?_eq_getElem (by rw[gs.1];exact hnl)⟩;obtain⟨a,ta,rfl,ha⟩:=gs.2 _ _ _ hvg hg;have gk':=gk g (mem_of_getElem? hg);have hs2:=keep kp hs;have ha2:=keep kp ha;have dg:=eX.k (k:=Sum.inr g.1) hd;rw[hr.get]at dg;have put:∀m:Int,cN m->jt sg qd ix ks g.1 m->m<=g.2->(∀j,F g.1=some j->m<=j)->Ly (jt sg qd ix ks) th nb tl s t y d H1 ps sg ix (i+1) [some (.ref th),some (.ref nb),some (.ref tl),some (.ref s),some (.ref t),some (.ref y),some (.ref d),some (.int (n:Nat)),none,none,none,none,none] (upd H2 d (.dK (putK kvs (Sum.inr g.1) (.int m)))):=λm mo mc ml mj=>
   ⟨_,_,_,rfl,(λb o e n'=>by rw[cD n'];exact kp b o e n'),cz,hr.put gk'.1 mo mc,λq hq g' hg'=>by
    rcases qa hn hq with hq|rfl
    ·exact(so q hq g' hg').set mj
    ·rw[hg]at hg'
     cases hg';exact⟨m,dG,ml⟩⟩
  have lk:kvs.length < sizeLine:=small hr;cases hF:F g.1 with
  |none=>
   rw[hF]at dg;exact⟨_,rfl,_,rfl,xL hs2 (cQ hvg) (xT ha2 rfl ⟨_,rfl,d,rfl,.inl ⟨_,.inl hd⟩,_,rfl,_,rfl,xL hs2 (cQ hvg) (xT ha2 rfl ⟨_,rfl,_,rfl,xL hs2 (cQ hvg) (xT ha2 rfl ⟨_,dg,g.2,g.2,rfl,_,rfl,_,rfl,_,rfl,xL hs2 (cQ hvg) (xT ha2 rfl ⟨d,_,rfl,lT.k (k:=Sum.inr g.1) hd lk,put _ (by split<;>exact gk'.2) (by split<;>exact .saw (mem_of_getElem? hn) hg) (by split<;>omega) (λj e=>by rw[hF]at e;cases e)⟩)⟩)⟩)⟩)⟩
  |some j=>
   rw[hF]at dg;have jo:=hr.ok _ _ hF;exact⟨_,rfl,_,rfl,xL hs2 (cQ hvg) (xT ha2 rfl ⟨_,rfl,d,rfl,.inl ⟨_,.inl hd⟩,_,rfl,_,rfl,xL hs2 (cQ hvg) (xT ha2 rfl ⟨_,rfl,_,rfl,xL hs2 (cQ hvg) (xT ha2 rfl ⟨_,dg,g.2,j,rfl,_,rfl,_,rfl,_,rfl,xL hs2 (cQ hvg) (xT ha2 rfl ⟨d,_,rfl,lT.k (k:=Sum.inr g.1) hd lk,put _ (by split;exact jo;exact gk'.2) (by split;exact hr.rc _ _ hF;exact .saw (mem_of_getElem? hn) hg) (by split<;>omega) (λj' e=>by rw[hF]at e;cases e;split<;>omega)⟩)⟩)⟩)⟩)⟩
 ·rintro σ H2 ⟨e1,kvs,F,rfl,kp,hd,hr,so⟩
  rw[length_map,take_length]at so;refine⟨Lm (jt sg qd ix ks) th nb tl s t y d H1 ps sg qd ix ks,⟨_,true,_,_,_,_,_,_,_,rfl,kp,hd,hr,so,(λe=>by cases e),rfl⟩,?_⟩;clear kp hd hr so;rintro m σ H3 ⟨b,e1,e2,e3,e4,e5,kvs,F,rfl,kp,hd,hr,so,to,me⟩;refine⟨_,rfl,b,rfl,?_⟩;cases b with
  |false=>exact cR ⟨_,rfl,k d kvs F H3 (λb o e=>keep kp e) hdn hd hr so (to rfl)⟩
  |true=>
   refine dv ⟨λσ' H'=>∃m',m' < m/\Lm (jt sg qd ix ks) th nb tl s t y d H1 ps sg qd ix ks m' σ' H',λ_ _ h=>h,?_⟩;refine⟨_,rfl,tl,rfl,⟨_,cH.of (keep kp htl)⟩,dA (K:=X.K) (a:=tl) (xs:=us) (J6 (jt sg qd ix ks) th nb tl s t y d H1 ps sg qd ix ks F)
    ⟨false,_,_,_,_,_,kvs,F,rfl,kp,hd,hr,so,(λ_=>⟨rfl,λt ht=>by cases ht⟩),λe=>by cases e⟩ ?_ ?_ ?_⟩
   ·rintro i σ H4 hi ⟨b,e1,e2,e3,e4,e5,kvs,F',rfl,kp,hd,hr,so,to,me'⟩
    exact cH.of (keep kp htl)
   ·rintro i v σ H4 hv ⟨b,f1,f2,f3,f4,f5,kvs',F',rfl,kp',hd',hr',so',to',me'⟩
    obtain⟨tk,htk⟩:∃tk,ks[i]? =some tk:=⟨_,getElem?_eq_getElem (by rw[<-tu.1];exact(List.getElem?_eq_some_iff.mp hv).1)⟩;obtain⟨a,rfl,ha⟩:=tu.2 _ _ _ hv htk;have kt:=kk tk (mem_of_getElem? htk);obtain⟨q,hq⟩:∃q,qd[tk.1]? =some q:=⟨_,getElem?_eq_getElem kt.1⟩;obtain⟨vq,hvq⟩:∃vq,ts[tk.1]? =some vq:=⟨_,getElem?_eq_getElem (by rw[qs.1];exact kt.1)⟩;obtain⟨aq,rfl,haq⟩:=qs.2 _ _ _ hvq hq;have qo:=qk q (mem_of_getElem? hq);have ha4:=keep kp' ha;have haq4:=keep kp' haq;have ht4:=keep kp' ht;have dt:=eX.k (k:=Sum.inr tk.2.1) hd';have dh:=eX.k (k:=Sum.inr tk.2.2) hd';rw[hr'.get]at dt dh;have lk:kvs'.length < sizeLine:=small hr';have fB:Jh qd F' tk->J6 (jt sg qd ix ks) th nb tl s t y d H1 ps sg qd ix ks F (i+1) [some (.ref th),some (.ref nb),some (.ref tl),some (.ref s),some (.ref t),some (.ref y),some (.ref d),f1,some (.bl b),some (.int (tk.1:Nat)),some (.str tk.2.1),some (.str tk.2.2),some (.int q.1)] H4:=λok=>
     ⟨b,_,_,_,_,_,kvs',F',rfl,kp',hd',hr',so',(λe=>⟨(to' e).1,λt' ht'=>by
      rcases qa htk ht' with ht'|rfl
      ·exact(to' e).2 t' ht'
      ·exact ok⟩),me'⟩
    have put:jt sg qd ix ks tk.2.2 q.1->mv (some q.1) < mv (F' tk.2.2)->(∀j,F' tk.2.2=some j->q.1<=j)->J6 (jt sg qd ix ks) th nb tl s t y d H1 ps sg qd ix ks F (i+1) [some (.ref th),some (.ref nb),some (.ref tl),some (.ref s),some (.ref t),some (.ref y),some (.ref d),f1,some (.bl true),some (.int (tk.1:Nat)),some (.str tk.2.1),some (.str tk.2.2),some (.int q.1)] (upd H4 d (.dK (putK kvs' (Sum.inr tk.2.2) (.int q.1)))):=λrc lt mj=>
     ⟨true,_,_,_,_,_,_,_,rfl,(λb o e n'=>by rw[cD n'];exact kp' b o e n'),cz,hr'.put kt.2 qo rc,so'.set mj,(λe=>by cases e),λ_=>by
      have l1:=AG lt ps kt.2;cases b with
      |false=>
       rw[(to' rfl).1]at l1;rw[(to' rfl).1];exact l1
      |true=>
       have:=me' rfl;omega⟩
    have hh1:=gW hq;refine⟨a,_,rfl,cU.of ha4,rfl,_,_,rfl,_,_,rfl,_,_,rfl,rfl,?_⟩;refine⟨_,rfl,_,rfl,xL ht4 (cQ hvq) (xT haq4 rfl ?_)⟩;refine⟨_,rfl,_,rfl,d,_,rfl,dt,_,rfl,?_⟩;cases hT:F' tk.2.1 with
    |none=>exact gY Bool.false_ne_true (cR (fB λx e=>by rw[hT]at e;cases e))
    |some x=>
     rw[hT]at dt;refine fh rfl ⟨_,rfl,_,rfl,d,_,rfl,dt,_,rfl,_,_,rfl,rfl,_,rfl,c8 (λlt=>?_) (λnlt=>cR (fB λx' e l=>?_))⟩
     ·have rc:jt sg qd ix ks tk.2.2 q.1:=by
       have:=jt.hrd (mem_of_getElem? htk) (hr'.rc _ _ hT) (by rw[hh1];exact of_decide_eq_true lt)
       rwa [hh1]at this
      cases hF:F' tk.2.2 with
      |none=>
       rw[hF]at dh;refine⟨_,rfl,d,rfl,.inl ⟨_,.inl hd'⟩,_,rfl,_,rfl,_,_,rfl,rfl,_,dh,_,rfl,q.1+1,q.1,rfl,rfl,_,rfl,fh (decide_eq_true (by omega)) ⟨_,rfl,_,rfl,_,rfl,d,_,rfl,lT.k (k:=Sum.inr tk.2.2) hd' lk,put rc ?_ (λj e=>by rw[hF]at e;cases e)⟩⟩;rw[hF];show q.1.toNat < 1000000000000000002;have h18:(10:Int) ^ Int.toNat 18=1000000000000000000:=by decide
       have:=qo.2;rw[h18]at this;omega
      |some j=>
       rw[hF]at dh;have jo:=hr'.ok _ _ hF;refine⟨_,rfl,d,rfl,.inl ⟨_,.inl hd'⟩,_,rfl,_,rfl,_,_,rfl,rfl,_,dh,_,rfl,j,q.1,rfl,rfl,_,rfl,c8 (λgt=>⟨_,rfl,_,rfl,_,rfl,d,_,rfl,lT.k (k:=Sum.inr tk.2.2) hd' lk,put rc ?_ ?_⟩) (λngt=>fB λx' e l=>?_)⟩
       ·rw[hF]
        rw[decide_eq_true_iff]at gt;show q.1.toNat < j.toNat;have:=qo.1;omega
       ·intro j' e
        rw[hF]at e;cases e;rw[decide_eq_true_iff]at gt;omega
       ·rw[decide_eq_true_iff]at ngt
        exact⟨j,hF,by rw[hh1];omega⟩
     ·rw[hT]at e
      cases e;rw[hh1]at l;exact absurd (decide_eq_true l) nlt
   ·rintro σ H4 ⟨b,f1,f2,f3,f4,f5,kvs',F',rfl,kp',hd',hr',so',to',me'⟩
    rw[tu.1,take_length]at to';refine⟨_,?_,b,_,_,_,_,_,kvs',F',rfl,kp',hd',hr',so',λe=>(to' e).2,rfl⟩;cases b with
    |false=>
     rw[(to' rfl).1,me];exact lt_succ_self _
    |true=>
     have:=me' rfl;rw[me];show 2 * _+1 < 2 * _+1;omega
theorem wK(bs:List Bool):GF bs=bs.all id:=by
 unfold GF;rw[Bool.eq_iff_iff,all_eq_true,all_eq_true];constructor
 ·intro h b hb
  obtain⟨i,hi,rfl⟩:=List.getElem_of_mem hb;have:=h i (mem_range.mpr hi);rw[getD_eq_getElem?_getD,getElem?_eq_getElem hi]at this;exact this
 ·intro h i hi
  have hi':=mem_range.mp hi;rw[getD_eq_getElem?_getD,getElem?_eq_getElem hi'];exact h _ (getElem_mem hi')
theorem CK{J:It}{n:Nat}{is:List Nat}{g:TG}{te:TE}{σ:St}{H:Hp}{Q:VK}{N:Nat}(R:Nat->Hp->V->Prop)(mono:∀j v H H',Tk H H'->R j H v->R j H' v)(hz:N<=sizeLine)(hgo:∀i H2,cC H H2->i < N->J.go i H2)(hstop:∀H2,cC H H2->J.stop N H2)
  (he:∀(i:Nat)(os:St) v H2 H3 (K1:VK),i < N->os.length=n->cC H H2->J.yld i H2 v H3->(∀y H6,cC H2 H6->R i H6 y->K1 y H6)->
   g v (os++dw is σ) H3 λσ' H4=>(∃os':St,os'.length=n/\σ'=os'++dw is σ)/\te σ' H4 K1)
  (gm:∀v σ H (Q1 Q2:St->Hp->Prop),(∀σ' H',Q1 σ' H'->Q2 σ' H')->g v σ H Q1->g v σ H Q2)
  (q:∀D ys H',H D=none->cC H H'->H' D=some (.lst ys)->ys.length=N->(∀(j:Nat) v,ys[j]? =some v->R j H' v)->Q (.ref D) H'):eZ J n is g xU te σ H Q:=by
 intro D hDn;refine⟨λi m ys H2=>m=N - i/\i<=N/\cC H H2/\H2 D=some (.lst ys)/\ys.length=i/\∀(j:Nat) v,ys[j]? =some v->R j H2 v,⟨_,rfl,zero_le _,cC.upd hDn,cz,rfl,λj v h=>by cases h⟩,?_⟩;rintro i m ys H2 ⟨rfl,hi,sm,hd,rfl,ra⟩;refine⟨hd,?_⟩;by_cases hlt:ys.length < N
 ·refine .inr ⟨hgo _ H2 sm hlt,λos v H3 hos y=>?_⟩
  refine gm _ _ _ _ _ (λσ' H' h=>⟨h.1,dv (B:=∃m',m' < N - ys.length/\m'=N - (ys.length+1)/\ys.length+1<=N/\cC H H'/\H' D=some (.lst ys)/\ys.length=ys.length+1/\∀(j:Nat) v,ys[j]? =some v->R j H' v) h.2⟩) (he _ os v H2 H3 _ hlt hos sm y λz H6 s6 rz=>⟨s6 _ _ hd,by omega,N - (ys.length+1),by omega,rfl,hlt,λb o e=>?_,cz,by rw[length_append];rfl,λj u hu=>?_⟩)
  ·rw[cD (cA e hDn)]
   exact s6 _ _ (sm _ _ e)
  ·have tk:=Tk.upd (s6 _ _ hd) (ys:=ys++[z])
   by_cases hj:j < ys.length
   ·rw[getElem?_append_left hj]at hu
    exact mono _ _ _ _ ((Tk.of s6).trans tk) (ra j u hu)
   ·have e:j=ys.length:=by
     have:=(List.getElem?_eq_some_iff.mp hu).1;rw[length_append]at this;have:j < ys.length+1:=this;omega
    subst e;rw[getElem?_append_right (le_refl _),Nat.sub_self]at hu;cases hu;exact mono _ _ _ _ tk rz
 ·have e:ys.length=N:=by omega
  exact .inl ⟨by rw[e];exact hstop H2 sm,q D ys H2 hDn sm hd e ra⟩
theorem ph{K:PySem.W.Frag}{is:List Nat}{te:TE}{σ:St}{H:Hp}{Q:VK}{a:Addr}{xs:List V}(R:Nat->Hp->V->Prop)(mono:∀j v H H',Tk H H'->R j H v->R j H' v)(hq:cH K H a xs)(hz:xs.length<=sizeLine)
  (he:∀(i:Nat) v H2 (K1:VK),xs[i]? =some v->cC H H2->(∀y H6,cC H2 H6->R i H6 y->K1 y H6)->te ([some v]++dw is σ) H2 K1)
  (q:∀D ys H',H D=none->cC H H'->H' D=some (.lst ys)->ys.length=xs.length->(∀(j:Nat) v,ys[j]? =some v->R j H' v)->Q (.ref D) H'):eZ (BK K a) 1 is (eQ 0) xU te σ H Q:=
 CK R mono hz (λi H2 sm hi=>⟨xs,xs[i],sm.seq hq,by simp[hi]⟩) (λH2 sm=>⟨xs,sm.seq hq,le_refl _⟩) (λi os v H2 H3 K1 hi hos sm y k1=>by
  obtain⟨rfl,y⟩:=y
  match os,hos with
  |[o],_=>exact⟨⟨[some v],rfl,rfl⟩,he i v _ K1 (y xs (sm.seq hq)) sm k1⟩) (λ_ _ _ _ _ h k=>h _ _ k) q
theorem BW{i:Nat}{v:V}{tc:TT}{u t2:TS}{D:Ends}{σ:St}{H:Hp}(R:St->Hp->Prop)(hR:∀σ' H',R σ' H'->t2 D σ' H')(b:Bool)(hc:∀Q:Bool->Hp->Prop,Q b H->tc (σ.set i (some v)) H Q)(h1:b=true->(∀σ' H',R σ' H'->t2 D σ' H')->u { D with nx:=t2 D } (σ.set i (some v)) H)(h2:b=false->R (σ.set i (some v)) H):
  eQ i v σ H (λσ2 H2=>vR (rY tc u oi) t2 D σ2 H2):=by
 refine hc _ ?_;cases b with
 |true=>exact dv (h1 rfl hR)
 |false=>exact cR (hR _ _ (h2 rfl))
theorem Lz.snoc{α:Type}{R:Hp->V->α->Prop}{H:Hp}{xs:List V}{ds:List α}{v:V}{d:α}(h:Lz R H xs ds)(hv:R H v d):Lz R H (xs++[v]) (ds++[d]):=by
 refine⟨by rw[length_append,length_append,h.1];rfl,λi u e hu he=>?_⟩;by_cases hi:i < xs.length
 ·rw[getElem?_append_left hi]at hu
  rw[getElem?_append_left (by rw[<-h.1];exact hi)]at he;exact h.2 i u e hu he
 ·rw[getElem?_append_right (by omega)]at hu
  rw[getElem?_append_right (by rw[<-h.1];omega),<-h.1]at he;obtain⟨h1,h2⟩:=List.getElem?_eq_some_iff.mp hu;have h0:i - xs.length=0:=by
   have:i - xs.length < 1:=h1;omega
  rw[h0]at hu he;cases hu;cases he;exact hv
theorem nR{ps:List Str}{qd:List QD}(qk:∀d∈qd,j5 ps d){tk:TK}(h:tk∈gd 0 (gE qd)):∃q,qd[tk.1]? =some q/\tk.2.1∈ps/\tk.2.2∈ps:=by
 obtain⟨j,d',hj,e1,e2⟩:=qR h;unfold gE at hj;rw[getElem?_map]at hj;obtain⟨q,hq,rfl⟩:=map_eq_some_iff.mp hj;have qo:=qk q (mem_of_getElem? hq);rw[zero_add]at e1;refine⟨q,(by rw[e1];exact hq),?_⟩;rcases e2 with e2|e2
 ·rw[e2]
  exact⟨qo.2.1,qo.2.2.1⟩
 ·rw[e2]
  exact⟨qo.2.2.1,qo.2.1⟩
inductive Kf(C:Addr)(vs:List V)(H:Hp)(Q:VK):Prop
 |mk(nl th s t y:Addr)(ps:List Str)(ss ts ys:List V)(e:vs=[.ref nl,.ref th])(hn:H nl=some (.lst (ps.map V.str)))(hth:H th=some (.tup [.ref s,.ref t,.ref y]))(hs:H s=some (.lst ss))(ht:H t=some (.lst ts))(hy:H y=some (.lst ys))(pa:Parts H ps ss ts ys)
   (k:∀(x p' s' t' y':Addr)(H':Hp),cC H H'->H x=none->Bk C H' x p' s' t' y' ps ss ts ys->Q (.ref x) H')
def Ao(C:Addr):Sp:=λvs H Q _=>Kf C vs H Q
theorem yr:cE ["_law_names_here", "_law_things_here"] ["_law_names_here", "_law_things_here"] (cB pk):={}
theorem Cz (D:Df K mg "_law_book" pk ["_law_names_here", "_law_things_here"] f fd) (T:Txt K mg kw C) (G_Book:Kd P w K mg base 7 "Book" C (wk C)):Gd P w K mg base 9 "_law_book" (Ao C):=by
 refine aF D yr λX H vs Q E hh h=>?_;obtain⟨nl,th,s,t,y,ps,ss,ts,ys,rfl,hn,hth,hs,ht,hy,pa,k⟩:=h;obtain⟨S0,S1,_⟩:=hh.d7 [0,1];have B_list:=hh.b T.b_list;have K_Book:=hh.La G_Book rfl (by decide) (by decide);refine⟨_,(ag (au (J.La K_Book (b8 (br B_list bE L2.dy (ak (aa S0))) (br B_list bE L2.dy (ak (af ao (aa S1) ae aj))) (br B_list bE L2.dy (ak (af ao (aa S1) ae aj))) (br B_list bE L2.dy (ak (af ao (aa S1) ae aj))))))),?_⟩;refine⟨_,rfl,nl,_,rfl,.inl (cH.of hn),λl1 n1=>?_⟩;have s1:=cC.upd (o:=.lst (ps.map V.str)) n1;have k1:upd H l1 (.lst (ps.map V.str)) l1=some (.lst (ps.map V.str)):=cz;generalize upd H l1 (.lst (ps.map V.str))=H1 at s1 k1;refine⟨_,rfl,xT (s1 _ _ hth) rfl ⟨s,_,rfl,.inl (cH.of (s1 _ _ hs)),λl2 n2=>?_⟩⟩;have s2:=cC.upd (o:=.lst ss) n2;have k2:upd H1 l2 (.lst ss) l2=some (.lst ss):=cz;generalize upd H1 l2 (.lst ss)=H2 at s2 k2;have t2:=s1.trans s2;refine⟨_,rfl,xT (t2 _ _ hth) rfl ⟨t,_,rfl,.inl (cH.of (t2 _ _ ht)),λl3 n3=>?_⟩⟩;have s3:=cC.upd (o:=.lst ts) n3;have k3:upd H2 l3 (.lst ts) l3=some (.lst ts):=cz;generalize upd H2 l3 (.lst ts)=H3 at s3 k3;have t3:=t2.trans s3;refine⟨_,rfl,xT (t3 _ _ hth) rfl ⟨y,_,rfl,.inl (cH.of (t3 _ _ hy)),λl4 n4=>?_⟩⟩;have s4:=cC.upd (o:=.lst ys) n4;have k4:upd H3 l4 (.lst ys) l4=some (.lst ys):=cz;generalize upd H3 l4 (.lst ys)=H4 at s4 k4;have t4:=t3.trans s4;intro x dx nx ndx nex;have s5:cC H4 (upd (upd H4 dx (.own x)) x (.ins C dx [])):=λb o e=>by
  rw[cD (cA e nx),cD (cA e ndx)];exact e
 have t5:=t4.trans s5;refine⟨x,dx,l1,l2,l3,l4,ps,ss,ts,ys,rfl,cz,s5 _ _ (s4 _ _ (s3 _ _ (s2 _ _ k1))),s5 _ _ (s4 _ _ (s3 _ _ k2)),s5 _ _ (s4 _ _ k3),s5 _ _ k4,pa.mono (Tk.of t5),λp' s' t' y' H6 _ _ _ _ bk kp=>⟨rfl,?_⟩⟩;exact k x p' s' t' y' H6 (λb o e=>kp b o (t5 _ _ e) (cA e (t4.free nx))) (t4.free nx) bk
structure uN(ps:List Str)(H:Hp)(th s t y:Addr)(ss ts ys:List V):Prop where
 hth:H th=some (.tup [.ref s,.ref t,.ref y])
 hs:H s=some (.lst ss)
 ht:H t=some (.lst ts)
 hy:H y=some (.lst ys)
 ls:ss.length<=24
 lt:ts.length<=60
 ly:ys.length<=40
 gs:∀v∈ss,dU ps H v
 gt:∀v∈ts,eT ps H v
 gy:∀v∈ys,eK ps H v
theorem uN.mono{ps:List Str}{H H':Hp}{th s t y:Addr}{ss ts ys:List V}(sm:cC H H')(o:uN ps H th s t y ss ts ys):uN ps H' th s t y ss ts ys:=
 ⟨sm _ _ o.hth,sm _ _ o.hs,sm _ _ o.ht,sm _ _ o.hy,o.ls,o.lt,o.ly,λv hv=>(o.gs v hv).mono (Tk.of sm),λv hv=>(o.gt v hv).mono (Tk.of sm),λv hv=>(o.gy v hv).mono (Tk.of sm)⟩
theorem yd(us:List Int)(lo hi:Option Int):fL (us.map V.int) lo hi=(((us.drop (HT.d9 us.length 0 lo)).take (HT.d9 us.length us.length hi - HT.d9 us.length 0 lo))).map V.int:=by
 unfold fL;rw[length_map,List.map_take,List.map_drop]
theorem ux(us:List Int){k:Int}(h0:0<=k):∃vs:List Int,fL (us.map V.int) none (some k)=vs.map V.int/\vs.length<=k.toNat:=by
 refine⟨_,yd ..,?_⟩;have e:HT.d9 us.length us.length (some k)=min k.toNat us.length:=by
  show(if k < 0 then(k+(us.length:Int)).toNat else min k.toNat us.length)=_;rw[if_neg (Int.not_lt.mpr h0)]
 rw[length_take,length_drop,HT.AU,e];exact le_trans (Nat.min_le_left _ _) (le_trans (Nat.sub_le _ _) (Nat.min_le_left _ _))
theorem Bn{K:PySem.W.Frag}{is:List Nat}{tc:TT}{te:TE}{σ:St}{H:Hp}{Q:VK}{a:Addr}{xs:List V}(hq:cH K H a xs)(hz:xs.length<=sizeLine)
  (he:∀(i:Nat) v H2 (K1:VK)(K2:Hp->Prop),xs[i]? =some v->cC H H2->(∀H6,cC H2 H6->K1 v H6)->(∀H5,cC H2 H5->K2 H5)->tc ([some v]++dw is σ) H2 λb H5=>if b=true then te ([some v]++dw is σ) H5 K1 else K2 H5)
  (q:∀D ys H',H D=none->cC H H'->H' D=some (.lst ys)->ys.length<=xs.length->(∀v∈ys,v∈xs)->Q (.ref D) H'):eZ (BK K a) 1 is (eQ 0) tc te σ H Q:=by
 intro D hDn;refine⟨λi m ys H2=>m=xs.length - i/\i<=xs.length/\cC H H2/\H2 D=some (.lst ys)/\ys.length<=i/\∀v∈ys,v∈xs,⟨_,rfl,zero_le _,cC.upd hDn,cz,le_refl 0,λv h=>by cases h⟩,?_⟩;rintro i m ys H2 ⟨rfl,hi,sm,hd,yl,ya⟩;refine⟨hd,?_⟩;by_cases hlt:i < xs.length
 ·refine .inr ⟨⟨xs,xs[i],sm.seq hq,by simp[hlt]⟩,λos v H3 hos y=>?_⟩
  obtain⟨rfl,y⟩:=y;have hv:=y xs (sm.seq hq)
  match os,hos with
  |[o],_=>
   refine⟨⟨[some v],rfl,rfl⟩,he i v _ _ _ hv sm (λH6 s6=>⟨s6 _ _ hd,by omega,xs.length - (i+1),by omega,rfl,hlt,λb o e=>?_,cz,?_,λu hu=>?_⟩) (λH5 s5=>⟨xs.length - (i+1),by omega,rfl,hlt,sm.trans s5,s5 _ _ hd,by omega,ya⟩)⟩
   ·rw[cD (cA e hDn)]
    exact s6 _ _ (sm _ _ e)
   ·rw[length_append]
    show ys.length+1<=i+1;omega
   ·rcases mem_append.mp hu with hu|hu
    ·exact ya u hu
    ·rw[mem_singleton.mp hu]
     exact mem_of_getElem? hv
 ·have e:i=xs.length:=by omega
  subst e;exact .inl ⟨⟨xs,sm.seq hq,le_refl _⟩,q D ys H2 hDn sm hd yl ya⟩
theorem Dq{tc:TT}{u t2:TS}{D:Ends}{σ:St}{H:Hp}(R:St->Hp->Prop)(hR:∀σ' H',R σ' H'->t2 D σ' H')(b:Bool)(hc:∀Q:Bool->Hp->Prop,Q b H->tc σ H Q)(h1:b=true->(∀σ' H',R σ' H'->t2 D σ' H')->u { D with nx:=t2 D } σ H)(h2:b=false->R σ H):
  vR (rY tc u oi) t2 D σ H:=by
 refine hc _ ?_;cases b with
 |true=>exact dv (h1 rfl hR)
 |false=>exact cR (hR _ _ (h2 rfl))
theorem Lg{H:Hp}{v:V}{d:SD}(h:t6 H v d):Sys H [v] [d]:=⟨rfl,λi u e hu he=>by
 cases i with
 |zero=>
  cases hu;cases he;exact h
 |succ i=>cases hu⟩
inductive K5(K:PySem.W.Frag)(vs:List V)(H:Hp)(Q:VK):Prop
 |mk(sc:Addr)(ns:List Int)(e:vs=[.ref sc,.int 40])(hsc:cH K H sc (ns.map V.int))(n63:ns.length<=63)
   (k:∀(r nl th s t y:Addr)(W:Int)(ps:List Str)(ss ts ys:List V)(H':Hp),cC H H'->H' r=some (.tup [.int W,.ref nl,.ref th])->0<=W->W < 2147483647->H' nl=some (.lst (ps.map V.str))->fj ps->uN ps H' th s t y ss ts ys->Q (.ref r) H')
def zk(K:PySem.W.Frag):Sp:=λvs H Q _=>K5 K vs H Q
theorem v7:cE ["_law_script", "_law_most", "_law_whole", "_law_names_here", "_law_things_here", "_law_numbers", "_law_tellings_here", "_law_found", "_law_kept"] ["_law_script", "_law_most"] (cB l8):={}
theorem As (D:Df K mg "_law_drawn" l8 ["_law_script", "_law_most"] f fd) (T:Txt K mg kw C) (G__law_mix:Gd P w K mg base 1 "_law_mix" xh) (G__law_names:Gd P w K mg base 1 "_law_names" oF) (G__law_clock:Gd P w K mg base 1 "_law_clock" sj) (G__law_things:Gd P w K mg base 2 "_law_things" pe) (G__law_open:Gd P w K mg base 3 "_law_open" jx) (G__law_hours:Gd P w K mg base 1 "_law_hours" sO) (G__law_knew_so:Gd P w K mg base 1 "_law_knew_so" gX):Gd P w K mg base 4 "_law_drawn" (zk K):=by
 refine aF D v7 λX H vs Q E hh h=>?_;obtain⟨sc,ns,rfl,hsc,n63,k⟩:=h;rw[<-hh.fK]at hsc;obtain⟨S0,S1,S2,S3,S4,S5,S6,S7,S8,_⟩:=hh.d7 [0,1,2,3,4,5,6,7,8];have B_int:=hh.b T.b_int;have B_sum:=hh.b T.b_sum;have C__law_clock:=hh.c G__law_clock;have C__law_hours:=hh.c G__law_hours;have C__law_mix:=hh.c G__law_mix;have C__law_names:=hh.c G__law_names;have C__law_open:=hh.c G__law_open;have C__law_things:=hh.c G__law_things;have CI__law_knew_so:=hh.ci G__law_knew_so;have hsz:sizeLine=16777216:=sizeLine_eq;refine⟨_,(ah (aE S2 hh.nd (aw C__law_mix (aA (aD B_sum (J.jw hh.calm) L2.AA (ak (bX cj (aa S0) bZ (b6 ae)))) ae)))
 (ah (aE S3 hh.nd (aw C__law_names (aA (aa S2) (af aT (bh (aA (az bw ae (az a7 (az ba (aa S2) ae) ae)) (az bw ae (az a7 (az ba (aa S2) ae) ae)))) (br B_int J.jE L2.rG (ak (aR aL (az a7 (az ba (aa S2) ae) ae) ae (L2.cF _)))) J.qL))))
 (ah (aE S4 hh.nd (aw C__law_things (aM (bX cj (aa S0) bZ (b6 (aa S1))) (aa S3) (aw C__law_clock (ak (aw C__law_mix (aA (aD B_sum (J.jw hh.calm) L2.AA (ak (bX cj (aa S0) bZ (b6 ae)))) ae)))))))
 (ah (aH (aB aL (az a7 (az ba (aa S2) ae) ae) ae (L2.cF _))
 (ag (bG (J.MR plainAttrs_list PySem.F.slot_list_reverse PySem.F.type_list_reverse J.jW (af ao (aa S4) ae aj))))
 aJ)
 (ah (aH (aB bT (az a7 (az ba (aa S2) ae) ae) ae (L2.cF _))
 (ah (bN (aw C__law_open (ak (aa S4))) (bu hh.calm (aI (aG S5 hh.nd) (aI (aG S6 hh.nd) bj))))
 (ah (aE S7 hh.nd (aw C__law_hours (aM (aa S4) (aa S5) (aa S6))))
 (ah (bR (is:=[7]) (xs:=["_law_row"]) (ns:=["_law_found"]) S8 hh.nd hh.calm (aP (af ao (aa S4) ae aj)) {} (λ_ _ _ _ _=>(aX (i:=0) (by decide+kernel) rfl rfl)) (λ_ _ _ _ _=>(bA (aU (bg (aB bU (af bf (aK (i:=0) rfl rfl (by decide) (by decide)) ae aj) aO (L2.cF _)) (bz (aQ (aw (CI__law_knew_so.lg rfl) (aA (bh (ak (aK (i:=0) rfl rfl (by decide) (by decide)))) (a9 (i:=1) rfl rfl (by decide) (by decide)))))))))) (λ_ _ _ _ _=>(aK (i:=0) rfl rfl (by decide) (by decide))) hh.hsc hh.hN (by decide+kernel))
 (ag (aE S4 hh.nd (aV (aM (af ao (aa S4) ae aj) (af ao (aa S4) ae aj) (aa S8))))))))
 aJ)
 (ag (au (aV (aM (aa S2) (aa S3) (aa S4)))))))))),?_⟩
 obtain⟨n1,c1,_⟩:=ux ns (k:=63) (by decide);obtain⟨n2,c2,l2⟩:=ux ns (k:=40) (by decide);refine⟨_,rfl,_,rfl,sc,_,rfl,hsc,λp1 np1=>?_⟩;have s1:=cC.upd (o:=.lst (fL (ns.map V.int) none (some 63))) np1;refine⟨p1,n1,rfl,cH.of (by rw[<-c1];exact cz),_,_,rfl,by decide,by decide,λW W0 W1=>?_⟩;generalize upd H p1 (.lst (fL (ns.map V.int) none (some 63)))=H1 at s1;have a6:=cT (W / 7) (m:=6) (by decide);have a24:=cT (W / 42) (m:=24) (by decide);refine⟨_,rfl,_,rfl,_,_,rfl,rfl,⟨by decide,by decide⟩,_,_,rfl,rfl,(by show(0:Int) < 6;decide),_,_,rfl,rfl,_,rfl,_,_,rfl,rfl,⟨by decide,by decide⟩,_,_,rfl,rfl,(by show(0:Int) < 24;decide),_,_,rfl,rfl,Gz,λb1 nb1=>?_⟩;obtain⟨bv,hb,hbm⟩:=DP (xs:=[V.int (2+W / 7 % 6),V.int (1+W / 42 % 24)]) (i:=if decide (V.int (W / 1008 % 4)=V.int 0) then 1 else 0) (by split<;>decide) (by show _ < (2:Int);split<;>decide);have hbv:∃m:Int,bv=.int m/\1<=m/\m<=24:=by
  simp only[mem_cons,not_mem_nil,or_false]at hbm;rcases hbm with rfl|rfl
  ·exact⟨_,rfl,by omega,by omega⟩
  ·exact⟨_,rfl,by omega,by omega⟩
 obtain⟨m,rfl,m1,m24⟩:=hbv;clear hbm a6 a24;have s2:=s1.trans (cC.upd (o:=.lst [V.int (2+W / 7 % 6),V.int (1+W / 42 % 24)]) nb1);refine⟨_,rfl,_,_,rfl,rfl,⟨by decide,by decide⟩,_,_,rfl,rfl,(by show(0:Int) < 4;decide),rfl,.inr ⟨_,rfl,xL cz hb ⟨W,m,rfl,W0,m1,m24,λnl ps H3 s3 nln hnl po=>?_⟩⟩⟩;have s03:=s2.trans s3;clear s2 s3 hb nb1;refine⟨_,rfl,_,rfl,_,rfl,sc,_,rfl,s03.seq hsc,λp2 np2=>?_⟩;have s4:=s03.trans (cC.upd (o:=.lst (fL (ns.map V.int) none (some 40))) np2);have hp2:upd H3 p2 (.lst (fL (ns.map V.int) none (some 40))) p2=some (.lst (n2.map V.int)):=by
  rw[<-c2];exact cz
 have hnl4:=cC.upd (o:=.lst (fL (ns.map V.int) none (some 40))) np2 _ _ hnl;generalize upd H3 p2 (.lst (fL (ns.map V.int) none (some 40)))=H4 at s4 hp2 hnl4;refine⟨_,rfl,_,rfl,_,rfl,sc,_,rfl,s4.seq hsc,λp3 np3=>?_⟩;have s45:=cC.upd (o:=.lst (fL (ns.map V.int) none (some 63))) np3;refine⟨p3,n1,rfl,cH.of (by rw[<-c1];exact cz),_,_,rfl,by decide,by decide,λZ Z0 Z1=>?_⟩;refine⟨_,rfl,λcl hs H6 s6 ncl hcl ck=>?_⟩;have s46:=s45.trans s6;refine⟨p2,nl,cl,n2,ps,hs,rfl,s46 _ _ hp2,(by omega),s46 _ _ hnl4,po,hcl,ck,λtt s t y ss ts ys H7 s7 ntt ns' nt ny nd htt hs7 ht7 hy7 ls lt ly gs gt gy=>?_⟩;have s07:=(s4.trans s46).trans s7;have hnl7:=s7 _ _ (s46 _ _ hnl4);have ok7:uN ps H7 tt s t y ss ts ys:=⟨htt,hs7,ht7,hy7,ls,lt,(by omega),gs,gt,gy⟩;have ntd:t≠nl/\t≠s/\t≠y:=by
  simp only[nodup_cons,mem_cons,not_mem_nil,or_false,not_or,nodup_nil,and_true,not_false_eq_true]at nd;refine⟨λe=>?_,λe=>nd.2.1.1 e.symm,nd.2.2⟩;rw[e,s46 _ _ hnl4]at nt;cases nt
 have t0:H t=none:=(s4.trans s46).free nt;clear s46 s6 s45 s4 hp2 hnl4 hcl ck ntt ns' nt ny nd htt hs7 ht7 hy7 gs gt gy ls lt ly np3 np2 s03 s7;dsimp only;refine BW (λσ' H'=>∃ts',σ'=[some (.ref sc),some (.int 40),some (.int W),some (.ref nl),some (.ref tt),none,none,none,none]/\cC H H'/\H' nl=some (.lst (ps.map V.str))/\uN ps H' tt s t y ss ts' ys) ?_ (decide (V.int (W / 5 % 3)=V.int 0)) (λQ' q'=>?_) (λ_ hR=>?_) (λ_=>?_)
 ·rintro σ' H8 ⟨ts',rfl,s08,hnl8,ok8⟩
  clear ok7 hnl7 s07 ntd;refine Dq (λσ' H'=>∃(th s' t' y':Addr) (ss' ts' ys':List V) (e5 e6 e7 e8:Option V),σ'=[some (.ref sc),some (.int 40),some (.int W),some (.ref nl),some (.ref th),e5,e6,e7,e8]/\cC H H'/\H' nl=some (.lst (ps.map V.str))/\uN ps H' th s' t' y' ss' ts' ys') ?_ (decide (W / 3 % 3 > 0)) (λQ' q'=>?_) (λ_ hR=>?_) (λ_=>?_)
  ·rintro σ' H9 ⟨th,s',t',y',ss',ts',ys',e5,e6,e7,e8,rfl,s9,hnl9,ok9⟩
   refine⟨_,rfl,_,rfl,_,rfl,m7,λr nr=>?_⟩;exact k r nl th s' t' y' W ps ss' ts' ys' _ (s9.trans (cC.upd nr)) cz W0 W1 (cC.upd nr _ _ hnl9) po (ok9.mono (cC.upd nr))
  ·exact⟨_,rfl,_,_,rfl,rfl,⟨by decide,by decide⟩,_,_,rfl,rfl,(by show(0:Int) < 3;decide),_,_,rfl,rfl,_,rfl,q'⟩
  ·obtain⟨sg,gs,gk⟩:=mY ok8.gs
   obtain⟨qd,qs,qk⟩:=zp ok8.gt;obtain⟨sd,sy,sk⟩:=mw ok8.gy;refine⟨_,rfl,tt,s,t,y,ps,ss,ts',ys,sg,qd,sd,rfl,ok8.hth,ok8.hs,ok8.ht,ok8.hy,ok8.ls,(by have:=ok8.lt;omega),gs,(λd hd=>(gk d hd).2),qs,qk,sy,λr nb tl us H9 s9 _ _ _ hr hnb htl tu=>?_⟩;refine⟨r,_,rfl,cU.of hr,rfl,_,_,rfl,_,_,rfl,rfl,?_⟩;have ok9:=ok8.mono s9;refine⟨_,rfl,_,rfl,_,rfl,tt,nb,tl,s,t,y,ps,ss,ts',us,sg,qd,(List.range sg.length).filter (iR sg (eD sd)),(gd 0 (gE qd)).filter (cX qd sd),rfl,ok9.hth,ok9.hs,ok9.ht,hnb,htl,gs.mono (dq.mono (Tk.of s9)),gk,qs.mono (dC.mono (Tk.of s9)),(λd hd=>(qk d hd).1),tu,(λtk hk=>?_),(λi hi=>mem_range.mp (mem_filter.mp hi).1),po.hi,λfo kvs F H10 s10 nfo hfo hrd _ _=>?_⟩
   ·obtain⟨q,hq,_,m2⟩:=nR qk (mem_filter.mp hk).1
    exact⟨(List.getElem?_eq_some_iff.mp hq).1,m2⟩
   ·have s810:=s9.trans s10
    have ok10:=ok9.mono s10;refine⟨_,rfl,xT ok10.hth rfl ⟨y,rfl,⟨_,cH.of ok10.hy⟩,Bn (cH.of ok10.hy) (by have:=ok10.ly;omega) ?_ ?_⟩⟩
    ·intro i v H11 K1 K2 hv s11 k1 k2
     obtain⟨e,⟨a,rfl,ha⟩,_⟩:=uu (ok10.gy v (mem_of_getElem? hv));have ha11:=s11 _ _ ha;cases e with
     |unh q i'=>exact⟨_,rfl,xT ha11 rfl ⟨rfl,_,rfl,iP (dv (B:=K2 H11) ⟨_,rfl,k1 H11 (cC.refl _)⟩)⟩⟩
     |sil q b e'=>exact⟨_,rfl,xT ha11 rfl ⟨rfl,_,rfl,iP (dv (B:=K2 H11) ⟨_,rfl,k1 H11 (cC.refl _)⟩)⟩⟩
     |bar q q'=>exact⟨_,rfl,xT ha11 rfl ⟨rfl,_,rfl,iP (dv (B:=K2 H11) ⟨_,rfl,k1 H11 (cC.refl _)⟩)⟩⟩
     |knew q h=>
      refine⟨_,rfl,xT ha11 rfl ⟨rfl,_,rfl,iN ⟨_,rfl,Km,λl1 nl1=>?_⟩⟩⟩;have s12:=cC.upd (o:=.lst [.ref a]) nl1;exact⟨_,rfl,l1,fo,[.ref a],[SD.knew q h],kvs,F,rfl,cz,Lg ⟨a,rfl,s12 _ _ ha11⟩,s12 _ _ (s11 _ _ hfo),hrd.get,⟨_,rfl,c8 (λ_=>⟨_,rfl,k1 _ s12⟩) (λ_=>k2 _ s12)⟩⟩
    ·intro ke zs H11 nke s11 hke zl zi
     have ok11:=ok10.mono s11;refine⟨_,rfl,xT ok11.hth rfl ⟨_,rfl,xT ok11.hth rfl ⟨_,rfl,m7,λt3 nt3=>?_⟩⟩⟩;have s12:=cC.upd (o:=.tup [.ref s,.ref t,.ref ke]) nt3;have s813:=(s810.trans s11).trans s12;refine hR _ _ ⟨t3,s,t,ke,ss,ts',zs,_,_,_,_,rfl,s08.trans s813,s813 _ _ hnl8,cz,s12 _ _ ok11.hs,s12 _ _ ok11.ht,s12 _ _ hke,ok11.ls,ok11.lt,(by have:=ok11.ly;omega),?_,?_,?_⟩
     ·exact λv hv=>(ok11.gs v hv).mono (Tk.of s12)
     ·exact λv hv=>(ok11.gt v hv).mono (Tk.of s12)
     ·exact λv hv=>(ok11.gy v (zi v hv)).mono (Tk.of s12)
  ·exact⟨tt,s,t,y,ss,ts',ys,none,none,none,none,rfl,s08,hnl8,ok8⟩
 ·exact⟨_,rfl,_,_,rfl,rfl,⟨by decide,by decide⟩,_,_,rfl,rfl,(by show(0:Int) < 3;decide),rfl,_,rfl,q'⟩
 ·refine⟨_,rfl,xT ok7.hth rfl ⟨.inl ⟨rfl,_,cH.of ok7.ht⟩,t,ts,rfl,rfl,ok7.ht,hR _ _ ⟨ts.reverse,rfl,λb o e=>?_,?_,?_⟩⟩⟩
  ·rw[cD (cA e t0)]
   exact s07 _ _ e
  ·rw[cD ntd.1.symm]
   exact hnl7
  ·have tk:=Tk.upd ok7.ht (ys:=ts.reverse)
   exact⟨tk _ _ ok7.hth,(by rw[cD ntd.2.1.symm];exact ok7.hs),cz,(by rw[cD ntd.2.2.symm];exact ok7.hy),ok7.ls,(by rw[length_reverse];exact ok7.lt),ok7.ly,λv hv=>(ok7.gs v hv).mono tk,λv hv=>(ok7.gt v (mem_reverse.mp hv)).mono tk,λv hv=>(ok7.gy v hv).mono tk⟩
 ·exact⟨ts,rfl,s07,hnl7,ok7⟩
inductive EW
 |saw (i:Nat)
 |hrd (k:Nat)(te:Str)
abbrev ED:=Str×Int×EW
def tS(H:Hp)(wa:Addr):EW->Prop
 |.saw i=>H wa=some (.tup [.str "saw",.int (i:Nat)])
 |.hrd k te=>H wa=some (.tup [.str "heard",.int (k:Nat),.str te])
def d6(H:Hp)(a:Addr)(d:ED):Prop:=∃wa,H a=some (.tup [.str d.1,.int d.2.1,.ref wa])/\tS H wa d.2.2
theorem tS.mono{H H':Hp}(s:Tk H H'){wa:Addr}{w:EW}(h:tS H wa w):tS H' wa w:=by
 cases w with
 |saw i=>exact s _ _ h
 |hrd k te=>exact s _ _ h
theorem d6.mono{H H':Hp}(s:Tk H H'){a:Addr}{d:ED}(h:d6 H a d):d6 H' a d:=by
 obtain⟨wa,h1,h2⟩:=h;exact⟨wa,s _ _ h1,h2.mono s⟩
structure Kx(H:Hp)(kvs:List (Key×V))(F:FH):Prop where
 no:∀z,F z=none->dB kvs (Sum.inr z)=none
 yes:∀z h,F z=some h->∃a w,dB kvs (Sum.inr z)=some (.ref a)/\H a=some (.tup [.str z,.int h,w])
def pV(F:FH)(d:ED):Bool:=match d.2.2 with
 |.saw _=>true
 |.hrd _ te=>match F te with
  |none=>false
  |some a=>decide (a < d.2.1)
inductive Im  (vs:List V)(H:Hp)(Q:VK):Prop
 |mk(a:Addr)(z:Str)(h:Int)(w:V)(h0:vs=[.ref a])(h1:H a=some (.tup [.str z,.int h,w]))(h2:Q (.int h) H)
def B8  :Sp:=λvs H Q _=>Im  vs H Q
inductive Iq  (vs:List V)(H:Hp)(Q:VK):Prop
 |mk(kn a:Addr)(kvs:List (Key×V))(F:FH)(d:ED)(h0:vs=[.ref kn,.ref a])(h1:H kn=some (.dK kvs))(h2:Kx H kvs F)(h3:d6 H a d)(h4:Q (.bl (pV F d)) H)
def FV  :Sp:=λvs H Q _=>Iq  vs H Q
theorem u3:cE ["entry"] ["entry"] (cB lJ):={}
theorem HP (D:Df K mg "hour_of" lJ ["entry"] f fd):Gd P w K mg base 1 "hour_of" B8:=by
 refine aF D u3 λX H vs Q E hh h=>?_;obtain⟨a,z,h,w,rfl,ha,k⟩:=h;obtain⟨S0,_⟩:=hh.d7 [0];exact⟨_,(ag (au (af ao (aa S0) ae aj))),_,rfl,xT ha rfl k⟩
theorem pW:cE ["known", "entry", "way"] ["known", "entry"] (cB iB):={}
theorem Hf (D:Df K mg "can_follow" iB ["known", "entry"] f fd) (G_hour_of:Gd P w K mg base 1 "hour_of" B8):Gd P w K mg base 2 "can_follow" FV:=by
 refine aF D pW λX H vs Q E hh h=>?_;obtain⟨kn,a,kvs,F,d,rfl,hkn,kd,⟨wa,ha,hw⟩,k⟩:=h;obtain⟨S0,S1,S2,_⟩:=hh.d7 [0,1,2];have C_hour_of:=hh.c G_hour_of;have hu:=eS hh.room;refine⟨_,(ah (aE S2 hh.nd (af ao (aa S1) ae aj))
 (ah (aH (aB aL (af ao (aa S2) ae aj) aO (L2.cF _))
 (ag (au a5))
 aJ)
 (ag (au (aS (J.ox hu (af ao (aa S2) ae aj) (aa S0)) (aZ (aR bS (aw C_hour_of (ak (bP hu (aa S0) (af ao (aa S2) ae aj) b4))) (aw C_hour_of (ak (aa S1))) (L2.cF _)))))))),?_⟩
 refine⟨_,rfl,xT ha rfl ?_⟩;obtain⟨z,h,way⟩:=d;cases way with
 |saw i=>exact⟨_,rfl,xT hw rfl ⟨rfl,_,rfl,iP k⟩⟩
 |hrd kk te=>
  refine⟨_,rfl,xT hw rfl ⟨rfl,_,rfl,iN ?_⟩⟩;have dg:=eX.k (k:=Sum.inr te) hkn;have k':Q (.bl (match F te with|none=>false|some a=>decide (a < h))) H:=k;cases hF:F te with
  |none=>
   rw[hF]at k';rw[kd.no te hF]at dg;exact⟨_,rfl,xT hw rfl ⟨_,rfl,kn,_,rfl,dg,_,rfl,cR k'⟩⟩
  |some b=>
   rw[hF]at k';obtain⟨ea,w2,e1,e2⟩:=kd.yes te b hF;rw[e1]at dg;exact⟨_,rfl,xT hw rfl ⟨_,rfl,kn,_,rfl,dg,_,rfl,dv ⟨_,rfl,_,rfl,xT hw rfl ⟨kn,_,rfl,dg,ea,te,b,w2,rfl,e2,_,rfl,a,z,h,_,rfl,ha,_,_,rfl,rfl,k'⟩⟩⟩⟩
inductive v5(ds:List ED):Str->Int->Prop
 |saw {z:Str}{h:Int}{i:Nat}(m:(z,h,EW.saw i)∈ds):v5 ds z h
 |hrd {z te:Str}{h h':Int}{k:Nat}(m:(z,h,EW.hrd k te)∈ds)(r:v5 ds te h')(l:h' < h):v5 ds z h
def BU(H:Hp)(a:Addr):Int:=match H a with
 |some (.tup [_,.int h,_])=>h
 |_=>0
theorem oM{H:Hp}{a:Addr}{d:ED}(h:d6 H a d):BU H a=d.2.1:=by
 obtain⟨wa,h1,_⟩:=h;unfold BU;rw[h1]
theorem B7{H:Hp}{wa:Addr}{w w':EW}(h:tS H wa w)(h':tS H wa w'):w=w':=by
 cases w with
 |saw i=>
  cases w' with
  |saw j=>
   have e:=(show H wa=_ from h).symm.trans (show H wa=_ from h');simp only[Option.some.injEq,HO.tup.injEq,List.cons.injEq,V.int.injEq,and_true,true_and]at e;rw[show i=j by omega]
  |hrd k te=>
   have e:=(show H wa=_ from h).symm.trans (show H wa=_ from h');simp at e
 |hrd k te=>
  cases w' with
  |saw j=>
   have e:=(show H wa=_ from h).symm.trans (show H wa=_ from h');simp at e
  |hrd k' te'=>
   have e:=(show H wa=_ from h).symm.trans (show H wa=_ from h');simp only[Option.some.injEq,HO.tup.injEq,List.cons.injEq,V.int.injEq,V.str.injEq,and_true,true_and]at e;rw[show k=k' by omega,e.2]
theorem nB{H:Hp}{a:Addr}{d d':ED}(h:d6 H a d)(h':d6 H a d'):d=d':=by
 obtain⟨wa,h1,h2⟩:=h;obtain⟨wa',h1',h2'⟩:=h';have e:=h1.symm.trans h1';simp only[Option.some.injEq,HO.tup.injEq,List.cons.injEq,V.int.injEq,V.str.injEq,V.ref.injEq,and_true]at e;obtain⟨e1,e2,rfl⟩:=e;exact Prod.ext e1 (Prod.ext e2 (B7 h2 h2'))
theorem Bx{F:FH}{d e:ED}{z:Str}{h:Int}(h1:pV (iO F z h) e=true)(le:e.2.1<=h):pV F e=true:=by
 obtain⟨y,i,w⟩:=e;cases w with
 |saw _=>rfl
 |hrd k te=>
  have h1':(match iO F z h te with|none=>false|some a=>decide (a < i))=true:=h1;show(match F te with|none=>false|some a=>decide (a < i))=true;by_cases c:te=z
  ·subst c
   rw[dG]at h1';have h2:decide (h < i)=true:=h1';rw[decide_eq_true_iff]at h2;have:i<=h:=le;omega
  ·rw[dI c]at h1'
   exact h1'
theorem wD{F:FH}{d:ED}{z:Str}{h:Int}(n:F z=none)(c:pV F d=true):pV (iO F z h) d=true:=by
 obtain⟨y,i,w⟩:=d;cases w with
 |saw _=>rfl
 |hrd k te=>
  have c':(match F te with|none=>false|some a=>decide (a < i))=true:=c;show(match iO F z h te with|none=>false|some a=>decide (a < i))=true;rw[dI (λe=>by rw[e,n]at c';cases c')];exact c'
def pE(F:FH)(z:Str)(h:Int)(d:ED):Bool:=decide (d.1=z) && (decide (d.2.1=h) && pV F d)
theorem zK{F:FH}{z:Str}{h:Int}{d:ED}(e:pE F z h d=true):d.1=z/\d.2.1=h/\pV F d=true:=by
 unfold pE at e;rw[and_eq_true,and_eq_true]at e;exact⟨of_decide_eq_true e.1,of_decide_eq_true e.2.1,e.2.2⟩
theorem xu{α:Type}{p:α->Bool}:∀{l:List α}{j:Nat}{x:α},l[j]? =some x->(∀y∈l.take j,p y=false)->p x=true->l.find? p=some x
 |[],_,_,h,_,_=>by cases h
 |y::r,0,x,h,_,hx=>by
  cases h;rw[List.find?_cons_of_pos hx]
 |y::r,j+1,x,h,hn,hx=>by
  rw[List.find?_cons_of_neg (by rw[hn y mem_cons_self];exact Bool.false_ne_true)];exact xu (j:=j) h (λu hu=>hn u (mem_cons_of_mem _ hu)) hx
theorem uG{α β:Type}{p:α->Bool}{q:β->Bool}:∀{as:List α}{ds:List β}{a:α},as.length=ds.length->(∀(i:Nat) a d,as[i]? =some a->ds[i]? =some d->p a=q d)->as.find? p=some a->∃(d:β) (i:Nat),ds.find? q=some d/\as[i]? =some a/\ds[i]? =some d
 |[],_,_,_,_,h=>by cases h
 |_::_,[],_,l,_,_=>by cases l
 |b::as,d::ds,a,l,e,h=>by
  have e0:=e 0 b d rfl rfl;cases c:p b with
  |true=>
   rw[List.find?_cons_of_pos c]at h;cases h;exact⟨d,0,by rw[List.find?_cons_of_pos (by rw[<-e0];exact c)],rfl,rfl⟩
  |false=>
   rw[List.find?_cons_of_neg (by rw[c];exact Bool.false_ne_true)]at h;obtain⟨d',i,h1,h2,h3⟩:=uG (ds:=ds) (Nat.succ.inj l) (λi a d h1 h2=>e (i+1) a d h1 h2) h;exact⟨d',i+1,by rw[List.find?_cons_of_neg (by rw[<-e0,c];exact Bool.false_ne_true)];exact h1,h2,h3⟩
theorem mZ{α:Type}{l:List α}{j:Nat}{y:α}(h:y∈l.take j):∃i,i < j/\l[i]? =some y:=by
 obtain⟨i,hi⟩:=getElem?_of_mem h;have il:=(List.getElem?_eq_some_iff.mp hi).1;rw[length_take]at il;rw[getElem?_take_of_lt (by omega)]at hi;exact⟨i,by omega,hi⟩
open Classical in
theorem vx{H:Hp}{zs as:List Addr}{ds:List ED}{F:FH}{a:Addr}{d:ED}{j:Nat}(ll:as.length=ds.length)(le:∀(i:Nat) a d,as[i]? =some a->ds[i]? =some d->d6 H a d)(fl:∀i,zs.filter (λa=>decide (BU H a=i))=as.filter (λa=>decide (BU H a=i)))
  (hj:zs[j]? =some a)(ev:d6 H a d)(cf:pV F d=true)(no:∀j' a' d',j' < j->zs[j']? =some a'->d6 H a' d'->d'.1=d.1->pV F d'=false):ds.find? (pE F d.1 d.2.1)=some d:=by
 have pv:∀a' d',d6 H a' d'->decide (∃d2,d6 H a' d2/\pE F d.1 d.2.1 d2=true)=pE F d.1 d.2.1 d':=λa' d' e=>by
  rw[Bool.eq_iff_iff,decide_eq_true_iff];exact⟨λ⟨d2,e2,h⟩=>nB e2 e ▸ h,λh=>⟨d',e,h⟩⟩
 have pt:pE F d.1 d.2.1 d=true:=by
  unfold pE;rw[cf,decide_eq_true rfl,decide_eq_true rfl];rfl
 have f1:zs.find? (λa'=>decide (∃d2,d6 H a' d2/\pE F d.1 d.2.1 d2=true))=some a:=by
  refine xu hj (λy hy=>?_) (by rw[pv a d ev];exact pt);obtain⟨i,hi,e⟩:=mZ hy;refine decide_eq_false λ⟨d2,e2,h⟩=>?_;obtain⟨h1,_,h3⟩:=zK h;rw[no i y d2 hi e e2 h1]at h3;cases h3
 have q:∀l:List Addr,l.find? (λa'=>decide (∃d2,d6 H a' d2/\pE F d.1 d.2.1 d2=true))=(l.filter (λa=>decide (BU H a=d.2.1))).find? (λa'=>decide (∃d2,d6 H a' d2/\pE F d.1 d.2.1 d2=true)):=λl=>by
  rw[List.find?_filter]
  congr 1
  funext a'
  rw[Bool.eq_iff_iff];refine⟨λh=>decide_eq_true ⟨decide_eq_true ?_,h⟩,λh=>(of_decide_eq_true h).2⟩;obtain⟨d2,e2,h⟩:=of_decide_eq_true h;rw[oM e2];exact(zK h).2.1
 have f2:=f1;rw[q zs,fl,<-q as]at f2;obtain⟨d',i,h1,h2,h3⟩:=uG ll (λi a d e1 e2=>pv a d (le i a d e1 e2)) f2;rw[h1,nB ev (le i a d' h2 h3)]
def Kp(H:Hp)(zs:List Addr)(F:FH)(kvs:List (Key×V))(i:Nat):Prop:=∀z h,F z=some h->∃a d j,dB kvs (Sum.inr z)=some (.ref a)/\j < i/\zs[j]? =some a/\d6 H a d/\d.1=z/\d.2.1=h/\pV F d=true/\∀j' a' d',j' < j->zs[j']? =some a'->d6 H a' d'->d'.1=z->pV F d'=false
def KI(H:Hp)(ds:List ED)(F:FH)(kvs:List (Key×V)):Prop:=∀z h,F z=some h->∃a w,dB kvs (Sum.inr z)=some (.ref a)/\d6 H a (z,h,w)/\ds.find? (pE F z h)=some (z,h,w)
structure eW(ds:List ED)(F:FH):Prop where
 cl:∀d∈ds,pV F d=true->∃b,b<=d.2.1/\F d.1=some b
 so:∀z h,F z=some h->v5 ds z h
inductive DA(H:Hp)(en kn l:Addr)(zs:List Addr)(ds:List ED)(i:Nat)(σ:St)(H2:Hp):Prop
 |mk(e2:Option V)(kvs:List (Key×V))(F:FH)(e:σ=[some (.ref en),some (.ref kn),e2])(s:cC H H2)(hl:H2 l=some (.lst (zs.map V.ref)))(hk:H2 kn=some (.dK kvs))(kl:kvs.length<=i)(kd:Kx H2 kvs F)(c:∀j a d,j < i->zs[j]? =some a->d6 H a d->pV F d=true->∃b,b<=d.2.1/\F d.1=some b)(so:∀z h,F z=some h->v5 ds z h)(m:∀z h,F z=some h->∀j a,i<=j->zs[j]? =some a->h<=BU H a)(sk:IV kvs)(ft:Kp H zs F kvs i)
inductive MJ(vs:List V)(H:Hp)(Q:VK):Prop
 |mk(en:Addr)(as:List Addr)(ds:List ED)(e:vs=[.ref en])(he:H en=some (.lst (as.map V.ref)))(al:as.length<=500)(ll:as.length=ds.length)(le:∀(i:Nat) a d,as[i]? =some a->ds[i]? =some d->d6 H a d)
   (k:∀(kn:Addr)(kvs:List (Key×V))(F:FH)(H':Hp),cC H H'->H kn=none->H' kn=some (.dK kvs)->Kx H' kvs F->eW ds F->IV kvs->KI H' ds F kvs->Q (.ref kn) H')
def Gv:Sp:=λvs H Q _=>MJ vs H Q
theorem mO:cE ["entries", "known", "entry"] ["entries"] (cB fA):={}
theorem Iz (D:Df K mg "first_entries" fA ["entries"] f fd) (T:Txt K mg kw C) (G_hour_of:Gd P w K mg base 1 "hour_of" B8) (G_can_follow:Gd P w K mg base 2 "can_follow" FV):Gd P w K mg base 4 "first_entries" Gv:=by
 refine aF D mO λX H vs Q E hh h=>?_;obtain⟨en,as,ds,rfl,he,al,ll,le,k⟩:=h;have ed:∀a∈as,∃d∈ds,d6 H a d:=λa ha=>by
  obtain⟨i,hi⟩:=getElem?_of_mem ha;obtain⟨d,hd⟩:∃d,ds[i]? =some d:=⟨_,getElem?_eq_getElem (by rw[<-ll];exact(List.getElem?_eq_some_iff.mp hi).1)⟩;exact⟨d,mem_of_getElem? hd,le i a d hi hd⟩
 have de:∀d∈ds,∃a∈as,d6 H a d:=λd hd=>by
  obtain⟨i,hi⟩:=getElem?_of_mem hd;obtain⟨a,ha⟩:∃a,as[i]? =some a:=⟨_,getElem?_eq_getElem (by rw[ll];exact(List.getElem?_eq_some_iff.mp hi).1)⟩;exact⟨a,mem_of_getElem? ha,le i a d ha hi⟩
 obtain⟨S0,S1,S2,_⟩:=hh.d7 [0,1,2];have B_sorted:=hh.b T.b_sorted;have C_can_follow:=hh.c G_can_follow;have CS_hour_of:=hh.KL G_hour_of rfl (by first|decide|exact le_refl _) (by decide);have hu:=eS hh.room;have hsz:sizeLine=16777216:=sizeLine_eq;refine⟨_,(ah (aE S1 hh.nd cv)
 (ah (bp hh.own hh.calm (aP (J.HV B_sorted CS_hour_of (ak (aa S0)))) (aG S2 hh.nd)
 (ag (aH (aU (bo (J.qp hu (af ao (aa S2) ae aj) (aa S1)) (bB (aQ (aw C_can_follow (aA (aa S1) (aa S2)))))))
 (ag (b7 hu (aa S1) (af ao (aa S2) ae aj) (aa S2)))
 aJ)))
 (ag (au (aa S1))))),?_⟩
 intro kn nkn;have s1:=cC.upd (o:=.dK []) nkn;have hk1:upd H kn (.dK []) kn=some (.dK []):=cz;generalize upd H kn (.dK [])=H1 at s1 hk1;refine⟨_,rfl,en,as,BU H,rfl,cH.of (s1 _ _ he),λa ha Q' q'=>?_,λl zs nl pm pw fl=>?_⟩
 ·obtain⟨d,_,en'⟩:=ed a ha
  rw[oM en']at q';obtain⟨wa,h1,_⟩:=en';exact⟨a,_,_,_,rfl,s1 _ _ h1,q'⟩
 have s2:=s1.trans (cC.upd (o:=.lst (zs.map V.ref)) nl);have hl2:upd H1 l (.lst (zs.map V.ref)) l=some (.lst (zs.map V.ref)):=cz;have hk2:=cC.upd (o:=.lst (zs.map V.ref)) nl _ _ hk1;generalize upd H1 l (.lst (zs.map V.ref))=H2 at s2 hl2 hk2;have zl:zs.length<=500:=by rw[pm.length_eq];exact al
 have ent:∀{i:Nat}{a:Addr},zs[i]? =some a->∃d∈ds,d6 H a d:=λh=>ed _ (pm.mem_iff.mp (mem_of_getElem? h));have iU:∀{i j:Nat}{a b:Addr},i < j->zs[i]? =some a->zs[j]? =some b->BU H a<=BU H b:=λ{i j a b} ij ha hb=>by
  obtain⟨h1,e1⟩:=List.getElem?_eq_some_iff.mp ha;obtain⟨h2,e2⟩:=List.getElem?_eq_some_iff.mp hb;have:=List.pairwise_iff_getElem.mp pw i j h1 h2 ij
  rwa [e1,e2]at this
 refine⟨l,rfl,⟨_,cH.of hl2⟩,dA (K:=X.K) (a:=l) (xs:=zs.map V.ref) (DA H en kn l zs ds) ⟨none,[],λ_=>none,rfl,s2,hl2,hk2,le_refl 0,⟨λ_ _=>rfl,λ_ _ e=>by cases e⟩,(λj a d hj=>by omega),(λ_ _ e=>by cases e),(λ_ _ e=>by cases e),⟨[],rfl,nodup_nil⟩,(λ_ _ e=>by cases e)⟩ ?_ ?_ ?_⟩
 ·rintro i σ H3 hi ⟨e2,kvs,F,rfl,s3,hl3,hk3,kl,kd,c,so,m,sk,ft⟩
  exact cH.of hl3
 ·rintro i v σ H3 hv ⟨e2,kvs,F,rfl,s3,hl3,hk3,kl,kd,c,so,m,sk,ft⟩
  rw[getElem?_map]at hv;obtain⟨a,ha,rfl⟩:=map_eq_some_iff.mp hv;have il:=(List.getElem?_eq_some_iff.mp ha).1;obtain⟨d,md,ev⟩:=ent ha;have hra:=oM ev;obtain⟨wa,h1,h2⟩:=id ev;have h3:=s3 _ _ h1;have dg:=eX.k (k:=Sum.inr d.1) hk3;have fB:(pV F d=true->∃b,b<=d.2.1/\F d.1=some b)->DA H en kn l zs ds (i+1) [some (.ref en),some (.ref kn),some (.ref a)] H3:=λcd=>
   ⟨_,kvs,F,rfl,s3,hl3,hk3,by omega,kd,λj a' d' hj ha' ev' cf=>by
    by_cases e:j=i
    ·subst e
     rw[ha]at ha';cases ha';rw[<-nB ev ev']at cf ⊢;exact cd cf
    ·exact c j a' d' (by omega) ha' ev' cf,so,λz h e j a' hj ha'=>m z h e j a' (by omega) ha',sk,λz h e=>by
     obtain⟨a0,d0,j0,q1,q2,q3⟩:=ft z h e;exact⟨a0,d0,j0,q1,by omega,q3⟩⟩
  cases hF:F d.1 with
  |some b=>
   obtain⟨ea,w2,e1,_⟩:=kd.yes _ _ hF;rw[e1]at dg;exact⟨_,rfl,xT h3 rfl ⟨_,rfl,kn,_,rfl,dg,_,rfl,cR (cR (fB λ_=>⟨b,by rw[<-hra];exact m _ _ hF i a (le_refl _) ha,hF⟩))⟩⟩
  |none=>
   rw[kd.no _ hF]at dg;refine⟨_,rfl,xT h3 rfl ⟨_,rfl,kn,_,rfl,dg,_,rfl,dv ⟨_,rfl,_,rfl,kn,a,kvs,F,d,rfl,hk3,kd,ev.mono (Tk.of s3),_,rfl,?_⟩⟩⟩;cases hc:pV F d with
   |false=>exact cR (fB λh=>by rw[hc]at h;cases h)
   |true=>
    refine dv ⟨_,rfl,_,rfl,_,rfl,xT h3 rfl ⟨kn,_,rfl,lT.k (k:=Sum.inr d.1) hk3 (by omega),?_⟩⟩;have nka:a≠kn:=λe=>by rw[e,hk3]at h3;cases h3
    have nkl:l≠kn:=λe=>by rw[e,hk3]at hl3;cases hl3
    have kp:∀b o,b≠kn->H3 b=some o->upd H3 kn (.dK (putK kvs (Sum.inr d.1) (.ref a))) b=some o:=λb o n e=>by rw[cD n];exact e
    refine⟨_,putK kvs (Sum.inr d.1) (.ref a),iO F d.1 d.2.1,rfl,λb o e=>kp b o (cA e nkn) (s3 _ _ e),kp _ _ nkl hl3,cz,le_trans (gA _ _ _) (by omega),⟨λz e=>?_,λz h e=>?_⟩,λj a' d' hj ha' ev' cf=>?_,λz h e=>?_,λz h e j a' hj ha'=>?_,zD sk,λz h e=>?_⟩
    ·by_cases c':z=d.1
     ·rw[c',dG]at e
      cases e
     ·rw[dI c']at e
      rw[gx,if_neg (λx=>c' (Sum.inr.inj x))];exact kd.no z e
    ·by_cases c':z=d.1
     ·rw[c',dG]at e
      cases e;exact⟨a,.ref wa,by rw[gx,if_pos (by rw[c'])],by rw[c'];exact kp _ _ nka h3⟩
     ·rw[dI c']at e
      obtain⟨ea,w2,e1,e2'⟩:=kd.yes z h e;exact⟨ea,w2,by rw[gx,if_neg (λx=>c' (Sum.inr.inj x))];exact e1,kp _ _ (λx=>by rw[x,hk3]at e2';cases e2') e2'⟩
    ·by_cases e:j=i
     ·subst e
      rw[ha]at ha';cases ha';rw[<-nB ev ev'];exact⟨_,Int.le_refl _,dG⟩
     ·have le:d'.2.1<=d.2.1:=by
       rw[<-oM ev',<-hra];exact iU (by omega) ha' ha
      obtain⟨b,b1,b2⟩:=c j a' d' (by omega) ha' ev' (Bx (d:=d) cf le);exact⟨b,b1,by rw[dI (λx=>by rw[x,hF]at b2;cases b2)];exact b2⟩
    ·by_cases c':z=d.1
     ·rw[c',dG]at e
      cases e;rw[c'];obtain⟨y,i',w'⟩:=d;cases w' with
      |saw _=>exact .saw md
      |hrd kk te=>
       have hc':(match F te with|none=>false|some a=>decide (a < i'))=true:=hc;cases hT:F te with
       |none=>rw[hT]at hc';cases hc'
       |some x=>
        rw[hT]at hc';exact .hrd md (so _ _ hT) (of_decide_eq_true hc')
     ·rw[dI c']at e
      exact so z h e
    ·by_cases c':z=d.1
     ·rw[c',dG]at e
      cases e;rw[<-hra];exact iU (by omega) ha ha'
     ·rw[dI c']at e
      exact m z h e j a' (by omega) ha'
    ·have no:∀j' a' d',j' < i->zs[j']? =some a'->d6 H a' d'->pV (iO F d.1 d.2.1) d'=true->pV F d'=true:=λj' a' d' hj ha' ev' cf=>Bx (d:=d) cf (by
      rw[<-oM ev',<-hra];exact iU hj ha' ha)
     by_cases c':z=d.1
     ·rw[c',dG]at e
      cases e;refine⟨a,d,i,by rw[c',gx,if_pos rfl],lt_succ_self i,ha,ev,c'.symm,rfl,wD hF hc,λj' a' d' hj ha' ev' ed'=>?_⟩;cases cc:pV (iO F d.1 d.2.1) d' with
      |false=>rfl
      |true=>
       obtain⟨b,_,b2⟩:=c j' a' d' hj ha' ev' (no j' a' d' hj ha' ev' cc);rw[ed',c',hF]at b2;cases b2
     ·rw[dI c']at e
      obtain⟨a0,d0,j0,q1,q2,q3,q4,q5,q6,q7,q8⟩:=ft z h e;refine⟨a0,d0,j0,by rw[gx,if_neg (λx=>c' (Sum.inr.inj x))];exact q1,by omega,q3,q4,q5,q6,wD hF q7,λj' a' d' hj ha' ev' ed'=>?_⟩;cases cc:pV (iO F d.1 d.2.1) d' with
      |false=>rfl
      |true=>
       have:=q8 j' a' d' hj ha' ev' ed';rw[no j' a' d' (by omega) ha' ev' cc]at this;cases this
 ·rintro σ H3 ⟨e2,kvs,F,rfl,s3,hl3,hk3,kl,kd,c,so,m,sk,ft⟩
  refine⟨_,rfl,k kn kvs F H3 s3 nkn hk3 kd ⟨λd hd cf=>?_,so⟩ sk λz h e=>?_⟩
  rotate_left
  ·obtain⟨a0,d0,j0,q1,q2,q3,q4,q5,q6,q7,q8⟩:=ft z h e
   have ff:=vx ll le fl q3 q4 q7 (by rw[q5];exact q8);obtain⟨y,i',w'⟩:=d0;cases q5;cases q6;exact⟨a0,w',q1,q4.mono (Tk.of s3),ff⟩
  obtain⟨a,ha,ev⟩:=de d hd;obtain⟨j,hj⟩:=getElem?_of_mem (pm.mem_iff.mpr ha);have jl:=(List.getElem?_eq_some_iff.mp hj).1;exact c j a d (by rw[length_map];exact jl) hj ev cf
def d4(H:Hp)(v:V)(d:ED):Prop:=∃a,v=.ref a/\d6 H a d
theorem d4.mono{H H':Hp}(s:Tk H H')(v:V)(d:ED)(h:d4 H v d):d4 H' v d:=by
 obtain⟨a,e,h⟩:=h;exact⟨a,e,h.mono s⟩
def um(sg:List GD)(i:Nat):ED:=match sg[i]? with
 |some g=>(g.1,g.2,.saw i)
 |none=>("",0,.saw i)
def Bl(qd:List QD)(t:TK):ED:=(t.2.2,ef qd t.1,.hrd t.1 t.2.1)
def fg(sg:List GD)(qd:List QD)(sd:List SD):List ED:=((List.range sg.length).filter (iR sg (eD sd))).map (um sg)++((gd 0 (gE qd)).filter (cX qd sd)).map (Bl qd)
inductive IK(x sb tb l:Addr)(H5:Hp)(d0:List ED)(td:List ED)(i:Nat)(σ:St)(H6:Hp):Prop
 |mk(us:List V)(e4 e5 e6:Option V)(e:σ=[some (.ref x),some (.ref sb),some (.ref tb),some (.ref l),e4,e5,e6])(kp:∀b o,H5 b=some o->b≠l->H6 b=some o)(hl:H6 l=some (.lst us))(ul:us.length<=24+i)(lz:Lz d4 H6 us (d0++td.take i))
inductive Mt(C:Addr)(vs:List V)(H:Hp)(Q:VK):Prop
 |mk(x p s t y:Addr)(ps:List Str)(ss ts ys:List V)(sg:List GD)(qd:List QD)(sd:List SD)(e:vs=[.ref x])(bk:Bk C H x p s t y ps ss ts ys)(pl:ps.length<=24)(sl:ss.length<=24)(tl:ts.length<=120)(gs:Lz dq H ss sg)(gp:∀d∈sg,d.1∈ps)(qs:Lz dC H ts qd)(qk:∀d∈qd,j5 ps d)(sy:Sys H ys sd)(l:ys.length<=60)
   (k:∀(l:Addr)(us:List V)(H':Hp),cC H H'->H l=none->H' l=some (.lst us)->Lz d4 H' us (fg sg qd sd)->us.length<=400->Q (.ref l) H')
def Fx(C:Addr):Sp:=λvs H Q _=>Mt C vs H Q
theorem m8:cE ["book", "sights", "talks", "entries", "k", "teller", "hearer"] ["book"] (cB gb):={}
theorem Il (D:Df K mg "open_entries" gb ["book"] f fd) (T:Txt K mg kw C) (G_sights:Md P w K mg base 1 C "sights" (dk C λ_ s _ _=>s)) (G_talks:Md P w K mg base 1 C "talks" (dk C λ_ _ t _=>t)) (G_open_sights:Gd P w K mg base 4 "open_sights" (qA C)) (G_open_tellings:Gd P w K mg base 4 "open_tellings" (se C)):Gd P w K mg base 5 "open_entries" (Fx C):=by
 refine aF D m8 λX H vs Q E hh h=>?_;obtain⟨x,p,s,t,y,ps,ss,ts,ys,sg,qd,sd,rfl,bk,pl,sl,tl,gs,gp,qs,qk,sy,l60,k⟩:=h;obtain⟨S0,S1,S2,S3,S4,S5,S6,_⟩:=hh.d7 [0,1,2,3,4,5,6];have C_open_sights:=hh.c G_open_sights;have C_open_tellings:=hh.c G_open_tellings;have M_sights:=hh.met G_sights (by decide);have M_talks:=hh.met G_talks (by decide);have hsz:sizeLine=16777216:=sizeLine_eq;refine⟨_,(ah (aE S1 hh.nd (bM M_sights (aa S0) rfl))
 (ah (aE S2 hh.nd (bM M_talks (aa S0) rfl))
 (ah (bR (is:=[1]) (xs:=["i"]) (ns:=["sights"]) S3 hh.nd hh.calm (aP (aw C_open_sights (ak (aa S0)))) {} (λ_ _ _ _ _=>(aX (i:=0) (by decide+kernel) rfl rfl)) (λ_ _ _ _ _=>bW) (λ_ _ _ _ _=>(aV (aM (af bf (af J.lh (a9 (i:=1) rfl rfl (by decide) (by decide)) (aK (i:=0) rfl rfl (by decide) (by decide)) a8) ae aj) (af bf (af J.lh (a9 (i:=1) rfl rfl (by decide) (by decide)) (aK (i:=0) rfl rfl (by decide) (by decide)) a8) ae aj) (aV (aA aO (aK (i:=0) rfl rfl (by decide) (by decide))))))) hh.hsc hh.hN (by decide+kernel))
 (ah (bp hh.own hh.calm (aP (aw C_open_tellings (ak (aa S0)))) (bu hh.calm (aI (aG S4 hh.nd) (aI (aG S5 hh.nd) (aI (aG S6 hh.nd) bj))))
 (ag (bG (bI plainAttrs_list PySem.F.slot_list_append PySem.F.type_list_append bL (aa S3) (ak (aV (aM (aa S6) (af ao (af aT (aa S2) (aa S4) a8) ae aj) (aV (aM aO (aa S4) (aa S5))))))))))
 (ag (au (aa S3))))))),?_⟩
 obtain⟨⟨dx,hx⟩,hp,hs,ht,hy⟩:=id bk;refine⟨_,rfl,x,dx,_,rfl,hx,fZ _ _ _ _ (by decide+kernel) (by decide+kernel) (by decide+kernel) (by decide+kernel),x,p,s,t,y,ss,rfl,⟨dx,hx⟩,hs,λsb nsb=>?_⟩;have s1:=cC.upd (o:=.lst ss) nsb;have hsb1:upd H sb (.lst ss) sb=some (.lst ss):=cz;generalize upd H sb (.lst ss)=H1 at s1 hsb1;refine⟨_,rfl,x,dx,_,rfl,s1 _ _ hx,fZ _ _ _ _ (by decide+kernel) (by decide+kernel) (by decide+kernel) (by decide+kernel),x,p,s,t,y,ts,rfl,⟨dx,s1 _ _ hx⟩,s1 _ _ ht,λtb ntb=>?_⟩;have s2:=s1.trans (cC.upd (o:=.lst ts) ntb);have hsb2:=cC.upd (o:=.lst ts) ntb _ _ hsb1;have htb2:upd H1 tb (.lst ts) tb=some (.lst ts):=cz;generalize upd H1 tb (.lst ts)=H2 at s2 hsb2 htb2;refine⟨_,rfl,x,p,s,t,y,ps,ss,ts,ys,sg,sd,rfl,bk.mono s2,pl,sl,gs.mono (dq.mono (Tk.of s2)),gp,sy.mono (Tk.of s2),l60,λlo H3 s3 nlo hlo=>?_⟩;have s03:=s2.trans s3;have hsb3:=s3 _ _ hsb2;have htb3:=s3 _ _ htb2;have gl:=gs.1;have ol:=vG sg sd sg.length;refine⟨lo,rfl,⟨_,cH.of hlo⟩,ph (λj H' v=>∃i,((List.range sg.length).filter (iR sg (eD sd)))[j]? =some i/\d4 H' v (um sg i)) (λj v H H' tk ⟨i,e,h⟩=>⟨i,e,h.mono tk⟩) (cH.of hlo) (by omega) ?_ ?_⟩
 ·intro j v H4 K1 hv s4 k1
  unfold fD at hv;rw[getElem?_map]at hv;obtain⟨i,hi,rfl⟩:=map_eq_some_iff.mp hv;have il:i < sg.length:=mem_range.mp (mem_filter.mp (mem_of_getElem? hi)).1;obtain⟨vg,hvg⟩:∃vg,ss[i]? =some vg:=⟨_,getElem?_eq_getElem (by omega)⟩;have hg:sg[i]? =some sg[i]:=getElem?_eq_getElem il;obtain⟨ga,tale,rfl,hga⟩:=gs.2 _ _ _ hvg hg;have ga4:=s4 _ _ (s03 _ _ hga);have sb4:=s4 _ _ hsb3;have sdE:um sg i=(sg[i].1,sg[i].2,.saw i):=by
   unfold um;rw[hg]
  refine⟨_,rfl,_,rfl,xL sb4 (cQ hvg) (xT ga4 rfl ⟨_,rfl,_,rfl,xL sb4 (cQ hvg) (xT ga4 rfl ⟨_,rfl,Gz,λwa nwa=>⟨m7,λta nta=>?_⟩⟩)⟩)⟩;refine k1 _ _ ((cC.upd nwa).trans (cC.upd nta)) ⟨i,hi,ta,rfl,?_⟩;rw[sdE];exact⟨wa,cz,cC.upd nta _ _ cz⟩
 ·intro l us0 H4 nl s4 hl ul0 ur
  have s04:=s03.trans s4;have lz0:Lz d4 H4 us0 (((List.range sg.length).filter (iR sg (eD sd))).map (um sg)):=by
   refine⟨by rw[ul0,length_map];unfold fD;rw[length_map],λj v d hv hd=>?_⟩;obtain⟨i,hi,he⟩:=ur j v hv;rw[getElem?_map,hi]at hd;cases hd;exact he
  have ul24:us0.length<=24:=by omega
  clear ur;refine⟨_,rfl,x,p,s,t,y,ps,ss,ts,ys,qd,sd,rfl,bk.mono s04,pl,tl,qs.mono (dC.mono (Tk.of s04)),qk,sy.mono (Tk.of s04),l60,λm vs H5 s5 nm hm tu=>?_⟩;have s05:=s04.trans s5;have hl5:=s5 _ _ hl;have htb5:=s5 _ _ (s4 _ _ htb3);have tll:=tu.1;have tlen:=jv (gE qd) 0;have qle:(gE qd).length=qd.length:=length_map _;have qsl:=qs.1;have fl:=length_filter_le (cX qd sd) (gd 0 (gE qd));have nml:m≠l:=λe=>by rw[e,hl]at nm;cases nm
  have nlt:tb≠l:=λe=>by rw[<-e,htb3]at nl;cases nl
  refine⟨m,rfl,⟨_,cH.of hm⟩,dA (K:=X.K) (a:=m) (xs:=vs) (IK x sb tb l H5 (((List.range sg.length).filter (iR sg (eD sd))).map (um sg)) (((gd 0 (gE qd)).filter (cX qd sd)).map (Bl qd))) ⟨us0,none,none,none,rfl,λb o e _=>e,hl5,by omega,by rw[take_zero,append_nil];exact lz0.mono (d4.mono (Tk.of s5))⟩ ?_ ?_ ?_⟩
  ·rintro i σ H6 hi ⟨us,e4,e5,e6,rfl,kp,hl6,ul,lz⟩
   exact cH.of (kp _ _ hm nml)
  ·rintro i v σ H6 hv ⟨us,e4,e5,e6,rfl,kp,hl6,ul,lz⟩
   have il:=(List.getElem?_eq_some_iff.mp hv).1;obtain⟨tk,htk⟩:∃tk,((gd 0 (gE qd)).filter (cX qd sd))[i]? =some tk:=⟨_,getElem?_eq_getElem (by rw[<-tu.1];exact il)⟩;obtain⟨a,rfl,ha⟩:=tu.2 _ _ _ hv htk;obtain⟨q,hq,_⟩:=nR qk (mem_filter.mp (mem_of_getElem? htk)).1;obtain⟨vq,hvq⟩:∃vq,ts[tk.1]? =some vq:=⟨_,getElem?_eq_getElem (by rw[qs.1];exact(List.getElem?_eq_some_iff.mp hq).1)⟩;obtain⟨aq,rfl,haq⟩:=qs.2 _ _ _ hvq hq;have ntup:∀{b:Addr}{zs:List V},H5 b=some (.tup zs)->b≠l:=λh e=>by rw[e,hl5]at h;cases h
   have haq5:=s05 _ _ haq;have ha6:=kp _ _ ha (ntup ha);have haq6:=kp _ _ haq5 (ntup haq5);have htb6:=kp _ _ htb5 nlt;refine⟨a,_,rfl,cU.of ha6,rfl,_,_,rfl,_,_,rfl,_,_,rfl,rfl,?_⟩;refine⟨_,rfl,.inl ⟨rfl,_,cH.of hl6⟩,_,rfl,_,rfl,_,rfl,xL htb6 (cQ hvq) (xT haq6 rfl ⟨_,rfl,_,rfl,m7,λwa nwa=>⟨m7,λta nta=>?_⟩⟩)⟩;have sA:=cC.upd (o:=.tup [.str "heard",.int (tk.1:Nat),.str tk.2.1]) nwa;have sB:=cC.upd (o:=.tup [.str tk.2.2,.int q.1,.ref wa]) nta;have sAB:=sA.trans sB;have hl7:=sAB _ _ hl6;refine⟨l,us,.ref ta,rfl,rfl,hl7,by omega,?_⟩;have tkU:=Tk.upd hl7 (ys:=us++[.ref ta]);have tdE:Bl qd tk=(tk.2.2,q.1,.hrd tk.1 tk.2.1):=by
    unfold Bl;rw[gW hq]
   have tt:(((gd 0 (gE qd)).filter (cX qd sd)).map (Bl qd)).take (i+1)=(((gd 0 (gE qd)).filter (cX qd sd)).map (Bl qd)).take i++[Bl qd tk]:=by
    rw[take_add_one,getElem?_map,htk];rfl
   refine⟨us++[.ref ta],_,_,_,rfl,λb o e n=>by rw[cD n];exact sAB _ _ (kp b o e n),cz,by rw[length_append];show us.length+1<=_;omega,?_⟩;rw[tt,<-append_assoc];refine Lz.snoc ((lz.mono (d4.mono (Tk.of sAB))).mono (d4.mono tkU)) ⟨ta,rfl,?_⟩;rw[tdE];exact d6.mono tkU ⟨wa,cz,sB _ _ cz⟩
  ·rintro σ H6 ⟨us,e4,e5,e6,rfl,kp,hl6,ul,lz⟩
   refine⟨_,rfl,k l us H6 (λb o e=>kp b o (s05 _ _ e) (cA e (s03.free nl))) (s03.free nl) hl6 ?_ (by omega)⟩;rw[take_of_length_le (by rw[length_map];omega)]at lz;exact lz
def Fm(ds:List ED)(F:FH)(z:Str):ED:=(ds.find? (pE F z ((F z).getD 0))).getD (z,0,.saw 0)
theorem Fl{ds:List ED}{F:FH}{z:Str}{h:Int}{d:ED}(hF:F z=some h)(e:ds.find? (pE F z h)=some d):Fm ds F z=d:=by
 unfold Fm;rw[hF];show(ds.find? (pE F z h)).getD _=d;rw[e];rfl
structure lx(ds:List ED)(F:FH)(st:List ED):Prop where
 nd:(st.map (·.1)).Nodup
 so:PyProof.Rows.sortedS (st.map (·.1))=true
 me:∀z,z∈st.map (·.1)↔(F z).isSome=true
 fi:∀d∈st,F d.1=some d.2.1/\ds.find? (pE F d.1 d.2.1)=some d
theorem uE{ds:List ED}{z:Str}{h:Int}(r:v5 ds z h):∃d∈ds,d.1=z:=by
 cases r with
 |saw m=>exact⟨_,m,rfl⟩
 |hrd m _ _=>exact⟨_,m,rfl⟩
inductive LY(vs:List V)(H:Hp)(Q:VK):Prop
 |mk(en:Addr)(as:List Addr)(ds:List ED)(ps:List Str)(e:vs=[.ref en])(he:H en=some (.lst (as.map V.ref)))(al:as.length<=500)(ll:as.length=ds.length)(le:∀(i:Nat) a d,as[i]? =some a->ds[i]? =some d->d6 H a d)(pl:ps.length<=24)(pm:∀d∈ds,d.1∈ps)
   (k:∀(l:Addr)(us:List V)(F:FH)(st:List ED)(H':Hp),cC H H'->H l=none->H' l=some (.lst us)->Lz d4 H' us st->eW ds F->lx ds F st->Q (.ref l) H')
def Gp:Sp:=λvs H Q _=>LY vs H Q
theorem oq:cE ["entries", "known"] ["entries"] (cB gP):={}
theorem Ic (D:Df K mg "first_story" gP ["entries"] f fd) (T:Txt K mg kw C) (G_first_entries:Gd P w K mg base 4 "first_entries" Gv):Gd P w K mg base 5 "first_story" Gp:=by
 refine aF D oq λX H vs Q E hh h=>?_;obtain⟨en,as,ds,ps,rfl,he,al,ll,le,pl,pmm,k⟩:=h;obtain⟨S0,S1,_⟩:=hh.d7 [0,1];have B_sorted:=hh.b T.b_sorted;have C_first_entries:=hh.c G_first_entries;have hu:=eS hh.room;have hsz:sizeLine=16777216:=sizeLine_eq;refine⟨_,(ah (aE S1 hh.nd (aw C_first_entries (ak (aa S0))))
 (ag (au (bF (is:=[1]) (xs:=["person"]) (ns:=["known"]) hh.calm (aP (aD B_sorted (J.fJ hh.calm) L2.fR (ak (aa S1)))) {} (λ_ _ _ _ _=>(aX (i:=0) (by decide+kernel) rfl rfl)) (λ_ _ _ _ _=>bW) (λ_ _ _ _ _=>(bP hu (a9 (i:=1) rfl rfl (by decide) (by decide)) (aK (i:=0) rfl rfl (by decide) (by decide)) a8)) hh.hsc hh.hN)))),?_⟩
 refine⟨_,rfl,en,as,ds,rfl,he,al,ll,le,λkn kvs F H1 s1 nkn hkn kd fo sk fst=>?_⟩;obtain⟨zs,sk,nd⟩:=sk;have zF:∀z,z∈zs↔(F z).isSome=true:=λz=>by
  rw[Ac sk];cases hF:F z with
  |none=>
   rw[kd.no z hF];exact⟨λh=>(by cases h),λh=>(by cases h)⟩
  |some h=>
   obtain⟨a,w,e,_⟩:=kd.yes z h hF;rw[e];exact⟨λ_=>rfl,λ_=>rfl⟩
 have zl:zs.length<=ps.length:=oz nd λz hz=>by
  obtain⟨h,hF⟩:=isSome_iff_exists.mp ((zF z).mp hz);obtain⟨d,md,rfl⟩:=uE (fo.so z h hF);exact pmm d md
 refine⟨_,rfl,kn,kvs,zs,rfl,hkn,sk,by omega,λl1 zs' nl1 _ pm so=>?_⟩;have s2:=cC.upd (o:=.lst (zs'.map V.str)) nl1;have hl1:upd H1 l1 (.lst (zs'.map V.str)) l1=some (.lst (zs'.map V.str)):=cz;generalize upd H1 l1 (.lst (zs'.map V.str))=H2 at s2 hl1;have nd':zs'.Nodup:=pm.symm.nodup nd;have zF':∀z,z∈zs'↔(F z).isSome=true:=λz=>(pm.mem_iff).trans (zF z);have zl':=pm.length_eq;have ee:∀z∈zs',∃h a w,F z=some h/\Fm ds F z=(z,h,w)/\dB kvs (Sum.inr z)=some (.ref a)/\d6 H1 a (z,h,w)/\ds.find? (pE F z h)=some (z,h,w):=λz hz=>by
  obtain⟨h,hF⟩:=isSome_iff_exists.mp ((zF' z).mp hz);obtain⟨a,w,e1,e2,e3⟩:=fst z h hF;exact⟨h,a,w,hF,Fl hF e3,e1,e2,e3⟩
 refine⟨l1,rfl,⟨_,cH.of hl1⟩,ph (λj H v=>∃z,zs'[j]? =some z/\d4 H v (Fm ds F z)) (λ_ _ _ _ tk ⟨z,e,h⟩=>⟨z,e,h.mono tk⟩) (cH.of hl1) (by rw[length_map];omega) ?_ ?_⟩
 ·intro i v H5 K1 hv s5 k1
  rw[getElem?_map]at hv;obtain⟨z,hz,rfl⟩:=map_eq_some_iff.mp hv;obtain⟨h,a,w,hF,e0,e1,e2,_⟩:=ee z (mem_of_getElem? hz);have dg:=eX.k (k:=Sum.inr z) (s5 _ _ (s2 _ _ hkn));rw[e1]at dg;exact⟨_,rfl,_,rfl,kn,_,rfl,dg,k1 _ _ (cC.refl _) ⟨z,hz,a,rfl,by rw[e0];exact e2.mono (Tk.of (s2.trans s5))⟩⟩
 ·intro rw' ws H5 nrw s5 hrw wl wr
  have e1:(zs'.map (Fm ds F)).map (·.1)=zs':=by
   rw[map_map];refine(map_congr_left λz hz=>?_).trans (List.map_id _);obtain⟨h,a,w,_,e0,_⟩:=ee z hz;show(Fm ds F z).1=z;rw[e0]
  refine k rw' ws F (zs'.map (Fm ds F)) H5 ((s1.trans s2).trans s5) ((s1.trans s2).free nrw) hrw ⟨by rw[wl,length_map,length_map],λj v d hv hd=>?_⟩ fo ⟨by rw[e1];exact nd',by rw[e1];exact so,by rw[e1];exact zF',λd hd=>?_⟩
  ·obtain⟨z,hz,h⟩:=wr j v hv
   rw[getElem?_map,hz]at hd;cases hd;exact h
  ·obtain⟨z,hz,rfl⟩:=mem_map.mp hd
   obtain⟨h,a,w,hF,e0,_,_,ff⟩:=ee z hz;rw[e0];exact⟨hF,ff⟩
theorem qI:∀{us:List V},(∀v∈us,∃a,v=V.ref a)->∃as:List Addr,us=as.map V.ref
 |[],_=>⟨[],rfl⟩
 |v::r,h=>by
  obtain⟨a,rfl⟩:=h v mem_cons_self;obtain⟨as,e⟩:=qI λu hu=>h u (mem_cons_of_mem _ hu);exact⟨a::as,by rw[e];rfl⟩
theorem CP{H:Hp}{us:List V}{ds:List ED}(lz:Lz d4 H us ds):∃as:List Addr,us=as.map V.ref/\as.length=ds.length/\∀(i:Nat) a d,as[i]? =some a->ds[i]? =some d->d6 H a d:=by
 obtain⟨as,rfl⟩:=qI (us:=us) λv hv=>by
  obtain⟨i,hi⟩:=getElem?_of_mem hv;obtain⟨d,_,a,e,_⟩:=lz.at hi;exact⟨a,e⟩
 refine⟨as,rfl,by rw[<-lz.1,length_map],λi a d ha hd=>?_⟩;obtain⟨a',e,h⟩:=lz.2 i _ d (by rw[getElem?_map,ha];rfl) hd;cases e;exact h
theorem sq{sg:List GD}{qd:List QD}{sd:List SD}{z:Str}{h:Int}{i:Nat}(m:(z,h,EW.saw i)∈fg sg qd sd):i∈(List.range sg.length).filter (iR sg (eD sd))/\sg[i]? =some (z,h):=by
 unfold fg at m;rcases mem_append.mp m with m|m
 ·obtain⟨j,mj,e⟩:=mem_map.mp m
  have jl:=mem_range.mp (mem_filter.mp mj).1;have hg:sg[j]? =some sg[j]:=getElem?_eq_getElem jl;unfold um at e;rw[hg]at e;have e':(sg[j].1,sg[j].2,EW.saw j)=(z,h,EW.saw i):=e;cases e';exact⟨mj,hg⟩
 ·obtain⟨t,_,e⟩:=mem_map.mp m
  unfold Bl at e;cases e
theorem rQ{sg:List GD}{qd:List QD}{sd:List SD}{z te:Str}{h:Int}{k:Nat}(m:(z,h,EW.hrd k te)∈fg sg qd sd):(k,te,z)∈(gd 0 (gE qd)).filter (cX qd sd)/\ef qd k=h:=by
 unfold fg at m;rcases mem_append.mp m with m|m
 ·obtain⟨j,mj,e⟩:=mem_map.mp m
  unfold um at e;cases hg:sg[j]? with
  |none=>rw[hg]at e;cases e
  |some g=>rw[hg]at e;cases e
 ·obtain⟨t,mt,e⟩:=mem_map.mp m
  unfold Bl at e;cases e;exact⟨mt,rfl⟩
theorem Kb{a b:Str}{i j:Int}:uK [.str a,.int i] [.str b,.int j]=decide (some (a,i)=some (b,j)):=by
 show(((a == b) && ((i == j) && true)) && true)=_;rw[Bool.eq_iff_iff];simp
theorem Lb(a:Int)(b c:Str):uK [.int a,.str b,.str c] [.int a,.str b,.str c]=true:=by
 show(((a == a) && ((b == b) && ((c == c) && true))) && true)=true;simp
theorem Cm{H:Hp}{us:List V}{ks:List TK}{k:Nat}{te z:Str}(tu:eR H us ks)(m:(k,te,z)∈ks):us.any (Gx H [.int (k:Nat),.str te,.str z])=true:=by
 obtain⟨i,hi⟩:=getElem?_of_mem m;obtain⟨u,hu⟩:∃u,us[i]? =some u:=⟨_,getElem?_eq_getElem (by rw[tu.1];exact(List.getElem?_eq_some_iff.mp hi).1)⟩;obtain⟨c,rfl,hc⟩:=tu.2 _ _ _ hu hi;refine any_eq_true.mpr ⟨_,mem_of_getElem? hu,?_⟩;show(match H c with|some (.tup zs)=>uK zs _|_=>false)=true;rw[hc];exact Lb _ _ _
theorem Am{H:Hp}{us:List V}{ks:List TK}(tu:eR H us ks):∀v∈us,∃c zs,v=.ref c/\H c=some (.tup zs)/\zs.all cW=true:=λv hv=>by
 obtain⟨i,hi⟩:=getElem?_of_mem hv;obtain⟨t,ht⟩:∃t,ks[i]? =some t:=⟨_,getElem?_eq_getElem (by rw[<-tu.1];exact(List.getElem?_eq_some_iff.mp hi).1)⟩;obtain⟨c,rfl,hc⟩:=tu.2 _ _ _ hi ht;exact⟨c,_,rfl,hc,rfl⟩
inductive MP(vs:List V)(H:Hp)(Q:VK):Prop
 |mk(th s t y kn a:Addr)(ps:List Str)(ss ts ys:List V)(sg:List GD)(qd:List QD)(sd:List SD)(kvs:List (Key×V))(F:FH)(d:ED)(e:vs=[.ref th,.ref kn,.ref a])(hth:H th=some (.tup [.ref s,.ref t,.ref y]))(hs:H s=some (.lst ss))(ht:H t=some (.lst ts))(hy:H y=some (.lst ys))(sl:ss.length<=24)(tl:ts.length<=120)
   (gs:Lz dq H ss sg)(gh:∀d∈sg,cN d.2)(qs:Lz dC H ts qd)(qk:∀d∈qd,j5 ps d)(sy:Sys H ys sd)(hkn:H kn=some (.dK kvs))(get:∀z,dB kvs (Sum.inr z)=(F z).map V.int)(ev:d6 H a d)(md:d∈fg sg qd sd)(cf:pV F d=true)(k:∀H',cC H H'->Q (.bl true) H')
def Ff:Sp:=λvs H Q _=>MP vs H Q
theorem pP:cE ["_law_things_here", "_law_known", "_law_row", "_law_numbers", "_law_tellings_here", "_law_person", "_law_when", "_law_way"] ["_law_things_here", "_law_known", "_law_row"] (cB iK):={}
theorem IA (D:Df K mg "_law_good_way" iK ["_law_things_here", "_law_known", "_law_row"] f fd) (T:Txt K mg kw C) (G__law_open:Gd P w K mg base 3 "_law_open" jx):Gd P w K mg base 4 "_law_good_way" Ff:=by
 refine aF D pP λX H vs Q E hh h=>?_;obtain⟨th,s,t,y,kn,a,ps,ss,ts,ys,sg,qd,sd,kvs,F,d,rfl,hth,hs,ht,hy,sl,tl,gs,gh,qs,qk,sy,hkn,get,ev,md,cf,k⟩:=h;obtain⟨S0,S1,S2,S3,S4,S5,S6,S7,_⟩:=hh.d7 [0,1,2,3,4,5,6,7];have B_bool:=hh.b T.b_bool;have B_int:=hh.b T.b_int;have B_isinstance:=hh.b T.b_isinstance;have B_len:=hh.b T.b_len;have B_tuple:=hh.b T.b_tuple;have C__law_open:=hh.c G__law_open;have hu:=eS hh.room;refine⟨_,(ah (bN (aw C__law_open (ak (aa S0))) (bu hh.calm (aI (aG S3 hh.nd) (aI (aG S4 hh.nd) bj))))
 (ah (bN (aa S2) (bu hh.calm (aI (aG S5 hh.nd) (aI (aG S6 hh.nd) (aI (aG S7 hh.nd) bj)))))
 (ah (aH (aU (bg (aY (aQ (aD B_isinstance bK L2.cG (aA (aa S7) (J.ty B_tuple L2.i7))))) (bg (aY (aQ (aD B_isinstance bK L2.cG (aA (aa S6) (J.ty B_int L2.rG))))) (bg (aQ (aD B_isinstance bK L2.cG (aA (aa S6) (J.ty B_bool L2.rT)))) (bz (aQ (aD B_isinstance bK L2.cG (aA (af ao (aa S7) ae aj) (J.ty B_bool L2.rT)))))))))
 (ag (au a5))
 aJ)
 (ah (aH (aB aL (af ao (aa S7) ae aj) aO (L2.cF _))
 (ag (au (aS (aR aL (aD B_len bq L2.dD (ak (aa S7))) ae (L2.cF _)) (aS (aR J.fQ (af ao (aa S7) ae aj) (aa S3) cw) (aZ (aR (J.nE hu) (bX J.uR (af aT (af ao (aa S0) ae aj) (af ao (aa S7) ae aj) b4) bZ (b6 ae)) (aV (aA (aa S5) (aa S6))) (L2.cF _)))))))
 aJ)
 (ah (aH (aU (bg (aB bU (af ao (aa S7) ae aj) aO (L2.cF _)) (bg (aB bU (aD B_len bq L2.dD (ak (aa S7))) ae (L2.cF _)) (bz (aB (J.gQ hu) (aV (aM (af ao (aa S7) ae aj) (af ao (aa S7) ae aj) (aa S5))) (aa S4) cw)))))
 (ag (au a5))
 aJ)
 (ag (au (aS (aR aL (af ao (af aT (af ao (aa S0) ae aj) (af ao (aa S7) ae aj) b4) ae aj) (aa S6) (L2.cF _)) (aS (J.ox hu (af ao (aa S7) ae aj) (aa S1)) (aZ (aR bS (bP hu (aa S1) (af ao (aa S7) ae aj) b4) (aa S6) (L2.cF _)))))))))))),?_⟩
 refine⟨_,rfl,th,s,t,y,ps,ss,ts,ys,sg,qd,sd,rfl,hth,hs,ht,hy,sl,tl,gs,gh,qs,qk,sy,λr nb tl us H1 s1 _ _ _ hr hnb htl tu=>?_⟩;refine⟨r,_,rfl,cU.of hr,rfl,_,_,rfl,_,_,rfl,rfl,?_⟩;obtain⟨wa,ha,hw⟩:=ev.mono (Tk.of s1);refine⟨_,rfl,a,_,rfl,cU.of ha,rfl,_,_,rfl,_,_,rfl,_,_,rfl,rfl,?_⟩;obtain⟨z,h,w⟩:=d;cases w with
 |saw i=>
  obtain⟨mi,hg⟩:=sq md;have il:i < sg.length:=(List.getElem?_eq_some_iff.mp hg).1;obtain⟨vg,hvg⟩:∃vg,ss[i]? =some vg:=⟨_,getElem?_eq_getElem (by rw[gs.1];exact il)⟩;obtain⟨ga,tale,rfl,hga⟩:=gs.2 _ _ _ hvg hg;have hw':H1 wa=some (.tup [.str "saw",.int (i:Nat)]):=hw;refine⟨_,rfl,_,_,_,_,rfl,dQ.tup hw',kI,_,rfl,iN ⟨_,rfl,_,_,_,_,rfl,dQ.int _,kI,_,rfl,iN ⟨_,rfl,_,_,_,_,rfl,dQ.int _,kI,_,rfl,iN ⟨_,rfl,xT hw' rfl ⟨_,_,_,_,rfl,dQ.int _,kI,_,rfl,cR ?_⟩⟩⟩⟩⟩;refine⟨_,rfl,xT hw' rfl ⟨rfl,_,rfl,iP ?_⟩⟩;refine⟨_,rfl,wa,_,rfl,.inr (cU.of hw'),rfl,_,rfl,fh (show decide (V.int 2=V.int 2)=true from by decide) ⟨_,rfl,xT hw' rfl ⟨_,rfl,nb,_,rfl,.inl (cH.of hnb),rfl,?_,_,rfl,fh ?_ ?_⟩⟩⟩
  ·unfold fD
   rw[all_map];exact all_eq_true.mpr λ_ _=>rfl
  ·show wW (.int (i:Nat)) (fD sg sd sg.length)=true
   unfold wW fD;rw[any_map];refine any_eq_true.mpr ⟨i,mi,?_⟩;show((i:Int) == (i:Int))=true;exact beq_self_eq_true _
  ·refine⟨_,rfl,xT (s1 _ _ hth) rfl ⟨_,rfl,xT hw' rfl (xL (s1 _ _ hs) (cQ hvg) ⟨_,rfl,ga,_,rfl,cU.of (s1 _ _ hga),(show ¬(HT.d9 3 0 none=0/\HT.d9 3 3 (some 2)=3) from by decide),λp1 np1=>?_⟩)⟩⟩
   have s3:=cC.upd (o:=.tup [.str z,.int h]) np1;have hp1:upd H1 p1 (.tup [.str z,.int h]) p1=some (.tup [.str z,.int h]):=cz;refine⟨_,rfl,_,rfl,Gz,λp2 np2=>?_⟩;have s4:=cC.upd (o:=.tup [.str z,.int h]) np2;refine⟨p1,p2,_,_,rfl,rfl,s4 _ _ hp1,cz,rfl,rfl,?_⟩;rw[Kb,decide_eq_true rfl];exact k _ (s1.trans (s3.trans s4))
 |hrd kk te=>
  obtain⟨mt,hh'⟩:=rQ md;have hw':H1 wa=some (.tup [.str "heard",.int (kk:Nat),.str te]):=hw;obtain⟨q,hq,_⟩:=nR qk (mem_filter.mp mt).1;obtain⟨vq,hvq⟩:∃vq,ts[kk]? =some vq:=⟨_,getElem?_eq_getElem (by rw[qs.1];exact(List.getElem?_eq_some_iff.mp hq).1)⟩;obtain⟨aq,rfl,haq⟩:=qs.2 _ _ _ hvq hq;have eh:q.1=h:=by rw[<-gW hq];exact hh'
  have cf':(match F te with|none=>false|some a=>decide (a < h))=true:=cf;obtain⟨b,hb,bl⟩:∃b,F te=some b/\b < h:=by
   cases hT:F te with
   |none=>rw[hT]at cf';cases cf'
   |some b=>rw[hT]at cf';exact⟨b,rfl,of_decide_eq_true cf'⟩
  refine⟨_,rfl,_,_,_,_,rfl,dQ.tup hw',kI,_,rfl,iN ⟨_,rfl,_,_,_,_,rfl,dQ.int _,kI,_,rfl,iN ⟨_,rfl,_,_,_,_,rfl,dQ.int _,kI,_,rfl,iN ⟨_,rfl,xT hw' rfl ⟨_,_,_,_,rfl,dQ.int _,kI,_,rfl,cR ?_⟩⟩⟩⟩⟩;refine⟨_,rfl,xT hw' rfl ⟨rfl,_,rfl,iN ?_⟩⟩;refine⟨_,rfl,xT hw' rfl ⟨rfl,_,rfl,iN ⟨_,rfl,wa,_,rfl,.inr (cU.of hw'),rfl,_,rfl,gY (show ¬(!decide (V.int 3=V.int 3))=true from by decide) ⟨_,rfl,xT hw' rfl ⟨_,rfl,xT hw' rfl ⟨_,rfl,m7,λp1 np1=>?_⟩⟩⟩⟩⟩⟩;have s3:=cC.upd (o:=.tup [.int (kk:Nat),.str te,.str z]) np1;have tu3:=tu.mono (Tk.of s3);refine⟨_,rfl,p1,tl,_,_,rfl,rfl,cz,cH.of (s3 _ _ htl),rfl,Am tu3,_,rfl,gY ?_ ?_⟩
  ·rw[Cm tu3 mt]
   decide
  ·have s13:=s1.trans s3
   have hw3:=s3 _ _ hw';have dg:=eX.k (k:=Sum.inr te) (s13 _ _ hkn);rw[get,hb]at dg;refine⟨_,rfl,xT (s13 _ _ hth) rfl ⟨_,rfl,xT hw3 rfl (xL (s13 _ _ ht) (cQ hvq) (xT (s13 _ _ haq) rfl ⟨_,rfl,rfl,_,rfl,fh (decide_eq_true (congrArg V.int eh)) ⟨_,rfl,xT hw3 rfl ⟨_,rfl,kn,_,rfl,dg,_,rfl,dv ⟨_,rfl,_,rfl,xT hw3 rfl ⟨kn,_,rfl,dg,_,rfl,_,_,rfl,rfl,?_⟩⟩⟩⟩⟩))⟩⟩;rw[decide_eq_true bl];exact k _ s13
def jJ(st:List ED):List (Key×V):=st.map λd=>(Sum.inr d.1,V.int d.2.1)
theorem uH{st:List ED}{i:Nat}{d:ED}(nd:(st.map (·.1)).Nodup)(hd:st[i]? =some d):putK (jJ (st.take i)) (Sum.inr d.1) (.int d.2.1)=jJ (st.take (i+1)):=by
 have no:((jJ (st.take i)).any λkv=>decide (kv.1=Sum.inr d.1))=false:=by
  rw[any_eq_false];intro kv hkv e;obtain⟨d',hd',rfl⟩:=mem_map.mp hkv;have e':d'.1=d.1:=Sum.inr.inj (of_decide_eq_true e);obtain⟨j,hj,hj'⟩:=mZ hd';have h1:(st.map (·.1))[j]? =some d.1:=by rw[getElem?_map,hj'];exact congrArg some e'
  have h2:(st.map (·.1))[i]? =some d.1:=by rw[getElem?_map,hd];rfl
  have:=(List.getElem?_inj (by exact(List.getElem?_eq_some_iff.mp h1).1) nd).mp (h1.trans h2.symm);omega
 unfold putK;rw[no,if_neg Bool.false_ne_true,take_add_one,hd];unfold jJ;rw[map_append];rfl
theorem kU{ds st:List ED}{F:FH}(so:lx ds F st)(z:Str):dB (jJ st) (Sum.inr z)=(F z).map V.int:=by
 unfold dB jJ;rw[List.find?_map];cases h:st.find? ((λkv:Key×V=>decide (kv.1=Sum.inr z)) ∘ λd=>(Sum.inr d.1,V.int d.2.1)) with
 |none=>
  cases hF:F z with
  |none=>rfl
  |some i=>
   obtain⟨d,hd,e⟩:=mem_map.mp ((so.me z).mpr (by rw[hF];rfl));have:=List.find?_eq_none.mp h d hd;exact absurd (decide_eq_true (congrArg Sum.inr e)) this
 |some d=>
  have e0:decide ((Sum.inr d.1:Key)=Sum.inr z)=true:=List.find?_some (p:=(λkv:Key×V=>decide (kv.1=Sum.inr z)) ∘ λd:ED=>(Sum.inr d.1,V.int d.2.1)) h;have e:d.1=z:=Sum.inr.inj (of_decide_eq_true e0);have:=(so.fi d (List.mem_of_find?_eq_some h)).1;rw[e]at this;rw[this];rfl
theorem Az{K:PySem.W.Frag}{H:Hp}{a b:Addr}{zs:List Str}{Q:VK}(s:cH K H a (zs.map V.str))(t:cH K H b (zs.map V.str))(q:Q (.bl false) H):F5 K (.ref a) (.ref b) H Q:=by
 refine .same a b _ _ (List.replicate (zs.map V.str).length true) rfl rfl s t (length_replicate ..).symm (length_replicate ..).symm (λi u v c hu hv hc=>?_) ?_
 ·rw[hu]at hv
  cases hv;rw[eq_of_mem_replicate (mem_of_getElem? hc)];obtain⟨z,_,rfl⟩:=mem_map.mp (mem_of_getElem? hu);show(if cW (V.str z)=true/\cW (V.str z)=true then some (sH (V.str z) (V.str z)) else none)=some true;rw[if_pos ⟨rfl,rfl⟩];show some (z == z)=some true;rw[beq_self_eq_true]
 ·rw[wK,show(List.replicate (zs.map V.str).length true).all id=true from all_eq_true.mpr λb hb=>eq_of_mem_replicate hb]
  exact q
theorem lO(n:Nat)(f:Nat->V):((List.range n).filter λ_=>false).map f=[]:=by simp
inductive K7(vs:List V)(H:Hp)(Q:VK):Prop
 |mk(th s t y l:Addr)(ps:List Str)(ss ts ys us:List V)(sg:List GD)(qd:List QD)(sd:List SD)(ds:List ED)(F:FH)(st:List ED)(e:vs=[.ref th,.ref l])(hth:H th=some (.tup [.ref s,.ref t,.ref y]))(hs:H s=some (.lst ss))(ht:H t=some (.lst ts))(hy:H y=some (.lst ys))(sl:ss.length<=24)(tl:ts.length<=120)
   (gs:Lz dq H ss sg)(gh:∀d∈sg,cN d.2)(qs:Lz dC H ts qd)(qk:∀d∈qd,j5 ps d)(sy:Sys H ys sd)(kal:sd.all (pI F)=true)(hl:H l=some (.lst us))(lz:Lz d4 H us st)(so:lx ds F st)(sub:∀d∈ds,d∈fg sg qd sd)(stl:st.length<=24)(k:∀H',cC H H'->Q (.bl true) H')
def zx:Sp:=λvs H Q _=>K7 vs H Q
theorem nh:cE ["_law_things_here", "_law_story", "_law_known", "_law_row"] ["_law_things_here", "_law_story"] (cB gv):={}
theorem Ea (D:Df K mg "_law_good_story" gv ["_law_things_here", "_law_story"] f fd) (T:Txt K mg kw C) (G__law_knew_so:Gd P w K mg base 1 "_law_knew_so" gX) (G__law_good_way:Gd P w K mg base 4 "_law_good_way" Ff):Gd P w K mg base 5 "_law_good_story" zx:=by
 refine aF D nh λX H vs Q E hh h=>?_;obtain⟨th,s,t,y,l,ps,ss,ts,ys,us,sg,qd,sd,ds,F,st,rfl,hth,hs,ht,hy,sl,tl,gs,gh,qs,qk,sy,kal,hl,lz,so,sub,stl,k⟩:=h;obtain⟨S0,S1,S2,S3,_⟩:=hh.d7 [0,1,2,3];have B_isinstance:=hh.b T.b_isinstance;have B_list:=hh.b T.b_list;have B_sorted:=hh.b T.b_sorted;have C__law_knew_so:=hh.c G__law_knew_so;have BI_isinstance:GH X "isinstance" :=hh.KH T.b_isinstance (by decide) (by decide);have BI_len:GH X "len" :=hh.KH T.b_len (by decide) (by decide);have BI_tuple:GH X "tuple" :=hh.KH T.b_tuple (by decide) (by decide);have CI__law_good_way:=hh.ci G__law_good_way;have hu:=eS hh.room;have hsz:sizeLine=16777216:=sizeLine_eq;have ul:=lz.1;refine⟨_,(ah (aH (aU (bg (aY (aQ (aD B_isinstance bK L2.cG (aA (aa S1) (J.ty B_list L2.dy))))) (bz (aB (J.jA hu) (bF (is:=[]) (xs:=["_law_row"]) (ns:=[]) hh.calm (aP (aa S1)) {} (λ_ _ _ _ _=>(aX (i:=0) (by decide+kernel) rfl rfl)) (λ_ _ _ _ _=>(bA (aU (bg (aY (aQ (aD (BI_isinstance.lg rfl) J.yQ L2.cG (aA (aK (i:=0) rfl rfl (by decide) (by decide)) (J.ty (BI_tuple.lg rfl) L2.i7))))) (bz (aB bU (aD (BI_len.lg rfl) J.pU L2.dD (ak (aK (i:=0) rfl rfl (by decide) (by decide)))) ae (L2.cF _))))))) (λ_ _ _ _ _=>(aK (i:=0) rfl rfl (by decide) (by decide))) hh.hsc hh.hN) (bh bJ) (L2.cF _)))))
 (ag (au a5))
 aJ)
 (ah (aE S2 hh.nd cv)
 (ah (bp hh.own hh.calm (aP (aa S1)) (aG S3 hh.nd)
 (ag (b7 hu (aa S2) (af ao (aa S3) ae aj) (af ao (aa S3) ae aj))))
 (ah (aH (aU (bg (aB (J.jA hu) (aD B_sorted (J.fJ hh.calm) L2.fR (ak (aa S2))) (bF (is:=[]) (xs:=["_law_row"]) (ns:=[]) hh.calm (aP (aa S1)) {} (λ_ _ _ _ _=>(aX (i:=0) (by decide+kernel) rfl rfl)) (λ_ _ _ _ _=>bW) (λ_ _ _ _ _=>(af bf (aK (i:=0) rfl rfl (by decide) (by decide)) ae aj)) hh.hsc hh.hN) (L2.cF _)) (bz (aY (aQ (aw C__law_knew_so (aA (af ao (aa S0) ae aj) (aa S2))))))))
 (ag (au a5))
 aJ)
 (ag (au (aR (J.jD hu) (bF (is:=[0,2]) (xs:=["_law_row"]) (ns:=["_law_things_here", "_law_known"]) hh.calm (aP (aa S1)) {} (λ_ _ _ _ _=>(aX (i:=0) (by decide+kernel) rfl rfl)) (λ_ _ _ _ _=>(bA (aY (aQ (aw (CI__law_good_way.lg rfl) (aM (a9 (i:=1) rfl rfl (by decide) (by decide)) (a9 (i:=2) rfl rfl (by decide) (by decide)) (aK (i:=0) rfl rfl (by decide) (by decide)))))))) (λ_ _ _ _ _=>(aK (i:=0) rfl rfl (by decide) (by decide))) hh.hsc hh.hN) (bh bJ) (L2.cF _)))))))),?_⟩
 refine⟨_,rfl,_,_,_,_,rfl,dQ.lst hl,kI,_,rfl,iN ⟨_,rfl,l,rfl,⟨_,cH.of hl⟩,df (xs:=us) (λ_=>false) (λ_=>.non) (cH.of hl) (by omega) ?_ ?_⟩⟩
 ·intro i os v H1 K1 K2 hv hos s1 k1 k2
  match os,hos with
  |[o],_=>
   obtain⟨d,hd,a,rfl,wa,ha,hw⟩:=lz.at hv;have ha1:=s1 _ _ ha;exact⟨⟨[some (.ref a)],rfl,rfl⟩,⟨_,rfl,_,_,_,_,rfl,dQ.tup ha1,kI,_,rfl,iN ⟨_,rfl,a,_,rfl,.inr (cU.of ha1),rfl,_,rfl,gY (show ¬(!decide (V.int 3=V.int 3))=true from by decide) (k2 rfl H1 (cC.refl _))⟩⟩⟩
 intro c1 H1 nc1 s1 hc1;rw[lO]at hc1;refine⟨zc,λc2 nc2=>?_⟩;have s2:=cC.upd (o:=.lst []) nc2;refine .same c1 c2 [] [] [] rfl rfl (cH.of (s2 _ _ hc1)) (cH.of cz) rfl rfl (λi u v c h=>by cases h) ⟨_,rfl,cR ?_⟩;have s02:=s1.trans s2;generalize upd H1 c2 (.lst [])=H2 at s02;clear hc1 s1 s2 nc1 nc2;intro kn nkn;have s3:=cC.upd (o:=.dK []) nkn;have hk3:upd H2 kn (.dK []) kn=some (.dK []):=cz;generalize upd H2 kn (.dK [])=H3 at s3 hk3;have s03:=s02.trans s3;have nkn0:H kn=none:=s02.free nkn;refine⟨_,rfl,l,rfl,⟨_,cH.of (s03 _ _ hl)⟩,dA (K:=X.K) (a:=l) (xs:=us) (λi σ H4=>∃e3:Option V,σ=[some (.ref th),some (.ref l),some (.ref kn),e3]/\cC H H4/\H4 kn=some (.dK (jJ (st.take i)))) ⟨none,rfl,s03,hk3⟩ ?_ ?_ ?_⟩
 ·rintro i σ H4 hi ⟨e3,rfl,s4,hk4⟩
  exact cH.of (s4 _ _ hl)
 ·rintro i v σ H4 hv ⟨e3,rfl,s4,hk4⟩
  obtain⟨d,hd,a,rfl,wa,ha,hw⟩:=lz.at hv;have ha4:=s4 _ _ ha;have il:=(List.getElem?_eq_some_iff.mp hd).1;have kl:(jJ (st.take i)).length < sizeLine:=by
   unfold jJ;rw[length_map,length_take];omega
  refine⟨_,rfl,xT ha4 rfl ⟨_,rfl,_,rfl,xT ha4 rfl ⟨kn,_,rfl,lT.k (k:=Sum.inr d.1) hk4 kl,_,rfl,λb o e=>?_,?_⟩⟩⟩
  ·rw[cD (cA e nkn0)]
   exact s4 _ _ e
  ·rw[cz,uH so.nd hd]
 ·rintro σ H4 ⟨e3,rfl,s4,hk4⟩
  rw[ul,take_length]at hk4;refine⟨_,rfl,kn,_,st.map (·.1),rfl,hk4,?_,by rw[length_map];omega,λl1 zs' nl1 _ pm zo=>?_⟩
  ·unfold jJ
   rw[map_map,map_map];rfl
  cases jU pm zo so.so;have s5:=cC.upd (o:=.lst ((st.map (·.1)).map V.str)) nl1;have hl1:upd H4 l1 (.lst ((st.map (·.1)).map V.str)) l1=some (.lst ((st.map (·.1)).map V.str)):=cz;generalize upd H4 l1 (.lst ((st.map (·.1)).map V.str))=H5 at s5 hl1;have s05:=s4.trans s5;refine⟨_,rfl,l,rfl,⟨_,cH.of (s05 _ _ hl)⟩,ph (λj H v=>∃d,st[j]? =some d/\v=.str d.1) (λ_ _ _ _ _ h=>h) (cH.of (s05 _ _ hl)) (by omega) ?_ ?_⟩
  ·intro i v H6 K1 hv s6 k1
   obtain⟨d,hd,a,rfl,wa,ha,hw⟩:=lz.at hv;exact⟨_,rfl,xT (s6 _ _ (s05 _ _ ha)) rfl (k1 _ _ (cC.refl _) ⟨d,hd,rfl⟩)⟩
  intro l2 ws H6 nl2 s6 hl2 wl wr;have we:ws=(st.map (·.1)).map V.str:=by
   refine List.ext_getElem? λj=>?_;rw[getElem?_map,getElem?_map];cases hw:ws[j]? with
   |none=>
    have:st.length<=j:=by rw[<-ul,<-wl];exact List.getElem?_eq_none_iff.mp hw
    rw[List.getElem?_eq_none_iff.mpr this];rfl
   |some v=>
    obtain⟨d,hd,rfl⟩:=wr j v hw;rw[hd];rfl
  rw[we]at hl2;have s06:=s05.trans s6;have hk6:=s6 _ _ (s5 _ _ hk4);refine Az (cH.of (s6 _ _ hl1)) (cH.of hl2) ⟨_,rfl,gY Bool.false_ne_true ?_⟩;refine⟨_,rfl,xT (s06 _ _ hth) rfl ⟨_,rfl,y,kn,ys,sd,jJ st,F,rfl,s06 _ _ hy,sy.mono (Tk.of s06),hk6,kU so,?_⟩⟩;rw[kal];refine⟨_,rfl,iN ?_⟩;refine⟨_,rfl,l,rfl,⟨_,cH.of (s06 _ _ hl)⟩,df (xs:=us) (λ_=>false) (λ_=>.non) (cH.of (s06 _ _ hl)) (by omega) ?_ ?_⟩
  ·intro i os v H8 K1 K2 hv hos s8 k1 k2
   match os,hos with
   |[o],_=>
    have s08:=s06.trans s8;obtain⟨d,hd,a,rfl,ev⟩:=lz.at hv;have fi:=so.fi d (mem_of_getElem? hd);have tk:=Tk.of s08;exact⟨⟨[some (.ref a)],rfl,rfl⟩,⟨_,rfl,_,rfl,_,rfl,th,s,t,y,kn,a,ps,ss,ts,ys,sg,qd,sd,jJ st,F,d,rfl,s08 _ _ hth,s08 _ _ hs,s08 _ _ ht,s08 _ _ hy,sl,tl,gs.mono (dq.mono tk),gh,qs.mono (dC.mono tk),qk,sy.mono tk,s8 _ _ hk6,kU so,ev.mono tk,sub d (List.mem_of_find?_eq_some fi.2),(zK (List.find?_some fi.2)).2.2,λH9 s9=>⟨_,rfl,iN (k2 rfl H9 s9)⟩⟩⟩
  intro c3 H8 nc3 s8 hc3;rw[lO]at hc3;refine⟨zc,λc4 nc4=>?_⟩;have s9:=cC.upd (o:=.lst []) nc4;exact .same c3 c4 [] [] [] rfl rfl (cH.of (s9 _ _ hc3)) (cH.of cz) rfl rfl (λi u v c h=>by cases h) (k _ ((s06.trans s8).trans s9))
abbrev RD:=Str×Option Int
def Kr(H:Hp)(v:V)(d:RD):Prop:=∃a:Addr,v=.ref a/\H a=some (.tup [.str d.1,oV d.2])
def iU(ps:List Str):List Str:=ps.mergeSort λa b=> !PySem.Spec.ltCps b.cps.toList a.cps.toList
theorem jh(ps:List Str):(iU ps).Perm ps:=List.mergeSort_perm ..
theorem vQ(ps:List Str):PyProof.Rows.sortedS (iU ps)=true:=by
 refine PyProof.Rows.sortedS_of_pairwise _ ((List.pairwise_mergeSort (le:=λa b=> !PySem.Spec.ltCps b.cps.toList a.cps.toList) (λa b c h1 h2=>?_) (λa b=>?_) ps).imp λ{a b} h=>?_)
 ·rw[not_eq_true']at *
  exact le_trans' h1 h2
 ·rw[Bool.or_eq_true,not_eq_true',not_eq_true',PyProof.Rows.ltCps_eq,PyProof.Rows.ltCps_eq,decide_eq_false_iff_not,decide_eq_false_iff_not,not_lt,not_lt]
  exact List.le_total _ _
 ·rw[not_eq_true']at h
  exact h
theorem og{zs ps:List Str}(h:zs.Perm ps)(s:PyProof.Rows.sortedS zs=true):zs=iU ps:=jU (h.trans (jh ps).symm) s (vQ ps)
inductive MI(vs:List V)(H:Hp)(Q:VK):Prop
 |mk(l:Addr)(us:List V)(st:List ED)(e:vs=[.ref l])(hl:H l=some (.lst us))(lz:Lz d4 H us st)(nd:(st.map (·.1)).Nodup)(sl:st.length<=24)(k:∀d H',cC H H'->H' d=some (.dK (jJ st))->Q (.ref d) H')
def Ga:Sp:=λvs H Q _=>MI vs H Q
def Jv(F:FH)(q:Str)(o:Option Int):Bool:=match F q with
 |none=>true
 |some i=>match o with
  |none=>false
  |some j=>decide (i > j)
inductive L7(vs:List V)(H:Hp)(Q:VK):Prop
 |mk(d:Addr)(q:Str)(h:Int)(kvs:List (Key×V))(F:FH)(e:vs=[.ref d,.str q,.int h])(hd:H d=some (.dK kvs))(get:∀z,dB kvs (Sum.inr z)=(F z).map V.int)(k:Q (.bl (pI F (.knew q h))) H)
def EO:Sp:=λvs H Q _=>L7 vs H Q
inductive MD(vs:List V)(H:Hp)(Q:VK):Prop
 |mk(d:Addr)(q:Str)(o:Option Int)(kvs:List (Key×V))(F:FH)(e:vs=[.ref d,.str q,oV o])(hd:H d=some (.dK kvs))(get:∀z,dB kvs (Sum.inr z)=(F z).map V.int)(k:Q (.bl (Jv F q o)) H)
def Gb:Sp:=λvs H Q _=>MD vs H Q
def jL(q:Str)(d:ED):Bool:=match d.2.2 with
 |.saw _=>false
 |.hrd _ te=>decide (te=q)
inductive Mp(vs:List V)(H:Hp)(Q:VK):Prop
 |mk(l:Addr)(us:List V)(st:List ED)(q:Str)(b e:Int)(ev:vs=[.ref l,.str q,.int b,.int e])(hl:H l=some (.lst us))(lz:Lz d4 H us st)(sl:st.length<=24)(no:∀d∈st,jL q d=true->¬(b<=d.2.1/\d.2.1<=e))(k:∀H',cC H H'->Q (.bl true) H')
def E4:Sp:=λvs H Q _=>Mp vs H Q
inductive MW(vs:List V)(H:Hp)(Q:VK):Prop
 |mk(l:Addr)(us:List V)(st:List ED)(p q:Str)(ev:vs=[.ref l,.str p,.str q])(hl:H l=some (.lst us))(lz:Lz d4 H us st)(sl:st.length<=24)(no:∀d∈st,d.1=p->jL q d=false)(k:∀H',cC H H'->Q (.bl true) H')
def EG:Sp:=λvs H Q _=>MW vs H Q
def Em(p:Str)(d:ED):Bool:=decide (d.1=p) && (match d.2.2 with|.saw _=>false|.hrd _ _=>true)
theorem wJ{H:Hp}:∀{us:List V}{st:List ED},Lz d4 H us st->∃ws:List (Addr×ED),ws.map (·.2)=st/\∀(i:Nat) v pr,us[i]? =some v->ws[i]? =some pr->∃a,v=.ref a/\H a=some (.tup [.str pr.2.1,.int pr.2.2.1,.ref pr.1])/\tS H pr.1 pr.2.2.2
 |[],[],_=>⟨[],rfl,λi v pr h=>by cases h⟩
 |[],_::_,lz=>by cases lz.1
 |_::_,[],lz=>by cases lz.1
 |u::us,d::st,lz=>by
  obtain⟨a,rfl,wa,ha,hw⟩:=lz.2 0 u d rfl rfl;obtain⟨ws,e,h⟩:=wJ (us:=us) (st:=st) ⟨Nat.succ.inj lz.1,λi v d h1 h2=>lz.2 (i+1) v d h1 h2⟩;refine⟨(wa,d)::ws,by rw[map_cons,e],λi v pr h1 h2=>?_⟩;cases i with
  |zero=>
   cases h1;cases h2;exact⟨a,rfl,ha,hw⟩
  |succ j=>exact h j v pr h1 h2
theorem any_none{bs:List Bool}(h:∀b∈bs,b=false):bs.any id=false:=by
 rw[any_eq_false];intro b hb;rw[h b hb];exact Bool.false_ne_true
theorem sZ:cE ["story", "hours", "person", "hour", "way"] ["story"] (cB jS):={}
theorem Jc (D:Df K mg "hours_in" jS ["story"] f fd):Gd P w K mg base 1 "hours_in" Ga:=by
 refine aF D sZ λX H vs Q E hh h=>?_;obtain⟨l,us,st,rfl,hl,lz,nd,sl,k⟩:=h;obtain⟨S0,S1,S2,S3,S4,_⟩:=hh.d7 [0,1,2,3,4];have hu:=eS hh.room;have hsz:sizeLine=16777216:=sizeLine_eq;refine⟨_,(ah (aE S1 hh.nd cv)
 (ah (bp hh.own hh.calm (aP (aa S0)) (bu hh.calm (aI (aG S2 hh.nd) (aI (aG S3 hh.nd) (aI (aG S4 hh.nd) bj))))
 (ag (b7 hu (aa S1) (aa S2) (aa S3))))
 (ag (au (aa S1))))),?_⟩
 intro kn nkn;have s3:=cC.upd (o:=.dK []) nkn;have hk3:upd H kn (.dK []) kn=some (.dK []):=cz;generalize upd H kn (.dK [])=H3 at s3 hk3;refine⟨_,rfl,l,rfl,⟨_,cH.of (s3 _ _ hl)⟩,dA (K:=X.K) (a:=l) (xs:=us) (λi σ H4=>∃e2 e3 e4:Option V,σ=[some (.ref l),some (.ref kn),e2,e3,e4]/\cC H H4/\H4 kn=some (.dK (jJ (st.take i)))) ⟨none,none,none,rfl,s3,hk3⟩ ?_ ?_ ?_⟩
 ·rintro i σ H4 hi ⟨e2,e3,e4,rfl,s4,hk4⟩
  exact cH.of (s4 _ _ hl)
 ·rintro i v σ H4 hv ⟨e2,e3,e4,rfl,s4,hk4⟩
  obtain⟨d,hd,a,rfl,wa,ha,hw⟩:=lz.at hv;have il:=(List.getElem?_eq_some_iff.mp hd).1;have kl:(jJ (st.take i)).length < sizeLine:=by
   unfold jJ;rw[length_map,length_take];omega
  refine⟨a,_,rfl,cU.of (s4 _ _ ha),rfl,_,_,rfl,_,_,rfl,_,_,rfl,rfl,?_⟩;refine⟨_,rfl,_,rfl,_,rfl,kn,_,rfl,lT.k (k:=Sum.inr d.1) hk4 kl,_,_,_,rfl,λb o e=>?_,?_⟩
  ·rw[cD (cA e nkn)]
   exact s4 _ _ e
  ·rw[cz,uH nd hd]
 ·rintro σ H4 ⟨e2,e3,e4,rfl,s4,hk4⟩
  rw[lz.1,take_length]at hk4;exact⟨_,rfl,k kn H4 s4 hk4⟩
theorem rR:cE ["hours", "person", "hour"] ["hours", "person", "hour"] (cB ja):={}
theorem Iv (D:Df K mg "fits_knew" ja ["hours", "person", "hour"] f fd):Gd P w K mg base 1 "fits_knew" EO:=by
 refine aF D rR λX H vs Q E hh h=>?_;obtain⟨d,q,h,kvs,F,rfl,hd,get,k⟩:=h;obtain⟨S0,S1,S2,_⟩:=hh.d7 [0,1,2];have hu:=eS hh.room;refine⟨_,(ag (au (aS (J.ox hu (aa S1) (aa S0)) (aZ (aR bH (bP hu (aa S0) (aa S1) a8) (aa S2) (L2.cF _)))))),?_⟩;have dg:=eX.k (k:=Sum.inr q) hd;rw[get]at dg;have k':Q (.bl (match F q with|none=>false|some i=>decide (i<=h))) H:=k;cases hF:F q with
 |none=>
  rw[hF]at k' dg;exact⟨_,rfl,_,rfl,d,_,rfl,dg,_,rfl,cR k'⟩
 |some i=>
  rw[hF]at k' dg;exact⟨_,rfl,_,rfl,d,_,rfl,dg,_,rfl,dv ⟨_,rfl,_,rfl,d,_,rfl,dg,_,rfl,_,_,rfl,rfl,k'⟩⟩
theorem ni:cE ["hours", "person", "hour"] ["hours", "person", "hour"] (cB gq):={}
theorem IY (D:Df K mg "fits_unheard" gq ["hours", "person", "hour"] f fd):Gd P w K mg base 1 "fits_unheard" Gb:=by
 refine aF D ni λX H vs Q E hh h=>?_;obtain⟨d,q,o,kvs,F,rfl,hd,get,k⟩:=h;obtain⟨S0,S1,S2,_⟩:=hh.d7 [0,1,2];have hu:=eS hh.room;refine⟨_,(ag (au (J.qv (J.mI hu (aa S1) (aa S0)) (aZ (aS (aR J.kW (aa S2) bC (L2.cF _)) (aZ (aR bT (bP hu (aa S0) (aa S1) a8) (aa S2) (L2.cF _)))))))),?_⟩;have dg:=eX.k (k:=Sum.inr q) hd;rw[get]at dg;unfold Jv at k;cases hF:F q with
 |none=>
  rw[hF]at k dg;exact⟨_,rfl,_,rfl,d,_,rfl,dg,_,rfl,dv k⟩
 |some i=>
  rw[hF]at k dg;cases o with
  |none=>exact⟨_,rfl,_,rfl,d,_,rfl,dg,_,rfl,cR ⟨_,rfl,rfl,_,rfl,cR k⟩⟩
  |some j=>exact⟨_,rfl,_,rfl,d,_,rfl,dg,_,rfl,cR ⟨_,rfl,rfl,_,rfl,dv ⟨_,rfl,_,rfl,d,_,rfl,dg,_,rfl,_,_,rfl,rfl,k⟩⟩⟩
theorem oH:cE ["story", "person", "begin", "end", "heard"] ["story", "person", "begin", "end"] (cB gM):={}
theorem Hr (D:Df K mg "fits_silent" gM ["story", "person", "begin", "end"] f fd) (T:Txt K mg kw C):Gd P w K mg base 1 "fits_silent" E4:=by
 refine aF D oH λX H vs Q E hh h=>?_;obtain⟨l,us,st,q,b,e,rfl,hl,lz,sl,no,k⟩:=h;obtain⟨S0,S1,S2,S3,S4,_⟩:=hh.d7 [0,1,2,3,4];have B_any:=hh.b T.b_any;have hsz:sizeLine=16777216:=sizeLine_eq;have ul:=lz.1;refine⟨_,(ah (bR (is:=[1]) (xs:=["hearer", "hour", "way"]) (ns:=["person"]) S4 hh.nd hh.calm (aP (aa S0)) {} (λ_ _ _ _ _=>(J.nO (n:=3) hh.calm (aI (aX (i:=0) (by decide+kernel) rfl rfl) (aI (aX (i:=1) (by decide+kernel) rfl rfl) (aI (aX (i:=2) (by decide+kernel) rfl rfl) bj))))) (λ_ _ _ _ _=>(bA (aU (bo (aB aL (af bf (aK (i:=2) rfl rfl (by decide) (by decide)) ae aj) aO (L2.cF _)) (bB (aB aL (af bf (aK (i:=2) rfl rfl (by decide) (by decide)) ae aj) (a9 (i:=3) rfl rfl (by decide) (by decide)) (L2.cF _))))))) (λ_ _ _ _ _=>(aK (i:=1) rfl rfl (by decide) (by decide))) hh.hsc hh.hN (by decide+kernel))
 (ag (au (J.l9 (aD B_any (J.hZ hh.calm) L2.wq (ak (bF (is:=[2,3]) (xs:=["hour"]) (ns:=["begin", "end"]) hh.calm (aP (aa S4)) {} (λ_ _ _ _ _=>(aX (i:=0) (by decide+kernel) rfl rfl)) (λ_ _ _ _ _=>bW) (λ_ _ _ _ _=>(J.ic bH bH (a9 (i:=1) rfl rfl (by decide) (by decide)) (aK (i:=0) rfl rfl (by decide) (by decide)) (a9 (i:=2) rfl rfl (by decide) (by decide)) L2.j6)) hh.hsc hh.hN))))))),?_⟩
 refine⟨_,rfl,l,rfl,⟨_,cH.of hl⟩,df (xs:=us) (iR st (jL q)) (sX st λd=>V.int d.2.1) (cH.of hl) (by omega) ?_ ?_⟩
 ·intro i os v H2 K1 K2 hv hos s2 k1 k2
  match os,hos with
  |[o1,o2,o3],_=>
   obtain⟨d,hd,a,rfl,wa,ha,hw⟩:=lz.at hv;rw[dN hd]at k1 k2;rw[gf hd]at k1;refine⟨a,_,rfl,cU.of (s2 _ _ ha),rfl,_,_,rfl,_,_,rfl,_,_,rfl,rfl,⟨[some (.str d.1),some (.int d.2.1),some (.ref wa)],rfl,rfl⟩,?_⟩;obtain⟨z,h,w⟩:=d;cases w with
   |saw i'=>exact⟨_,rfl,xT (s2 _ _ hw) rfl ⟨rfl,_,rfl,iN (cR (k2 rfl H2 (cC.refl _)))⟩⟩
   |hrd kk te=>
    refine⟨_,rfl,xT (s2 _ _ hw) rfl ⟨rfl,_,rfl,iP ⟨_,rfl,xT (s2 _ _ hw) rfl ⟨_,rfl,rfl,_,rfl,c8 (λhq=>⟨_,rfl,k1 ?_ H2 (cC.refl _)⟩) (λhq=>k2 ?_ H2 (cC.refl _))⟩⟩⟩⟩
    ·exact decide_eq_true (V.str.inj (of_decide_eq_true hq))
    ·exact decide_eq_false λe=>hq (decide_eq_true (congrArg V.str e))
 intro o H1 no1 s1 ho;rw[ul,dE]at ho;have fl:=length_filter_le (jL q) st;refine⟨_,rfl,o,rfl,⟨_,cH.of ho⟩,df (xs:=(st.filter (jL q)).map λd=>V.int d.2.1) (iR (st.filter (jL q)) λ_=>true) (sX (st.filter (jL q)) λ_=>V.bl false) (cH.of ho) (by rw[length_map];omega) ?_ ?_⟩
 ·intro i os v H2 K1 K2 hv hos s2 k1 k2
  match os,hos with
  |[o1],_=>
   rw[getElem?_map]at hv;obtain⟨d,hd,rfl⟩:=map_eq_some_iff.mp hv;rw[dN hd]at k1;rw[gf hd]at k1;obtain⟨md,mf⟩:=mem_filter.mp (mem_of_getElem? hd);have nd:=no d md mf;refine⟨⟨[some (.int d.2.1)],rfl,rfl⟩,dv (B:=K2 H2) ⟨_,rfl,_,rfl,_,_,rfl,rfl,_,rfl,c8 (λhb=>⟨_,rfl,_,_,rfl,rfl,?_⟩) (λhb=>?_)⟩⟩
   ·rw[decide_eq_false λx=>nd ⟨of_decide_eq_true hb,x⟩]
    exact k1 rfl H2 (cC.refl _)
   ·exact k1 rfl H2 (cC.refl _)
 ·intro D2 H3 hD2 s3 hd3
  rw[length_map,dE,filter_eq_self.mpr (λ_ _=>rfl)]at hd3;have e2:((st.filter (jL q)).map λ_=>V.bl false)=((st.filter (jL q)).map λ_=>false).map V.bl:=by rw[map_map];rfl
  rw[e2]at hd3;refine⟨D2,_,rfl,cH.of hd3,?_⟩;rw[any_none λb hb=>by obtain⟨_,_,rfl⟩:=mem_map.mp hb;rfl];exact⟨_,rfl,k _ (s1.trans s3)⟩
theorem o9:cE ["story", "person", "other", "ways"] ["story", "person", "other"] (cB gO):={}
theorem IB (D:Df K mg "fits_barred" gO ["story", "person", "other"] f fd) (T:Txt K mg kw C):Gd P w K mg base 1 "fits_barred" EG:=by
 refine aF D o9 λX H vs Q E hh h=>?_;obtain⟨l,us,st,p,q,rfl,hl,lz,sl,no,k⟩:=h;obtain⟨S0,S1,S2,S3,_⟩:=hh.d7 [0,1,2,3];have B_any:=hh.b T.b_any;have hsz:sizeLine=16777216:=sizeLine_eq;obtain⟨ws,we,wr⟩:=wJ lz;have ul:=lz.1;have wl:ws.length=st.length:=by rw[<-we,length_map]
 have wat:∀{i:Nat}{v:V},us[i]? =some v->∃pr,ws[i]? =some pr:=λh=>⟨_,getElem?_eq_getElem (by rw[wl,<-ul];exact(List.getElem?_eq_some_iff.mp h).1)⟩;refine⟨_,(ah (bR (is:=[1]) (xs:=["hearer", "hour", "way"]) (ns:=["person"]) S3 hh.nd hh.calm (aP (aa S0)) {} (λ_ _ _ _ _=>(J.nO (n:=3) hh.calm (aI (aX (i:=0) (by decide+kernel) rfl rfl) (aI (aX (i:=1) (by decide+kernel) rfl rfl) (aI (aX (i:=2) (by decide+kernel) rfl rfl) bj))))) (λ_ _ _ _ _=>(bA (aU (bo (aB aL (aK (i:=0) rfl rfl (by decide) (by decide)) (a9 (i:=3) rfl rfl (by decide) (by decide)) (L2.cF _)) (bB (aB aL (af bf (aK (i:=2) rfl rfl (by decide) (by decide)) ae aj) aO (L2.cF _))))))) (λ_ _ _ _ _=>(aK (i:=2) rfl rfl (by decide) (by decide))) hh.hsc hh.hN (by decide+kernel))
 (ag (au (J.l9 (aD B_any (J.hZ hh.calm) L2.wq (ak (bF (is:=[2]) (xs:=["way"]) (ns:=["other"]) hh.calm (aP (aa S3)) {} (λ_ _ _ _ _=>(aX (i:=0) (by decide+kernel) rfl rfl)) (λ_ _ _ _ _=>bW) (λ_ _ _ _ _=>(aR aL (af bf (aK (i:=0) rfl rfl (by decide) (by decide)) ae aj) (a9 (i:=1) rfl rfl (by decide) (by decide)) (L2.cF _))) hh.hsc hh.hN))))))),?_⟩
 refine⟨_,rfl,l,rfl,⟨_,cH.of hl⟩,df (xs:=us) (iR ws λpr=>Em p pr.2) (sX ws λpr=>V.ref pr.1) (cH.of hl) (by omega) ?_ ?_⟩
 ·intro i os v H2 K1 K2 hv hos s2 k1 k2
  match os,hos with
  |[o1,o2,o3],_=>
   obtain⟨⟨wa,d⟩,hpr⟩:=wat hv;obtain⟨a,rfl,ha,hw⟩:=wr i _ _ hv hpr;rw[dN hpr]at k1 k2;rw[gf hpr]at k1;refine⟨a,_,rfl,cU.of (s2 _ _ ha),rfl,_,_,rfl,_,_,rfl,_,_,rfl,rfl,⟨[some (.str d.1),some (.int d.2.1),some (.ref wa)],rfl,rfl⟩,?_⟩;obtain⟨z,h,w⟩:=d;refine⟨_,rfl,_,rfl,rfl,_,rfl,c8 (λe1=>?_) (λe1=>cR (k2 ?_ H2 (cC.refl _)))⟩
   ·have e1':z=p:=V.str.inj (of_decide_eq_true e1)
    cases w with
    |saw i'=>
     refine⟨_,rfl,xT (s2 _ _ hw) rfl ⟨rfl,_,rfl,iN (k2 ?_ H2 (cC.refl _))⟩⟩;exact Bool.and_false _
    |hrd kk te=>
     refine⟨_,rfl,xT (s2 _ _ hw) rfl ⟨rfl,_,rfl,iP ⟨_,rfl,k1 ?_ H2 (cC.refl _)⟩⟩⟩;show(decide (z=p) && true)=true;rw[decide_eq_true e1'];rfl
   ·show(decide (z=p) && _)=false
    rw[decide_eq_false λe=>e1 (decide_eq_true (congrArg V.str e))];rfl
 intro o H1 no1 s1 ho;rw[ul,<-wl,dE]at ho;have fl:=length_filter_le (λpr:Addr×ED=>Em p pr.2) ws;refine⟨_,rfl,o,rfl,⟨_,cH.of ho⟩,df (xs:=(ws.filter λpr=>Em p pr.2).map λpr=>V.ref pr.1) (iR (ws.filter λpr=>Em p pr.2) λ_=>true) (sX (ws.filter λpr=>Em p pr.2) λ_=>V.bl false) (cH.of ho) (by rw[length_map];omega) ?_ ?_⟩
 ·intro i os v H2 K1 K2 hv hos s2 k1 k2
  match os,hos with
  |[o1],_=>
   rw[getElem?_map]at hv;obtain⟨⟨wa,d⟩,hd,rfl⟩:=map_eq_some_iff.mp hv;rw[dN hd]at k1;rw[gf hd]at k1;obtain⟨md,mf⟩:=mem_filter.mp (mem_of_getElem? hd);obtain⟨j,hj⟩:=getElem?_of_mem md;obtain⟨vj,hvj⟩:∃vj,us[j]? =some vj:=⟨_,getElem?_eq_getElem (by rw[ul,<-wl];exact(List.getElem?_eq_some_iff.mp hj).1)⟩;obtain⟨a,_,_,hw⟩:=wr j _ _ hvj hj;have mst:d∈st:=by rw[<-we];exact mem_map.mpr ⟨_,md,rfl⟩
   obtain⟨z,h,w⟩:=d;cases w with
   |saw i'=>
    have mf':(decide (z=p) && false)=true:=mf;rw[Bool.and_false]at mf';cases mf'
   |hrd kk te=>
    have mf':(decide (z=p) && true)=true:=mf;rw[Bool.and_true]at mf';have nf:=no _ mst (of_decide_eq_true mf');have nf':decide (te=q)=false:=nf;refine⟨⟨[some (.ref wa)],rfl,rfl⟩,dv (B:=K2 H2) ⟨_,rfl,xT (s2 _ _ (s1 _ _ hw)) rfl ⟨_,rfl,rfl,?_⟩⟩⟩;rw[show decide (V.str te=V.str q)=false from decide_eq_false λe=>(of_decide_eq_false nf') (V.str.inj e)];exact k1 rfl H2 (cC.refl _)
 ·intro D2 H3 hD2 s3 hd3
  rw[length_map,dE,filter_eq_self.mpr (λ_ _=>rfl)]at hd3;have e2:((ws.filter λpr=>Em p pr.2).map λ_=>V.bl false)=((ws.filter λpr=>Em p pr.2).map λ_=>false).map V.bl:=by rw[map_map];rfl
  rw[e2]at hd3;refine⟨D2,_,rfl,cH.of hd3,?_⟩;rw[any_none λb hb=>by obtain⟨_,_,rfl⟩:=mem_map.mp hb;rfl];exact⟨_,rfl,k _ (s1.trans s3)⟩
theorem rV{sg:List GD}{qd:List QD}{sd:List SD}{F:FH}{ds st:List ED}{d:ED}(so:lx ds F st)(sub:∀d∈ds,d∈fg sg qd sd)(m:d∈st):gH d.2.1 (floorOf d.1 sd)=true/\∀k te,d.2.2=.hrd k te->sd.any (qO te d.2.1)=false/\sd.any (uC d.1 te)=false:=by
 have mo:=sub d (List.mem_of_find?_eq_some (so.fi d m).2);obtain⟨z,h,w⟩:=d;cases w with
 |saw i=>
  obtain⟨mi,hg⟩:=sq mo;have:=(mem_filter.mp mi).2;rw[dN hg]at this;exact⟨this,λ_ _ e=>by cases e⟩
 |hrd k te=>
  obtain⟨mt,eh⟩:=rQ mo;have:=(mem_filter.mp mt).2;unfold cX at this;rw[and_eq_true,not_eq_true',Bool.or_eq_false_iff]at this;rw[show ef qd (k,te,z).1=h from eh]at this;exact⟨this.1,λk' te' e=>by cases e;exact this.2⟩
theorem wN:∀{l:List (Option Int)},none ∉ l->∃vs:List Int,l=vs.map some
 |[],_=>⟨[],rfl⟩
 |none::_,h=>absurd mem_cons_self h
 |some v::r,h=>by
  obtain⟨vs,e⟩:=wN λm=>h (mem_cons_of_mem _ m);exact⟨v::vs,by rw[e];rfl⟩
theorem tH{h:Int}{q:Str}{o:Option Int}{sd:List SD}(ab:gH h (floorOf q sd)=true)(m:SD.unh q o∈sd):∃j,o=some j/\j < h:=by
 have mo:o∈jk q sd:=mem_map.mpr ⟨.unh q o,mem_filter.mpr ⟨m,decide_eq_true rfl⟩,rfl⟩;unfold floorOf at ab;by_cases n:none∈jk q sd
 ·rw[kP n]at ab
  cases ab
 ·obtain⟨vs,e⟩:=wN n
  obtain⟨m',e',_,le⟩:=kD vs (-1);rw[e]at mo ab;rw[e']at ab;obtain⟨j,mj,rfl⟩:=mem_map.mp mo;have:=le j (mem_cons_of_mem _ mj);have ab':m' < h:=of_decide_eq_true ab;exact⟨j,rfl,by omega⟩
theorem AB{sd:List SD}{f:SD->Bool}{d:SD}(h:sd.any f=false)(m:d∈sd):f d=false:=eq_false_iff.mpr (any_eq_false.mp h d m)
inductive MM(vs:List V)(H:Hp)(Q:VK):Prop
 |mk(l a:Addr)(us:List V)(sg:List GD)(qd:List QD)(sd:List SD)(F:FH)(ds st:List ED)(d:SD)(e:vs=[.ref l,.ref a])(hl:H l=some (.lst us))(lz:Lz d4 H us st)(so:lx ds F st)(sub:∀d∈ds,d∈fg sg qd sd)(sl:st.length<=24)(ha:H a=some (.tup d.tup))(md:d∈sd)(k:∀H',cC H H'->Q (.bl (pI F d)) H')
def Gn:Sp:=λvs H Q _=>MM vs H Q
def bx(F:FH)(sd:List SD):List Nat:=(List.range sd.length).filter (iR sd λd=> !pI F d)
theorem qZ{F:FH}{sd:List SD}(h:bx F sd=[]):sd.all (pI F)=true:=by
 rw[all_eq_true];intro d hd;obtain⟨i,hi⟩:=getElem?_of_mem hd;have:=List.filter_eq_nil_iff.mp h i (mem_range.mpr (List.getElem?_eq_some_iff.mp hi).1);rw[dN hi]at this;cases c:pI F d with
 |true=>rfl
 |false=>rw[c]at this;exact absurd rfl this
inductive MZ(C:Addr)(vs:List V)(H:Hp)(Q:VK):Prop
 |mk(x p s t y l:Addr)(ps:List Str)(ss ts ys us:List V)(sg:List GD)(qd:List QD)(sd:List SD)(F:FH)(ds st:List ED)(e:vs=[.ref x,.ref l])(bk:Bk C H x p s t y ps ss ts ys)(sy:Sys H ys sd)(l60:ys.length<=60)(hl:H l=some (.lst us))(lz:Lz d4 H us st)(so:lx ds F st)(sub:∀d∈ds,d∈fg sg qd sd)(sl:st.length<=24)
   (k:∀o H',cC H H'->H' o=some (.lst ((bx F sd).map λi=>V.int (i:Nat)))->Q (.ref o) H')
def E5(C:Addr):Sp:=λvs H Q _=>MZ C vs H Q
inductive E2(C:Addr)(vs:List V)(H:Hp)(Q:VK):Prop
 |mk(x p s t y:Addr)(ps:List Str)(ss ts ys:List V)(sg:List GD)(qd:List QD)(sd:List SD)(e:vs=[.ref x])(bk:Bk C H x p s t y ps ss ts ys)(pl:ps.length<=24)(sl:ss.length<=24)(tl:ts.length<=120)(gs:Lz dq H ss sg)(gp:∀d∈sg,d.1∈ps)(qs:Lz dC H ts qd)(qk:∀d∈qd,j5 ps d)(sy:Sys H ys sd)(l:ys.length<=60)
   (k1:∀(r l:Addr) (us:List V) (F:FH) (st:List ED) (H':Hp),cC H H'->H' r=some (.tup [.str "story",.ref l])->H l=none->H' l=some (.lst us)->Lz d4 H' us st->eW (fg sg qd sd) F->lx (fg sg qd sd) F st->st.length<=24->bx F sd=[]->Q (.ref r) H')
   (k2:∀(r l:Addr) (us:List V) (F G:FH) (n:Nat) (m:List Nat) (H':Hp),cC H H'->H' r=some (.tup [.str "paper",.ref l,.int (n:Nat)])->H l=none->H' l=some (.lst us)->Lz Kr H' us ((iU ps).map λz=>(z,G z))->eW (fg sg qd sd) F->eW (fg sg qd sd) G->bx F sd=n::m->Q (.ref r) H')
def Ln(C:Addr):Sp:=λvs H Q _=>E2 C vs H Q
theorem Ec{ds st:List ED}{F:FH}{ps:List Str}(so:lx ds F st)(fo:eW ds F)(pl:ps.length<=24)(pm:∀d∈ds,d.1∈ps):st.length<=24:=by
 have:=oz so.nd (ps:=ps) λz hz=>by
  obtain⟨h,hF⟩:=isSome_iff_exists.mp ((so.me z).mp hz);obtain⟨d,md,rfl⟩:=uE (fo.so z h hF);exact pm d md
 rw[length_map]at this;omega
theorem Ey{sg:List GD}{qd:List QD}{sd:List SD}{ps:List Str}(gp:∀d∈sg,d.1∈ps)(qk:∀d∈qd,j5 ps d):∀d∈fg sg qd sd,d.1∈ps:=λd hd=>by
 obtain⟨z,h,w⟩:=d;cases w with
 |saw i=>exact gp _ (mem_of_getElem? (sq hd).2)
 |hrd kk te=>
  obtain⟨q,hq,m1,m2⟩:=nR qk (mem_filter.mp (rQ hd).1).1;exact m2
theorem Co:cE ["story", "saying"] ["story", "saying"] (cB vh):={}
theorem IG (D:Df K mg "fits" vh ["story", "saying"] f fd) (G_hours_in:Gd P w K mg base 1 "hours_in" Ga) (G_fits_knew:Gd P w K mg base 1 "fits_knew" EO) (G_fits_unheard:Gd P w K mg base 1 "fits_unheard" Gb) (G_fits_silent:Gd P w K mg base 1 "fits_silent" E4) (G_fits_barred:Gd P w K mg base 1 "fits_barred" EG):Gd P w K mg base 2 "fits" Gn:=by
 refine aF D Co λX H vs Q E hh h=>?_;obtain⟨l,a,us,sg,qd,sd,F,ds,st,d,rfl,hl,lz,so,sub,sl,ha,md,k⟩:=h;obtain⟨S0,S1,_⟩:=hh.d7 [0,1];have C_fits_barred:=hh.c G_fits_barred;have C_fits_knew:=hh.c G_fits_knew;have C_fits_silent:=hh.c G_fits_silent;have C_fits_unheard:=hh.c G_fits_unheard;have C_hours_in:=hh.c G_hours_in;refine⟨_,(ah (aH (aB aL (af ao (aa S1) ae aj) aO (L2.cF _))
 (ag (au (aw C_fits_knew (aM (aw C_hours_in (ak (aa S0))) (af ao (aa S1) ae aj) (af ao (aa S1) ae aj)))))
 aJ)
 (ah (aH (aB aL (af ao (aa S1) ae aj) aO (L2.cF _))
 (ag (au (aw C_fits_unheard (aM (aw C_hours_in (ak (aa S0))) (af ao (aa S1) ae aj) (af ao (aa S1) ae aj)))))
 aJ)
 (ah (aH (aB aL (af ao (aa S1) ae aj) aO (L2.cF _))
 (ag (au (aw C_fits_silent (b8 (aa S0) (af ao (aa S1) ae aj) (af ao (aa S1) ae aj) (af ao (aa S1) ae aj)))))
 aJ)
 (ag (au (aw C_fits_barred (aM (aa S0) (af ao (aa S1) ae aj) (af ao (aa S1) ae aj)))))))),?_⟩
 cases d with
 |knew q h=>
  refine⟨_,rfl,xT ha rfl ⟨rfl,_,rfl,iP ⟨_,rfl,l,us,st,rfl,hl,lz,so.nd,sl,λkn H1 s1 hk=>?_⟩⟩⟩;exact⟨_,rfl,xT (s1 _ _ ha) rfl ⟨_,rfl,xT (s1 _ _ ha) rfl ⟨kn,q,h,_,F,rfl,hk,kU so,k _ s1⟩⟩⟩
 |unh q o=>
  refine⟨_,rfl,xT ha rfl ⟨rfl,_,rfl,iN ⟨_,rfl,xT ha rfl ⟨rfl,_,rfl,iP ⟨_,rfl,l,us,st,rfl,hl,lz,so.nd,sl,λkn H1 s1 hk=>?_⟩⟩⟩⟩⟩;refine⟨_,rfl,xT (s1 _ _ ha) rfl ⟨_,rfl,xT (s1 _ _ ha) rfl ⟨kn,q,o,_,F,rfl,hk,kU so,?_⟩⟩⟩;have e:Jv F q o=true:=by
   unfold Jv;cases hF:F q with
   |none=>rfl
   |some h=>
    obtain⟨d,hd,rfl⟩:=mem_map.mp ((so.me q).mpr (by rw[hF];rfl));have fi:=(so.fi d hd).1;rw[hF]at fi;cases fi;obtain⟨j,rfl,jl⟩:=tH (rV so sub hd).1 md;exact decide_eq_true jl
  rw[e];exact k _ s1
 |sil q b e=>
  refine⟨_,rfl,xT ha rfl ⟨rfl,_,rfl,iN ⟨_,rfl,xT ha rfl ⟨rfl,_,rfl,iN ⟨_,rfl,xT ha rfl ⟨rfl,_,rfl,iP ?_⟩⟩⟩⟩⟩⟩;refine⟨_,rfl,_,rfl,xT ha rfl ⟨_,rfl,xT ha rfl ⟨_,rfl,xT ha rfl ⟨l,us,st,q,b,e,rfl,hl,lz,sl,λd hd fr le=>?_,k⟩⟩⟩⟩;have op:=(rV so sub hd).2;obtain⟨z,h,w⟩:=d;cases w with
  |saw i=>exact absurd fr Bool.false_ne_true
  |hrd kk te=>
   have e1:te=q:=of_decide_eq_true fr;subst e1;have:=AB (op kk te rfl).1 md;have t:qO te h (.sil te b e)=true:=by
    show(decide (te=te) && (if b<=h then decide (h<=e) else false))=true;rw[if_pos le.1,decide_eq_true rfl,decide_eq_true le.2];rfl
   rw[t]at this;cases this
 |bar p o=>
  refine⟨_,rfl,xT ha rfl ⟨rfl,_,rfl,iN ⟨_,rfl,xT ha rfl ⟨rfl,_,rfl,iN ⟨_,rfl,xT ha rfl ⟨rfl,_,rfl,iN ?_⟩⟩⟩⟩⟩⟩;refine⟨_,rfl,_,rfl,xT ha rfl ⟨_,rfl,xT ha rfl ⟨l,us,st,p,o,rfl,hl,lz,sl,λd hd e=>?_,k⟩⟩⟩;have op:=(rV so sub hd).2;obtain⟨z,h,w⟩:=d;cases w with
  |saw i=>rfl
  |hrd kk te=>
   have e1:z=p:=e;subst e1;have:=AB (op kk te rfl).2 md;refine decide_eq_false λe2=>?_;subst e2;have t:uC z te (.bar z te)=true:=by
    show(decide (z=z) && decide (te=te))=true;rw[decide_eq_true rfl,decide_eq_true rfl];rfl
   rw[t]at this;cases this
theorem tV:cE ["book", "story"] ["book", "story"] (cB jO):={}
theorem IQ (D:Df K mg "unfitted" jO ["book", "story"] f fd) (T:Txt K mg kw C) (G_sayings:Md P w K mg base 1 C "sayings" (dk C λ_ _ _ y=>y)) (G_fits:Gd P w K mg base 2 "fits" Gn):Gd P w K mg base 3 "unfitted" (E5 C):=by
 refine aF D tV λX H vs Q E hh h=>?_;obtain⟨x,p,s,t,y,l,ps,ss,ts,ys,us,sg,qd,sd,F,ds,st,rfl,bk,sy,l60,hl,lz,so,sub,sl,k⟩:=h;obtain⟨S0,S1,_⟩:=hh.d7 [0,1];have B_enumerate:=hh.b T.b_enumerate;have CI_fits:=hh.ci G_fits;have M_sayings:=hh.met G_sayings (by decide);have hsz:sizeLine=16777216:=sizeLine_eq;refine⟨_,(ag (au (bF (is:=[1]) (xs:=["k", "saying"]) (ns:=["story"]) hh.calm (J.lD B_enumerate (ak (bM M_sayings (aa S0) rfl))) {} (λ_ _ _ _ _=>(J.nO (n:=2) hh.calm (aI (aX (i:=0) (by decide+kernel) rfl rfl) (aI (aX (i:=1) (by decide+kernel) rfl rfl) bj)))) (λ_ _ _ _ _=>(bA (aY (aQ (aw (CI_fits.lg rfl) (aA (a9 (i:=2) rfl rfl (by decide) (by decide)) (aK (i:=1) rfl rfl (by decide) (by decide)))))))) (λ_ _ _ _ _=>(aK (i:=0) rfl rfl (by decide) (by decide))) hh.hsc hh.hN))),?_⟩;obtain⟨⟨dx,hx⟩,hp,hs,ht,hy⟩:=id bk;refine⟨_,rfl,x,dx,_,rfl,hx,fZ _ _ _ _ (by decide+kernel) (by decide+kernel) (by decide+kernel) (by decide+kernel),x,p,s,t,y,ys,rfl,⟨dx,hx⟩,hy,λyl nyl=>?_⟩;have s1:=cC.upd (o:=.lst ys) nyl;have hyl:upd H yl (.lst ys) yl=some (.lst ys):=cz;generalize upd H yl (.lst ys)=H1 at s1 hyl;refine⟨yl,rfl,⟨_,cH.of hyl⟩,ue (xs:=ys) (iR sd λd=> !pI F d) (λi=>V.int (i:Nat)) (cH.of hyl) (by omega) ?_ ?_⟩
 ·intro i os v q H2 K1 K2 hv hos s3 hq k1 k2
  match os,hos with
  |[o1,o2],_=>
   obtain⟨d,a,hd,rfl,ha⟩:=sy.at hv;rw[dN hd]at k1 k2;have s4:=cC.upd (o:=.tup [.int i,.ref a]) hq;have s14:=(s1.trans s3).trans s4;refine⟨q,_,rfl,cU.of cz,rfl,_,_,rfl,_,_,rfl,rfl,⟨[_,_],rfl,rfl⟩,?_⟩;refine⟨_,rfl,_,rfl,l,a,us,sg,qd,sd,F,ds,st,d,rfl,s14 _ _ hl,lz.mono (d4.mono (Tk.of s14)),so,sub,sl,s14 _ _ ha,mem_of_getElem? hd,λH5 s5=>⟨_,rfl,c8 (λhb=>⟨_,rfl,k1 hb _ (s4.trans s5)⟩) (λhb=>k2 (eq_false_of_ne_true hb) _ (s4.trans s5))⟩⟩
 ·intro D' H' hD' s' hd'
  rw[sy.1]at hd';exact k D' H' (s1.trans s') hd'
theorem EL{ds:List ED}{G:FH}(cl:∀d∈ds,pV G d=true->∃b,b<=d.2.1/\G d.1=some b){z:Str}{h:Int}(r:v5 ds z h):∃b,b<=h/\G z=some b:=by
 induction r with
 |saw m=>exact cl _ m rfl
 |hrd m r l ih=>
  rename_i z te h h' k
  obtain⟨b,b1,b2⟩:=ih;refine cl _ m ?_;show(match G te with|none=>false|some a=>decide (a < h))=true;rw[b2];exact decide_eq_true (by omega)
theorem qW{ds ds':List ED}{F G:FH}(f:eW ds F)(g:eW ds' G)(sub:∀d∈ds,d∈ds'){z:Str}{h:Int}(e:F z=some h):∃b,b<=h/\G z=some b:=EL (λd hd=>g.cl d (sub d hd)) (f.so z h e)
theorem lp{ds:List ED}{F G:FH}(f:eW ds F)(g:eW ds G):F=G:=by
 funext z
 cases hF:F z with
 |none=>
  cases hG:G z with
  |none=>rfl
  |some b=>
   obtain⟨c,_,e⟩:=qW g f (λ_ h=>h) hG;rw[hF]at e;cases e
 |some a=>
  obtain⟨b,b1,b2⟩:=qW f g (λ_ h=>h) hF;obtain⟨c,c1,c2⟩:=qW g f (λ_ h=>h) b2;rw[hF]at c2;cases c2;rw[b2,show a=b by omega]
theorem Bw{F:FH}{sd:List SD}(h:sd.all (pI F)=true):bx F sd=[]:=List.filter_eq_nil_iff.mpr λi hi=>by
 have hd:sd[i]? =some (sd[i]'(mem_range.mp hi)):=getElem?_eq_getElem (mem_range.mp hi);rw[dN hd,all_eq_true.mp h _ (mem_of_getElem? hd)]
 decide
inductive KC(C:Addr)(vs:List V)(H:Hp)(Q:VK):Prop
 |mk(x p s t y en:Addr)(as:List Addr)(ds:List ED)(ps:List Str)(ss ts ys:List V)(sg:List GD)(qd:List QD)(sd:List SD)(e:vs=[.ref x,.ref en])(bk:Bk C H x p s t y ps ss ts ys)(sy:Sys H ys sd)(l60:ys.length<=60)(he:H en=some (.lst (as.map V.ref)))(al:as.length<=500)(ll:as.length=ds.length)(le:∀(i:Nat) a d,as[i]? =some a->ds[i]? =some d->d6 H a d)(pl:ps.length<=24)(pm:∀d∈ds,d.1∈ps)(sub:∀d∈ds,d∈fg sg qd sd)
   (k1:∀(l:Addr)(us:List V)(F:FH)(st:List ED)(H':Hp),cC H H'->H l=none->H' l=some (.lst us)->Lz d4 H' us st->eW ds F->lx ds F st->st.length<=24->bx F sd=[]->Q (.ref l) H')(k2:∀F H',cC H H'->eW ds F->bx F sd≠[]->Q .non H')
def AK(C:Addr):Sp:=λvs H Q _=>KC C vs H Q
theorem lY:cE ["book", "entries", "story"] ["book", "entries"] (cB fG):={}
theorem E9 (D:Df K mg "fitting_story" fG ["book", "entries"] f fd) (G_first_story:Gd P w K mg base 5 "first_story" Gp) (G_unfitted:Gd P w K mg base 3 "unfitted" (E5 C)):Gd P w K mg base 6 "fitting_story" (AK C):=by
 refine aF D lY λX H vs Q E hh h=>?_;obtain⟨x,p,s,t,y,en,as,ds,ps,ss,ts,ys,sg,qd,sd,rfl,bk,sy,l60,he,al,ll,le,pl,pm,sub,k1,k2⟩:=h;obtain⟨S0,S1,S2,_⟩:=hh.d7 [0,1,2];have C_first_story:=hh.c G_first_story;have C_unfitted:=hh.c G_unfitted;have hu:=eS hh.room;refine⟨_,(ah (aE S2 hh.nd (aw C_first_story (ak (aa S1))))
 (ag (au (J.HY (aB (J.jD hu) (aw C_unfitted (aA (aa S0) (aa S2))) (bh bJ) (L2.cF _)) (aa S2) bC)))),?_⟩
 refine⟨_,rfl,en,as,ds,ps,rfl,he,al,ll,le,pl,pm,λl us F st H1 s1 nl hl lz fo so=>?_⟩;have stl:=Ec so fo pl pm;refine⟨_,rfl,_,rfl,x,p,s,t,y,l,ps,ss,ts,ys,us,sg,qd,sd,F,ds,st,rfl,bk.mono s1,sy.mono (Tk.of s1),l60,hl,lz,so,sub,stl,λo H2 s2 ho=>?_⟩;refine⟨zc,λe0 ne0=>?_⟩;have s3:=cC.upd (o:=.lst []) ne0;have he0:upd H2 e0 (.lst []) e0=some (.lst []):=cz;generalize upd H2 e0 (.lst [])=H3 at s3 he0;have s23:=s2.trans s3;cases hb:bx F sd with
 |nil=>
  rw[hb]at ho;exact .same o e0 [] [] [] rfl rfl (cH.of (s3 _ _ ho)) (cH.of he0) rfl rfl (λi u v c h=>by cases h) ⟨_,rfl,dv ⟨_,rfl,k1 l us F st H3 (s1.trans s23) nl (s23 _ _ hl) (lz.mono (d4.mono (Tk.of s23))) fo so stl hb⟩⟩
 |cons n m=>
  rw[hb]at ho;exact .other o e0 _ [] rfl rfl (cH.of (s3 _ _ ho)) (cH.of he0) (λe=>by cases e) ⟨_,rfl,cR (k2 F H3 (s1.trans s23) fo (by rw[hb];exact List.cons_ne_nil _ _))⟩
theorem n8{α β:Type}:∀{as:List α}{ds:List β},as.length=ds.length->(as.zip ds).map (·.2)=ds
 |[],[],_=>rfl
 |[],_::_,h=>by cases h
 |_::_,[],h=>by cases h
 |a::as,d::ds,h=>by rw[List.zip_cons_cons,map_cons,n8 (Nat.succ.inj h)]
theorem Hh{as:List Addr}{E:List ED}(f:ED->Bool)(h:as.length=E.length):((as.zip E).filter λq=>f q.2).map (·.2)=E.filter f:=by
 have e:=filter_map (f:=Prod.snd) (p:=f) (l:=as.zip E);have e1:(as.zip E).map Prod.snd=E:=n8 h;rw[e1]at e;exact e.symm
inductive L8(vs:List V)(H:Hp)(Q:VK):Prop
 |mk (wa:Addr) (z:Str) (w:EW) (e:vs=[.ref wa,.str z]) (hw:tS H wa w) (k:Q (.bl (jL z ("",0,w))) H)
def FY:Sp:=λvs H Q _=>L8 vs H Q
inductive J8(C Ns:Addr)(vs:List V)(H:Hp)(Q:VK)(E:XK):Prop
 |mk(x p s t y:Addr)(z:Str)(ps:List Str)(ss ts ys:List V)(sg:List GD)(qd:List QD)(sd:List SD)(F0:FH)(e:vs=[.ref x,.str z])(bk:Bk C H x p s t y ps ss ts ys)(pl:ps.length<=24)(sl:ss.length<=24)(tl:ts.length<=120)(gs:Lz dq H ss sg)(gp:∀d∈sg,d.1∈ps)(qs:Lz dC H ts qd)(qk:∀d∈qd,j5 ps d)(sy:Sys H ys sd)(l:ys.length<=60)(f0:eW (fg sg qd sd) F0)
   (k1:bx F0 sd=[]->∀(l:Addr)(us:List V)(F:FH)(st:List ED)(H':Hp),cC H H'->H l=none->H' l=some (.lst us)->Lz d4 H' us st->eW ((fg sg qd sd).filter λd=> !jL z d) F->lx ((fg sg qd sd).filter λd=> !jL z d) F st->st.length<=24->bx F sd=[]->Q (.ref l) H')(k2:bx F0 sd=[]->∀(F:FH)(H':Hp),cC H H'->eW ((fg sg qd sd).filter λd=> !jL z d) F->bx F sd≠[]->Q .non H')(kE:bx F0 sd≠[]->∀H',cC H H'->E (.ref Ns) none H')
def Cy(C Ns:Addr):Sp:=λvs H Q E=>J8 C Ns vs H Q E
def zC(C Ns:Addr):Sp:=λvs H Q _=>J8 C Ns vs H Q E0
open Classical in
noncomputable def xm (E:List ED)(sd:List SD)(z:Str):Bool:=decide (∃F,eW (E.filter λd=> !jL z d) F/\bx F sd≠[])
open Classical in
theorem vf{E:List ED}{sd:List SD}{z:Str}{F:FH}(fo:eW (E.filter λd=> !jL z d) F)(hb:bx F sd=[]):xm E sd z=false:=decide_eq_false λ⟨G,g,n⟩=>n (by rw[lp g fo];exact hb)
open Classical in
theorem qF{E:List ED}{sd:List SD}{z:Str}{F:FH}(fo:eW (E.filter λd=> !jL z d) F)(hb:bx F sd≠[]):xm E sd z=true:=decide_eq_true ⟨F,fo,hb⟩
inductive Lv(C Ns:Addr)(vs:List V)(H:Hp)(Q:VK)(E:XK):Prop
 |mk(x p s t y:Addr)(ps:List Str)(ss ts ys:List V)(sg:List GD)(qd:List QD)(sd:List SD)(F0:FH)(e:vs=[.ref x])(bk:Bk C H x p s t y ps ss ts ys)(pl:ps.length<=24)(p0:1<=ps.length)(sl:ss.length<=24)(tl:ts.length<=120)(gs:Lz dq H ss sg)(gp:∀d∈sg,d.1∈ps)(qs:Lz dC H ts qd)(qk:∀d∈qd,j5 ps d)(sy:Sys H ys sd)(l:ys.length<=60)(f0:eW (fg sg qd sd) F0)
   (k:bx F0 sd=[]->∀(l:Addr)(H':Hp),cC H H'->H l=none->H' l=some (.lst (((iU ps).filter (xm (fg sg qd sd) sd)).map V.str))->Q (.ref l) H')(kE:bx F0 sd≠[]->∀H',cC H H'->E (.ref Ns) none H')
def Fw(C Ns:Addr):Sp:=λvs H Q E=>Lv C Ns vs H Q E
def DB(C Ns:Addr):Sp:=λvs H Q _=>Lv C Ns vs H Q E0
section
variable {P:Program}{w:World}{K:PySem.W.Frag}{mg:Str->Option Value}{base:Heap}{kw C Ns:Addr}
theorem lZ:cE ["way", "person"] ["way", "person"] (cB fw):={}
theorem IT {f:Addr}{fd:FuncData}(D:Df K mg "is_heard_from" fw ["way", "person"] f fd):Gd P w K mg base 1 "is_heard_from" FY:=by
 refine aF D lZ λX H vs Q E hh h=>?_;obtain⟨wa,z,w,rfl,hw,k⟩:=h;obtain⟨S0,S1,_⟩:=hh.d7 [0,1];refine⟨_,(ag (au (aS (aR aL (af ao (aa S0) ae aj) aO (L2.cF _)) (aZ (aR aL (af ao (aa S0) ae aj) (aa S1) (L2.cF _)))))),?_⟩;cases w with
 |saw i=>exact⟨_,rfl,xT hw rfl ⟨rfl,_,rfl,iN k⟩⟩
 |hrd kk te=>
  refine⟨_,rfl,xT hw rfl ⟨rfl,_,rfl,iP ⟨_,rfl,xT hw rfl ⟨_,rfl,rfl,?_⟩⟩⟩⟩;have e:decide (V.str te=V.str z)=decide (te=z):=by
   rw[Bool.eq_iff_iff,decide_eq_true_iff,decide_eq_true_iff,V.str.injEq]
  rw[e];exact k
theorem mD:cE ["book", "person", "entries"] ["book", "person"] (cB fI):={}
theorem Hl {f:Addr}{fd:FuncData}{bm:List Value}(D:Df K mg "story_without" fI ["book", "person"] f fd) (ON:iA K Ns bm) (hNs:mg "NoStory" =some (.ref Ns)) (G_open_entries:Gd P w K mg base 5 "open_entries" (Fx C)) (G_fitting_story:Gd P w K mg base 6 "fitting_story" (AK C)) (G_is_heard_from:Gd P w K mg base 1 "is_heard_from" FY):wH P w K mg base 7 "story_without" (Cy C Ns):=by
 refine J.BC D mD ON hNs rfl (by decide) (λvs H Q E h=>?_) (λX Y H vs Q E hh lift liftT rz h=>?_)
 ·obtain⟨x,p,s,t,y,z,ps,ss,ts,ys,sg,qd,sd,F0,rfl,_⟩:=h
  rfl
 ·obtain⟨x,p,s,t,y,z,ps,ss,ts,ys,sg,qd,sd,F0,rfl,bk,pl,sl,tl,gs,gp,qs,qk,sy,l60,f0,k1,k2,kE⟩:=h
  obtain⟨S0,S1,S2,_⟩:=hh.d7 [0,1,2];have C_fitting_story:=hh.c G_fitting_story;have C_open_entries:=hh.c G_open_entries;have CI_is_heard_from:=hh.ci G_is_heard_from;have hsz:sizeLine=16777216:=sizeLine_eq;refine⟨_,(ah (lift (aE S2 hh.nd (aw C_open_entries (ak (aa S0)))))
 (ah (aH (liftT (aB b5 (aw C_fitting_story (aA (aa S0) (aa S2))) bC (L2.cF _)))
 (ag (rz (ak aO) rfl))
 aJ)
 (ag (lift (au (aw C_fitting_story (aA (aa S0) (bF (is:=[1]) (xs:=["entry"]) (ns:=["person"]) hh.calm (aP (aa S2)) {} (λ_ _ _ _ _=>(aX (i:=0) (by decide+kernel) rfl rfl)) (λ_ _ _ _ _=>(bA (aY (aQ (aw (CI_is_heard_from.lg rfl) (aA (af bf (aK (i:=0) rfl rfl (by decide) (by decide)) ae aj) (a9 (i:=1) rfl rfl (by decide) (by decide)))))))) (λ_ _ _ _ _=>(aK (i:=0) rfl rfl (by decide) (by decide))) hh.hsc hh.hN)))))))),?_⟩
  refine⟨_,rfl,x,p,s,t,y,ps,ss,ts,ys,sg,qd,sd,rfl,bk,pl,sl,tl,gs,gp,qs,qk,sy,l60,λen us H1 s1 nen hen lz ul=>?_⟩;obtain⟨as,rfl,ll,le⟩:=CP lz;rw[length_map]at ul;have oin:=Ey (sd:=sd) gp qk;refine⟨_,rfl,_,rfl,x,p,s,t,y,en,as,fg sg qd sd,ps,ss,ts,ys,sg,qd,sd,rfl,bk.mono s1,sy.mono (Tk.of s1),l60,hen,by omega,ll,le,pl,oin,(λ_ h=>h),λl us F st H2 s2 nl hl lz2 fo so stl hb=>?_,λF H2 s2 fo hb=>⟨rfl,_,rfl,dv ⟨Km,kE (by rw[lp f0 fo];exact hb) _ (s1.trans s2)⟩⟩⟩;have b0:bx F0 sd=[]:=by rw[lp f0 fo];exact hb
  refine⟨rfl,_,rfl,cR ?_⟩;have s12:=s1.trans s2;have zl:(as.zip (fg sg qd sd)).length=as.length:=by rw[length_zip,ll,min_self]
  have fl2:=Hh (λd=> !jL z d) ll;have zmem:∀q∈as.zip (fg sg qd sd),d6 H1 q.1 q.2/\q.2∈fg sg qd sd:=λq hq=>by
   obtain⟨i,hi⟩:=getElem?_of_mem hq;obtain⟨h1,h2⟩:=kB hi;exact⟨le i _ _ h1 h2,mem_of_getElem? h2⟩
  refine⟨_,rfl,_,rfl,en,rfl,⟨_,cH.of (s2 _ _ hen)⟩,df (xs:=as.map V.ref) (iR (as.zip (fg sg qd sd)) λq=> !jL z q.2) (sX (as.zip (fg sg qd sd)) λq=>V.ref q.1) (cH.of (s2 _ _ hen)) (by rw[length_map];omega) ?_ ?_⟩
  ·intro i os v H3 K1 K2 hv hos s3 k1' k2'
   match os,hos with
   |[o],_=>
    rw[getElem?_map]at hv;obtain⟨a,ha,rfl⟩:=map_eq_some_iff.mp hv;obtain⟨d,hd⟩:∃d,(fg sg qd sd)[i]? =some d:=⟨_,getElem?_eq_getElem (by rw[<-ll];exact(List.getElem?_eq_some_iff.mp ha).1)⟩;obtain⟨wa,hea,hw⟩:=le i a d ha hd;rw[dN (j4 ha hd)]at k1' k2';rw[gf (j4 ha hd)]at k1';have s23:=s2.trans s3;exact⟨⟨[some (.ref a)],rfl,rfl⟩,⟨_,rfl,xT (s23 _ _ hea) rfl ⟨_,rfl,wa,z,d.2.2,rfl,hw.mono (Tk.of s23),_,rfl,c8 (λe=>⟨_,rfl,k1' e H3 (cC.refl _)⟩) (λe=>k2' (eq_false_iff.mpr e) H3 (cC.refl _))⟩⟩⟩
  intro fe H3 nfe s3 hfe;rw[length_map,<-zl,dE]at hfe;have s13:=s2.trans s3;have s03:=s1.trans s13;have lf:=length_filter_le (λq:Addr×ED=> !jL z q.2) (as.zip (fg sg qd sd));refine⟨x,p,s,t,y,fe,((as.zip (fg sg qd sd)).filter λq=> !jL z q.2).map (·.1),((as.zip (fg sg qd sd)).filter λq=> !jL z q.2).map (·.2),ps,ss,ts,ys,sg,qd,sd,rfl,bk.mono s03,sy.mono (Tk.of s03),l60,by rw[map_map];exact hfe,by rw[length_map];omega,by rw[length_map,length_map],λi a d ha hd=>?_,pl,λd hd=>?_,λd hd=>?_,λl us F st H4 s4 nl hl lz2 fo so stl hb=>?_,λF H4 s4 fo hb=>?_⟩
  ·rw[getElem?_map]at ha hd
   obtain⟨r,hr,rfl⟩:=map_eq_some_iff.mp ha;rw[hr]at hd;cases hd;exact(zmem r (mem_filter.mp (mem_of_getElem? hr)).1).1.mono (Tk.of s13)
  ·obtain⟨r,hr,rfl⟩:=mem_map.mp hd
   exact oin _ (zmem r (mem_filter.mp hr).1).2
  ·obtain⟨r,hr,rfl⟩:=mem_map.mp hd
   exact(zmem r (mem_filter.mp hr).1).2
  ·rw[fl2]at fo so
   exact k1 b0 l us F st H4 (s03.trans s4) (s03.free nl) hl lz2 fo so stl hb
  ·rw[fl2]at fo
   exact k2 b0 F H4 (s03.trans s4) fo hb
theorem y9:cE ["book"] ["book"] (cB lB):={}
theorem Jm {f:Addr}{fd:FuncData}(D:Df K mg "needed" lB ["book"] f fd) (T:Txt K mg kw C) (G_persons:Md P w K mg base 1 C "persons" (dk C λp _ _ _=>p)) (GE:wH P w K mg base 7 "story_without" (Cy C Ns)) (G_story_without:Gd P w K mg base 7 "story_without" (zC C Ns)):wH P w K mg base 8 "needed" (Fw C Ns):=by
 refine J.CB D y9 (λvs H Q E h=>?_) (λX Y H vs Q E hX hh lift th h=>?_)
 ·obtain⟨x,p,s,t,y,ps,ss,ts,ys,sg,qd,sd,F0,rfl,_⟩:=h
  rfl
 ·obtain⟨x,p,s,t,y,ps,ss,ts,ys,sg,qd,sd,F0,rfl,bk,pl,p0,sl,tl,gs,gp,qs,qk,sy,l60,f0,k,kE⟩:=h
  obtain⟨S0,_⟩:=hh.d7 [0];have B_sorted:=hh.b T.b_sorted;have CI_story_without:=hh.ci G_story_without;have M_persons:=hh.met G_persons (by decide);have hsz:sizeLine=16777216:=sizeLine_eq;by_cases b0:bx F0 sd=[]
  ·refine⟨_,(ag (lift (au (bF (is:=[0]) (xs:=["person"]) (ns:=["book"]) hh.calm (aP (aD B_sorted J.eO L2.fR (ak (bM M_persons (aa S0) rfl)))) {} (λ_ _ _ _ _=>(aX (i:=0) (by decide+kernel) rfl rfl)) (λ_ _ _ _ _=>(bA (aB b5 (aw (CI_story_without.lg rfl) (aA (a9 (i:=1) rfl rfl (by decide) (by decide)) (aK (i:=0) rfl rfl (by decide) (by decide)))) bC (L2.cF _)))) (λ_ _ _ _ _=>(aK (i:=0) rfl rfl (by decide) (by decide))) hh.hsc hh.hN)))),?_⟩
   obtain⟨⟨dx,hx⟩,hp,hs,ht,hy⟩:=id bk;refine⟨_,rfl,x,dx,_,rfl,hx,fZ _ _ _ _ (by decide+kernel) (by decide+kernel) (by decide+kernel) (by decide+kernel),x,p,s,t,y,ps.map V.str,rfl,⟨dx,hx⟩,hp,λpb npb=>?_⟩;have s3:=cC.upd (o:=.lst (ps.map V.str)) npb;have hpb:upd H pb (.lst (ps.map V.str)) pb=some (.lst (ps.map V.str)):=cz;generalize upd H pb (.lst (ps.map V.str))=H3 at s3 hpb;refine⟨pb,ps,rfl,cH.of hpb,by omega,λl1 zs nl1 pm zo=>?_⟩;cases og pm zo;have srl:(iU ps).length=ps.length:=(jh ps).length_eq;have s4:=s3.trans (cC.upd (o:=.lst ((iU ps).map V.str)) nl1);have hl1:upd H3 l1 (.lst ((iU ps).map V.str)) l1=some (.lst ((iU ps).map V.str)):=cz;generalize upd H3 l1 (.lst ((iU ps).map V.str))=H4 at s4 hl1;refine⟨l1,rfl,⟨_,cH.of hl1⟩,df (xs:=(iU ps).map V.str) (iR (iU ps) (xm (fg sg qd sd) sd)) (sX (iU ps) V.str) (cH.of hl1) (by rw[length_map];omega) ?_ ?_⟩
   ·intro i os v H5 K1 K2 hv hos s5 k1 k2
    match os,hos with
    |[o],_=>
     rw[getElem?_map]at hv;obtain⟨z,hz,rfl⟩:=map_eq_some_iff.mp hv;rw[dN hz]at k1 k2;rw[gf hz]at k1;have s45:=s4.trans s5;have tk:=Tk.of s45;refine⟨⟨[some (.str z)],rfl,rfl⟩,⟨_,rfl,_,rfl,x,p,s,t,y,z,ps,ss,ts,ys,sg,qd,sd,F0,rfl,bk.mono s45,pl,sl,tl,gs.mono (dq.mono tk),gp,qs.mono (dC.mono tk),qk,sy.mono tk,l60,f0,(λ_ l us F st H6 s6 _ _ _ fo _ _ hb=>?_),(λ_ F H6 s6 fo hb=>?_),(λnb=>absurd b0 nb)⟩⟩
     ·exact⟨rfl,_,rfl,cR (k2 (vf fo hb) H6 s6)⟩
     ·exact⟨rfl,_,rfl,dv ⟨_,rfl,k1 (qF fo hb) H6 s6⟩⟩
   ·intro D' H' hD' s' hd'
    rw[length_map,dE]at hd';exact k b0 D' H' (s4.trans s') (s4.free hD') hd'
  ·have CX:=hh.Kq GE (by first|decide|exact le_refl _) (by decide)
   clear lift;subst hX;refine⟨_,(ag (J.E8 (sc:=L2.cB lB) (N:=["book"]) (is:=[0]) (xs:=["person"]) (ns:=["book"]) th hh.calm (aP (aD B_sorted J.eO L2.fR (ak (bM M_persons (aa S0) rfl)))) {} (λ_ _ _ _ _=>(aX (i:=0) (by decide+kernel) rfl rfl)) (λ_ _ _ _ _=>(J.Ah CX (aA (a9 (i:=1) rfl rfl (by decide) (by decide)) (aK (i:=0) rfl rfl (by decide) (by decide))) rfl)) hh.hsc hh.hN)),?_⟩;obtain⟨⟨dx,hx⟩,hp,hs,ht,hy⟩:=id bk;refine⟨_,rfl,x,dx,_,rfl,hx,fZ _ _ _ _ (by decide+kernel) (by decide+kernel) (by decide+kernel) (by decide+kernel),x,p,s,t,y,ps.map V.str,rfl,⟨dx,hx⟩,hp,λpb npb=>?_⟩;have s3:=cC.upd (o:=.lst (ps.map V.str)) npb;have hpb:upd H pb (.lst (ps.map V.str)) pb=some (.lst (ps.map V.str)):=cz;generalize upd H pb (.lst (ps.map V.str))=H3 at s3 hpb;refine⟨pb,ps,rfl,cH.of hpb,by omega,λl1 zs nl1 pm zo=>?_⟩;cases og pm zo;have srl:(iU ps).length=ps.length:=(jh ps).length_eq;have s4:=s3.trans (cC.upd (o:=.lst ((iU ps).map V.str)) nl1);have hl1:upd H3 l1 (.lst ((iU ps).map V.str)) l1=some (.lst ((iU ps).map V.str)):=cz;generalize upd H3 l1 (.lst ((iU ps).map V.str))=H4 at s4 hl1;refine⟨l1,rfl,⟨_,cH.of hl1⟩,⟨λD nD=>?_⟩⟩;have s5:=cC.upd (o:=.lst []) nD;generalize upd H4 D (.lst [])=H5 at s5;have hl5:=s5 _ _ hl1;obtain⟨z0,hz0⟩:∃z0,((iU ps).map V.str)[0]? =some (V.str z0):=⟨(iU ps)[0]'(by omega),by rw[getElem?_map,getElem?_eq_getElem (by omega)];rfl⟩;refine⟨⟨_,_,cH.of hl5,hz0⟩,λos v H6 hos yy=>?_⟩;obtain⟨rfl,yy⟩:=yy;have hv:=yy _ (cH.of hl5);rw[hz0]at hv;cases hv;have s45:=s4.trans s5;have tk:=Tk.of s45
   match os,hos with
   |[o],_=>
    exact⟨⟨[some (.str z0)],rfl,rfl⟩,_,rfl,_,rfl,x,p,s,t,y,z0,ps,ss,ts,ys,sg,qd,sd,F0,rfl,bk.mono s45,pl,sl,tl,gs.mono (dq.mono tk),gp,qs.mono (dC.mono tk),qk,sy.mono tk,l60,f0,(λb=>absurd b b0),(λb=>absurd b b0),(λnb H7 s7=>kE nb H7 (s45.trans s7))⟩
end
theorem ua{sg:List GD}{qd:List QD}{ix:List Nat}{ks:List TK}{F:FH}(ik:∀i∈ix,i < sg.length)(so:uk sg F ix)(to:∀t∈ks,Jh qd F t)(rc:∀z i,F z=some i->jt sg qd ix ks z i):eW (ix.map (um sg)++ks.map (Bl qd)) F:=by
 refine⟨λd hd cf=>?_,λz h e=>?_⟩
 ·rcases mem_append.mp hd with hd|hd
  ·obtain⟨i,mi,rfl⟩:=mem_map.mp hd
   obtain⟨g,hg⟩:∃g,sg[i]? =some g:=⟨_,getElem?_eq_getElem (ik i mi)⟩;have e:um sg i=(g.1,g.2,.saw i):=by
    unfold um;rw[hg]
   rw[e];obtain⟨j,j1,j2⟩:=so i mi g hg;exact⟨j,j2,j1⟩
  ·obtain⟨t,mt,rfl⟩:=mem_map.mp hd
   have cf':(match F t.2.1 with|none=>false|some a=>decide (a < ef qd t.1))=true:=cf;cases hT:F t.2.1 with
   |none=>rw[hT]at cf';cases cf'
   |some a=>
    rw[hT]at cf';obtain⟨b,b1,b2⟩:=to t mt a hT (of_decide_eq_true cf');exact⟨b,b2,b1⟩
 ·have r:=rc z h e
  clear e
  induction r with
  |saw m e=>
   rename_i i g
   refine .saw (i:=i) (mem_append_left _ (mem_map.mpr ⟨i,m,?_⟩));unfold um;rw[e]
  |hrd m r l ih=>exact .hrd (mem_append_right _ (mem_map.mpr ⟨_,m,rfl⟩)) ih l
end K32
namespace K32
open PySem L2
variable {P:Program}{w:World}{K:PySem.W.Frag}{mg:Str->Option Value}{base:Heap}{kw C:Addr}{f:Addr}{fd:FuncData}
def lK(sd sd':List SD):Prop:=∀d,d∈sd↔d∈sd'
theorem lK.symm{sd sd':List SD}(h:lK sd sd'):lK sd' sd:=λd=>(h d).symm
theorem sI{sd sd':List SD}(h:lK sd sd')(z:Str)(o:Option Int)(m:o∈jk z sd):o∈jk z sd':=by
 obtain⟨d,hd,e⟩:=mem_map.mp m;exact mem_map.mpr ⟨d,mem_filter.mpr ⟨(h d).mp (mem_filter.mp hd).1,(mem_filter.mp hd).2⟩,e⟩
theorem tN{sd sd':List SD}(h:lK sd sd')(z:Str):floorOf z sd=floorOf z sd':=by
 unfold floorOf;by_cases n:none∈jk z sd
 ·rw[kP n,kP (sI h z _ n)]
 ·have n':none ∉ jk z sd':=λm=>n (sI h.symm z _ m)
  obtain⟨vs,e⟩:=wN n;obtain⟨vs',e'⟩:=wN n';obtain⟨m,e1,m1,u1⟩:=kD vs (-1);obtain⟨m',e2,m2,u2⟩:=kD vs' (-1);have go:∀{a b:List Int}{sa sb:List SD},lK sa sb->jk z sa=a.map some->jk z sb=b.map some->∀x∈(-1:Int)::a,x∈(-1:Int)::b:=λ{a b sa sb} hh ea eb x hx=>by
   rcases mem_cons.mp hx with rfl|hx
   ·exact .head _
   ·have:=sI hh z (some x) (by rw[ea];exact List.mem_map_of_mem hx)
    rw[eb]at this;obtain⟨y,hy,e⟩:=mem_map.mp this;cases e;exact .tail _ hy
  have a1:=u2 m (go h e e' m m1);have a2:=u1 m' (go h.symm e' e m' m2);rw[e,e',e1,e2,show m=m' by omega]
theorem any_eq{sd sd':List SD}(h:lK sd sd')(f:SD->Bool):sd.any f=sd'.any f:=by
 rw[Bool.eq_iff_iff,any_eq_true,any_eq_true];exact⟨λ⟨d,m,e⟩=>⟨d,(h d).mp m,e⟩,λ⟨d,m,e⟩=>⟨d,(h d).mpr m,e⟩⟩
theorem all_eq{sd sd':List SD}(h:lK sd sd')(f:SD->Bool):sd.all f=sd'.all f:=by
 rw[Bool.eq_iff_iff,all_eq_true,all_eq_true];exact⟨λk d m=>k d ((h d).mpr m),λk d m=>k d ((h d).mp m)⟩
theorem lR{sg:List GD}{qd:List QD}{sd sd':List SD}(h:lK sd sd'):fg sg qd sd=fg sg qd sd':=by
 have e1:eD sd=eD sd':=funext λd=>by unfold eD;rw[tN h]
 have e2:cX qd sd=cX qd sd':=funext λt=>by unfold cX;rw[tN h,any_eq h,any_eq h]
 unfold fg;rw[e1,e2]
theorem zU{F:FH}{sd:List SD}:bx F sd=[]↔sd.all (pI F)=true:=⟨qZ,Bw⟩
theorem L0{a b:Str}(e:(!decide (V.str a=V.str b))=true):a≠b:=λe2=>by
 rw[show decide (V.str a=V.str b)=true from decide_eq_true (congrArg V.str e2)]at e;cases e
theorem MK{a b:Str}(e:¬(!decide (V.str a=V.str b))=true):a=b:=Decidable.byContradiction λn=>e (by
 rw[show decide (V.str a=V.str b)=false from decide_eq_false λx=>n (V.str.inj x)];rfl)
structure GI(ps:List Str)(H:Hp)(th s t y:Addr)(ss ts ys:List V)(sg:List GD)(qd:List QD)(sd:List SD):Prop where
 hth:H th=some (.tup [.ref s,.ref t,.ref y])
 hs:H s=some (.lst ss)
 ht:H t=some (.lst ts)
 hy:H y=some (.lst ys)
 sl:ss.length<=24
 tl:ts.length<=120
 gs:Lz dq H ss sg
 gk:∀d∈sg,d.1∈ps/\cN d.2
 qs:Lz dC H ts qd
 qk:∀d∈qd,j5 ps d
 sy:Sys H ys sd
 pl:ps.length<=24
theorem GI.mono{ps:List Str}{H H':Hp}{th s t y:Addr}{ss ts ys:List V}{sg:List GD}{qd:List QD}{sd:List SD}(sm:cC H H')(T:GI ps H th s t y ss ts ys sg qd sd):GI ps H' th s t y ss ts ys sg qd sd:=
 ⟨sm _ _ T.hth,sm _ _ T.hs,sm _ _ T.ht,sm _ _ T.hy,T.sl,T.tl,T.gs.mono (dq.mono (Tk.of sm)),T.gk,T.qs.mono (dC.mono (Tk.of sm)),T.qk,T.sy.mono (Tk.of sm),T.pl⟩
theorem DX{ps:List Str}{qd:List QD}{sd:List SD}(qk:∀d∈qd,j5 ps d):∀t∈(gd 0 (gE qd)).filter (cX qd sd),t.1 < qd.length/\t.2.2∈ps:=λt ht=>by
 obtain⟨q,hq,m1,m2⟩:=nR qk (mem_filter.mp ht).1;exact⟨(List.getElem?_eq_some_iff.mp hq).1,m2⟩
theorem Ed{H:Hp}{us ts:List V}{qd:List QD}{sd:List SD}(qs:Lz dC H ts qd)(tl:ts.length<=120)(tu:us.length=((gd 0 (gE qd)).filter (cX qd sd)).length):us.length<=240:=by
 have h1:=jv (gE qd) 0;have h3:=length_filter_le (cX qd sd) (gd 0 (gE qd));have h4:=(Ci qs).1;omega
theorem _root_.L2.pN:bootBuiltins "ValueError" =some (.type "ValueError"):=by decide+kernel
structure Ld(K:PySem.W.Frag)(mg:Str->Option Value)(Kn Ns Nb Nd Nr Ny Sa Tm:Addr):Prop where
 oN:iA K Ns (.ref Kn::qh)
 oK:iA K Kn qh
 hN:mg "NoStory" =some (.ref Ns)
 hK:mg "KnewError" =some (.ref Kn)
 g_NoStory:∃u,mg "NoStory" =some u/\RelV (.ref Ns) u
 g_KnewError:∃u,mg "KnewError" =some u/\RelV (.ref Kn) u
 g_NoBook:∃u,mg "NoBook" =some u/\RelV (.ref Nb) u
 g_NoDeed:∃u,mg "NoDeed" =some u/\RelV (.ref Nd) u
 g_NoRow:∃u,mg "NoRow" =some u/\RelV (.ref Nr) u
 g_NoSaying:∃u,mg "NoSaying" =some u/\RelV (.ref Ny) u
 g_Saw:∃u,mg "Saw" =some u/\RelV (.ref Sa) u
 g_TooMuch:∃u,mg "TooMuch" =some u/\RelV (.ref Tm) u
 b_ValueError:mg "ValueError" =none
 k1:kitOne K (.ref Ns) (.ref Ns)=some true
 k2:kitOne K (.ref Ns) (.ref Kn)=some true
 k3:kitOne K (.ref Ns) (.type "ValueError")=some true
 k4:kitOne K (.ref Ns) (.ref Nb)=some false
 k5:kitOne K (.ref Ns) (.ref Nd)=some false
 k6:kitOne K (.ref Ns) (.ref Nr)=some false
 k7:kitOne K (.ref Ns) (.ref Ny)=some false
 k8:kitOne K (.ref Ns) (.ref Sa)=some false
 k9:kitOne K (.ref Ns) (.ref Tm)=some false
inductive MF(Ns:Addr)(vs:List V)(H:Hp)(Q:VK):Prop
 |mk(ea:Addr)(e:vs=[.ref ea])(h:H ea=some (.ext (Ds ea Ns)))(k:∀H',cC H H'->Q (.bl true) H')
def Ek(Ns:Addr):Sp:=λvs H Q _=>MF Ns vs H Q
section
variable {P:Program}{w:World}{K:PySem.W.Frag}{mg:Str->Option Value}{base:Heap}{kw C Kn Ns Nb Nd Nr Ny Sa Tm:Addr}
theorem pR:cE ["_law_error", "_law_some"] ["_law_error"] (cB iw):={}
theorem Ih {f:Addr}{fd:FuncData}(D:Df K mg "_law_no_story" iw ["_law_error"] f fd) (T:Txt K mg kw C) (CL:Ld K mg Kn Ns Nb Nd Nr Ny Sa Tm):Gd P w K mg base 1 "_law_no_story" (Ek Ns):=by
 refine aF D pR λX H vs Q E hh h=>?_;obtain⟨ea,rfl,he,k⟩:=h;obtain⟨S0,S1,_⟩:=hh.d7 [0,1];have B_ValueError:Bt X "ValueError" :=hh.bt CL.b_ValueError rfl (by decide) (by decide);have B_isinstance:=hh.b T.b_isinstance;have g_KnewError:∀{p:Pos},J.JE X (.Name "KnewError" p) (L2.tC (.ref Kn)):=bD hh CL.g_KnewError rfl (by decide);have g_NoBook:∀{p:Pos},J.JE X (.Name "NoBook" p) (L2.tC (.ref Nb)):=bD hh CL.g_NoBook rfl (by decide);have g_NoDeed:∀{p:Pos},J.JE X (.Name "NoDeed" p) (L2.tC (.ref Nd)):=bD hh CL.g_NoDeed rfl (by decide);have g_NoRow:∀{p:Pos},J.JE X (.Name "NoRow" p) (L2.tC (.ref Nr)):=bD hh CL.g_NoRow rfl (by decide);have g_NoSaying:∀{p:Pos},J.JE X (.Name "NoSaying" p) (L2.tC (.ref Ny)):=bD hh CL.g_NoSaying rfl (by decide);have g_NoStory:∀{p:Pos},J.JE X (.Name "NoStory" p) (L2.tC (.ref Ns)):=bD hh CL.g_NoStory rfl (by decide);have g_Saw:∀{p:Pos},J.JE X (.Name "Saw" p) (L2.tC (.ref Sa)):=bD hh CL.g_Saw rfl (by decide);have g_TooMuch:∀{p:Pos},J.JE X (.Name "TooMuch" p) (L2.tC (.ref Tm)):=bD hh CL.g_TooMuch rfl (by decide);obtain rfl:=hh.fK;refine⟨_,(ah (aH (aU (bg (aY (aQ (aD B_isinstance bQ L2.cG (aA (aa S0) g_NoStory)))) (bg (aY (aQ (aD B_isinstance bQ L2.cG (aA (aa S0) g_KnewError)))) (bz (aY (aQ (aD B_isinstance bQ L2.cG (aA (aa S0) (J.ty B_ValueError L2.pN)))))))))
 (ag (au a5))
 aJ)
 (ah (aE S1 hh.nd (bh (aM (aD B_isinstance bQ L2.cG (aA (aa S0) g_NoBook)) (aD B_isinstance bQ L2.cG (aA (aa S0) g_NoDeed)) (aD B_isinstance bQ L2.cG (aA (aa S0) g_NoRow)))))
 (ag (au (aR J.fN a5 (az J.qS (aa S1) (bh (aM (aD B_isinstance bQ L2.cG (aA (aa S0) g_NoSaying)) (aD B_isinstance bQ L2.cG (aA (aa S0) g_Saw)) (aD B_isinstance bQ L2.cG (aA (aa S0) g_TooMuch))))) (by with_unfolding_all rfl)))))),?_⟩
 refine⟨_,rfl,.own ea Ns Kn Ns true rfl he CL.oN CL.oK CL.k1 ⟨_,rfl,cR ⟨_,rfl,.own ea Ns Kn Kn true rfl he CL.oN CL.oK CL.k2 ⟨_,rfl,cR ⟨_,rfl,.ty ea Ns Kn "ValueError" true rfl he CL.oN CL.oK CL.k3 ⟨_,rfl,cR ?_⟩⟩⟩⟩⟩⟩;refine⟨_,rfl,.own ea Ns Kn Nb false rfl he CL.oN CL.oK CL.k4 ⟨_,rfl,.own ea Ns Kn Nd false rfl he CL.oN CL.oK CL.k5 ⟨_,rfl,.own ea Ns Kn Nr false rfl he CL.oN CL.oK CL.k6 ⟨m7,λl1 nl1=>?_⟩⟩⟩⟩;have s1:=cC.upd (o:=.lst [V.bl false,V.bl false,V.bl false]) nl1;have h1:upd H l1 (.lst [V.bl false,V.bl false,V.bl false]) l1=some (.lst [V.bl false,V.bl false,V.bl false]):=cz;generalize upd H l1 (.lst [V.bl false,V.bl false,V.bl false])=H1 at s1 h1;have he1:=s1 _ _ he;refine⟨_,rfl,_,rfl,.own ea Ns Kn Ny false rfl he1 CL.oN CL.oK CL.k7 ⟨_,rfl,.own ea Ns Kn Sa false rfl he1 CL.oN CL.oK CL.k8 ⟨_,rfl,.own ea Ns Kn Tm false rfl he1 CL.oN CL.oK CL.k9 ⟨m7,λl2 nl2=>?_⟩⟩⟩⟩;have s2:=cC.upd (o:=.lst [V.bl false,V.bl false,V.bl false]) nl2;have h2:upd H1 l2 (.lst [V.bl false,V.bl false,V.bl false]) l2=some (.lst [V.bl false,V.bl false,V.bl false]):=cz;generalize upd H1 l2 (.lst [V.bl false,V.bl false,V.bl false])=H2 at s2 h2;refine⟨l1,l2,_,_,rfl,rfl,cH.of (s2 _ _ h1),cH.of h2,by show 3+3<=sizeLine;decide,λl3 nl3=>?_⟩;exact⟨l3,_,rfl,.inl (cH.of cz),rfl,rfl,k _ ((s1.trans s2).trans (cC.upd nl3))⟩
end
theorem Cp{ds st st':List ED}{F:FH}(a:lx ds F st)(b:lx ds F st'):st=st':=by
 have pm:(st.map (·.1)).Perm (st'.map (·.1)):=(List.perm_ext_iff_of_nodup a.nd b.nd).mpr λz=>(a.me z).trans (b.me z).symm;have e:st.map (·.1)=st'.map (·.1):=(og (ps:=st'.map (·.1)) pm a.so).trans (og (List.Perm.refl _) b.so).symm;have len:st.length=st'.length:=by
  have:=congrArg List.length e
  rwa [length_map,length_map]at this
 refine List.ext_getElem len λi h1 h2=>?_;have ei:st[i].1=st'[i].1:=by
  have:=List.getElem_of_eq e (by rw[length_map];exact h1:i < (st.map (·.1)).length)
  rwa [List.getElem_map,List.getElem_map]at this
 have fa:=a.fi _ (getElem_mem h1);have fb:=b.fi _ (getElem_mem h2);rw[ei]at fa;have eh:st[i].2.1=st'[i].2.1:=by
  have:=fa.1.symm.trans fb.1;exact Option.some.inj this
 rw[eh]at fa;exact Option.some.inj (fa.2.symm.trans fb.2)
theorem Ab{K:PySem.W.Frag}{H:Hp}{l m:Addr}{us ws:List V}{st:List ED}{Q:Prop}(hl:H l=some (.lst us))(hm:H m=some (.lst ws))(lz:Lz d4 H us st)(lw:Lz d4 H ws st)(q:Q):sf K (.ref l) (.ref m) H Q:=by
 refine⟨l,m,us,ws,rfl,rfl,cH.of hl,cH.of hm,lz.1.trans lw.1.symm,λi u v hu hv=>?_,q⟩;obtain⟨d,hd,a,rfl,wa,ha,hw⟩:=lz.at hu;obtain⟨d',hd',b,rfl,wb,hb,hx⟩:=lw.at hv;rw[hd]at hd';cases hd';refine⟨a,b,_,_,rfl,rfl,cU.of ha,cU.of hb,rfl,λj z y hz hy=>?_⟩
 match j with
 |0=>
  cases hz;cases hy;exact .flat rfl (by show some (d.1 == d.1)=some true;rw[beq_self_eq_true])
 |1=>
  cases hz;cases hy;exact .flat rfl (by show some (d.2.1 == d.2.1)=some true;rw[beq_self_eq_true])
 |2=>
  cases hz;cases hy;obtain⟨z,h,w⟩:=d;cases w with
  |saw i'=>
   refine .tup wa wb _ rfl rfl (cU.of hw) (cU.of hx) λx hx=>?_;rcases mem_cons.mp hx with rfl|hx
   ·rfl
   ·rcases mem_cons.mp hx with rfl|hx
    ·show some ((i':Int) == (i':Int))=some true
     rw[beq_self_eq_true]
    ·cases hx
  |hrd kk te=>
   refine .tup wa wb _ rfl rfl (cU.of hw) (cU.of hx) λx hx=>?_;rcases mem_cons.mp hx with rfl|hx
   ·rfl
   ·rcases mem_cons.mp hx with rfl|hx
    ·show some ((kk:Int) == (kk:Int))=some true
     rw[beq_self_eq_true]
    ·rcases mem_cons.mp hx with rfl|hx
     ·show some (te == te)=some true
      rw[beq_self_eq_true]
     ·cases hx
 |j+3=>cases hz
theorem zO{H:Hp}{ps:List Str}{ys:List V}{sd:List SD}(sy:Sys H ys sd)(sk:∀v∈ys,eK ps H v)(ne:ys≠[])(l:ys.length<=60):∃sd',Sys H (((List.replicate 60 ys).flatten).take 60) sd'/\lK sd sd'/\(∀v∈((List.replicate 60 ys).flatten).take 60,eK ps H v):=by
 have rl:∀{α β:Type}(k:Nat) (a:List α) (b:List β),a.length=b.length->(List.replicate k a).flatten.length=(List.replicate k b).flatten.length:=λk a b h=>by rw[len_rep,len_rep,h]
 refine⟨((List.replicate 60 sd).flatten).take 60,⟨by rw[length_take,length_take,rl 60 ys sd sy.1],?_⟩,λd=>⟨λhd=>?_,λhd=>?_⟩,λv hv=>?_⟩
 ·have key:∀k (i:Nat) v d,(List.replicate k ys).flatten[i]? =some v->(List.replicate k sd).flatten[i]? =some d->t6 H v d:=λk=>by
   induction k with
   |zero=>intro i v d h;cases h
   |succ k ih=>
    intro i v d h1 h2;rw[replicate_succ,flatten_cons]at h1 h2;by_cases hi:i < ys.length
    ·rw[getElem?_append_left hi]at h1
     rw[getElem?_append_left (by rw[<-sy.1];exact hi)]at h2;exact sy.2 i v d h1 h2
    ·rw[getElem?_append_right (Nat.le_of_not_lt hi)]at h1
     rw[getElem?_append_right (by rw[<-sy.1];exact Nat.le_of_not_lt hi),<-sy.1]at h2;exact ih _ v d h1 h2
  intro i v d h1 h2;have i60:i < 60:=by
   have:=(List.getElem?_eq_some_iff.mp h1).1;rw[length_take]at this;omega
  rw[getElem?_take_of_lt i60]at h1 h2;exact key 60 i v d h1 h2
 ·obtain⟨i,hi⟩:=getElem?_of_mem hd
  have il:=(List.getElem?_eq_some_iff.mp hi).1;refine mem_of_getElem? (i:=i) ?_;rw[getElem?_take_of_lt (by have:=sy.1;omega),show(60:Nat)=59+1 from rfl,replicate_succ,flatten_cons,getElem?_append_left il];exact hi
 ·obtain⟨x,hx,hd'⟩:=List.mem_flatten.mp (mem_of_mem_take hd)
  rw[eq_of_mem_replicate hx]at hd';exact hd'
 ·obtain⟨x,hx,hd'⟩:=List.mem_flatten.mp (mem_of_mem_take hv)
  rw[eq_of_mem_replicate hx]at hd';exact sk v hd'
theorem Fv{i:Nat}{v:V}{tc:TT}{u t2:TS}{D:Ends}{σ:St}{H:Hp}(R:St->Hp->Prop)(hR:∀σ' H',R σ' H'->t2 D σ' H')(h:(∀σ' H',R σ' H'->t2 D σ' H')->rY tc u oi { D with nx:=t2 D } (σ.set i (some v)) H):eQ i v σ H (λσ2 H2=>vR (rY tc u oi) t2 D σ2 H2):=h hR
theorem wU{K:PySem.W.Frag}{C:Addr}{bm:List Value}(q:ownIn K C bm=true):iA K C bm:=by
 unfold ownIn at q;split at q
 ·rename_i dd cd sl ho
  split at q
  ·rename_i C' bm' k0 k1 k2 k3 n k5 hm hs
   simp only[and_eq_true,beq_iff_eq,not_eq_true']at q;obtain⟨⟨⟨⟨⟨⟨rfl,rfl⟩,hdel⟩,rfl⟩,hok⟩,hni⟩,ht⟩:=q;obtain⟨nm,bs,mro,ns,qn,hd,sn,sub,ab,col,del⟩:=cd;dsimp only at hm hdel hok hni;subst hm hdel;have hsl:sl= #[k0,k1,k2,k3,some (.builtin "ValueError.__new__"),k5]:=by
    obtain⟨l⟩:=sl;simp only at hs;rw[hs]
   subst hsl;exact⟨nm,qn,ns,bs,hd,sn,sub,ab,col,dd,k0,k1,k2,k3,k5,ho,hok,(λx hx=>beq_iff_eq.mp (all_eq_true.mp hni x hx)),ht⟩
  ·cases q
 ·cases q
theorem IE{α β:Type}{as:List α}{E:List β}(f:β->Bool)(h:as.length=E.length):((as.zip E).filter λq=>f q.2).map (·.2)=E.filter f:=by
 have e:=filter_map (f:=Prod.snd) (p:=f) (l:=as.zip E);have e1:(as.zip E).map Prod.snd=E:=n8 h;rw[e1]at e;exact e.symm
theorem FA(z:Str)(sg:List GD)(i:Nat):jL z (um sg i)=false:=by
 unfold um;cases sg[i]?<;>rfl
theorem En(sg:List GD)(qd:List QD)(sd:List SD)(z:Str):((List.range sg.length).filter (iR sg (eD sd))).map (um sg)++(((gd 0 (gE qd)).filter (cX qd sd)).filter λt=> !decide (t.2.1=z)).map (Bl qd)=(fg sg qd sd).filter λd=> !jL z d:=by
 unfold fg;rw[filter_append,filter_map,filter_map];have e1:((List.range sg.length).filter (iR sg (eD sd))).filter ((λd=> !jL z d) ∘ um sg)=(List.range sg.length).filter (iR sg (eD sd)):=filter_eq_self.mpr λi _=>by
  show(!jL z (um sg i))=true;rw[FA];rfl
 rw[e1];rfl
inductive Kl(vs:List V)(H:Hp)(Q:VK):Prop
 |mk(th s t y:Addr)(z:Str)(ps:List Str)(ss ts ys:List V)(sg:List GD)(qd:List QD)(sd:List SD)(e:vs=[.ref th,.str z])(T:GI ps H th s t y ss ts ys sg qd sd)
   (k:∀(F:FH)(H':Hp),cC H H'->eW ((fg sg qd sd).filter λd=> !jL z d) F->Q (.bl (!sd.all (pI F))) H')
def Fy:Sp:=λvs H Q _=>Kl vs H Q
theorem o6:cE ["_law_things_here", "_law_person", "_law_numbers", "_law_tellings_here", "_law_some"] ["_law_things_here", "_law_person"] (cB gG):={}
theorem HK (D:Df K mg "_law_is_needed" gG ["_law_things_here", "_law_person"] f fd) (G__law_open:Gd P w K mg base 3 "_law_open" jx) (G__law_hours:Gd P w K mg base 1 "_law_hours" sO) (G__law_knew_so:Gd P w K mg base 1 "_law_knew_so" gX):Gd P w K mg base 4 "_law_is_needed" Fy:=by
 refine aF D o6 λX H vs Q E hh h=>?_;obtain⟨th,s,t,y,z,ps,ss,ts,ys,sg,qd,sd,rfl,T,k⟩:=h;obtain⟨S0,S1,S2,S3,S4,_⟩:=hh.d7 [0,1,2,3,4];have C__law_hours:=hh.c G__law_hours;have C__law_knew_so:=hh.c G__law_knew_so;have C__law_open:=hh.c G__law_open;have hsz:sizeLine=16777216:=sizeLine_eq;refine⟨_,(ah (bN (aw C__law_open (ak (aa S0))) (bu hh.calm (aI (aG S2 hh.nd) (aI (aG S3 hh.nd) bj))))
 (ah (bR (is:=[1]) (xs:=["_law_telling"]) (ns:=["_law_person"]) S4 hh.nd hh.calm (aP (aa S3)) {} (λ_ _ _ _ _=>(aX (i:=0) (by decide+kernel) rfl rfl)) (λ_ _ _ _ _=>(bA (aB bU (af bf (aK (i:=0) rfl rfl (by decide) (by decide)) ae aj) (a9 (i:=1) rfl rfl (by decide) (by decide)) (L2.cF _)))) (λ_ _ _ _ _=>(aK (i:=0) rfl rfl (by decide) (by decide))) hh.hsc hh.hN (by decide+kernel))
 (ag (au (J.l9 (aw C__law_knew_so (aA (af ao (aa S0) ae aj) (aw C__law_hours (aM (aa S0) (aa S2) (aa S4)))))))))),?_⟩
 refine⟨_,rfl,th,s,t,y,ps,ss,ts,ys,sg,qd,sd,rfl,T.hth,T.hs,T.ht,T.hy,T.sl,T.tl,T.gs,(λd hd=>(T.gk d hd).2),T.qs,T.qk,T.sy,λr nl tl us H1 s1 nr nnl ntl hr hnl htl tu=>?_⟩;have T1:=T.mono s1;refine⟨r,_,rfl,cU.of hr,rfl,_,_,rfl,_,_,rfl,rfl,?_⟩;have ul:=Ed T.qs T.tl tu.1;obtain⟨as,rfl⟩:=qI (us:=us) λv hv=>by
  obtain⟨i,hi⟩:=getElem?_of_mem hv;obtain⟨tk,htk⟩:∃tk,((gd 0 (gE qd)).filter (cX qd sd))[i]? =some tk:=⟨_,getElem?_eq_getElem (by rw[<-tu.1];exact(List.getElem?_eq_some_iff.mp hi).1)⟩;obtain⟨a,e,_⟩:=tu.2 i v tk hi htk;exact⟨a,e⟩
 have oe:=En sg qd sd z;have kin:=DX (sd:=sd) T.qk;generalize (gd 0 (gE qd)).filter (cX qd sd)=ks at tu oe kin;have al:as.length=ks.length:=by have:=tu.1;rwa [length_map]at this
 rw[length_map]at ul;have zl:(as.zip ks).length=as.length:=by rw[length_zip,al,min_self]
 have zat:∀(i:Nat) q,(as.zip ks)[i]? =some q->(as.map V.ref)[i]? =some (.ref q.1)/\ks[i]? =some q.2/\H1 q.1=some (.tup [.int q.2.1,.str q.2.2.1,.str q.2.2.2]):=λi q hq=>by
  obtain⟨h1,h2⟩:=kB hq;have h3:(as.map V.ref)[i]? =some (.ref q.1):=by rw[getElem?_map,h1];rfl
  obtain⟨a,e,ha⟩:=tu.2 i _ q.2 h3 h2;cases e;exact⟨h3,h2,ha⟩
 refine⟨_,rfl,tl,rfl,⟨_,cH.of htl⟩,df (xs:=as.map V.ref) (iR (as.zip ks) λq=> !decide (q.2.2.1=z)) (sX (as.zip ks) λq=>V.ref q.1) (cH.of htl) (by rw[length_map];omega) ?_ ?_⟩
 ·intro i os v H2 K1 K2 hv hos s2 k1 k2
  match os,hos with
  |[o],_=>
   obtain⟨q,hq⟩:∃q,(as.zip ks)[i]? =some q:=⟨_,getElem?_eq_getElem (by have:=(List.getElem?_eq_some_iff.mp hv).1;rw[length_map]at this;omega)⟩;obtain⟨h3,_,ha⟩:=zat i q hq;rw[h3]at hv;cases hv;rw[dN hq]at k1 k2;rw[gf hq]at k1;exact⟨⟨[some (.ref q.1)],rfl,rfl⟩,⟨_,rfl,xT (s2 _ _ ha) rfl ⟨_,rfl,rfl,_,rfl,c8 (λe=>⟨_,rfl,k1 (by rw[decide_eq_false (L0 e)];rfl) H2 (cC.refl _)⟩) (λe=>k2 (by rw[decide_eq_true (MK e)];rfl) H2 (cC.refl _))⟩⟩⟩
 intro so H2 nso s2 hso;rw[length_map,<-zl,dE]at hso;have T2:=T1.mono s2;have tuF:eR H2 (((as.zip ks).filter λq=> !decide (q.2.2.1=z)).map λq=>V.ref q.1) (ks.filter λt=> !decide (t.2.1=z)):=by
  rw[<-IE (λt:TK=> !decide (t.2.1=z)) al];refine⟨by rw[length_map,length_map],λi u t hu ht=>?_⟩;rw[getElem?_map]at hu ht;obtain⟨q,hq,rfl⟩:=map_eq_some_iff.mp hu;rw[hq]at ht;cases ht;obtain⟨j,hj⟩:=getElem?_of_mem (mem_filter.mp (mem_of_getElem? hq)).1;exact⟨q.1,rfl,s2 _ _ (zat j q hj).2.2⟩
 have ikk:∀i∈(List.range sg.length).filter (iR sg (eD sd)),i < sg.length:=λi hi=>mem_range.mp (mem_filter.mp hi).1;refine⟨_,rfl,xT T2.hth rfl ⟨_,rfl,_,rfl,_,rfl,th,nl,so,s,t,y,ps,ss,ts,_,sg,qd,_,_,rfl,T2.hth,T2.hs,T2.ht,s2 _ _ hnl,hso,T2.gs,T.gk,T2.qs,(λd hd=>(T.qk d hd).1),tuF,(λt ht=>kin t (mem_filter.mp ht).1),ikk,T.pl,λd kvs F H' s' _ hd' hr' so' to'=>?_⟩⟩;have T3:=T2.mono s';have fe:=ua ikk so' to' hr'.rc;rw[oe]at fe;exact⟨y,d,ys,sd,kvs,F,rfl,T3.hy,T3.sy,hd',hr'.get,_,rfl,k F H' ((s1.trans s2).trans s') fe⟩
inductive Me(vs:List V)(H:Hp)(Q:VK):Prop
 |mk(th s t y l:Addr)(z:Str)(ps:List Str)(ss ts ys us:List V)(sg:List GD)(qd:List QD)(sd:List SD)(ds:List ED)(F:FH)(st:List ED)(e:vs=[.ref th,.str z,.ref l])(T:GI ps H th s t y ss ts ys sg qd sd)(hl:H l=some (.lst us))(lz:Lz d4 H us st)(sub:∀d∈ds,d∈fg sg qd sd)(so:lx ds F st)(stl:st.length<=24)(kal:sd.all (pI F)=true)(nf:∀d∈st,jL z d=false)
   (k:∀H',cC H H'->Q (.bl true) H')
def Fi:Sp:=λvs H Q _=>Me vs H Q
theorem lA:cE ["_law_things_here", "_law_person", "_law_story"] ["_law_things_here", "_law_person", "_law_story"] (cB eV):={}
theorem Hm (D:Df K mg "_law_without_well" eV ["_law_things_here", "_law_person", "_law_story"] f fd) (T':Txt K mg kw C) (G__law_good_story:Gd P w K mg base 5 "_law_good_story" zx):Gd P w K mg base 6 "_law_without_well" Fi:=by
 refine aF D lA λX H vs Q E hh h=>?_;obtain⟨th,s,t,y,l,z,ps,ss,ts,ys,us,sg,qd,sd,ds,F,st,rfl,Th,hl,lz,sub,so,stl,kal,nf,k⟩:=h;have T:=T';obtain⟨S0,S1,S2,_⟩:=hh.d7 [0,1,2];have C__law_good_story:=hh.c G__law_good_story;have hu:=eS hh.room;have hsz:sizeLine=16777216:=sizeLine_eq;have ul:=lz.1;refine⟨_,(ah (aH (aY (aQ (aw C__law_good_story (aA (aa S0) (aa S2)))))
 (ag (au a5))
 aJ)
 (ag (au (aR (J.jD hu) (bF (is:=[1]) (xs:=["_law_row"]) (ns:=["_law_person"]) hh.calm (aP (aa S2)) {} (λ_ _ _ _ _=>(aX (i:=0) (by decide+kernel) rfl rfl)) (λ_ _ _ _ _=>(bA (aU (bo (aB aL (af bf (af bf (aK (i:=0) rfl rfl (by decide) (by decide)) ae aj) ae aj) aO (L2.cF _)) (bB (aB aL (af bf (af bf (aK (i:=0) rfl rfl (by decide) (by decide)) ae aj) ae aj) (a9 (i:=1) rfl rfl (by decide) (by decide)) (L2.cF _))))))) (λ_ _ _ _ _=>(aK (i:=0) rfl rfl (by decide) (by decide))) hh.hsc hh.hN) (bh bJ) (L2.cF _))))),?_⟩
 refine⟨_,rfl,_,rfl,th,s,t,y,l,ps,ss,ts,ys,us,sg,qd,sd,ds,F,st,rfl,Th.hth,Th.hs,Th.ht,Th.hy,Th.sl,Th.tl,Th.gs,(λd hd=>(Th.gk d hd).2),Th.qs,Th.qk,Th.sy,kal,hl,lz,so,sub,stl,λH1 s1=>⟨_,rfl,cR ?_⟩⟩;have hl1:=s1 _ _ hl;have lz1:=lz.mono (d4.mono (Tk.of s1));refine⟨_,rfl,l,rfl,⟨_,cH.of hl1⟩,df (xs:=us) (λ_=>false) (λ_=>.non) (cH.of hl1) (by omega) ?_ ?_⟩
 ·intro i os v H3 K1 K2 hv hos s3 k1 k2
  match os,hos with
  |[o1],_=>
   obtain⟨d,hd,a,rfl,wa,ha,hw⟩:=lz1.at hv;have ha3:=s3 _ _ ha;have nd:=nf d (mem_of_getElem? hd);obtain⟨zz,h,w⟩:=d;cases w with
   |saw i'=>
    have hw3:=s3 _ _ (show H1 wa=_ from hw);exact⟨⟨[some (.ref a)],rfl,rfl⟩,⟨_,rfl,xT ha3 rfl (xT hw3 rfl ⟨rfl,_,rfl,iN (k2 rfl H3 (cC.refl _))⟩)⟩⟩
   |hrd kk te=>
    have hw3:=s3 _ _ (show H1 wa=_ from hw);exact⟨⟨[some (.ref a)],rfl,rfl⟩,⟨_,rfl,xT ha3 rfl (xT hw3 rfl ⟨rfl,_,rfl,iP ⟨_,rfl,xT ha3 rfl (xT hw3 rfl ⟨_,rfl,rfl,_,rfl,gY (λe=>of_decide_eq_false nd (V.str.inj (of_decide_eq_true e))) (k2 rfl H3 (cC.refl _))⟩)⟩⟩)⟩⟩
 intro o H3 no3 s3 ho;rw[lO]at ho;refine⟨zc,λe0 ne0=>?_⟩;have s4:=cC.upd (o:=.lst []) ne0;exact .same o e0 [] [] [] rfl rfl (cH.of (s4 _ _ ho)) (cH.of cz) rfl rfl (λi u v c h=>nomatch h) (k _ ((s1.trans s3).trans s4))
inductive LG(C:Addr)(vs:List V)(H:Hp)(Q:VK):Prop
 |mk(x p s t y:Addr)(v:V)(ps:List Str)(ss ts ys:List V)(sg:List GD)(qd:List QD)(sd:List SD)(F0:FH)(e:vs=[.ref x,v])(hv:v=.non\/∃z,v=.str z)(bk:Bk C H x p s t y ps ss ts ys)(pl:ps.length<=24)(p0:1<=ps.length)(sl:ss.length<=24)(tl:ts.length<=120)(gs:Lz dq H ss sg)(gp:∀d∈sg,d.1∈ps)(qs:Lz dC H ts qd)(qk:∀d∈qd,j5 ps d)(sy:Sys H ys sd)(l:ys.length<=60)(f0:eW (fg sg qd sd) F0)(b0:bx F0 sd≠[])
   (k:∀H',cC H H'->Q (.bl true) H')
def FR(C:Addr):Sp:=λvs H Q _=>LG C vs H Q
section
variable {P:Program}{w:World}{K:PySem.W.Frag}{mg:Str->Option Value}{base:Heap}{kw C Kn Ns Nb Nd Nr Ny Sa Tm:Addr}
theorem rS:cE ["_law_book_here", "_law_person", "_law_error", "e"] ["_law_book_here", "_law_person"] (cB jq):={}
theorem Jl {f:Addr}{fd:FuncData}(D:Df K mg "_law_refused" jq ["_law_book_here", "_law_person"] f fd) (CL:Ld K mg Kn Ns Nb Nd Nr Ny Sa Tm) (G_story_without:wH P w K mg base 7 "story_without" (Cy C Ns)) (G_needed:wH P w K mg base 8 "needed" (Fw C Ns)) (G__law_no_story:Gd P w K mg base 1 "_law_no_story" (Ek Ns)):Gd P w K mg base 9 "_law_refused" (FR C):=by
 refine J.BL D rS (λvs H Q E h=>?_) (λX H vs Q E hh stk pal ptl h=>?_)
 ·obtain⟨x,p,s,t,y,v,ps,ss,ts,ys,sg,qd,sd,F0,rfl,_⟩:=h
  rfl
 ·obtain⟨x,p,s,t,y,v,ps,ss,ts,ys,sg,qd,sd,F0,rfl,hv,bk,pl,p0,sl,tl,gs,gp,qs,qk,sy,l60,f0,b0,k⟩:=h
  have OK:=CL.oK;have hK:=CL.hK;obtain⟨S0,S1,S2,S3,_⟩:=hh.d7 [0,1,2,3];have C__law_no_story:=hh.c G__law_no_story;obtain rfl:=hh.fK;refine⟨_,(ah (aE S2 hh.nd bC)
 (ah (J.MS hh stk (J.Kj (ptl (aB b5 (aa S1) bC (L2.cF _))) (J.AQ hh G_needed (pal (ak (aa S0))) rfl (by first|decide|exact le_refl _) (by decide)) (J.AQ hh G_story_without (pal (aA (aa S0) (aa S1))) rfl (by first|decide|exact le_refl _) (by decide))) OK hK S3 S2 rfl (by decide) rfl (by decide))
 (ag (au (aw C__law_no_story (ak (aa S2))))))),?_⟩
  rcases hv with rfl|⟨z,rfl⟩
  ·refine⟨_,rfl,rfl,_,rfl,dv ⟨_,rfl,x,p,s,t,y,ps,ss,ts,ys,sg,qd,sd,F0,rfl,bk,pl,p0,sl,tl,gs,gp,qs,qk,sy,l60,f0,(λb=>absurd b b0),λ_ H' s'=>?_⟩⟩
   refine⟨Ns,.ref Kn::qh,rfl,CL.oN,by simp,λea nea=>?_⟩;have s2:=cC.upd (o:=.ext (Ds ea Ns)) nea;exact⟨_,rfl,ea,rfl,cz,λH'' s3=>k H'' ((s'.trans s2).trans s3)⟩
  ·refine⟨_,rfl,rfl,_,rfl,cR ⟨_,rfl,_,rfl,x,p,s,t,y,z,ps,ss,ts,ys,sg,qd,sd,F0,rfl,bk,pl,sl,tl,gs,gp,qs,qk,sy,l60,f0,(λb=>absurd b b0),(λb=>absurd b b0),λ_ H' s'=>?_⟩⟩
   refine⟨Ns,.ref Kn::qh,rfl,CL.oN,by simp,λea nea=>?_⟩;have s2:=cC.upd (o:=.ext (Ds ea Ns)) nea;exact⟨_,rfl,ea,rfl,cz,λH'' s3=>k H'' ((s'.trans s2).trans s3)⟩
end
theorem EU{E:List ED}{sd:List SD}{z:Str}{F:FH}(fo:eW (E.filter λd=> !jL z d) F):xm E sd z= !sd.all (pI F):=by
 cases h:sd.all (pI F) with
 |true=>exact vf fo (Bw h)
 |false=>exact qF fo λe=>by rw[qZ e]at h;cases h
open Classical in
theorem rE{E:List ED}{sd sd':List SD}(h:lK sd sd'):xm E sd=xm E sd':=funext λz=>by
 have e:∀F,bx F sd≠[]↔bx F sd'≠[]:=λF=>not_congr (by rw[zU,zU,all_eq h]);unfold xm;rw[Bool.eq_iff_iff,decide_eq_true_iff,decide_eq_true_iff];exact⟨λ⟨F,f,b⟩=>⟨F,f,(e F).mp b⟩,λ⟨F,f,b⟩=>⟨F,f,(e F).mpr b⟩⟩
theorem Fn{z:Str}{ps:List Str}(h:z ∉ ps):wW (.str z) (ps.map V.str)=false:=by
 show(ps.map V.str).any (λy=>sH y (.str z))=false;rw[any_map,any_eq_false];intro y hy e;have e':(y == z)=true:=e;rw[beq_iff_eq]at e';exact h (e' ▸ hy)
theorem Fo{K:PySem.W.Frag}{H:Hp}{a b:Addr}{zs:List Str}{Q:VK}(s:cH K H a (zs.map V.str))(t:cH K H b (zs.map V.str))(q:Q (.bl true) H):Et K (.ref a) (.ref b) H Q:=by
 refine .same a b _ _ (List.replicate (zs.map V.str).length true) rfl rfl s t (length_replicate ..).symm (length_replicate ..).symm (λi u v c hu hv hc=>?_) ?_
 ·rw[hu]at hv
  cases hv;rw[eq_of_mem_replicate (mem_of_getElem? hc)];obtain⟨z,_,rfl⟩:=mem_map.mp (mem_of_getElem? hu);show(if cW (V.str z)=true/\cW (V.str z)=true then some (sH (V.str z) (V.str z)) else none)=some true;rw[if_pos ⟨rfl,rfl⟩];show some (z == z)=some true;rw[beq_self_eq_true]
 ·rw[wK,show(List.replicate (zs.map V.str).length true).all id=true from all_eq_true.mpr λb hb=>eq_of_mem_replicate hb]
  exact q
inductive Fd  (K:PySem.W.Frag)(vs:List V)(H:Hp)(Q:VK):Prop
 |mk(a:Addr)(ns:List Int)(h0:vs=[.ref a])(h1:cH K H a (ns.map V.int))(h2:ns.length<=63)(h3:∀H',Q (.bl true) H')
def wR  (K:PySem.W.Frag):Sp:=λvs H Q _=>Fd K vs H Q
section
variable {P:Program}{w:World}{K:PySem.W.Frag}{mg:Str->Option Value}{base:Heap}{kw C Ns:Addr}
theorem FW:cE ["_law_script", "_law_whole", "_law_names_here", "_law_things_here", "_law_full", "_law_book_here", "_law_numbers", "_law_tellings_here", "_law_due", "_law_found", "_law_person", "_law_story", "_law_kept"] ["_law_script"] (cB o5):={}
theorem Fs {f:Addr}{fd:FuncData}(F:oj K "law" "law" o5 f fd) (T:Txt K mg kw C) (G__law_drawn:Gd P w K mg base 4 "_law_drawn" (zk K)) (G__law_book:Gd P w K mg base 9 "_law_book" (Ao C)) (G__law_open:Gd P w K mg base 3 "_law_open" jx) (G__law_hours:Gd P w K mg base 1 "_law_hours" sO) (G__law_knew_so:Gd P w K mg base 1 "_law_knew_so" gX) (G__law_refused:Gd P w K mg base 9 "_law_refused" (FR C)) (G__law_is_needed:Gd P w K mg base 4 "_law_is_needed" Fy) (G_needed:Gd P w K mg base 8 "needed" (DB C Ns)) (G_story_without:Gd P w K mg base 7 "story_without" (zC C Ns)) (G__law_without_well:Gd P w K mg base 6 "_law_without_well" Fi):dO P w K mg base mG 12 f fd ["_law_script"] (wR K):=by
 refine J.nJ F FW (λvs H Q E h=>?_) (λX H vs Q E hh h=>?_)
 ·obtain⟨a,ns,rfl,_⟩:=h
  rfl
 ·obtain⟨sc,ns,rfl,hsc,n63,q⟩:=h
  obtain⟨S0,S1,S2,S3,S4,S5,S6,S7,S8,S9,S10,S11,S12,_⟩:=hh.d7 [0,1,2,3,4,5,6,7,8,9,10,11,12];have B_isinstance:=hh.b T.b_isinstance;have B_len:=hh.b T.b_len;have B_list:=hh.b T.b_list;have B_sorted:=hh.b T.b_sorted;have C__law_book:=hh.c G__law_book;have C__law_drawn:=hh.c G__law_drawn;have C__law_hours:=hh.c G__law_hours;have C__law_knew_so:=hh.c G__law_knew_so;have C__law_open:=hh.c G__law_open;have C__law_refused:=hh.c G__law_refused;have C__law_without_well:=hh.c G__law_without_well;have C_needed:=hh.c G_needed;have C_story_without:=hh.c G_story_without;have CI__law_is_needed:=hh.ci G__law_is_needed;have hu:=eS hh.room;obtain rfl:=hh.fK;have hsz:sizeLine=16777216:=sizeLine_eq;refine⟨_,(ah (bN (aw C__law_drawn (aA (aa S0) ae)) (bu hh.calm (aI (aG S1 hh.nd) (aI (aG S2 hh.nd) (aI (aG S3 hh.nd) bj)))))
 (ah (aE S4 hh.nd (aa S3))
 (ah (aH (aU (bo (aB aL (az a7 (az ba (aa S1) ae) ae) ae (L2.cF _)) (bB (aB (J.jA hu) (af ao (aa S3) ae aj) (bh bJ) (L2.cF _)))))
 (ag (aE S4 hh.nd (aV (aM (af ao (aa S3) ae aj) (af ao (aa S3) ae aj) (bX cj (az J.uQ (af ao (aa S3) ae aj) ae) bZ (b6 ae))))))
 aJ)
 (ah (aE S5 hh.nd (aw C__law_book (aA (aa S2) (aa S4))))
 (ah (bN (aw C__law_open (ak (aa S3))) (bu hh.calm (aI (aG S6 hh.nd) (aI (aG S7 hh.nd) bj))))
 (ah (aH (aY (aQ (aw C__law_knew_so (aA (af ao (aa S3) ae aj) (aw C__law_hours (aM (aa S3) (aa S6) (aa S7)))))))
 (ag (au (aS (aw C__law_refused (aA (aa S5) bC)) (aZ (aw C__law_refused (aA (aa S5) (af aT (aa S2) ae aj)))))))
 aJ)
 (ah (bR (is:=[3]) (xs:=["_law_person"]) (ns:=["_law_things_here"]) S8 hh.nd hh.calm (aP (aD B_sorted J.eO L2.fR (ak (aa S2)))) {} (λ_ _ _ _ _=>(aX (i:=0) (by decide+kernel) rfl rfl)) (λ_ _ _ _ _=>(bA (aQ (aw (CI__law_is_needed.lg rfl) (aA (a9 (i:=1) rfl rfl (by decide) (by decide)) (aK (i:=0) rfl rfl (by decide) (by decide))))))) (λ_ _ _ _ _=>(aK (i:=0) rfl rfl (by decide) (by decide))) hh.hsc hh.hN (by decide+kernel))
 (ah (aE S9 hh.nd (aw C_needed (ak (aa S5))))
 (ah (aH (aU (bg (aY (aQ (aD B_isinstance bK L2.cG (aA (aa S9) (J.ty B_list L2.dy))))) (bz (aB (J.jA hu) (aa S9) (aa S8) (L2.cF _)))))
 (ag (au a5))
 aJ)
 (ah (bG (bI plainAttrs_list PySem.F.slot_list_append PySem.F.type_list_append bL (aa S9) (ak (af aT (aa S2) ae aj))))
 (ah (bp hh.own hh.calm (aP (bX cj (aa S2) bZ (b6 ae))) (aG S10 hh.nd)
 (ah (aE S11 hh.nd (aw C_story_without (aA (aa S5) (aa S10))))
 (ag (aH (aB J.fQ (aa S10) (aa S8) cw)
 (ag (aH (aB J.kW (aa S11) bC (L2.cF _))
 (ag (au a5))
 aJ))
 (ag (aH (aY (aQ (aw C__law_without_well (aM (aa S3) (aa S10) (aa S11)))))
 (ag (au a5))
 (ah (aE S12 hh.nd (br B_list bE L2.dy (ak (aa S11))))
 (ah (bG (bI plainAttrs_list PySem.F.slot_list_append PySem.F.type_list_append bL (aa S11) (ak (aa S10))))
 (ag (aH (aB (J.j3 (L2.El hh.room)) (aw C_story_without (aA (aa S5) (aa S10))) (aa S12) (L2.cF _))
 (ag (au a5))
 aJ))))))))))
 (ag (au (J.qv (aR bT (aD B_len bq L2.dD (ak (aa S2))) ae (L2.cF _)) (aZ (aR (J.jD hu) (aw C_needed (ak (aa S5))) (aa S8) (L2.cF _))))))))))))))))),?_⟩
  refine⟨_,rfl,sc,ns,rfl,hsc,n63,λr nl th s t y W ps ss ts ys H1 s1 hr W0 W1 hnl po ok=>?_⟩;refine⟨r,_,rfl,cU.of hr,rfl,_,_,rfl,_,_,rfl,_,_,rfl,rfl,?_⟩;clear hr;obtain⟨sg,gs,gk⟩:=mY ok.gs;obtain⟨qd,qs,qk⟩:=zp ok.gt;obtain⟨sd,sy,sk⟩:=mw ok.gy;have ll:=ok.lt;have ly:=ok.ly;have Th:GI ps H1 th s t y ss ts ys sg qd sd:=⟨ok.hth,ok.hs,ok.ht,ok.hy,ok.ls,by omega,gs,gk,qs,qk,sy,po.hi⟩;refine⟨_,rfl,?_⟩;dsimp only;refine Fv (λσ' H'=>∃(fu yf:Addr) (ysF:List V) (sdF:List SD),σ'=[some (.ref sc),some (.int W),some (.ref nl),some (.ref th),some (.ref fu),none,none,none,none,none,none,none,none]/\cC H1 H'/\H' fu=some (.tup [.ref s,.ref t,.ref yf])/\H' yf=some (.lst ysF)/\Sys H' ysF sdF/\lK sd sdF/\ysF.length<=60/\∀v∈ysF,eK ps H' v) ?_ (λhR=>?_)
  rotate_left
  ·have base0:∀H',cC H1 H'->∃(fu yf:Addr) (ysF:List V) (sdF:List SD),[some (V.ref sc),some (.int W),some (.ref nl),some (.ref th),some (.ref th),none,none,none,none,none,none,none,none]=[some (V.ref sc),some (.int W),some (.ref nl),some (.ref th),some (.ref fu),none,none,none,none,none,none,none,none]/\cC H1 H'/\H' fu=some (.tup [.ref s,.ref t,.ref yf])/\H' yf=some (.lst ysF)/\Sys H' ysF sdF/\lK sd sdF/\ysF.length<=60/\∀v∈ysF,eK ps H' v:=λH' s'=>⟨th,y,ys,sd,rfl,s',s' _ _ ok.hth,s' _ _ ok.hy,sy.mono (Tk.of s'),λ_=>Iff.rfl,by omega,λv hv=>(ok.gy v hv).mono (Tk.of s')⟩
   refine⟨_,rfl,_,_,rfl,rfl,?_,_,_,rfl,rfl,(by show(0:Int) < 8;decide),rfl,_,rfl,c8 (λe0=>?_) (λ_=>cR (hR _ _ (base0 H1 (cC.refl _))))⟩
   ·exact⟨by decide,by decide⟩
   refine⟨_,rfl,xT ok.hth rfl ⟨zc,λem nem=>?_⟩⟩;have s4:=cC.upd (o:=.lst []) nem;have hem:upd H1 em (.lst []) em=some (.lst []):=cz;generalize upd H1 em (.lst [])=H4 at s4 hem;have ok4:=ok.mono s4;by_cases ye:ys=[]
   ·exact .same y em [] [] [] rfl rfl (by rw[<-ye];exact cH.of ok4.hy) (cH.of hem) rfl rfl (λi u v c h=>nomatch h) ⟨_,rfl,cR (hR _ _ (base0 H4 s4))⟩
   ·refine .other y em ys [] rfl rfl (cH.of ok4.hy) (cH.of hem) (λe=>ye (eq_nil_of_length_eq_zero e)) ⟨_,rfl,dv ?_⟩
    refine⟨_,rfl,xT ok4.hth rfl ⟨_,rfl,xT ok4.hth rfl ⟨_,rfl,xT ok4.hth rfl ⟨y,60,ys,rfl,rfl,ok4.hy,by decide,by decide,by show ys.length * 60<=sizeLine;omega,λrp nrp=>?_⟩⟩⟩⟩;have s5:=cC.upd (o:=.lst (List.replicate (Int.toNat 60) ys).flatten) nrp;have hrp:upd H4 rp (.lst (List.replicate (Int.toNat 60) ys).flatten) rp=some (.lst (List.replicate 60 ys).flatten):=cz;generalize upd H4 rp (.lst (List.replicate (Int.toNat 60) ys).flatten)=H5 at s5 hrp;refine⟨_,rfl,rp,_,rfl,cH.of hrp,λcu ncu=>?_⟩;have ec:fL (List.replicate 60 ys).flatten none (some 60)=((List.replicate 60 ys).flatten).take 60:=by
     unfold fL;have e1:HT.d9 (List.replicate 60 ys).flatten.length (List.replicate 60 ys).flatten.length (some 60)=min 60 (List.replicate 60 ys).flatten.length:=HT.Dr _ _ 60;rw[e1,show HT.d9 (List.replicate 60 ys).flatten.length 0 none=0 from rfl,Nat.sub_zero,drop_zero,List.take_eq_take_iff];omega
    rw[ec];have s6:=cC.upd (o:=.lst (((List.replicate 60 ys).flatten).take 60)) ncu;have hcu:upd H5 cu (.lst (((List.replicate 60 ys).flatten).take 60)) cu=some (.lst (((List.replicate 60 ys).flatten).take 60)):=cz;generalize upd H5 cu (.lst (((List.replicate 60 ys).flatten).take 60))=H6 at s6 hcu;refine⟨m7,λfu nfu=>?_⟩;have s7:=cC.upd (o:=.tup [.ref s,.ref t,.ref cu]) nfu;have s17:=((s4.trans s5).trans s6).trans s7;obtain⟨sd',sy',sde,sg'⟩:=zO (sy.mono (Tk.of s17)) (λv hv=>(ok.gy v hv).mono (Tk.of s17)) ye (by omega);exact hR _ _ ⟨fu,cu,_,sd',rfl,s17,cz,s7 _ _ hcu,sy',sde,by rw[length_take];omega,sg'⟩
  rintro σ' H2 ⟨fu,yf,ysF,sdF,rfl,s2,hfu,hyf,syF,sde,lF,gF⟩;refine⟨_,rfl,_,rfl,nl,fu,s,t,yf,ps,ss,ts,ysF,rfl,s2 _ _ hnl,hfu,s2 _ _ ok.hs,s2 _ _ ok.ht,hyf,⟨po,ok.ls,λv hv=>(ok.gs v hv).mono (Tk.of s2),by omega,λv hv=>(ok.gt v hv).mono (Tk.of s2),lF,gF⟩,λx p' s' t' y' H3 s3 nx bk=>?_⟩;have s13:=s2.trans s3;have Th3:=Th.mono s13;have plo:=po.lo;have phi:=po.hi;have gp:∀d∈sg,d.1∈ps:=λd hd=>(gk d hd).1;refine⟨_,rfl,th,s,t,y,ps,ss,ts,ys,sg,qd,sd,rfl,Th3.hth,Th3.hs,Th3.ht,Th3.hy,Th3.sl,Th3.tl,Th3.gs,(λd hd=>(gk d hd).2),Th3.qs,qk,Th3.sy,λr nb tl us H4 s4 nr nnb ntl hr hnb htl tu=>?_⟩;refine⟨r,_,rfl,cU.of hr,rfl,_,_,rfl,_,_,rfl,rfl,?_⟩;have Th4:=Th3.mono s4;have ikk:∀i∈(List.range sg.length).filter (iR sg (eD sd)),i < sg.length:=λi hi=>mem_range.mp (mem_filter.mp hi).1;refine⟨_,rfl,xT Th4.hth rfl ⟨_,rfl,_,rfl,_,rfl,th,nb,tl,s,t,y,ps,ss,ts,us,sg,qd,_,_,rfl,Th4.hth,Th4.hs,Th4.ht,hnb,htl,Th4.gs,gk,Th4.qs,(λd hd=>(qk d hd).1),tu,DX qk,ikk,phi,λd kvs F0 H5 s5 _ hd hr' so' to'=>?_⟩⟩;have f0:eW (fg sg qd sd) F0:=ua ikk so' to' hr'.rc;have f0F:eW (fg sg qd sdF) F0:=by rw[<-lR sde];exact f0
  have Th5:=Th4.mono s5;have s35:=s4.trans s5;have bk5:=bk.mono s35;have syF5:=syF.mono (Tk.of (s3.trans s35));have hnl5:=s35 _ _ (s13 _ _ hnl);obtain⟨z0,hz0⟩:∃z0,(ps.map V.str)[0]? =some (V.str z0):=⟨ps[0]'(by omega),by rw[getElem?_map,getElem?_eq_getElem (by omega)];rfl⟩;refine⟨y,d,ys,sd,kvs,F0,rfl,Th5.hy,Th5.sy,hd,hr'.get,_,rfl,c8 (λnb=>?_) (λfit=>?_)⟩
  ·have b0:bx F0 sdF≠[]:=λe=>by
    have:=qZ e;rw[<-all_eq sde]at this;rw[this]at nb;cases nb
   have rf:∀(v:V) (H6:Hp),cC H5 H6->(v=.non\/∃z,v=.str z)->∀Q':VK,(∀H7,cC H6 H7->Q' (.bl true) H7)->LG C [.ref x,v] H6 Q':=λv H6 s6 hv Q' k'=>⟨x,p',s',t',y',v,ps,ss,ts,ysF,sg,qd,sdF,F0,rfl,hv,bk5.mono s6,phi,plo,ok.ls,by omega,(Th5.mono s6).gs,gp,(Th5.mono s6).qs,qk,syF5.mono (Tk.of s6),lF,f0F,b0,k'⟩;exact⟨_,rfl,rf .non H5 (cC.refl _) (.inl rfl) _ λH6 s6=>⟨_,rfl,dv ⟨_,rfl,_,rfl,xL (s6 _ _ hnl5) (cQ hz0) (rf (.str z0) H6 s6 (.inr ⟨z0,rfl⟩) _ λH7 _=>q H7)⟩⟩⟩
  ·have b0:bx F0 sdF=[]:=by
    refine Bw ?_;rw[<-all_eq sde];cases hb:sd.all (pI F0) with
    |true=>rfl
    |false=>
     rw[hb]at fit;exact absurd rfl fit
   refine⟨_,rfl,nl,ps,rfl,cH.of hnl5,by omega,λl1 zs nl1 pm zo=>?_⟩;cases og pm zo;have srl:(iU ps).length=ps.length:=(jh ps).length_eq;have s6:=cC.upd (o:=.lst ((iU ps).map V.str)) nl1;have hl1:upd H5 l1 (.lst ((iU ps).map V.str)) l1=some (.lst ((iU ps).map V.str)):=cz;generalize upd H5 l1 (.lst ((iU ps).map V.str))=H6 at s6 hl1;have Th6:=Th5.mono s6;refine⟨l1,rfl,⟨_,cH.of hl1⟩,df (xs:=(iU ps).map V.str) (iR (iU ps) (xm (fg sg qd sd) sd)) (sX (iU ps) V.str) (cH.of hl1) (by rw[length_map];omega) ?_ ?_⟩
   ·intro i os v H7 K1 K2 hv hos s7 k1 k2
    match os,hos with
    |[o],_=>
     rw[getElem?_map]at hv;obtain⟨z,hz,rfl⟩:=map_eq_some_iff.mp hv;rw[dN hz]at k1 k2;rw[gf hz]at k1;refine⟨⟨[some (.str z)],rfl,rfl⟩,⟨_,rfl,_,rfl,th,s,t,y,z,ps,ss,ts,ys,sg,qd,sd,rfl,Th6.mono s7,λF H8 s8 fe=>?_⟩⟩;have en:=EU (sd:=sd) fe;exact⟨_,rfl,c8 (λe=>⟨_,rfl,k1 (en.trans e) H8 s8⟩) (λe=>k2 (en.trans (eq_false_iff.mpr e)) H8 s8)⟩
   intro du H7 ndu s7 hdu;rw[length_map,dE]at hdu;have s57:=s6.trans s7;have Th7:=Th5.mono s57;have bk7:=bk5.mono s57;have syF7:=syF5.mono (Tk.of s57);have hnl7:=s57 _ _ hnl5;refine⟨_,rfl,x,p',s',t',y',ps,ss,ts,ysF,sg,qd,sdF,F0,rfl,bk7,phi,plo,ok.ls,by omega,Th7.gs,gp,Th7.qs,qk,syF7,lF,f0F,(λ_ fo H8 s8 nfo hfo=>?_),(λnb=>absurd b0 nb)⟩;rw[<-lR sde,<-rE sde]at hfo;generalize hdn:(iU ps).filter (xm (fg sg qd sd) sd)=dn at hdu hfo;have dl:dn.length<=24:=by
    have:=length_filter_le (xm (fg sg qd sd) sd) (iU ps);rw[hdn]at this;omega
   refine⟨_,rfl,_,_,_,_,rfl,dQ.lst hfo,kI,_,rfl,iN ⟨_,rfl,_,rfl,Az (cH.of hfo) (cH.of (s8 _ _ hdu)) ⟨_,rfl,cR ?_⟩⟩⟩;refine⟨_,rfl,.inl ⟨rfl,_,cH.of hfo⟩,_,rfl,xL (s8 _ _ hnl7) (cQ hz0) ⟨fo,_,.str z0,rfl,rfl,hfo,by rw[length_map];omega,?_⟩⟩;have s79:cC H7 (upd H8 fo (.lst (dn.map V.str++[.str z0]))):=λb u e=>by
    rw[cD (cA e nfo)];exact s8 _ _ e
   generalize upd H8 fo (.lst (dn.map V.str++[.str z0]))=H9 at s79;have hnl9:=s79 _ _ hnl7;refine⟨_,rfl,_,rfl,nl,_,rfl,cH.of hnl9,λsl nsl=>?_⟩;have stx:∀v∈fL (ps.map V.str) none (some 8),∃z∈ps,v=V.str z:=λv hv=>by
    obtain⟨z,mz,rfl⟩:=mem_map.mp (List.mem_of_mem_drop (mem_of_mem_take hv));exact⟨z,mz,rfl⟩
   have sA:=cC.upd (o:=.lst (fL (ps.map V.str) none (some 8))) nsl;have hsl:upd H9 sl (.lst (fL (ps.map V.str) none (some 8))) sl=some (.lst (fL (ps.map V.str) none (some 8))):=cz;generalize upd H9 sl (.lst (fL (ps.map V.str) none (some 8)))=HA at sA hsl;generalize fL (ps.map V.str) none (some 8)=cs at stx hsl;have s7A:=s79.trans sA;have ThA:=Th7.mono s7A;have bkA:=bk7.mono s7A;have syFA:=syF7.mono (Tk.of s7A);have hduA:=s7A _ _ hdu;have hnlA:=s7A _ _ hnl7;clear s79 sA hnl9 nsl hfo nfo s8 s7 s6 s57 Th7 bk7 syF7 hnl7 hdu Th6 hl1 nl1;refine⟨sl,rfl,⟨_,cH.of hsl⟩,dA (K:=X.K) (a:=sl) (xs:=cs) (λi σ HB=>∃eA eB eC:Option V,σ=[some (.ref sc),some (.int W),some (.ref nl),some (.ref th),some (.ref fu),some (.ref x),some (.ref nb),some (.ref tl),some (.ref du),some (.ref fo),eA,eB,eC]/\cC HA HB) ⟨none,none,none,rfl,cC.refl _⟩ ?_ ?_ ?_⟩
   ·rintro i σ HB hi ⟨eA,eB,eC,rfl,sB⟩
    exact cH.of (sB _ _ hsl)
   ·rintro i v σ HB hv ⟨eA,eB,eC,rfl,sB⟩
    obtain⟨z,mz,rfl⟩:=stx v (mem_of_getElem? hv);have sw:∀(H7:Hp),cC HA H7->∀Q':VK,(∀(l:Addr) (us:List V) (F:FH) (st:List ED) (H':Hp),cC H7 H'->H7 l=none->H' l=some (.lst us)->Lz d4 H' us st->eW ((fg sg qd sdF).filter λd=> !jL z d) F->lx ((fg sg qd sdF).filter λd=> !jL z d) F st->st.length<=24->bx F sdF=[]->Q' (.ref l) H')->(∀(F:FH) (H':Hp),cC H7 H'->eW ((fg sg qd sdF).filter λd=> !jL z d) F->bx F sdF≠[]->Q' .non H')->J8 C Ns [.ref x,.str z] H7 Q' E0:=λH7 s7 Q' k1 k2=>⟨x,p',s',t',y',z,ps,ss,ts,ysF,sg,qd,sdF,F0,rfl,bkA.mono s7,phi,ok.ls,by omega,(ThA.mono s7).gs,gp,(ThA.mono s7).qs,qk,syFA.mono (Tk.of s7),lF,f0F,(λ_=>k1),(λ_=>k2),λnb=>absurd b0 nb⟩;have mdn:z∈dn↔xm (fg sg qd sd) sd z=true:=by
     rw[<-hdn,mem_filter];exact⟨λh=>h.2,λh=>⟨(jh ps).mem_iff.mpr mz,h⟩⟩
    refine⟨_,rfl,_,rfl,sw HB sB _ (λl us F st HC sC nl7 hl lz fo2 so stl hb=>?_) (λF HC sC fo2 hb=>?_)⟩
    ·have nz:xm (fg sg qd sd) sd z=false:=by
      rw[rE sde,lR sde];exact vf fo2 hb
     have sBC:=sB.trans sC;have inF:wW (.str z) (dn.map V.str)=false:=Fn λm=>by rw[mdn.mp m]at nz;cases nz
     refine⟨_,rfl,_,rfl,du,_,rfl,.inl (cH.of (sBC _ _ hduA)),rfl,mB _,_,rfl,gY (by show ¬wW (.str z) (dn.map V.str)=true;rw[inF];exact Bool.false_ne_true) ?_⟩;refine⟨_,rfl,_,rfl,_,rfl,th,s,t,y,l,z,ps,ss,ts,ys,us,sg,qd,sd,(fg sg qd sdF).filter (λd=> !jL z d),F,st,rfl,ThA.mono sBC,hl,lz,(λd hd=>by rw[lR sde];exact(mem_filter.mp hd).1),so,stl,(by rw[all_eq sde];exact qZ hb),(λd hd=>by simpa using (mem_filter.mp (List.mem_of_find?_eq_some (so.fi d hd).2)).2),λHD sD=>⟨_,rfl,cR ?_⟩⟩;have hlD:=sD _ _ hl;have ul:=lz.1;refine⟨_,rfl,l,us,rfl,.inl (cH.of hlD),λke nke=>?_⟩;have sE:=cC.upd (o:=.lst us) nke;have hke:upd HD ke (.lst us) ke=some (.lst us):=cz;have kel:ke≠l:=(cA hlD nke).symm;generalize upd HD ke (.lst us)=HE at sE hke;have hlE:=sE _ _ hlD;refine⟨_,rfl,.inl ⟨rfl,_,cH.of hlE⟩,_,rfl,l,us,.str z,rfl,rfl,hlE,by omega,?_⟩;have sBF:cC HB (upd HE l (.lst (us++[.str z]))):=λb u e=>by
      rw[cD (cA e nl7)];exact sE _ _ (sD _ _ (sC _ _ e))
     have tkF:Tk HE (upd HE l (.lst (us++[.str z]))):=Tk.upd hlE;have hkF:upd HE l (.lst (us++[.str z])) ke=some (.lst us):=by rw[cD kel];exact hke
     have lzF:=(lz.mono (d4.mono (Tk.of (sD.trans sE)))).mono (d4.mono tkF);generalize upd HE l (.lst (us++[.str z]))=HF at sBF hkF lzF;refine⟨_,rfl,_,rfl,sw HF (sB.trans sBF) _ (λl2 us2 F2 st2 HG sG _ hl2 lz2 fo3 so2 _ _=>?_) (λF2 HG sG fo3 hb2=>absurd hb (by rw[lp fo2 fo3];exact hb2))⟩;have eF:=lp fo3 fo2;subst eF;have es:=Cp so2 so;subst es;exact⟨_,rfl,Ab hl2 (sG _ _ hkF) lz2 (lzF.mono (d4.mono (Tk.of sG))) ⟨_,rfl,cR ⟨_,_,_,rfl,(sB.trans sBF).trans sG⟩⟩⟩
    ·have nz:xm (fg sg qd sd) sd z=true:=by
      rw[rE sde,lR sde];exact qF fo2 hb
     have sBC:=sB.trans sC;exact⟨_,rfl,_,rfl,du,_,rfl,.inl (cH.of (sBC _ _ hduA)),rfl,mB _,_,rfl,fh (tD (mdn.mpr nz)) ⟨_,rfl,rfl,_,rfl,iN ⟨_,_,_,rfl,sBC⟩⟩⟩
   ·rintro σ HB ⟨eA,eB,eC,rfl,sB⟩
    refine⟨_,rfl,nl,_,rfl,.inl (cH.of (sB _ _ hnlA)),_,_,rfl,rfl,_,rfl,c8 (λ_=>q HB) (λ_=>?_)⟩;refine⟨_,rfl,x,p',s',t',y',ps,ss,ts,ysF,sg,qd,sdF,F0,rfl,bkA.mono sB,phi,plo,ok.ls,by omega,(ThA.mono sB).gs,gp,(ThA.mono sB).qs,qk,syFA.mono (Tk.of sB),lF,f0F,(λ_ fo2 HC sC _ hfo=>?_),(λnb=>absurd b0 nb)⟩;rw[<-lR sde,<-rE sde,hdn]at hfo;exact⟨_,rfl,Fo (cH.of hfo) (cH.of (sC _ _ (sB _ _ hduA))) (q HC)⟩
end
end K32
namespace K32
open PySem L2
theorem len0(us:List Value)(h:us.length=0):us=[]:=eq_nil_of_length_eq_zero h
theorem yn{n:Nat}(us:List Value)(h:us.length=n+1):∃a r,us=a::r/\r.length=n:=by
 cases us with
 |nil=>cases h
 |cons a r=>exact⟨a,r,rfl,Nat.succ.inj h⟩
theorem v8(us:List Value)(h:us.length=1):∃a,us=[a]:=by
 obtain⟨a,r,rfl,h'⟩:=yn us h;exact⟨a,by rw[len0 r h']⟩
theorem GL(us:List Value)(h:us.length=2):∃a b,us=[a,b]:=by
 obtain⟨a,r,rfl,h'⟩:=yn us h;obtain⟨b,rfl⟩:=v8 r h';exact⟨a,b,rfl⟩
theorem Hu(us:List Value)(h:us.length=3):∃a b c,us=[a,b,c]:=by
 obtain⟨a,r,rfl,h'⟩:=yn us h;obtain⟨b,c,rfl⟩:=GL r h';exact⟨a,b,c,rfl⟩
theorem Hs(us:List Value)(h:us.length=4):∃a b c d,us=[a,b,c,d]:=by
 obtain⟨a,r,rfl,h'⟩:=yn us h;obtain⟨b,c,d,rfl⟩:=Hu r h';exact⟨a,b,c,d,rfl⟩
theorem Ft(us:List Value)(h:us.length=5):∃a b c d e,us=[a,b,c,d,e]:=by
 obtain⟨a,r,rfl,h'⟩:=yn us h;obtain⟨b,c,d,e,rfl⟩:=Hs r h';exact⟨a,b,c,d,e,rfl⟩
theorem LW(us:List Value)(h:us.length=6):∃a b c d e f,us=[a,b,c,d,e,f]:=by
 obtain⟨a,r,rfl,h'⟩:=yn us h;obtain⟨b,c,d,e,f,rfl⟩:=Ft r h';exact⟨a,b,c,d,e,f,rfl⟩
theorem FF.d{K:PySem.W.Frag}{h:Heap}{mg:Str->Option Value}{x:Str}{st:Stmt}(F:FF K x st)(X:K.In h)(G:h.Ns mainGlobals mg)(ps:List Str)(hb:∀(kV doc pm:Value)(an:Option Addr)(cdv ct:Value)(us:List Value),us.length=ps.length->bindArgs (fnOf x x (dW st) (cS st) (cB st) .none kV doc pm an cdv ct) ⟨us,[]⟩=pure (ps.zip us):=by intro _ _ _ _ _ _ us hl;first| (obtain⟨_,rfl⟩:=v8 us hl;rfl)| (obtain⟨_,_,rfl⟩:=GL us hl;rfl)| (obtain⟨_,_,_,rfl⟩:=Hu us hl;rfl)| (obtain⟨_,_,_,_,rfl⟩:=Hs us hl;rfl)| (obtain⟨_,_,_,_,_,rfl⟩:=Ft us hl;rfl)):∃f fd,Df K mg x st ps f fd:=by
 obtain⟨a,l,c,k⟩:=F;have F1:=js (st:=st) l c k;exact⟨_,_,F1,mg_of X G a,F1.binds hb⟩
theorem kA:∀{zs:List Str}{us:List Value},strsOf us=zs.map some->Vals (zs.map V.str) us
 |[],[],_=>.nil
 |[],_::_,h=>by cases h
 |_::_,[],h=>by cases h
 |z::zs,u::us,h=>by
  have h1:oneOf u::strsOf us=some z::zs.map some:=h;injection h1 with e1 e2
  refine .cons ?_ (kA e2);cases u with
  |str x t=>
   cases e1;exact⟨t,rfl⟩
  |_=>cases e1
theorem all_mk {l:PySem.W.OpenLaw}{w:World}{K:PySem.W.Frag}{h:Heap}{mg:Str->Option Value}{fa:Addr}(X:K.In h) (G:h.Ns mainGlobals mg) (hfa:mg "law" =some (.ref fa)) (FX:Facts K):
  ∃fd:FuncData,(∀(s:Shared) (v:Value),BindsTo s fd ⟨[v],[]⟩ [("_law_script",v)])/\∀base:Heap,K.In base->base.Ns mainGlobals mg->dO l.prog w K mg base mG 12 fa fd ["_law_script"] (wR K):=by
 obtain @⟨kw,C,Kn,Ns,Nb,Nd,Nr,Ny,Sa,Tm,f63,f64,f65,f66,f67,f68,odw,od63,an63,od64,an64,od65,an65,od66,an66,od67,an67,od68,an68,slw,sl63,sl64,sl65,sl66,sl67,sl68,oc63,kV63,dc63,pm63,cd63,ct63,oc64,kV64,dc64,pm64,cd64,ct64,oc65,kV65,dc65,pm65,cd65,ct65,oc66,kV66,dc66,pm66,cd66,ct66,oc67,kV67,dc67,pm67,cd67,ct67,oc68,kV68,dc68,pm68,cd68,ct68,its,nW,tk1,tk2,tk3,tk4,tk5,aW,lW,vW,h1,h2,h3,h4,h5,h6,h7,h8,h9,h10,h11,h12,h13,h14,h15,h16,h17,h18,h19,h20,h21,h22,h23,h24,h25,h26,h27,h28,h29,h30,h31,h32,h33,h34,h35,h36,h37,h38,h39,h40,h41,h42,h43,h44,h45,h46,h47,h48,h49,h50,h51,h52,h53,h54,h55,h56,h57,h58,h59,h60,h61,h62,aC,pg,hd,po,sa,mk,kc,nP,nS,nT,nY,x1,x2,x3,x4,x5,x6,x7,x8,x9,x10,x11,x12,x13,x14,x15,x16,x17,x18,x19,x20,a63,i63,l63,c63,k63,a64,i64,l64,c64,k64,a65,i65,l65,c65,k65,a66,i66,l66,c66,k66,a67,i67,l67,c67,k67,a68,i68,l68,c68,k68,z1,z2,z3,z4,z5,z6,z7,z8,z9,z10,z11,z12,z13,z14,z15,z16,z17,z18,z19,g1,g2,g3,g4,g5⟩:=FX;have vW:=kA (zs:=kept) vW;obtain @⟨f62,oc62,kV62,dc62,pm62,cd62,ct62,od62,an62,sl62,a62,l62,c62,k62⟩:=h62;have e:=hfa.symm.trans (mg_of X G a62);cases e;have hsz:its.size<=sizeLine:=by
  have e:=vW.length;have e2:(kept.map V.str).length=12:=by decide+kernel
  rw[e2,length_toList]at e;have:sizeLine=16777216:=sizeLine_eq;omega
 have T:Txt K mg kw C:=⟨mg_none_of X G z1,mg_none_of X G z2,mg_none_of X G z3,mg_none_of X G z4,mg_none_of X G z5,mg_none_of X G z6,mg_none_of X G z7,mg_none_of X G z8,mg_none_of X G z9,mg_none_of X G z10,mg_none_of X G z11,mg_none_of X G z12,mg_none_of X G z13,mg_none_of X G z14,mg_none_of X G z15,mg_none_of X G z16,mg_none_of X G z17,mg_none_of X G z18,mg_none_of X G z19,mg_of X G aW,⟨_,its,nW,lW,rfl,rfl,hsz,vW⟩,⟨_,mg_of X G g1,⟨_,rfl⟩⟩,⟨_,mg_of X G g2,⟨_,rfl⟩⟩,⟨_,mg_of X G g3,⟨_,rfl⟩⟩,⟨_,mg_of X G g4,⟨_,rfl⟩⟩,⟨_,mg_of X G g5,⟨_,rfl⟩⟩,⟨pg,hd,po,sa⟩,nP,nS,nT,nY⟩;have F62:=js (st:=o5) l62 c62 k62;have F63:=js (st:=hJ) l63 c63 k63;have F64:=js (st:=eJ) l64 c64 k64;have F65:=js (st:=eU) l65 c65 k65;have F66:=js (st:=fO) l66 c66 k66;have F67:=js (st:=ej) l67 c67 k67;have F68:=js (st:=dX) l68 c68 k68;obtain⟨_,_,D_is_whole⟩:=h1.d X G ["thing"];obtain⟨_,_,D_is_hour⟩:=h2.d X G ["thing"];obtain⟨_,_,D_is_name⟩:=h3.d X G ["thing"];obtain⟨_,_,D_is_list_up_to⟩:=h4.d X G ["thing", "most"];obtain⟨_,_,D_is_tuple_of⟩:=h5.d X G ["thing", "length"];obtain⟨_,_,D_is_person⟩:=h6.d X G ["persons", "thing"];obtain⟨_,_,D_are_unlike_persons⟩:=h7.d X G ["persons", "one", "other"];obtain⟨_,_,D_is_tale⟩:=h8.d X G ["thing"];obtain⟨_,_,D_is_sight⟩:=h9.d X G ["persons", "thing"];obtain⟨_,_,D_is_way⟩:=h10.d X G ["thing"];obtain⟨_,_,D_is_talk⟩:=h11.d X G ["persons", "thing"];obtain⟨_,_,D_is_span⟩:=h12.d X G ["begin", "end"];obtain⟨_,_,D_is_short_saying⟩:=h13.d X G ["persons", "kind", "person", "behind"];obtain⟨_,_,D_is_saying⟩:=h14.d X G ["persons", "thing"];obtain⟨_,_,D_are_persons⟩:=h15.d X G ["thing"];obtain⟨_,_,D_are_sights⟩:=h16.d X G ["persons", "thing"];obtain⟨_,_,D_are_talks⟩:=h17.d X G ["persons", "thing"];obtain⟨_,_,D_are_sayings⟩:=h18.d X G ["persons", "thing"];obtain⟨_,_,D_floor_of⟩:=h19.d X G ["book", "person"];obtain⟨_,_,D_floors_of_all⟩:=h20.d X G ["book"];obtain⟨_,_,D_is_above⟩:=h21.d X G ["hour", "floor"];obtain⟨_,_,D_is_silent⟩:=h22.d X G ["sayings", "person", "hour"];obtain⟨_,_,D_is_barred⟩:=h23.d X G ["sayings", "hearer", "teller"];obtain⟨_,_,D_open_sights⟩:=h24.d X G ["book"];obtain⟨_,_,D_open_tellings⟩:=h25.d X G ["book"];obtain⟨_,_,D_open_entries⟩:=h26.d X G ["book"];obtain⟨_,_,D_hour_of⟩:=h27.d X G ["entry"];obtain⟨_,_,D_can_follow⟩:=h28.d X G ["known", "entry"];obtain⟨_,_,D_first_entries⟩:=h29.d X G ["entries"];obtain⟨_,_,D_first_story⟩:=h30.d X G ["entries"];obtain⟨_,_,D_hours_in⟩:=h31.d X G ["story"];obtain⟨_,_,D_fits_knew⟩:=h32.d X G ["hours", "person", "hour"];obtain⟨_,_,D_fits_unheard⟩:=h33.d X G ["hours", "person", "hour"];obtain⟨_,_,D_fits_silent⟩:=h34.d X G ["story", "person", "begin", "end"];obtain⟨_,_,D_fits_barred⟩:=h35.d X G ["story", "person", "other"];obtain⟨_,_,D_fits⟩:=h36.d X G ["story", "saying"];obtain⟨_,_,D_unfitted⟩:=h37.d X G ["book", "story"];obtain⟨_,_,D_fitting_story⟩:=h38.d X G ["book", "entries"];obtain⟨_,_,D_is_heard_from⟩:=h39.d X G ["way", "person"];obtain⟨_,_,D_story_without⟩:=h40.d X G ["book", "person"];obtain⟨_,_,D_needed⟩:=h41.d X G ["book"];obtain⟨_,_,D_l_mix⟩:=h42.d X G ["_law_cell", "_law_k"];obtain⟨_,_,D_l_names⟩:=h43.d X G ["_law_cell", "_law_many"];obtain⟨_,_,D_l_clock⟩:=h44.d X G ["_law_cell"];obtain⟨_,_,D_l_saying⟩:=h45.d X G ["_law_number", "_law_one", "_law_other", "_law_clock_here", "_law_at"];obtain⟨_,_,D_l_spot⟩:=h46.d X G ["_law_number", "_law_k", "_law_many"];obtain⟨_,_,D_l_things⟩:=h47.d X G ["_law_cells", "_law_names_here", "_law_clock_here"];obtain⟨_,_,D_l_free⟩:=h48.d X G ["_law_sayings", "_law_person", "_law_when"];obtain⟨_,_,D_l_tellings⟩:=h49.d X G ["_law_talks"];obtain⟨_,_,D_l_is_open⟩:=h50.d X G ["_law_talks", "_law_sayings", "_law_telling"];obtain⟨_,_,D_l_open⟩:=h51.d X G ["_law_things_here"];obtain⟨_,_,D_l_hours⟩:=h52.d X G ["_law_things_here", "_law_numbers", "_law_tellings_here"];obtain⟨_,_,D_l_knew_so⟩:=h53.d X G ["_law_sayings", "_law_found"];obtain⟨_,_,D_l_drawn⟩:=h54.d X G ["_law_script", "_law_most"];obtain⟨_,_,D_l_book⟩:=h55.d X G ["_law_names_here", "_law_things_here"];obtain⟨_,_,D_l_good_way⟩:=h56.d X G ["_law_things_here", "_law_known", "_law_row"];obtain⟨_,_,D_l_good_story⟩:=h57.d X G ["_law_things_here", "_law_story"];obtain⟨_,_,D_l_no_story⟩:=h58.d X G ["_law_error"];obtain⟨_,_,D_l_refused⟩:=h59.d X G ["_law_book_here", "_law_person"];obtain⟨_,_,D_l_is_needed⟩:=h60.d X G ["_law_things_here", "_law_person"];obtain⟨_,_,D_l_without_well⟩:=h61.d X G ["_law_things_here", "_law_person", "_law_story"];have b_m_init:=F63.binds (ps:=["self", "persons", "sights", "talks", "sayings"]) λ_ _ _ _ _ _ us hl=>by
  obtain⟨_,_,_,_,_,rfl⟩:=Ft us hl;rfl
 have F_m_init:=F63;have mk_m_init:Mk K C f63:=⟨mk,a63,i63,kc⟩;have b_m_persons:=F64.binds (ps:=["self"]) λ_ _ _ _ _ _ us hl=>by
  obtain⟨_,rfl⟩:=v8 us hl;rfl
 have F_m_persons:=F64;have me_m_persons:Meth K C "persons" f64:=⟨a64,i64,k64⟩;have b_m_sights:=F65.binds (ps:=["self"]) λ_ _ _ _ _ _ us hl=>by
  obtain⟨_,rfl⟩:=v8 us hl;rfl
 have F_m_sights:=F65;have me_m_sights:Meth K C "sights" f65:=⟨a65,i65,k65⟩;have b_m_talks:=F66.binds (ps:=["self"]) λ_ _ _ _ _ _ us hl=>by
  obtain⟨_,rfl⟩:=v8 us hl;rfl
 have F_m_talks:=F66;have me_m_talks:Meth K C "talks" f66:=⟨a66,i66,k66⟩;have b_m_sayings:=F67.binds (ps:=["self"]) λ_ _ _ _ _ _ us hl=>by
  obtain⟨_,rfl⟩:=v8 us hl;rfl
 have F_m_sayings:=F67;have me_m_sayings:Meth K C "sayings" f67:=⟨a67,i67,k67⟩;have b_m_tellings:=F68.binds (ps:=["self"]) λ_ _ _ _ _ _ us hl=>by
  obtain⟨_,rfl⟩:=v8 us hl;rfl
 have F_m_tellings:=F68;have me_m_tellings:Meth K C "tellings" f68:=⟨a68,i68,k68⟩;have nmB:=mg_of X G aC;have CL:Ld K mg Kn Ns Nb Nd Nr Ny Sa Tm:=⟨wU x10,wU x11,mg_of X G x2,mg_of X G x1,⟨_,mg_of X G x2,rfl⟩,⟨_,mg_of X G x1,rfl⟩,⟨_,mg_of X G x3,rfl⟩,⟨_,mg_of X G x4,rfl⟩,⟨_,mg_of X G x5,rfl⟩,⟨_,mg_of X G x6,rfl⟩,⟨_,mg_of X G x7,rfl⟩,⟨_,mg_of X G x8,rfl⟩,mg_none_of X G x9,x12,x13,x14,x15,x16,x17,x18,x19,x20⟩;refine⟨fnOf "law" "law" (dW o5) (cS o5) (cB o5) .none kV62 dc62 pm62 an62 cd62 ct62,λs v=>.of_eq rfl,λbase _ _=>?_⟩;have G1:Gd l.prog w K mg base 2 "is_hour" (lI K):=⟨_,_,_,Dh D_is_hour.fn D_is_whole T,D_is_hour.nm,D_is_hour.fn.kp,D_is_hour.bi⟩;have G2:Gd l.prog w K mg base 1 "is_name" (pj K):=⟨_,_,_,Dg D_is_name.fn T,D_is_name.nm,D_is_name.fn.kp,D_is_name.bi⟩;have G3:Gd l.prog w K mg base 1 "is_list_up_to" gT:=vd D_is_list_up_to T;have G4:Gd l.prog w K mg base 1 "is_tuple_of" nK:=xZ D_is_tuple_of T;have G5:Gd l.prog w K mg base 2 "is_person" hV:=xY D_is_person G2;have G6:Gd l.prog w K mg base 3 "are_unlike_persons" ku:=yN D_are_unlike_persons G5;have G7:Gd l.prog w K mg base 2 "is_tale" vX:=CY D_is_tale T G2;have G8:Gd l.prog w K mg base 3 "is_sight" qV:=zR D_is_sight G4 G5 G1 G7;have G9:Gd l.prog w K mg base 1 "is_way" zA:=EZ D_is_way T;have G10:Gd l.prog w K mg base 4 "is_talk" vN:=C8 D_is_talk G4 G6 G1 G9;have G11:Gd l.prog w K mg base 3 "is_span" uY:=Dm D_is_span G1;have G12:Gd l.prog w K mg base 4 "is_short_saying" sv:=zI D_is_short_saying G6 G5 G1;have G13:Gd l.prog w K mg base 5 "is_saying" pq:=xJ D_is_saying T G5 G11 G12;have G14:Gd l.prog w K mg base 2 "are_persons" mF:=u6 D_are_persons T G3 G2;have G15:Gd l.prog w K mg base 4 "are_sights" (iC dU 24):=pS D_are_sights T G3 G8;have G16:Gd l.prog w K mg base 5 "are_talks" (iC eT 120):=rL D_are_talks T G3 G10;have G17:Gd l.prog w K mg base 6 "are_sayings" (iC eK 60):=oG D_are_sayings T G3 G13;have GB:Kd l.prog w K mg base 7 "Book" C (wk C):=B3 F_m_init mk_m_init b_m_init nmB T G14 G15 G16 G17;have M1:Md l.prog w K mg base 1 C "persons" (dk C λp _ _ _=>p):=qT F_m_persons me_m_persons b_m_persons T;have M2:Md l.prog w K mg base 1 C "sights" (dk C λ_ s _ _=>s):=uI F_m_sights me_m_sights b_m_sights T;have M3:Md l.prog w K mg base 1 C "talks" (dk C λ_ _ t _=>t):=vk F_m_talks me_m_talks b_m_talks T;have M4:Md l.prog w K mg base 1 C "sayings" (dk C λ_ _ _ y=>y):=rX F_m_sayings me_m_sayings b_m_sayings T;have M5:Md l.prog w K mg base 1 C "tellings" (kf C):=t7 F_m_tellings me_m_tellings b_m_tellings T;have G26:Gd l.prog w K mg base 2 "floor_of" (rB C):=tQ D_floor_of T M4;have G27:Gd l.prog w K mg base 3 "floors_of_all" (lC C):=y8 D_floors_of_all T M1 G26;have G28:Gd l.prog w K mg base 1 "is_above" nM:=uo D_is_above;have G33:Gd l.prog w K mg base 1 "is_silent" wz:=rh D_is_silent T;have G34:Gd l.prog w K mg base 1 "is_barred" xi:=q0 D_is_barred;have G29:Gd l.prog w K mg base 4 "open_tellings" (se C):=l5 D_open_tellings T M3 M4 M5 G27 G28 G33 G34;have G30:Gd l.prog w K mg base 4 "open_sights" (qA C):=nV D_open_sights T M2 G27 G28;have P1:Gd l.prog w K mg base 1 "hour_of" B8:=HP D_hour_of;have P2:Gd l.prog w K mg base 2 "can_follow" FV:=Hf D_can_follow P1;have P3:Gd l.prog w K mg base 4 "first_entries" Gv:=Iz D_first_entries T P1 P2;have P4:Gd l.prog w K mg base 5 "open_entries" (Fx C):=Il D_open_entries T M2 M3 G30 G29;have P5:Gd l.prog w K mg base 5 "first_story" Gp:=Ic D_first_story T P3;have P8:Gd l.prog w K mg base 1 "hours_in" Ga:=Jc D_hours_in;have P9:Gd l.prog w K mg base 1 "fits_knew" EO:=Iv D_fits_knew;have P10:Gd l.prog w K mg base 1 "fits_unheard" Gb:=IY D_fits_unheard;have P11:Gd l.prog w K mg base 1 "fits_silent" E4:=Hr D_fits_silent T;have P12:Gd l.prog w K mg base 1 "fits_barred" EG:=IB D_fits_barred T;have P13:Gd l.prog w K mg base 2 "fits" Gn:=IG D_fits P8 P9 P10 P11 P12;have P14:Gd l.prog w K mg base 3 "unfitted" (E5 C):=IQ D_unfitted T M4 P13;have A1:Gd l.prog w K mg base 1 "_law_mix" xh:=Gi D_l_mix;have A2:Gd l.prog w K mg base 1 "_law_names" oF:=yq D_l_names T;have A3:Gd l.prog w K mg base 1 "_law_clock" sj:=Bi D_l_clock T;have A4:Gd l.prog w K mg base 1 "_law_saying" vI:=BY D_l_saying T;have A5:Gd l.prog w K mg base 1 "_law_spot" u0:=CT D_l_spot T;have A6:Gd l.prog w K mg base 2 "_law_things" pe:=yt D_l_things T A1 A5 A4;have A7:Gd l.prog w K mg base 1 "_law_free" rg:=CH D_l_free;have A8:Gd l.prog w K mg base 1 "_law_tellings" wc:=B6 D_l_tellings T;have A9:Gd l.prog w K mg base 2 "_law_is_open" oZ:=vp D_l_is_open T A7;have A10:Gd l.prog w K mg base 3 "_law_open" jx:=B9 D_l_open T A7 A8 A9;have A11:Gd l.prog w K mg base 1 "_law_hours" sO:=AN D_l_hours T;have A12:Gd l.prog w K mg base 1 "_law_knew_so" gX:=uV D_l_knew_so;have A13:Gd l.prog w K mg base 4 "_law_drawn" (zk K):=As D_l_drawn T A1 A2 A3 A6 A10 A11 A12;have A14:Gd l.prog w K mg base 9 "_law_book" (Ao C):=Cz D_l_book T GB;have P16:Gd l.prog w K mg base 6 "fitting_story" (AK C):=E9 D_fitting_story P5 P14;have P18:Gd l.prog w K mg base 1 "is_heard_from" FY:=IT D_is_heard_from;have P19:wH l.prog w K mg base 7 "story_without" (Cy C Ns):=Hl D_story_without CL.oN CL.hN P4 P16 P18;have P20:Gd l.prog w K mg base 7 "story_without" (zC C Ns):=J.wI P19;have P21:wH l.prog w K mg base 8 "needed" (Fw C Ns):=Jm D_needed T M1 P19 P20;have P22:Gd l.prog w K mg base 8 "needed" (DB C Ns):=J.wI P21;have A15:Gd l.prog w K mg base 4 "_law_good_way" Ff:=IA D_l_good_way T A10;have A16:Gd l.prog w K mg base 5 "_law_good_story" zx:=Ea D_l_good_story T A12 A15;have A21:Gd l.prog w K mg base 1 "_law_no_story" (Ek Ns):=Ih D_l_no_story T CL;have A22:Gd l.prog w K mg base 9 "_law_refused" (FR C):=Jl D_l_refused CL P19 P21 A21;have A23:Gd l.prog w K mg base 4 "_law_is_needed" Fy:=HK D_l_is_needed A10 A11 A12;have A24:Gd l.prog w K mg base 6 "_law_without_well" Fi:=Hm D_l_without_well T A16;exact Fs F62 T A13 A14 A10 A11 A12 A22 A23 P22 P20 A24
theorem walk{l:PySem.W.OpenLaw}{q:Program}{loose:List Str}{XP:(Str->Option Value)->Heap->Prop}{YP:World->Heap->Prop}{d:DefRec}{K:Params->PySem.W.Frag}(hn:l.most=some 63)(hdf:d.params.defaults=[])
  (hY:∀(w:World)(h:Heap),YP w h->(K w.params).In h)
  (F:∀(w:World)(mg:Str->Option Value)(fa:Addr)(h:Heap),(K w.params).In h->h.Ns mainGlobals mg->mg d.name=some (.ref fa)->
   ∃fd:FuncData,(∀(s:Shared) (u:Value),BindsTo s fd ⟨[u],[]⟩ [("_law_script",u)])/\∀base:Heap,(K w.params).In base->base.Ns mainGlobals mg->dO l.prog w (K w.params) mg base mG 12 fa fd ["_law_script"] (wR (K w.params))):
  PySem.W.WalkO q loose XP YP l.row.toRowW d [] (λf vs=>PySem.call f vs):=
 L2.B5 (n:=63) (k:=12) (x:= "_law_script") (CX:=λ_=>mG) (sp:=λw=>wR (K w.params)) hn (by decide) hdf ⟨rfl,by decide,by decide⟩ hY F (λ_ _ a ns hl _ hS=>⟨a,ns,rfl,hS,hl,λ_=>rfl⟩) λ_ _ _ _ _ z=>z
end K32
open PySem PySem.W PyProof.Rows
theorem PySem.Challenge.cw_knewby_k32_needed_tellers_holds : PySem.Challenge.rw_knewby_k32_needed_tellers.Holds :=
 K32.closing λhdn hdf hY hF=>K32.walk (l:=PySem.Challenge.rw_knewby_k32_needed_tellers) rfl hdf hY λw mg fa h KX G hmg=>K32.all_mk KX G (by rw[<-hdn];exact hmg) (hF w mg fa h KX G hmg)
