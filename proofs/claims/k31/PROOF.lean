import PyProof.Rows.All
import Wide.All
import OpenK.KLine
import OpenK.KWalk
import KE.KNestM
import KE.KDictList
import KE.KDictSum
import KE.KIsAll
import Wide.FinOn
import Lean
import PyProof.EqAt
import PyProof.EqKinds
import PyProof.TupleCall
import PyProof.NeKinds
import PyProof.ListRange
import PyProof.Rows.SortStr
import KE.KRevIter
import KE.KDictOf
import PyProof.AttrMissSeq
import PyProof.Rows.SortRunsK
import PyProof.Rows.SortShellK
import PyProof.Rows.CallKwBuiltin
import KE.KSortTup
import PyProof.EqKinds
import KE.KxText
import PyProof.DictWalks
import OpenK.KOwn
import PyProof.RulesAs
import PyProof.RulesDel
import KE.KSortedL
import KE.KSortedM
import KE.KSorted
import PySem.Challenge.RW_knewby_k31_latest_hours
set_option Elab.async false
set_option linter.all false
set_option maxRecDepth 100000
set_option maxHeartbeats 4000000
open Array (getElem?_toList length_toList toList_append toList_extract toList_push toList_reverse)
open Bool (and_eq_true eq_false_iff false_eq_true not_eq_true')
open List (all_cons all_eq_true all_map any_cons any_eq_false any_eq_true any_map append_assoc append_nil drop_zero eq_nil_of_length_eq_zero filter_append filter_cons filter_map find?_cons find?_cons_of_neg find?_cons_of_pos find?_map flatten_append flatten_cons flatten_nil foldl_cons forIn_cons forIn_nil getD_eq_getElem?_getD getElem?_append_left getElem?_append_right getElem?_drop getElem?_eq_getElem getElem?_map getElem?_of_mem getElem?_set_self getElem?_take_of_lt getElem_mem getElem_toArray length_append length_cons length_drop length_filter_le length_map length_range length_reverse length_set length_take length_zip lookup_cons map_append map_congr_left map_cons map_map map_nil mem_append mem_append_left mem_append_right mem_cons mem_cons_of_mem mem_cons_self mem_filter mem_filterMap mem_map mem_of_getElem? mem_of_mem_take mem_range mem_reverse mem_singleton mem_singleton_self nil_append nodup_cons nodup_nil not_lt not_mem_nil of_mem_zip range_succ replicate_succ reverse_append reverse_reverse size_toArray take_add_one take_append_drop take_length take_of_length_le take_zero)
open Nat (le_of_eq le_of_lt le_refl le_succ le_trans lt_irrefl lt_min lt_of_lt_of_le lt_succ_of_lt lt_succ_self min_self ne_of_gt ne_of_lt sub_self succ_pos zero_add zero_le)
open Option (isSome_iff_exists isSome_map map_eq_some_iff map_some)
open PySem.F (called_set entry_dict_get excBase_ValueError plainAttrs_list slot_dict_get)
open PySem.Heap (get?_push_ne get?_push_of_some get?_push_size get?_update_ne lt_size size_push size_update)
open PySem.W (Looks callWith_K codeIn emptyDict findIn fnOf handedIn hasDictIn hideAll instObj isFn isNs_of_in keepIn kia_one kitOne kitx_dict kitx_list lookIn makesIn methodObj mg_none_of mg_of nsIn nsMap_none_of_in nsOkIn of_hideAll plainGet plainGet_of plainOver specialIn tailIn tail_of_in takerIn)
theorem osA{β:Type}{os:List β}(h:os.length=1):∃a,os=[a]:=by
 cases os with
 |nil=>cases h
 |cons a r=>
  cases r with
  |nil=>exact⟨a,rfl⟩
  |cons b t=>exact absurd (Nat.succ.inj h) (Nat.succ_ne_zero _)
theorem osB{β:Type}{os:List β}(h:os.length=2):∃a b,os=[a,b]:=by
 cases os with
 |nil=>cases h
 |cons a r=>
  obtain⟨b,rfl⟩:=osA (os:=r) (Nat.succ.inj h)
  exact⟨a,b,rfl⟩
theorem osC{β:Type}{os:List β}(h:os.length=3):∃a b c,os=[a,b,c]:=by
 cases os with
 |nil=>cases h
 |cons a r=>
  obtain⟨b,c,rfl⟩:=osB (os:=r) (Nat.succ.inj h)
  exact⟨a,b,c,rfl⟩
namespace L2
open PySem PySem.Spec PyProof.Rows
def inClass(s:Stmt)(j:Nat):Stmt:=match s with
 |.ClassDef _ _ _ body _ _ _ _ _ _ _=>body.getD j (.Pass ⟨0,0,0,0⟩)
 |_=>.Pass ⟨0,0,0,0⟩
def ef(s:Stmt):Arguments:=match s with
 |.FunctionDef _ a _ _ _ _ _ _ _ _=>a
 |_=>{ posonlyargs:=[],args:=[],vararg:=none,kwonlyargs:=[],kw_defaults:=[],kwarg:=none,defaults:=[] }
def cX(s:Stmt):List Stmt:=match s with
 |.FunctionDef _ _ b _ _ _ _ _ _ _=>b
 |_=>[]
def cG(s:Stmt):Scope:=match s with
 |.FunctionDef _ _ _ _ _ _ sc _ _ _=>sc
 |_=>{ kind:=.function,names:=[],isGenerator:=false,isCoroutine:=false }
end L2
namespace TR
open PySem PySem.W
def CU(stp:SharedT->Thread->Option (SharedT×Thread))(ok:Thread->Bool):Nat->SharedT->Thread->Option SharedT
 |0,_,_=>none
 |n+1,s,t=>match through t with
  |true=>some s
  |false=>match ok t with
   |false=>none
   |true=>match stp s t with
    |some (s',t')=>CU stp ok n s' t'
    |none=>none
theorem xI{tb:String->Option Builtin}{p:Program}{w:World}{n₀:Nat}{ann:Option Value}:∀{n:Nat}{s s':SharedT}{t:Thread},CU (stepT (denote tb) p w) (stepOk n₀ ann) n s t=some s'->topRun tb p w n₀ ann n s.abs t=some s'.abs
 |0,_,_,_,h=>by cases h
 |n+1,s,s',t,h=>by
  unfold CU at h;unfold topRun;cases he:through t with
  |true=>rw[he]at h;cases h;rfl
  |false=>
   rw[he]at h;cases hk:stepOk n₀ ann t with
   |false=>rw[hk]at h;cases h
   |true=>
    rw[hk]at h;cases hs:stepT (denote tb) p w s t with
    |none=>rw[hs]at h;cases h
    |some r=>
     obtain⟨s₂,t₂⟩:=r;rw[hs]at h;rw[stepT_spec hs];exact xI h
def grow:List Obj->BT->Nat->Option BT
 |[],t,_=>some t
 |o::r,t,n=>match ((t.ins n o).get n).isSome with
  |true=>grow r (t.ins n o) (n+1)
  |false=>none
theorem uM{life:Life}:∀{l:List Obj}{t t':BT}{n:Nat},grow l t n=some t'->absHeap t' (n+l.length) life=l.foldl (λh o=>h.push o) (absHeap t n life)
 |[],_,_,_,h=>by cases h;rfl
 |o::r,t,t',n,h=>by
  unfold grow at h;cases g:((t.ins n o).get n).isSome with
  |false=>rw[g]at h;cases h
  |true=>
   rw[g]at h;have ih:=uM (life:=life) h;rw[absHeap_ins g]at ih;rw[length_cons,foldl_cons,<-ih]
   congr 1
   omega
theorem t8(life:Life):∀(l m:List Obj),l.foldl (λ(h:Heap) o=>h.push o) ⟨m.toArray,life⟩=⟨(m++l).toArray,life⟩
 |[],m=>by rw[append_nil];rfl
 |o::r,m=>by
  have:(⟨m.toArray,life⟩:Heap).push o=⟨(m++[o]).toArray,life⟩:=by
   show(⟨m.toArray.push o,life⟩:Heap)=_;rw[List.push_toArray]
  rw[foldl_cons,this,t8 life r,append_assoc];rfl
def LB(s:Shared)(t:BT):SharedT:=⟨t,s.heap.objs.size,s.heap.life,s.gens,s.drawn,s.toks,s.os⟩
theorem DS{s:Shared}{t:BT}(h:grow s.heap.objs.toList .nil 0=some t):(LB s t).abs=s:=by
 have:=uM (life:=s.heap.life) h;rw[zero_add,show absHeap .nil 0 s.heap.life=⟨([]:List Obj).toArray,s.heap.life⟩ from rfl,t8,nil_append,length_toList]at this;obtain⟨⟨objs,life⟩,gens,drawn,toks,os⟩:=s;show(⟨absHeap t objs.size life,gens,drawn,toks,os⟩:Shared)=_;rw[this]
def qj{α:Type}(p:Program)(w:World)(N:Nat)(look:Shared->Shared->α):Option α:=(fencedOpening treeTable p w N).bind λs₀=>(grow s₀.heap.objs.toList .nil 0).bind λt=>match s₀.heap.isNs mainGlobals && s₀.gens.size == 0 with
 |true=>(CU (stepT (denote treeTable) p w) (stepOk s₀.heap.objs.size (s₀.heap.nsMap mainGlobals "__annotations__")) N (LB s₀ t) (topStub p)).bind λs₁=>some (look s₀ s₁.abs)
 |false=>none
theorem rD{α:Type}{p:Program}{w:World}{N:Nat}{look:Shared->Shared->α}{a:α}(h:qj p w N look=some a):∃s₀ s₁,fencedOpening treeTable p w N=some s₀/\(s₀.heap.isNs mainGlobals && s₀.gens.size == 0)=true/\topRun treeTable p w s₀.heap.objs.size (s₀.heap.nsMap mainGlobals "__annotations__") N s₀ (topStub p)=some s₁/\look s₀ s₁=a:=by
 unfold qj at h;obtain⟨s₀,e0,h⟩:=Option.bind_eq_some_iff.mp h;obtain⟨t,eg,h⟩:=Option.bind_eq_some_iff.mp h;refine⟨s₀,?_⟩;cases c:(s₀.heap.isNs mainGlobals && s₀.gens.size == 0) with
 |false=>rw[c]at h;cases h
 |true=>
  rw[c]at h;obtain⟨s₁,er,h⟩:=Option.bind_eq_some_iff.mp h;have r:=xI er;rw[DS eg]at r;exact⟨s₁.abs,e0,rfl,r,Option.some.inj h⟩
theorem Hw{p q:Program}{loose:List Str}{Xt:Shared->Bool}{α:Type}{Yf:Shared->α}{Ya:World->α}{N:Nat}
  (hA:∀w,qj p w N (λs₀ s₁=>staticsOk (importedModules p.main.body) s₀.heap s₁.heap && namesBound p s₁.heap && gensDone s₁ && laidKept s₀.heap s₁.heap)=some true)
  (hB:∀w,qj p w N (λ_ s₁=>openSeen q loose (importedModules p.main.body) Xt true s₁)=some (openGood q loose))
  (hC:∀w,qj p w N (λ_ s₁=>Yf s₁)=some (Ya w)):LeftO p q loose Xt Yf Ya N:=λw=>by
 obtain⟨s₀,s₁,e0,c,r,hA⟩:=rD (hA w);obtain⟨s₀',s₁',e0',_,r',hB⟩:=rD (hB w);rw[e0]at e0';cases e0';rw[r]at r';cases r';obtain⟨s₀',s₁',e0',_,r',hC⟩:=rD (hC w);rw[e0]at e0';cases e0';rw[r]at r';cases r';unfold openEnds;rw[e0];show(topFrom treeTable p w N s₀).map _=_;unfold topFrom;rw[c];dsimp only;rw[r];simp only[Option.bind_some];rw[hA];show some (openSeen q loose (importedModules p.main.body) Xt true s₁,Yf s₁)=_;rw[hB,hC]
end TR
section
namespace K31
open PySem L2
def top(i:Nat):Stmt:=PySem.Challenge.pw_knewby_k31_latest_hours.main.body.getD i (.Pass ⟨0,0,0,0⟩)
abbrev jP:Stmt:=top 2
abbrev fL:Stmt:=top 3
abbrev j9:Stmt:=top 4
abbrev jv:Stmt:=top 5
abbrev ju:Stmt:=top 6
abbrev gG:Stmt:=top 7
abbrev fB:Stmt:=top 8
abbrev jL:Stmt:=top 10
abbrev jh:Stmt:=top 11
abbrev f9:Stmt:=top 12
abbrev gJ:Stmt:=top 13
abbrev gK:Stmt:=top 14
abbrev wq:Stmt:=top 15
abbrev jN:Stmt:=top 16
abbrev gr:Stmt:=top 18
abbrev l5:Stmt:=top 19
abbrev iD:Stmt:=top 20
abbrev fJ:Stmt:=top 21
abbrev gE:Stmt:=top 22
abbrev fG:Stmt:=top 23
abbrev oU:Stmt:=top 34
abbrev iQ:Stmt:=top 37
abbrev mI:Stmt:=top 38
abbrev jB:Stmt:=top 39
abbrev fD:Stmt:=top 46
abbrev gI:Stmt:=top 47
abbrev i6:Stmt:=top 48
abbrev dY:Stmt:=top 49
abbrev mT:Stmt:=top 50
abbrev ki:Stmt:=top 51
abbrev oo:Stmt:=top 52
abbrev mG:Stmt:=top 53
abbrev mD:Stmt:=top 54
abbrev eV:Stmt:=top 55
abbrev js:Stmt:=top 56
abbrev gN:Stmt:=top 57
abbrev iA:Stmt:=top 58
abbrev je:Stmt:=top 59
abbrev gC:Stmt:=top 60
abbrev gZ:Stmt:=inClass (top 61) 0
abbrev eN:Stmt:=inClass (top 61) 1
abbrev fj:Stmt:=inClass (top 61) 2
abbrev fZ:Stmt:=inClass (top 61) 3
abbrev eK:Stmt:=inClass (top 61) 4
abbrev AG:Stmt:=inClass (top 61) 5
abbrev BS:Stmt:=inClass (top 61) 6
abbrev zg:Stmt:=inClass (top 61) 7
abbrev vf:Stmt:=inClass (top 61) 8
abbrev d8:Stmt:=inClass (top 61) 9
abbrev ro:Stmt:=top 63
abbrev lR:Stmt:=top 64
abbrev lP:Stmt:=top 65
abbrev jT:Stmt:=top 66
abbrev pH:Stmt:=top 67
abbrev kg:Stmt:=top 68
abbrev ou:Stmt:=top 69
abbrev iJ:Stmt:=top 70
abbrev jd:Stmt:=top 71
abbrev pA:Stmt:=top 72
abbrev lY:Stmt:=top 73
abbrev jk:Stmt:=top 74
abbrev lX:Stmt:=top 75
abbrev oW:Stmt:=top 76
abbrev iS:Stmt:=top 77
abbrev gf:Stmt:=top 78
abbrev iT:Stmt:=top 79
abbrev o8:Stmt:=top 80
abbrev jS:Stmt:=top 81
abbrev oP:Stmt:=top 82
abbrev iG:Stmt:=top 83
abbrev jg:Stmt:=top 84
abbrev gO:Stmt:=top 85
abbrev pB:Stmt:=top 86
def oneOf:Value->Option Str
 |.str x _=>some x
 |_=>none
def strsOf(l:List Value):List (Option Str):=l.map oneOf
def GO:List (Option Str):=[some "person",some "talk",some "saw",some "knew",some "heard",some "told",some "not",some "nobody",some "never",some "by",some "from",some "to"]
inductive FF(K:PySem.W.Frag)(x:Str)(st:Stmt):Prop
 |mk{f:Addr}{oc kV dc pm cd ct:Value}{od an:Option Addr}{sl:Array (Option Value)}(a:nsIn K mainGlobals x=some (some (.ref f)))(l:K.lookup f=some ⟨oc,od,.func (fnOf x x (ef st) (cX st) (cG st) .none kV dc pm an cd ct),sl⟩)(c:codeIn K cd x=true)(k:keepIn K (.ref f)=true)
def Lq:List Value:=[.type "ValueError",.type "Exception",.type "BaseException",.type "object"]
def ownIn(K:PySem.W.Frag)(C:Addr)(bm:List Value):Bool:=match K.lookup C with
 |some ⟨.type "type",_,.cls cd,sl⟩=>(match cd.mro,sl.toList with
  |.ref C'::bm',[_,_,_,_,some (.builtin n),_]=>C' == C && n == "ValueError.__new__" && !cd.hasDel && bm' == bm && nsOkIn K cd.ns && ((["__init__", "__getattribute__", "__getattr__", "__class__"]:List Str).all λx=>nsIn K cd.ns x == some none) && tailIn K Lq bm
  |_,_=>false)
 |_=>false
inductive Facts(K:PySem.W.Frag):Prop
 |mk{kw C Kn Ns Nb Nd Nr Ny Sa Tm f64 f65 f66 f67 f68 f69:Addr}
  {odw od64 an64 od65 an65 od66 an66 od67 an67 od68 an68 od69 an69:Option Addr}{slw sl64 sl65 sl66 sl67 sl68 sl69:Array (Option Value)}{oc64 kV64 dc64 pm64 cd64 ct64 oc65 kV65 dc65 pm65 cd65 ct65 oc66 kV66 dc66 pm66 cd66 ct66 oc67 kV67 dc67 pm67 cd67 ct67 oc68 kV68 dc68 pm68 cd68 ct68 oc69 kV69 dc69 pm69 cd69 ct69:Value}{its:Array Value}{nW:Nat}{tk1 tk2 tk3 tk4 tk5:Tok}
  (aW:nsIn K mainGlobals "KEPT_WORDS" =some (some (.ref kw))) (lW:K.lookup kw=some ⟨.type "tuple",odw,.seq its nW,slw⟩) (vW:strsOf its.toList=GO)
 (h1:FF K "is_whole" iQ) (h2:FF K "is_hour" mI) (h3:FF K "is_name" jB) (h4:FF K "is_list_up_to" fD) (h5:FF K "is_tuple_of" gI) (h6:FF K "is_person" i6) (h7:FF K "are_unlike_persons" dY) (h8:FF K "is_tale" mT) (h9:FF K "is_sight" ki) (h10:FF K "is_way" oo) (h11:FF K "is_talk" mG) (h12:FF K "is_span" mD) (h13:FF K "is_short_saying" eV) (h14:FF K "is_saying" js) (h15:FF K "are_persons" gN) (h16:FF K "are_sights" iA) (h17:FF K "are_talks" je) (h18:FF K "are_sayings" gC) (h19:FF K "floor_of" jP) (h20:FF K "floors_of_all" fL) (h21:FF K "is_above" j9) (h22:FF K "is_silent" jv) (h23:FF K "is_barred" ju) (h24:FF K "open_sights" gG) (h25:FF K "open_tellings" fB) (h26:FF K "open_entries" gr) (h27:FF K "hour_of" l5) (h28:FF K "can_follow" iD) (h29:FF K "first_entries" fJ) (h30:FF K "first_story" gE) (h31:FF K "hours_in" jL) (h32:FF K "fits_knew" jh) (h33:FF K "fits_unheard" f9) (h34:FF K "fits_silent" gJ) (h35:FF K "fits_barred" gK) (h36:FF K "fits" wq) (h37:FF K "unfitted" jN) (h38:FF K "fitting_story" fG) (h39:FF K "latest" oU) (h40:FF K "_law_mix" ro) (h41:FF K "_law_names" lR) (h42:FF K "_law_clock" lP) (h43:FF K "_law_saying" jT) (h44:FF K "_law_spot" pH) (h45:FF K "_law_things" kg) (h46:FF K "_law_free" ou) (h47:FF K "_law_tellings" iJ) (h48:FF K "_law_is_open" jd) (h49:FF K "_law_open" pA) (h50:FF K "_law_hours" lY) (h51:FF K "_law_knew_so" jk) (h52:FF K "_law_drawn" lX) (h53:FF K "_law_book" oW) (h54:FF K "_law_good_way" iS) (h55:FF K "_law_good_story" gf) (h56:FF K "_law_hours_of" iT) (h57:FF K "_law_held" o8) (h58:FF K "_law_latest" jS) (h59:FF K "_law_fits" oP) (h60:FF K "_law_no_story" iG) (h61:FF K "_law_refused" jg) (h62:FF K "_law_told_well" gO) (h63:FF K "law" pB)
  (aC:nsIn K mainGlobals "Book" =some (some (.ref C))) (pg:plainGet K C Str.empty=true) (hd:hasDictIn K C=true) (po:plainOver K C=true) (sa:findIn K (.ref C) "__setattr__" =some (some (.builtin "object.__setattr__"))) (mk:makesIn K C=true) (kc:keepIn K (.ref C)=true)
  (nP:findIn K (.ref C) "kept_persons" =some none) (nS:findIn K (.ref C) "kept_sights" =some none) (nT:findIn K (.ref C) "kept_talks" =some none) (nY:findIn K (.ref C) "kept_sayings" =some none)
  (x1:nsIn K mainGlobals "KnewError" =some (some (.ref Kn)))
  (x2:nsIn K mainGlobals "NoStory" =some (some (.ref Ns)))
  (x3:nsIn K mainGlobals "NoBook" =some (some (.ref Nb)))
  (x4:nsIn K mainGlobals "NoDeed" =some (some (.ref Nd)))
  (x5:nsIn K mainGlobals "NoRow" =some (some (.ref Nr)))
  (x6:nsIn K mainGlobals "NoSaying" =some (some (.ref Ny)))
  (x7:nsIn K mainGlobals "Saw" =some (some (.ref Sa)))
  (x8:nsIn K mainGlobals "TooMuch" =some (some (.ref Tm)))
  (x9:nsIn K mainGlobals "ValueError" =some none)
  (x10:ownIn K Ns (.ref Kn::Lq)=true)
  (x11:ownIn K Kn Lq=true)
  (x12:kitOne K (.ref Ns) (.ref Ns)=some true)
  (x13:kitOne K (.ref Ns) (.ref Kn)=some true)
  (x14:kitOne K (.ref Ns) (.type "ValueError")=some true)
  (x15:kitOne K (.ref Ns) (.ref Nb)=some false)
  (x16:kitOne K (.ref Ns) (.ref Nd)=some false)
  (x17:kitOne K (.ref Ns) (.ref Nr)=some false)
  (x18:kitOne K (.ref Ns) (.ref Ny)=some false)
  (x19:kitOne K (.ref Ns) (.ref Sa)=some false)
  (x20:kitOne K (.ref Ns) (.ref Tm)=some false)
  (a64:findIn K (.ref C) "__init__" =some (some (.ref f64))) (i64:isFn K (.ref f64)=true) (l64:K.lookup f64=some ⟨oc64,od64,.func (fnOf "__init__" "Book.__init__" (ef gZ) (cX gZ) (cG gZ) .none kV64 dc64 pm64 an64 cd64 ct64),sl64⟩) (c64:codeIn K cd64 "Book.__init__" =true) (k64:keepIn K (.ref f64)=true)
  (a65:findIn K (.ref C) "persons" =some (some (.ref f65))) (i65:isFn K (.ref f65)=true) (l65:K.lookup f65=some ⟨oc65,od65,.func (fnOf "persons" "Book.persons" (ef eN) (cX eN) (cG eN) .none kV65 dc65 pm65 an65 cd65 ct65),sl65⟩) (c65:codeIn K cd65 "Book.persons" =true) (k65:keepIn K (.ref f65)=true)
  (a66:findIn K (.ref C) "sights" =some (some (.ref f66))) (i66:isFn K (.ref f66)=true) (l66:K.lookup f66=some ⟨oc66,od66,.func (fnOf "sights" "Book.sights" (ef fj) (cX fj) (cG fj) .none kV66 dc66 pm66 an66 cd66 ct66),sl66⟩) (c66:codeIn K cd66 "Book.sights" =true) (k66:keepIn K (.ref f66)=true)
  (a67:findIn K (.ref C) "talks" =some (some (.ref f67))) (i67:isFn K (.ref f67)=true) (l67:K.lookup f67=some ⟨oc67,od67,.func (fnOf "talks" "Book.talks" (ef fZ) (cX fZ) (cG fZ) .none kV67 dc67 pm67 an67 cd67 ct67),sl67⟩) (c67:codeIn K cd67 "Book.talks" =true) (k67:keepIn K (.ref f67)=true)
  (a68:findIn K (.ref C) "sayings" =some (some (.ref f68))) (i68:isFn K (.ref f68)=true) (l68:K.lookup f68=some ⟨oc68,od68,.func (fnOf "sayings" "Book.sayings" (ef eK) (cX eK) (cG eK) .none kV68 dc68 pm68 an68 cd68 ct68),sl68⟩) (c68:codeIn K cd68 "Book.sayings" =true) (k68:keepIn K (.ref f68)=true)
  (a69:findIn K (.ref C) "tellings" =some (some (.ref f69))) (i69:isFn K (.ref f69)=true) (l69:K.lookup f69=some ⟨oc69,od69,.func (fnOf "tellings" "Book.tellings" (ef d8) (cX d8) (cG d8) .none kV69 dc69 pm69 an69 cd69 ct69),sl69⟩) (c69:codeIn K cd69 "Book.tellings" =true) (k69:keepIn K (.ref f69)=true)
  (z1:nsIn K mainGlobals "isinstance" =some none) (z2:nsIn K mainGlobals "int" =some none) (z3:nsIn K mainGlobals "bool" =some none) (z4:nsIn K mainGlobals "str" =some none) (z5:nsIn K mainGlobals "len" =some none) (z6:nsIn K mainGlobals "all" =some none) (z7:nsIn K mainGlobals "range" =some none) (z8:nsIn K mainGlobals "list" =some none) (z9:nsIn K mainGlobals "tuple" =some none) (z10:nsIn K mainGlobals "set" =some none) (z11:nsIn K mainGlobals "zip" =some none) (z12:nsIn K mainGlobals "enumerate" =some none) (z13:nsIn K mainGlobals "min" =some none) (z14:nsIn K mainGlobals "max" =some none) (z15:nsIn K mainGlobals "any" =some none) (z16:nsIn K mainGlobals "sorted" =some none) (z17:nsIn K mainGlobals "dict" =some none) (z18:nsIn K mainGlobals "sum" =some none) (z19:nsIn K mainGlobals "reversed" =some none)
  (g1:nsIn K mainGlobals "MOST_PERSONS" =some (some (.int 24 tk1))) (g2:nsIn K mainGlobals "MOST_SIGHTS" =some (some (.int 24 tk2))) (g3:nsIn K mainGlobals "MOST_TALKS" =some (some (.int 120 tk3))) (g4:nsIn K mainGlobals "MOST_SAYINGS" =some (some (.int 60 tk4))) (g5:nsIn K mainGlobals "MOST_WORDS" =some (some (.int 6 tk5))):Facts K
open PySem.W in
def vw:Program:=view PySem.Challenge.rw_knewby_k31_latest_hours.row.toRowW.prog [0,2,3,4,5,6,7,8,10,11,12,13,14,15,16,18,19,20,21,22,23,25,26,27,28,29,30,31,32,34,36,37,38,39,41,42,43,44,45,46,47,48,49,50,51,52,53,54,55,56,57,58,59,60,61,63,64,65,66,67,68,69,70,71,72,73,74,75,76,77,78,79,80,81,82,83,84,85,86]
end K31
open PySem PySem.W PyProof.Rows
set_option maxRecDepth 100000 in
theorem K31.u3(w:World):TR.qj (OpenRow.toRowW PySem.Challenge.rw_knewby_k31_latest_hours.row).prog w 20000 (λs₀ s₁=>staticsOk (importedModules (OpenRow.toRowW PySem.Challenge.rw_knewby_k31_latest_hours.row).prog.main.body) s₀.heap s₁.heap && namesBound (OpenRow.toRowW PySem.Challenge.rw_knewby_k31_latest_hours.row).prog s₁.heap && gensDone s₁ && laidKept s₀.heap s₁.heap)=some true:=by
 delta TR.qj PySem.W.fencedOpening;(try rw[PySem.W.Fast.te10274390034422433532]);(try rw[PySem.W.Fast.te4187177175401517315]);(try rw[PySem.W.Fast.te1435165496053646825]);(try rw[PySem.W.Fast.te14289696077712309145]);(try rw[PySem.W.Fast.te11892475500146522536]);(try rw[PySem.W.Fast.te10156331382660048174]);(try rw[PySem.W.Fast.te6613529449190102663]);(try rw[PySem.W.Fast.te14364793385576792824]);(try rw[PySem.W.Fast.te5923862056798008813]);kernel_rfl
set_option maxRecDepth 100000 in
theorem K31.uZ(w:World):TR.qj (OpenRow.toRowW PySem.Challenge.rw_knewby_k31_latest_hours.row).prog w 20000 (λ_ s₁=>openSeen K31.vw [] (importedModules (OpenRow.toRowW PySem.Challenge.rw_knewby_k31_latest_hours.row).prog.main.body) (λs=>xlAt K31.vw [] s && recOk (RowW.records (OpenRow.toRowW PySem.Challenge.rw_knewby_k31_latest_hours.row)) s) true s₁)=some (openGood K31.vw []):=by
 delta TR.qj PySem.W.fencedOpening;(try rw[PySem.W.Fast.te10274390034422433532]);(try rw[PySem.W.Fast.te4187177175401517315]);(try rw[PySem.W.Fast.te1435165496053646825]);(try rw[PySem.W.Fast.te14289696077712309145]);(try rw[PySem.W.Fast.te11892475500146522536]);(try rw[PySem.W.Fast.te10156331382660048174]);(try rw[PySem.W.Fast.te6613529449190102663]);(try rw[PySem.W.Fast.te14364793385576792824]);(try rw[PySem.W.Fast.te5923862056798008813]);kernel_rfl
local macro_rules
 | `(tactic|o_head $H)=> `(tactic| (
  refine holds_open (N:=20000) (q:=K31.vw) (loose:=[])
   (Xt:=λs=>xlAt K31.vw [] s && recOk (RowW.records (OpenRow.toRowW PySem.Challenge.rw_knewby_k31_latest_hours.row)) s)
   (XP:=XL K31.vw []) (YP:=Hook.says $H) (Ya:=Hook.val $H) (Yf:=Hook.obs $H)
   ?hl (Hook.of $H) (Hook.keeps $H)
   (λs e=>xl_of s (Bool.and_eq_true_iff.mp e).1) XL.keeps
   (by rfl) (by rfl) (by rfl)
   (λs e=>recFacts_of (Bool.and_eq_true_iff.mp e).2)
   (by rfl) (by first|assumption|decide+kernel) (by decide+kernel)
   ⟨rfl,rfl,rfl,rfl,rfl,by decide+kernel⟩ ?hw ?hc
  (case hl=>(refine TR.Hw K31.u3 K31.uZ λw=>?_;delta TR.qj PySem.W.fencedOpening;(try rw[PySem.W.Fast.te10274390034422433532]);(try rw[PySem.W.Fast.te4187177175401517315]);(try rw[PySem.W.Fast.te1435165496053646825]);(try rw[PySem.W.Fast.te14289696077712309145]);(try rw[PySem.W.Fast.te11892475500146522536]);(try rw[PySem.W.Fast.te10156331382660048174]);(try rw[PySem.W.Fast.te6613529449190102663]);(try rw[PySem.W.Fast.te14364793385576792824]);(try rw[PySem.W.Fast.te5923862056798008813]);kernel_rfl))))
set_option maxRecDepth 100000 in
set_option maxHeartbeats 0 in
theorem K31.closing (HW:∀{q:Program}{loose:List Str}{XP:(Str->Option Value)->Heap->Prop}{YP:World->Heap->Prop}{d:DefRec}{K:Params->PySem.W.Frag},d.name= "law" ->d.params.defaults=[]->(∀(w:World) (h:Heap),YP w h->(K w.params).In h)->
  (∀(w:World)(mg:Str->Option Value)(fa:Addr)(h:Heap),(K w.params).In h->h.Ns mainGlobals mg->mg d.name=some (.ref fa)->K31.Facts (K w.params))->PySem.W.WalkO q loose XP YP PySem.Challenge.rw_knewby_k31_latest_hours.row.toRowW d [] (λf vs=>PySem.call f vs)):PySem.Challenge.rw_knewby_k31_latest_hours.Holds:=by
 w_on;o_law;k_head;(case hw=>w_witness2)
 k_fill
 refine HW rfl rfl (λw h Y=>PySem.W.kIn_of Y) ?F
 case F=>
  intro w mg fa h KX G hmg;refine' K31.Facts.mk ?aW ?lW ?vW ?h1 ?h2 ?h3 ?h4 ?h5 ?h6 ?h7 ?h8 ?h9 ?h10 ?h11 ?h12 ?h13 ?h14 ?h15 ?h16 ?h17 ?h18 ?h19 ?h20 ?h21 ?h22 ?h23 ?h24 ?h25 ?h26 ?h27 ?h28 ?h29 ?h30 ?h31 ?h32 ?h33 ?h34 ?h35 ?h36 ?h37 ?h38 ?h39 ?h40 ?h41 ?h42 ?h43 ?h44 ?h45 ?h46 ?h47 ?h48 ?h49 ?h50 ?h51 ?h52 ?h53 ?h54 ?h55 ?h56 ?h57 ?h58 ?h59 ?h60 ?h61 ?h62 ?h63 ?aC ?pg ?hd ?po ?sa ?mk ?kc ?nP ?nS ?nT ?nY ?x1 ?x2 ?x3 ?x4 ?x5 ?x6 ?x7 ?x8 ?x9 ?x10 ?x11 ?x12 ?x13 ?x14 ?x15 ?x16 ?x17 ?x18 ?x19 ?x20 ?a64 ?i64 ?l64 ?c64 ?k64 ?a65 ?i65 ?l65 ?c65 ?k65 ?a66 ?i66 ?l66 ?c66 ?k66 ?a67 ?i67 ?l67 ?c67 ?k67 ?a68 ?i68 ?l68 ?c68 ?k68 ?a69 ?i69 ?l69 ?c69 ?k69 ?z1 ?z2 ?z3 ?z4 ?z5 ?z6 ?z7 ?z8 ?z9 ?z10 ?z11 ?z12 ?z13 ?z14 ?z15 ?z16 ?z17 ?z18 ?z19 ?g1 ?g2 ?g3 ?g4 ?g5
  (case aW=>k_is)
  (case lW=>k_is)
  (case aC=>k_is)
  (case pg=>k_is)
  (case hd=>k_is)
  (case po=>k_is)
  (case sa=>k_is)
  (case mk=>k_is)
  (case kc=>k_is)
  (case nP=>k_is)
  (case nS=>k_is)
  (case nT=>k_is)
  (case nY=>k_is)
  (case x1=>k_is)
  (case x2=>k_is)
  (case x3=>k_is)
  (case x4=>k_is)
  (case x5=>k_is)
  (case x6=>k_is)
  (case x7=>k_is)
  (case x8=>k_is)
  (case x9=>k_is)
  (case x10=>kernel_rfl)
  (case x11=>kernel_rfl)
  (case x12=>kernel_rfl)
  (case x13=>kernel_rfl)
  (case x14=>kernel_rfl)
  (case x15=>kernel_rfl)
  (case x16=>kernel_rfl)
  (case x17=>kernel_rfl)
  (case x18=>kernel_rfl)
  (case x19=>kernel_rfl)
  (case x20=>kernel_rfl)
  (case a64=>k_is)
  (case i64=>k_is)
  (case l64=>k_is)
  (case c64=>k_is)
  (case k64=>k_is)
  (case a65=>k_is)
  (case i65=>k_is)
  (case l65=>k_is)
  (case c65=>k_is)
  (case k65=>k_is)
  (case a66=>k_is)
  (case i66=>k_is)
  (case l66=>k_is)
  (case c66=>k_is)
  (case k66=>k_is)
  (case a67=>k_is)
  (case i67=>k_is)
  (case l67=>k_is)
  (case c67=>k_is)
  (case k67=>k_is)
  (case a68=>k_is)
  (case i68=>k_is)
  (case l68=>k_is)
  (case c68=>k_is)
  (case k68=>k_is)
  (case a69=>k_is)
  (case i69=>k_is)
  (case l69=>k_is)
  (case c69=>k_is)
  (case k69=>k_is)
  (case z1=>k_is)
  (case z2=>k_is)
  (case z3=>k_is)
  (case z4=>k_is)
  (case z5=>k_is)
  (case z6=>k_is)
  (case z7=>k_is)
  (case z8=>k_is)
  (case z9=>k_is)
  (case z10=>k_is)
  (case z11=>k_is)
  (case z12=>k_is)
  (case z13=>k_is)
  (case z14=>k_is)
  (case z15=>k_is)
  (case z16=>k_is)
  (case z17=>k_is)
  (case z18=>k_is)
  (case z19=>k_is)
  (case g1=>k_is)
  (case g2=>k_is)
  (case g3=>k_is)
  (case g4=>k_is)
  (case g5=>k_is)
  (case vW=>rfl)
  all_goals (apply K31.FF.mk<;>k_is)
end
namespace L2
open PySem PySem.Spec PyProof.Rows
abbrev Key:=Sum Int Str
def jf:Key->Value->Bool
 |.inl k,v=>Value.isInt k v
 |.inr x,v=>Value.isStrOf x v
def K0(w:World):Key->Int
 |.inl k=>hashInt k
 |.inr x=>hashStr w x
theorem dy:∀{k:Key}{v:Value},jf k v=true->(∃i t,k=Sum.inl i/\v=Value.int i t)\/(∃x t,k=Sum.inr x/\v=Value.str x t)
 |.inl i,v,h=>by
  obtain⟨t,e⟩:=Value.isInt_shape (k:=i) (v:=v) h;exact .inl ⟨i,t,rfl,e⟩
 |.inr x,v,h=>by
  obtain⟨t,e⟩:=Value.isStrOf_shape (x:=x) (v:=v) h;exact .inr ⟨x,t,rfl,e⟩
theorem xU(i:Int)(t:Tok):jf (.inl i) (.int i t)=true:=by simp[jf,Value.isInt]
theorem qA(x:Str)(t:Tok):jf (.inr x) (.str x t)=true:=by simp[jf,Value.isStrOf]
theorem EN(a b:Int):decide ((Sum.inl a:Key)=Sum.inl b)=(a == b):=by
 by_cases e:a=b
 ·subst e;simp
 ·have h:¬(Sum.inl a:Key)=Sum.inl b:=λq=>e (Sum.inl.inj q)
  rw[decide_eq_false h];exact(beq_eq_false_iff_ne.mpr e).symm
theorem Fq(a b:Str):decide ((Sum.inr a:Key)=Sum.inr b)=decide (a=b):=by
 by_cases e:a=b
 ·subst e;simp
 ·have h:¬(Sum.inr a:Key)=Sum.inr b:=λq=>e (Sum.inr.inj q)
  rw[decide_eq_false h,decide_eq_false e]
theorem Fg(a:Int)(b:Str):decide ((Sum.inl a:Key)=Sum.inr b)=false:=decide_eq_false (λq=>nomatch q)
theorem Gr(a:Str)(b:Int):decide ((Sum.inr a:Key)=Sum.inl b)=false:=decide_eq_false (λq=>nomatch q)
def cN(prog:Program)(w:World):PySem.KeyKind prog w Key where
 is:=jf
 hash:=K0 w
 inj:=λv a b ha hb=>by
  rcases dy ha with ⟨i,t,rfl,rfl⟩|⟨x,t,rfl,rfl⟩
  ·rcases dy hb with ⟨j,u,rfl,e⟩|⟨y,u,rfl,e⟩
   ·injection e with e1 _;rw[e1]
   ·exact nomatch e
  ·rcases dy hb with ⟨j,u,rfl,e⟩|⟨y,u,rfl,e⟩
   ·exact nomatch e
   ·injection e with e1 _;rw[e1]
 byValue:=λk v h=>by
  rcases dy h with ⟨i,t,rfl,rfl⟩|⟨x,t,rfl,rfl⟩<;>rfl
 pyHash:=λhv h=>by
  rcases dy hv with ⟨i,t,rfl,rfl⟩|⟨x,t,rfl,rfl⟩
  ·exact wpAny_pyHash_int h
  ·exact wpAny_pyHash_str h
 eqBool:=λhu hv h=>by
  rcases dy hu with ⟨i,t,rfl,rfl⟩|⟨x,t,rfl,rfl⟩
  ·rcases dy hv with ⟨j,u,rfl,rfl⟩|⟨y,u,rfl,rfl⟩
   ·rw[EN]at h;exact wpAny_eqBool_int h
   ·rw[Fg]at h;exact SeqAt.EqAt.int_str i t y u _ _ _ _ h
  ·rcases dy hv with ⟨j,u,rfl,rfl⟩|⟨y,u,rfl,rfl⟩
   ·rw[Gr]at h;exact SeqAt.EqAt.str_int x t j u _ _ _ _ h
   ·rw[Fq]at h;exact wpAny_eqBool_str h
 «strs» :=λk x t v h=>by
  rcases dy h with ⟨i,u,rfl,e⟩|⟨y,u,rfl,e⟩
  ·exact nomatch e
  ·injection e with e1 _
   subst e1;cases v<;>rfl
theorem uE(prog:Program)(w:World)(i:Int)(t:Tok):(cN prog w).is (.inl i) (.int i t)=true:=xU i t
theorem tS(prog:Program)(w:World)(x:Str)(t:Tok):(cN prog w).is (.inr x) (.str x t)=true:=qA x t
end L2
namespace L2
open PySem PySem.Spec PyProof.Rows
inductive V where
 |non|bl (b:Bool)|int (i:Int)|str (x:Str)|byt (b:Array UInt8)|flt (b:UInt64)|ref (a:Addr)|ty (n:String)
 deriving DecidableEq
def RelV:V->Value->Prop
 |.non,u=>u=Value.none
 |.bl b,u=>u=Value.bool b
 |.int i,u=>∃t,u=Value.int i t
 |.str x,u=>∃t,u=Value.str x t
 |.byt b,u=>∃t,u=Value.bytes b t
 |.flt b,u=>∃t,u=Value.float b t
 |.ref a,u=>u=Value.ref a
 |.ty n,u=>u=Value.type n
abbrev Vals:List V->List Value->Prop:=Paired RelV
theorem Vals.length{xs:List V}{us:List Value}(r:Vals xs us):xs.length=us.length:=Paired.length r
theorem Vals.get:∀{xs:List V}{us:List Value}{i:Nat}{x:V},Vals xs us->xs[i]? =some x->∃u,us[i]? =some u/\RelV x u
 |_,_,_,_,.nil,e=>by simp at e
 |_,_,0,_,.cons r _,e=>by simp at e;subst e;exact⟨_,rfl,r⟩
 |_,_,i+1,x,.cons _ t,e=>by
  obtain⟨u,h1,h2⟩:=Vals.get (i:=i) (x:=x) t (by simpa using e);exact⟨u,by simpa using h1,h2⟩
theorem Vals.append:∀{xs ys:List V}{us ws:List Value},Vals xs us->Vals ys ws->Vals (xs++ys) (us++ws)
 |_,_,_,_,.nil,s=>s
 |_,_,_,_,.cons r t,s=>.cons r (Vals.append t s)
theorem Vals.take:∀{xs:List V}{us:List Value}(n:Nat),Vals xs us->Vals (xs.take n) (us.take n)
 |_,_,0,_=>.nil
 |_,_,_+1,.nil=>.nil
 |_,_,n+1,.cons r t=>.cons r (Vals.take n t)
theorem Vals.drop:∀{xs:List V}{us:List Value}(n:Nat),Vals xs us->Vals (xs.drop n) (us.drop n)
 |_,_,0,r=>r
 |_,_,_+1,.nil=>.nil
 |_,_,n+1,.cons _ t=>Vals.drop n t
def iX:Option V->Option Value->Prop
 |some v,some u=>RelV v u
 |none,none=>True
 |_,_=>False
def KV{κ:Type}:List (κ×V)->List (κ×Value)->Prop:=Paired λ(p:κ×V) (q:κ×Value)=>p.1=q.1/\RelV p.2 q.2
def kV:Key->V
 |.inl i=>.int i
 |.inr x=>.str x
inductive HO where
 |lst (xs:List V)
 |tup (xs:List V)
 |dK (kvs:List (Key×V))|dT (kvs:List (List Key×V))
 |set (S:Int->Bool)(n:Nat)
 |ins (C dx:Addr)(fs:List (Str×V))
 |own (x:Addr)
 |xd (fs:List (Str×V))
 |met (f x:Addr)
 |rng (lo hi:Int)
 |frz (o:Obj)(u:HO)
 |tbl (ps:Array Value)
 |ext (φ:Heap->Prop)
abbrev Hp:=Addr->Option HO
def upd(H:Hp)(a:Addr)(o:HO):Hp:=λb=>if b=a then some o else H b
theorem cD{H:Hp}{a:Addr}{o:HO}:upd H a o a=some o:=by unfold upd;rw[if_pos rfl]
theorem cH{H:Hp}{a b:Addr}{o:HO}(h:b≠a):upd H a o b=H b:=by unfold upd;rw[if_neg h]
theorem Dd{H:Hp}{a:Addr}{o u:HO}:upd (upd H a o) a u=upd H a u:=by
 funext b;unfold upd;split<;>rfl
theorem jK{H:Hp}{a b:Addr}{o u:HO}(h:H a=some o)(h':H b=some u)(d:o≠u):a≠b:=by
 intro e;subst e;rw[h]at h';exact d (Option.some.inj h')
theorem cE{H:Hp}{a b:Addr}{o:HO}(h:H a=some o)(h':H b=none):a≠b:=by
 intro e;subst e;rw[h]at h';cases h'
section
variable (P:Program)(w:World)
def dk(H:Hp)(h:Heap)(a:Addr):HO->Prop
 |.lst xs=>xs.length<=sizeLine/\∃(its:List Value) (n:Nat),Vals xs its/\h.get? a=some { cls:=.type "list",data:=.seq its.toArray n }
 |.tup xs=>xs.length<=sizeLine/\∃its:List Value,Vals xs its/\IsTup h a its.toArray
 |.dK kvs=>kvs.length<=sizeLine/\(a == sysModules)=false/\∃vs,KV kvs vs/\h.DictOf (cN P w) a vs
 |.dT kvs=>kvs.length<=sizeLine/\(a == sysModules)=false/\∃xs:List (List Key×Addr×Value),
   Paired (λ(p:List Key×V) (q:List Key×Addr×Value)=>p.1=q.1/\H q.2.1=some (.tup (p.1.map kV))/\RelV p.2 q.2.2) kvs xs/\
   ∃o es ep,h.get? a=some o/\o.ExactDict/\o.data=.dict es ep/\es.toList=xs.map (entryOfKey (tupleKind (cN P w)))/\(xs.map (·.1)).Nodup
 |.set S n=>h.SetOf (intKind P w) a S n
 |.ins C dx fs=>H dx=some (.own a)/\fs.length<=1000/\dx≠a/\h.get? a=some (instObj C dx)/\
   ∃mA,h.Ns1 dx mA/\(∀f,iX (fs.lookup f) (mA f))/\PySem.Within mA (fs.map (·.1))
 |.own _=>∃o,h.get? a=some o
 |.xd fs=>∃mA,h.Ns1 a mA/\∀f,iX (fs.lookup f) (mA f)
 |.rng lo hi=>∃t u v,h.get? a=some { cls:=.type "range",data:=.fields #[.int lo t,.int hi u,.int 1 v] }
 |.frz o u=>h.get? a=some o/\dk H h a u
 |.tbl ps=>h.get? a=some { cls:=.none,data:=.fields ps }
 |.met f x=>h.get? a=some (methodObj (.ref f) (.ref x))
 |.ext φ=>φ h/\(∃o,h.get? a=some o)/\∀h1 h2:Heap,φ h1->(∀o,h1.get? a=some o->h2.get? a=some o)->φ h2
def gw(H:Hp)(h:Heap):Prop:=∀a o,H a=some o->dk P w H h a o
end
section
variable {P:Program}{w:World}{H H':Hp}{h h':Heap}{a:Addr}{o:HO}
theorem dk.lt(x:dk P w H h a o):a < h.objs.size:=by
 cases o with
 |lst xs=>obtain⟨_,_,_,_,e⟩:=x;exact lt_size e
 |tup xs=>obtain⟨_,_,_,p⟩:=x;exact p.lt
 |dK kvs=>obtain⟨_,_,_,_,o,_,_,e,_⟩:=x;exact lt_size e
 |dT kvs=>obtain⟨_,_,_,_,o,_,_,e,_⟩:=x;exact lt_size e
 |set S n=>obtain⟨o,_,_,_,e,_⟩:=x;exact lt_size e
 |ins C dx fs=>obtain⟨_,_,_,e,_⟩:=x;exact lt_size e
 |own y=>obtain⟨_,e⟩:=x;exact lt_size e
 |xd fs=>obtain⟨_,⟨_,_,_,e,_⟩,_⟩:=x;exact lt_size e
 |rng lo hi=>obtain⟨_,_,_,e⟩:=x;exact lt_size e
 |frz ob u=>obtain⟨e,_⟩:=x;exact lt_size e
 |tbl ps=>exact lt_size (show h.get? a=some _ from x)
 |met f y=>exact lt_size (show h.get? a=some _ from x)
 |ext φ=>obtain⟨_,⟨_,e⟩,_⟩:=x;exact lt_size e
theorem Paired.GA{α β:Type}{F G:α->β->Prop}:∀{l₁:List α}{l₂:List β},Paired F l₁ l₂->(∀a b,F a b->G a b)->Paired G l₁ l₂
 |_,_,.nil,_=>.nil
 |_,_,.cons r t,f=>.cons (f _ _ r) (Paired.GA t f)
theorem dk.fN(x:dk P w H h a o)(k:∀b u,(b=a\/H b=some (.own a))->h.get? b=some u->h'.get? b=some u)
  (ho:∀b,H b=some (.own a)->H' b=some (.own a))(ht:∀b xs,H b=some (.tup xs)->H' b=some (.tup xs)):dk P w H' h' a o:=by
 induction o with
 |lst xs=>obtain⟨z,its,n,r,e⟩:=x;exact⟨z,its,n,r,k _ _ (.inl rfl) e⟩
 |tup xs=>obtain⟨z,its,r,ob,e,c⟩:=x;exact⟨z,its,r,ob,k _ _ (.inl rfl) e,c⟩
 |dK kvs=>obtain⟨z,y,vs,r,ob,es,ep,e,c⟩:=x;exact⟨z,y,vs,r,ob,es,ep,k _ _ (.inl rfl) e,c⟩
 |dT kvs=>
  obtain⟨z,y,xs,r,ob,es,ep,e,c⟩:=x;exact⟨z,y,xs,Paired.GA r λp q z=>⟨z.1,ht _ _ z.2.1,z.2.2⟩,ob,es,ep,k _ _ (.inl rfl) e,c⟩
 |set S n=>obtain⟨ob,es,ep,t,e,c⟩:=x;exact⟨ob,es,ep,t,k _ _ (.inl rfl) e,c⟩
 |ins C dx fs=>
  obtain⟨d,z,ne,e,mA,⟨od,es,ep,e2,c⟩,r⟩:=x;exact⟨ho _ d,z,ne,k _ _ (.inl rfl) e,mA,⟨od,es,ep,k _ _ (.inr d) e2,c⟩,r⟩
 |own y=>obtain⟨ob,e⟩:=x;exact⟨ob,k _ _ (.inl rfl) e⟩
 |xd fs=>obtain⟨mA,⟨od,es,ep,e,c⟩,r⟩:=x;exact⟨mA,⟨od,es,ep,k _ _ (.inl rfl) e,c⟩,r⟩
 |rng lo hi=>obtain⟨t,u,v,e⟩:=x;exact⟨t,u,v,k _ _ (.inl rfl) e⟩
 |frz ob u ih=>obtain⟨e,q⟩:=x;exact⟨k _ _ (.inl rfl) e,ih q⟩
 |tbl ps=>
  have e:h.get? a=some { cls:=.none,data:=.fields ps }:=x;show h'.get? a=some { cls:=.none,data:=.fields ps };exact k a _ (.inl rfl) e
 |met f y=>
  have e:h.get? a=some (methodObj (.ref f) (.ref y)):=x;show h'.get? a=some (methodObj (.ref f) (.ref y));exact k a _ (.inl rfl) e
 |ext φ=>obtain⟨p,⟨o,e⟩,st⟩:=x;exact⟨st _ _ p λo q=>k _ _ (.inl rfl) q,⟨o,k _ _ (.inl rfl) e⟩,st⟩
theorem gw.lt(x:gw P w H h)(e:H a=some o):a < h.objs.size:=(x a o e).lt
theorem gw.fresh(x:gw P w H h)(e:h.objs.size<=a):H a=none:=by
 cases q:H a with
 |none=>rfl
 |some u=>exact absurd (lt_of_lt_of_le (x.lt q) e) (lt_irrefl _)
theorem gw.kept(x:gw P w H h)(k:∀b u,h.get? b=some u->h'.get? b=some u):gw P w H h':=λa o e=>
 (x a o e).fN (λb u _ q=>k b u q) (λ_ q=>q) λ_ _ q=>q
theorem gw.laid(x:gw P w H h)(k:∀b u,h.get? b=some u->h'.get? b=some u)(hp:h.objs.size<=a)(new:dk P w (upd H a o) h' a o):gw P w (upd H a o) h':=λb u e=>by
 have hn:=x.fresh hp;by_cases hb:b=a
 ·subst hb;rw[cD]at e;cases e;exact new
 ·rw[cH hb]at e
  exact(x b u e).fN (λc v _ q=>k c v q) (λc q=>by rw[cH (cE q hn)];exact q) λc xs q=>by rw[cH (cE q hn)];exact q
end
def Rd(H:Hp)(a:Addr)(u:HO):Prop:=H a=some u\/∃o,H a=some (.frz o u)
theorem Rd.ok{P:Program}{w:World}{H:Hp}{h:Heap}{a:Addr}{u:HO}(r:Rd H a u)(x:gw P w H h):dk P w H h a u:=by
 rcases r with r|⟨o,r⟩
 ·exact x a u r
 ·obtain⟨_,q⟩:=x a _ r
  exact q
def Ip:Option HO->Prop
 |some (.lst _)=>True
 |some (.dK _)=>True
 |some (.dT _)=>True
 |some (.set _ _)=>True
 |some (.ins _ _ _)=>True
 |some (.ext _)=>True
 |_=>False
section
variable {P:Program}{w:World}{H:Hp}{h h':Heap}{x e:Addr}{o':HO}
theorem gw.write(ok:gw P w H h)(mu:Ip (H x))(he:e=x\/H e=some (.own x))(k:∀b u,b≠e->h.get? b=some u->h'.get? b=some u)(heo:∃u,h'.get? e=some u)
  (new:dk P w (upd H x o') h' x o'):gw P w (upd H x o') h':=λb u q=>by
 have nown:∀c y,H c=some (.own y)->c≠x:=λc y r z=>by subst z;rw[r]at mu;exact mu
 have ntup:∀c xs,H c=some (.tup xs)->c≠x:=λc xs r z=>by subst z;rw[r]at mu;exact mu
 by_cases hb:b=x
 ·subst hb;rw[cD]at q;cases q;exact new
 ·rw[cH hb]at q
  by_cases hbe:b=e
  ·have q':H b=some (.own x):=by
    rcases he with z|z
    ·exact absurd (hbe.trans z) hb
    ·rw[hbe];exact z
   rw[q]at q';cases q';obtain⟨v,hv⟩:=heo;exact⟨v,by rw[hbe];exact hv⟩
  ·refine(ok b u q).fN (λc v hc r=>k c v ?_ r) (λc r=>by rw[cH (nown c b r)];exact r) λc xs r=>by rw[cH (ntup c xs r)];exact r
   rcases hc with rfl|hc
   ·exact hbe
   ·rintro rfl
    rcases he with z|z
    ·exact nown c b hc z
    ·rw[hc]at z;cases z;exact hb rfl
end
structure Un(fs ex:List Addr)(H H':Hp)(h h':Heap):Prop where
 keep:∀b o,h.get? b=some o->H b=none->b ∉ fs->b ∉ ex->h'.get? b=some o
 slot:∀b o,h.get? b=some o->H b=none->b∈fs->b ∉ ex->∃sl,h'.get? b=some { o with slots:=sl }
 free:∀b o,h.get? b=some o->H b=none->b ∉ ex->H' b=none
 there:∀b o,h.get? b=some o->b ∉ ex->∃o',h'.get? b=some o'
 tups:∀b xs,H b=some (.tup xs)->H' b=some (.tup xs)
 frzs:∀b o u,H b=some (.frz o u)->H' b=some (.frz o u)
 tbls:∀b ps,H b=some (.tbl ps)->∃more,H' b=some (.tbl (ps++more))
section
variable {fs fs' ex ex':List Addr}{H H1 H2:Hp}{h h1 h2 h':Heap}{a x e:Addr}{o:HO}
theorem Un.any(u:Un fs ex H H1 h h1){b:Addr}{ob:Obj}(q:h.get? b=some ob)(n:H b=none)(hx:b ∉ ex):∃sl,h1.get? b=some { ob with slots:=sl }:=by
 by_cases hb:b∈fs
 ·exact u.slot b ob q n hb hx
 ·exact⟨ob.slots,u.keep b ob q n hb hx⟩
theorem Un.trans(a:Un fs ex H H1 h h1)(b:Un fs ex H1 H2 h1 h2):Un fs ex H H2 h h2 where
 keep:=λc ob q n hc hx=>b.keep c ob (a.keep c ob q n hc hx) (a.free c ob q n hx) hc hx
 slot:=λc ob q n hc hx=>by
  obtain⟨sl,e1⟩:=a.slot c ob q n hc hx;obtain⟨sl',e2⟩:=b.slot c _ e1 (a.free c ob q n hx) hc hx;exact⟨sl',e2⟩
 free:=λc ob q n hx=>by
  obtain⟨o',e1⟩:=a.there c ob q hx;exact b.free c o' e1 (a.free c ob q n hx) hx
 there:=λc ob q hx=>by
  obtain⟨o',e1⟩:=a.there c ob q hx;exact b.there c o' e1 hx
 tups:=λc xs q=>b.tups c xs (a.tups c xs q)
 frzs:=λc ob xs q=>b.frzs c ob xs (a.frzs c ob xs q)
 tbls:=λc ps q=>by
  obtain⟨m1,e1⟩:=a.tbls c ps q;obtain⟨m2,e2⟩:=b.tbls c _ e1;exact⟨m1++m2,by rw[e2,Array.append_assoc]⟩
theorem Un.kept(k:∀b u,h.get? b=some u->h'.get? b=some u):Un fs ex H H h h':=
 ⟨λb ob q _ _ _=>k b ob q,λb ob q _ _ _=>⟨ob.slots,k b ob q⟩,λ_ _ _ n _=>n,λb ob q _=>⟨ob,k b ob q⟩,λ_ _ q=>q,λ_ _ _ q=>q,λ_ ps q=>⟨#[],by rw[q];simp⟩⟩
theorem Un.refl:Un fs ex H H h h:=Un.kept λ_ _ q=>q
theorem Un.laid(k:∀b u,h.get? b=some u->h'.get? b=some u)(hp:h.objs.size<=a)(hn:H a=none):Un fs ex H (upd H a o) h h' where
 keep:=λb u q _ _ _=>k b u q
 slot:=λb u q _ _ _=>⟨u.slots,k b u q⟩
 free:=λb u q n _=>by rw[cH (ne_of_lt (lt_of_lt_of_le (lt_size q) hp))];exact n
 there:=λb u q _=>⟨u,k b u q⟩
 tups:=λb xs q=>by rw[cH (cE q hn)];exact q
 frzs:=λb u xs q=>by rw[cH (cE q hn)];exact q
 tbls:=λb ps q=>⟨#[],by rw[cH (cE q hn),q];simp⟩
theorem Un.write(mu:Ip (H x))(he:e=x\/H e=some (.own x))(k:∀b u,b≠e->h.get? b=some u->h'.get? b=some u)(heo:∃u,h'.get? e=some u):Un fs ex H (upd H x o) h h':=by
 have hx:∀b,H b=none->b≠x:=λb n z=>by subst z;rw[n]at mu;exact mu
 have hb:∀b,H b=none->b≠e:=λb n z=>by
  subst z;rcases he with r|r
  ·exact hx b n r
  ·rw[n]at r;cases r
 have hm:∀b u,H b=some u->¬Ip (some u)->b≠x:=λb u q nm z=>by subst z;rw[q]at mu;exact nm mu
 refine⟨λb u q n _ _=>k b u (hb b n) q,λb u q n _ _=>⟨u.slots,k b u (hb b n) q⟩,λb u q n _=>by rw[cH (hx b n)];exact n,λb u q _=>?_,
  λb xs q=>by rw[cH (hm b _ q λz=>z)];exact q,λb u xs q=>by rw[cH (hm b _ q λz=>z)];exact q,λb ps q=>⟨#[],by rw[cH (hm b _ q λz=>z),q];simp⟩⟩
 by_cases hbe:b=e
 ·subst hbe;exact heo
 ·exact⟨u,k b u hbe q⟩
end
def BV(h:Heap)(H:Hp):List Addr:=(List.range h.objs.size).filter λa=>(H a).isSome
def sh(h:Heap)(H:Hp):Heap:=hideAll h (BV h H)
theorem zb(h:Heap)(H:Hp):(sh h H).objs.size=h.objs.size:=PySem.W.hideAll_size _ _
theorem zp{h:Heap}{H:Hp}{b:Addr}{o:Obj}(e:h.get? b=some o)(n:H b=none):(sh h H).get? b=some o:=
 PySem.W.hideAll_get _ e λhm=>by
  have q:(H b).isSome=true:=(mem_filter.mp hm).2;rw[n]at q;simp at q
theorem Cv{h:Heap}{H:Hp}{b:Addr}{o:Obj}(e:(sh h H).get? b=some o):h.get? b=some o/\H b=none:=by
 have e':h.get? b=some o:=of_hideAll (BV h H) e;refine⟨e',?_⟩;cases q:H b with
 |none=>rfl
 |some x=>
  have hm:b∈BV h H:=mem_filter.mpr ⟨mem_range.mpr (lt_size e'),by simp[q]⟩;have z:(sh h H).get? b=none:=PySem.W.hideAll_none (BV h H) hm;rw[z]at e;cases e
def DA(g h:Heap)(L:Addr):List (Addr×Obj):=(List.range h.objs.size).filterMap λa=>if a=L\/(g.get? a).isSome=true then none else(h.get? a).map λo=>(a,o)
def rest(g h:Heap)(L d:Addr):List (Addr×Obj):=(DA g h L).filter λp=>decide (p.1≠d)
end L2
namespace L2
open PySem PySem.Spec PyProof.Rows
structure Mod(K:PySem.W.Frag)(mg:Str->Option Value)(base:Heap):Prop where
 kin:K.In base
 glob:base.Ns mainGlobals mg
 blt:∃mb,base.Ns builtinsNs mb/\∀x:Str,x≠ "__name__" ->mb x=bootBuiltins x
 nolimit:base.NoLimit
structure Cx where
 prog:Program
 w:World
 K:PySem.W.Frag
 mg:Str->Option Value
 base:Heap
 A:Around
 N:List Str
 s₀:Shared
 H₀:Hp
 env:Env
 outer:List Env
 stack:List Env
 ex:List Addr
 fn:Str->Bool
 calm:Bool
 pn:List (Addr×Obj)
 xe:Value->Shared->Prop
def i5(l:List Env):List Addr:=l.filterMap (·.frame)
abbrev Cx.fs(X:Cx):List Addr:=i5 X.outer
def K3(sc:Scope)(x:Str):Prop:=sc.names.lookup x=some .local\/sc.names.lookup x=some .cell\/sc.names.lookup x=some .free
def Loc(sc:Scope)(x:Str):Prop:=sc.names.lookup x=some .local\/sc.names.lookup x=some .cell
def Look(env:Env)(h:Heap)(m:Str->Option Value)(x:Str)(u:Value):Prop:=
 (env.kindOf x=some .local/\m x=some u)\/((env.kindOf x=some .cell\/env.kindOf x=some .free)/\∃c,env.cells.lookup x=some c/\h.IsCell c (some u))
structure Cx.Ok(X:Cx):Prop where
 mod:Mod X.K X.mg X.base
 kind:X.env.scope.kind=.function
 glob:X.env.globals=mainGlobals
 blt:X.env.builtins=builtinsNs
 above:X.s₀.heap.objs.size<=X.env.locals
 inj:∀x y c,X.env.cells.lookup x=some c->X.env.cells.lookup y=some c->x=y
 has:∀x,(X.env.kindOf x=some .cell\/X.env.kindOf x=some .free)->∃c,X.env.cells.lookup x=some c
 cab:∀x c,X.fn x=true->X.env.cells.lookup x=some c->X.s₀.heap.objs.size<=c
 hd:X.calm=true->X.A.handled=none
 frames:X.A.frames=some X.stack
 stk:X.stack=X.outer\/(X.stack=X.env::X.outer/\X.env.frame=some X.env.locals)
 exf:∀b∈X.ex,b≠X.env.locals/\∀x c,X.env.cells.lookup x=some c->c≠b
 bs:∀b o,X.base.get? b=some o->X.s₀.heap.get? b=some o/\X.H₀ b=none
 bsz:X.base.objs.size<=X.s₀.heap.objs.size
 noex:∀b o,X.base.get? b=some o->b ∉ X.ex
 exfs:∀b∈X.ex,b ∉ X.fs
 lA:X.s₀.heap.FunFrames X.base X.outer
 frf:∀b∈X.fs,X.H₀ b=none
structure Inv(X:Cx)(pins:List (Addr×Obj))(σ:List (Option V))(H:Hp)(s:Shared):Prop where
 ok:X.Ok
 os:s.os=X.s₀.os
 bare:AllBare s.gens
 base:Un X.fs X.ex X.H₀ H X.s₀.heap s.heap
 loc:∃m,s.heap.Ns X.env.locals m/\∀(i:Nat) (x:Str) (v:V),X.N[i]? =some x->σ[i]? =some (some v)->K3 X.env.scope x->∃u,RelV v u/\Look X.env s.heap m x u
 cell:∀x c,X.env.cells.lookup x=some c->∃v,s.heap.IsCell c v
 free:H X.env.locals=none
 freeC:∀x c,X.env.cells.lookup x=some c->H c=none
 pin:∀p∈X.pn++pins,s.heap.get? p.1=some p.2/\H p.1=none/\p.1≠X.env.locals/\p.1 ∉ X.fs/\∀v,p.2.data≠.cell v
 hok:gw X.prog X.w H s.heap
 len:σ.length=X.N.length
section
variable {X:Cx}{pins:List (Addr×Obj)}{σ:List (Option V)}{H H':Hp}{s:Shared}{h':Heap}
theorem Cx.Ok.KS(ok:X.Ok){b:Addr}{o:Obj}(e:X.base.get? b=some o):b ∉ X.fs:=λhb=>by
 have:=(ok.lA.mem hb).1;rw[e]at this;cases this
theorem Inv.bs(I:Inv X pins σ H s):∀b o,X.base.get? b=some o->s.heap.get? b=some o/\H b=none:=λb o e=>
 ⟨I.base.keep b o (I.ok.bs b o e).1 (I.ok.bs b o e).2 (I.ok.KS e) (I.ok.noex b o e),I.base.free b o (I.ok.bs b o e).1 (I.ok.bs b o e).2 (I.ok.noex b o e)⟩
theorem Inv.bk(I:Inv X pins σ H s):∀b o,X.base.get? b=some o->s.heap.get? b=some o:=λb o e=>(I.bs b o e).1
theorem Inv.mod(I:Inv X pins σ H s):Mod X.K X.mg X.base:=I.ok.mod
theorem Inv.iw(I:Inv X pins σ H s):X.K.In s.heap:=I.ok.mod.kin.keeps I.bk
theorem Inv.lt(I:Inv X pins σ H s):X.env.locals < s.heap.objs.size:=let ⟨_,hn,_⟩:=I.loc;hn.lt
theorem Inv.sz(I:Inv X pins σ H s):X.s₀.heap.objs.size<=s.heap.objs.size:=le_trans I.ok.above (le_of_lt I.lt)
theorem Inv.Lb(I:Inv X pins σ H s){a:Addr}(h:s.heap.objs.size<=a):a ∉ X.fs:=λhb=>by
 obtain⟨_,o,ho,_⟩:=I.ok.lA.mem hb;exact absurd (lt_of_lt_of_le (lt_size ho) (le_trans I.sz h)) (lt_irrefl _)
theorem Inv.Bn(I:Inv X pins σ H s):∀x c,X.env.cells.lookup x=some c->c≠X.env.locals:=λx c e z=>by
 obtain⟨v,o,ho,hd⟩:=I.cell x c e;obtain⟨m,⟨o',es,ep,ho',hd',_⟩,_⟩:=I.loc;rw[z,ho']at ho;cases ho;rw[hd']at hd;cases hd
theorem Inv.lA(I:Inv X pins σ H s):s.heap.FunFrames X.base X.outer:=by
 have all:∀(l:List Env),(∀b∈i5 l,b∈X.fs)->X.s₀.heap.FunFrames X.base l->s.heap.FunFrames X.base l:=by
  intro l
  induction l with
  |nil=>intro _ _;trivial
  |cons env r ih=>
   intro hs hl;obtain⟨hk,⟨L,o,hf,hn,ho,hd⟩,hr⟩:=hl;have hL:L∈X.fs:=hs L (by unfold i5;rw[List.filterMap_cons,hf];exact mem_cons_self);obtain⟨sl,e⟩:=I.base.slot L o ho (I.ok.frf L hL) hL λz=>I.ok.exfs L z hL;exact⟨hk,⟨L,_,hf,hn,e,hd⟩,ih (λb hb=>hs b (by unfold i5;rw[List.filterMap_cons,hf];exact mem_cons_of_mem _ hb)) hr⟩
 exact all X.outer (λ_ hb=>hb) I.ok.lA
theorem Inv.stack(I:Inv X pins σ H s):s.heap.FunFrames X.base X.stack:=by
 rcases I.ok.stk with e|⟨e,hf⟩
 ·rw[e];exact I.lA
 ·rw[e]
  obtain⟨m,hn,_⟩:=I.loc;refine .cons (by rw[I.ok.kind];decide) hf hn ?_ I.lA;exact Heap.get?_none_of_le (le_trans I.ok.bsz I.ok.above)
theorem Inv.wz(I:Inv X pins σ H s):∀b∈i5 X.stack,b∈X.env.locals::X.fs:=λb hb=>by
 rcases I.ok.stk with e|⟨e,hf⟩
 ·rw[e]at hb;exact mem_cons_of_mem _ hb
 ·rw[e]at hb
  unfold i5 at hb;rw[List.filterMap_cons,hf]at hb;exact hb
theorem Inv.kC(I:Inv X pins σ H s):∀b∈i5 X.stack,H b=none:=λb hb=>by
 rcases mem_cons.mp (I.wz b hb) with e|hb
 ·rw[e];exact I.free
 ·obtain⟨_,o,ho,_⟩:=I.ok.lA.mem hb
  exact I.base.free b o ho (I.ok.frf b hb) λz=>I.ok.exfs b z hb
theorem Inv.step{g':Array GenState}{t':Nat}{d':Drawn}{ch:List Addr}(I:Inv X pins σ H s)
  (hch:∀b∈ch,(b∈X.ex\/X.s₀.heap.objs.size<=b)/\b≠X.env.locals/\(∀x c,X.env.cells.lookup x=some c->c≠b)/\∀p∈X.pn++pins,p.1≠b)
  (keep:∀b o,b≠X.env.locals->b ∉ X.fs->b ∉ ch->s.heap.get? b=some o->H b=none->h'.get? b=some o)
  (slot:∀b o,b≠X.env.locals->b∈X.fs->b ∉ ch->s.heap.get? b=some o->H b=none->∃sl,h'.get? b=some { o with slots:=sl })(free:∀b o,b ∉ ch->s.heap.get? b=some o->H b=none->H' b=none)
  (there:∀b o,b ∉ ch->s.heap.get? b=some o->∃o',h'.get? b=some o')
  (tups:∀b xs,H b=some (.tup xs)->H' b=some (.tup xs))(frzs:∀b o u,H b=some (.frz o u)->H' b=some (.frz o u))(tbls:∀b ps,H b=some (.tbl ps)->∃more,H' b=some (.tbl (ps++more)))
  (ns:∀m,s.heap.Ns X.env.locals m->h'.Ns X.env.locals m)(hok:gw X.prog X.w H' h')(hg:AllBare g'):
  Inv X pins σ H' { s with heap:=h',gens:=g',drawn:=d',toks:=t' }:=by
 have neL:∀b o,X.s₀.heap.get? b=some o->b≠X.env.locals:=λb o e=>ne_of_lt (lt_of_lt_of_le (lt_size e) I.ok.above);have neC:∀b o,X.s₀.heap.get? b=some o->b ∉ X.ex->b ∉ ch:=λb o e hx hb=>by
  rcases (hch b hb).1 with z|z
  ·exact hx z
  ·exact absurd (lt_of_lt_of_le (lt_size e) z) (lt_irrefl _)
 have cellK:∀x c,X.env.cells.lookup x=some c->∀v,s.heap.IsCell c v->h'.IsCell c v:=λx c e v ⟨o,ho,hd⟩=>by
  have nch:c ∉ ch:=λz=>(hch c z).2.2.1 x c e rfl;by_cases hc:c∈X.fs
  ·obtain⟨sl,q⟩:=slot c o (I.Bn x c e) hc nch ho (I.freeC x c e)
   exact⟨_,q,hd⟩
  ·exact⟨o,keep c o (I.Bn x c e) hc nch ho (I.freeC x c e),hd⟩
 refine⟨I.ok,I.os,hg,⟨λb o e n hb hx=>?_,λb o e n hb hx=>?_,λb o e n hx=>?_,λb o e hx=>?_,λb xs e=>tups b xs (I.base.tups b xs e),λb o xs e=>frzs b o xs (I.base.frzs b o xs e),λb ps e=>?_⟩,?_,λx c e=>?_,?_,λx c e=>?_,λp hp=>?_,hok,I.len⟩
 ·exact keep b o (neL b o e) hb (neC b o e hx) (I.base.keep b o e n hb hx) (I.base.free b o e n hx)
 ·obtain⟨sl,e1⟩:=I.base.slot b o e n hb hx
  obtain⟨sl',e2⟩:=slot b _ (neL b o e) hb (neC b o e hx) e1 (I.base.free b o e n hx);exact⟨sl',e2⟩
 ·obtain⟨o',e1⟩:=I.base.there b o e hx
  exact free b o' (neC b o e hx) e1 (I.base.free b o e n hx)
 ·obtain⟨o',e1⟩:=I.base.there b o e hx
  exact there b o' (neC b o e hx) e1
 ·obtain⟨m1,e1⟩:=I.base.tbls b ps e
  obtain⟨m2,e2⟩:=tbls b _ e1;exact⟨m1++m2,by rw[e2,Array.append_assoc]⟩
 ·obtain⟨m,hn,hl⟩:=I.loc
  refine⟨m,ns m hn,λi x v e1 e2 e3=>?_⟩;obtain⟨u,r,l⟩:=hl i x v e1 e2 e3;refine⟨u,r,?_⟩;rcases l with l|⟨k,c,e,z⟩
  ·exact .inl l
  ·exact .inr ⟨k,c,e,cellK x c e _ z⟩
 ·obtain⟨v,z⟩:=I.cell x c e
  exact⟨v,cellK x c e v z⟩
 ·obtain⟨m,⟨o,_,_,ho,_⟩,_⟩:=I.loc
  exact free _ o (λz=>(hch _ z).2.1 rfl) ho I.free
 ·obtain⟨v,o,ho,hd⟩:=I.cell x c e
  exact free c o (λz=>(hch c z).2.2.1 x c e rfl) ho (I.freeC x c e)
 ·obtain⟨e,n,ne,nf,d⟩:=I.pin p hp
  have nch:p.1 ∉ ch:=λz=>(hch p.1 z).2.2.2 p hp rfl;exact⟨keep p.1 p.2 ne nf nch e n,free p.1 p.2 nch e n,ne,nf,d⟩
theorem Inv.un{t':Nat}(I:Inv X pins σ H s)(u:Un X.fs [] H H' s.heap h')(hok:gw X.prog X.w H' h'):Inv X pins σ H' { s with heap:=h',toks:=t' }:=by
 obtain⟨m,⟨o,es,ep,ho,r⟩,_⟩:=id I.loc;obtain⟨sl,hL⟩:=u.any ho I.free (by simp);exact I.step (g':=s.gens) (d':=s.drawn) (ch:=[]) (λ_ z=>nomatch z) (λb o _ hb _ e n=>u.keep b o e n hb (by simp)) (λb o _ hb _ e n=>u.slot b o e n hb (by simp)) (λb o _ e n=>u.free b o e n (by simp)) (λb o _ e=>u.there b o e (by simp)) u.tups u.frzs u.tbls (λm' hm=>by
  obtain⟨o',es',ep',ho',r'⟩:=hm;rw[ho]at ho';cases ho';exact⟨_,es',ep',hL,r'⟩) hok I.bare
theorem Inv.call{g':Array GenState}{t':Nat}{d':Drawn}{ch:List Addr}(I:Inv X pins σ H s)(u:Un (i5 X.stack) ch H H' s.heap h')(hok:gw X.prog X.w H' h')(hg:AllBare g')
  (hch:∀b∈ch,(b∈X.ex\/X.s₀.heap.objs.size<=b)/\b≠X.env.locals/\(∀x c,X.env.cells.lookup x=some c->c≠b)/\∀p∈X.pn++pins,p.1≠b):
  Inv X pins σ H' { s with heap:=h',gens:=g',drawn:=d',toks:=t' }:=by
 obtain⟨m,⟨o,es,ep,ho,r⟩,_⟩:=id I.loc;obtain⟨sl,hL⟩:=u.any ho I.free λz=>(hch _ z).2.1 rfl;exact I.step (ch:=ch) hch (λb o hL hb hc e n=>u.keep b o e n (λz=>(mem_cons.mp (I.wz b z)).elim hL hb) hc) (λb o _ _ hc e n=>u.any e n hc) (λb o hc e n=>u.free b o e n hc) (λb o hc e=>u.there b o e hc) u.tups u.frzs u.tbls (λm' hm=>by
  obtain⟨o',es',ep',ho',r'⟩:=hm;rw[ho]at ho';cases ho';exact⟨_,es',ep',hL,r'⟩) hok hg
theorem Inv.turned{t':Nat}{it:Addr}(I:Inv X pins σ H s)(k:∀b o,b≠it->s.heap.get? b=some o->h'.get? b=some o)(hn:H it=none)(hL:it≠X.env.locals)
  (h1:it∈X.ex\/X.s₀.heap.objs.size<=it)(h2:∀x c,X.env.cells.lookup x=some c->c≠it)(h3:∀p∈X.pn++pins,p.1≠it):Inv X pins σ H { s with heap:=h',toks:=t' }:=by
 have nit:∀b u,H b=some u->b≠it:=λb u e z=>by rw[z,hn]at e;cases e
 refine I.step (g':=s.gens) (d':=s.drawn) (ch:=[it]) (λb hb=>?_) (λb o _ _ hc e _=>k b o (λz=>hc (by simp[z])) e) (λb o _ _ hc e _=>⟨o.slots,k b o (λz=>hc (by simp[z])) e⟩) (λ_ _ _ _ n=>n)
  (λb o hc e=>⟨o,k b o (λz=>hc (by simp[z])) e⟩) (λ_ _ e=>e) (λ_ _ _ e=>e) (λb ps e=>⟨#[],by rw[e];simp⟩) (λm hm=>?_) (λb u e=>?_) I.bare
 ·have e:b=it:=by simpa using hb
  subst e;exact⟨h1,hL,h2,h3⟩
 ·obtain⟨o,es,ep,ho,r⟩:=hm
  exact⟨o,es,ep,k _ o (Ne.symm hL) ho,r⟩
 ·refine(I.hok b u e).fN (λc v hc q=>k c v ?_ q) (λ_ q=>q) λ_ _ q=>q
  rcases hc with z|z
  ·rw[z];exact nit b u e
  ·exact nit c _ z
theorem Inv.tok(I:Inv X pins σ H s)(t:Nat):Inv X pins σ H { s with toks:=t }:=I.un (h':=s.heap) (t':=t) Un.refl I.hok
theorem Inv.kept{t':Nat}(I:Inv X pins σ H s)(k:∀b u,s.heap.get? b=some u->h'.get? b=some u):Inv X pins σ H { s with heap:=h',toks:=t' }:=I.un (Un.kept k) (I.hok.kept k)
theorem Inv.laid{a:Addr}{o:HO}{t':Nat}(I:Inv X pins σ H s)(k:∀b u,s.heap.get? b=some u->h'.get? b=some u)(hp:s.heap.objs.size<=a)(new:dk X.prog X.w (upd H a o) h' a o):
  Inv X pins σ (upd H a o) { s with heap:=h',toks:=t' }:=I.un (Un.laid k hp (I.hok.fresh hp)) (I.hok.laid k hp new)
theorem Inv.write{x e:Addr}{o:HO}{t':Nat}(I:Inv X pins σ H s)(mu:Ip (H x))(he:e=x\/H e=some (.own x))(k:∀b u,b≠e->s.heap.get? b=some u->h'.get? b=some u)(heo:∃u,h'.get? e=some u)
  (new:dk X.prog X.w (upd H x o) h' x o):Inv X pins σ (upd H x o) { s with heap:=h',toks:=t' }:=I.un (Un.write mu he k heo) (I.hok.write mu he k heo new)
theorem Inv.xD{pins':List (Addr×Obj)}(I:Inv X pins σ H s)(h:∀p∈pins',s.heap.get? p.1=some p.2/\H p.1=none/\p.1≠X.env.locals/\p.1 ∉ X.fs/\∀v,p.2.data≠.cell v):Inv X pins' σ H s:=
 ⟨I.ok,I.os,I.bare,I.base,I.loc,I.cell,I.free,I.freeC,λp hp=>(mem_append.mp hp).elim (λz=>I.pin p (mem_append_left _ z)) (h p),I.hok,I.len⟩
theorem o9{N:List Str}(hN:N.Nodup){i j:Nat}{x:Str}(a:N[i]? =some x)(b:N[j]? =some x):i=j:=by
 obtain⟨h1,e1⟩:=List.getElem?_eq_some_iff.mp a;obtain⟨h2,e2⟩:=List.getElem?_eq_some_iff.mp b;exact(List.getElem_inj hN).mp (e1.trans e2.symm)
theorem ym{M:Model}{A:Around}{E:Value->Shared->Prop}{i:Nat}{x:Str}{v:V}{u:Value}{Q:Unit->Shared->Prop}(I:Inv X pins σ H s)(hN:X.N.Nodup)(hi:X.N[i]? =some x)(hx:Loc X.env.scope x)(r:RelV v u)
  (h:∀s',Inv X pins (σ.set i (some v)) H s'->(∃a,Heap.SameBut a s.heap s'.heap/\(a=X.env.locals\/X.env.cells.lookup x=some a))->Q () s')(hf:X.fn x=true\/X.env.scope.names.lookup x=some .local:=by first|exact .inl rfl|exact .inr rfl|assumption):wpAny M A (storeName X.env x u) Q E s:=by
 obtain⟨m,hn,hl⟩:=id I.loc;have hcls:(X.env.scope.kind == .class || (X.env.scope.kind == .module && X.env.locals != X.env.globals))=false:=by rw[I.ok.kind];rfl
 have hiσ:i < σ.length:=by rw[I.len];exact(List.getElem?_eq_some_iff.mp hi).1
 have Bn:=I.Bn;have tracked:∀{a:Addr}{h':Heap},(∃o,s.heap.get? a=some o/\H a=none)->Heap.SameBut a s.heap h'->gw X.prog X.w H h':=λ{a h'} ha hs b ob e=>by
  obtain⟨_,_,hfree⟩:=ha;refine(I.hok b ob e).fN (λc w' hc q=>(hs.2 c ?_).trans q) (λ_ q=>q) λ_ _ q=>q;rintro rfl;rcases hc with rfl|hc
  ·rw[hfree]at e;cases e
  ·rw[hfree]at hc;cases hc
 rcases hx with hk|hk
 ·refine wpAny_storeName_local hk hn (λh' hn' hs=>?_) hcls
  obtain⟨oL,_,_,hoL,_⟩:=id hn;refine h _ ⟨I.ok,I.os,I.bare,⟨λb o e n hb hx=>?_,λb o e n hb hx=>?_,I.base.free,λb o e hx=>?_,I.base.tups,I.base.frzs,I.base.tbls⟩,⟨_,hn',λj y v' e1 e2 e3=>?_⟩,λy c e=>?_,I.free,I.freeC,λp hp=>?_,tracked ⟨oL,hoL,I.free⟩ hs,by simpa using I.len⟩ ⟨_,hs,.inl rfl⟩
  ·exact(hs.2 b (ne_of_lt (lt_of_lt_of_le (lt_size e) I.ok.above))).trans (I.base.keep b o e n hb hx)
  ·obtain⟨sl,e1⟩:=I.base.slot b o e n hb hx
   exact⟨sl,(hs.2 b (ne_of_lt (lt_of_lt_of_le (lt_size e) I.ok.above))).trans e1⟩
  ·obtain⟨o',e1⟩:=I.base.there b o e hx
   exact⟨o',(hs.2 b (ne_of_lt (lt_of_lt_of_le (lt_size e) I.ok.above))).trans e1⟩
  ·by_cases hj:j=i
   ·subst hj
    rw[hi]at e1;cases e1;rw[getElem?_set_self hiσ]at e2;cases e2;exact⟨u,r,.inl ⟨hk,by simp⟩⟩
   ·rw[List.getElem?_set_ne (Ne.symm hj)]at e2
    obtain⟨u',r',q⟩:=hl j y v' e1 e2 e3;refine⟨u',r',?_⟩;rcases q with ⟨k,e⟩|⟨k,c,e,z⟩
    ·refine .inl ⟨k,?_⟩
     have:y≠x:=λe=>hj (o9 hN e1 (e ▸ hi));simp[this,e]
    ·exact .inr ⟨k,c,e,z.sameBut hs (Bn y c e)⟩
  ·obtain⟨w',z⟩:=I.cell y c e
   exact⟨w',z.sameBut hs (Bn y c e)⟩
  ·obtain⟨e,n,ne,nf,d⟩:=I.pin p hp
   exact⟨(hs.2 p.1 ne).trans e,n,ne,nf,d⟩
 ·have hfn:X.fn x=true:=by
   rcases hf with z|z
   ·exact z
   ·rw[z]at hk;cases hk
  obtain⟨c,hc⟩:=I.ok.has x (.inl hk);obtain⟨w',z⟩:=I.cell x c hc;refine wpAny_storeName_cell I.ok.kind hk hc z (λh' hc' hs=>?_);obtain⟨oc,hoc,hocd⟩:=id z;refine h { s with heap:=h' } ⟨I.ok,I.os,I.bare,⟨λb o e n hb hx=>?_,λb o e n hb hx=>?_,I.base.free,λb o e hx=>?_,I.base.tups,I.base.frzs,I.base.tbls⟩,⟨m,hn.sameBut hs (Ne.symm (Bn x c hc)),λj y v' e1 e2 e3=>?_⟩,λy c' e=>?_,I.free,I.freeC,λp hp=>?_,tracked ⟨oc,hoc,I.freeC x c hc⟩ hs,by simpa using I.len⟩ ⟨c,hs,.inr hc⟩
  ·exact(hs.2 b (ne_of_lt (lt_of_lt_of_le (lt_size e) (I.ok.cab x c hfn hc)))).trans (I.base.keep b o e n hb hx)
  ·obtain⟨sl,e1⟩:=I.base.slot b o e n hb hx
   exact⟨sl,(hs.2 b (ne_of_lt (lt_of_lt_of_le (lt_size e) (I.ok.cab x c hfn hc)))).trans e1⟩
  ·obtain⟨o',e1⟩:=I.base.there b o e hx
   exact⟨o',(hs.2 b (ne_of_lt (lt_of_lt_of_le (lt_size e) (I.ok.cab x c hfn hc)))).trans e1⟩
  ·by_cases hj:j=i
   ·subst hj
    rw[hi]at e1;cases e1;rw[getElem?_set_self hiσ]at e2;cases e2;exact⟨u,r,.inr ⟨.inl hk,c,hc,hc'⟩⟩
   ·rw[List.getElem?_set_ne (Ne.symm hj)]at e2
    obtain⟨u',r',q⟩:=hl j y v' e1 e2 e3;refine⟨u',r',?_⟩;rcases q with q|⟨k,c',e,z'⟩
    ·exact .inl q
    ·refine .inr ⟨k,c',e,z'.sameBut hs ?_⟩
     rintro rfl;exact hj (o9 hN e1 (I.ok.inj _ _ _ e hc ▸ hi))
  ·by_cases hcc:c'=c
   ·subst hcc;exact⟨_,hc'⟩
   ·obtain⟨w2,z2⟩:=I.cell y c' e
    exact⟨w2,z2.sameBut hs hcc⟩
  ·obtain⟨e,n,ne,nf,d⟩:=I.pin p hp
   refine⟨(hs.2 p.1 ?_).trans e,n,ne,nf,d⟩;intro q;rw[q,hoc]at e;have q':oc=p.2:=Option.some.inj e;exact d w' (by rw[<-q'];exact hocd)
theorem lK{M:Model}{A:Around}{E:Value->Shared->Prop}{i:Nat}{x:Str}{v:V}{u:Value}{Q:Unit->Shared->Prop}(I:Inv X pins σ H s)(hN:X.N.Nodup)(hi:X.N[i]? =some x)(hx:Loc X.env.scope x)(r:RelV v u)
  (h:∀s',Inv X pins (σ.set i (some v)) H s'->Q () s')(hf:X.fn x=true\/X.env.scope.names.lookup x=some .local:=by first|exact .inl rfl|exact .inr rfl|assumption):wpAny M A (storeName X.env x u) Q E s:=
 ym I hN hi hx r (λs' I' _=>h s' I') hf
theorem Inv.tF{s':Shared}{ch:List Addr}(I:Inv X pins σ H s)(ho:s'.os=s.os)(u:Un (i5 X.stack) ch H H' s.heap s'.heap)(hok:gw X.prog X.w H' s'.heap)(hg:AllBare s'.gens)
  (hch:∀b∈ch,(b∈X.ex\/X.s₀.heap.objs.size<=b)/\b≠X.env.locals/\(∀x c,X.env.cells.lookup x=some c->c≠b)/\∀p∈X.pn++pins,p.1≠b):Inv X pins σ H' s':=by
 obtain⟨h',g',d',t',o'⟩:=s';have e:o'=s.os:=ho;subst e;exact I.call (g':=g') (t':=t') (d':=d') u hok hg hch
end
abbrev XK:=Value->Option Addr->Hp->Prop
abbrev St:=List (Option V)
abbrev VK:=V->Hp->Prop
abbrev TE:=St->Hp->VK->Prop
abbrev TT:=St->Hp->(Bool->Hp->Prop)->Prop
abbrev TA:=St->Hp->(List V->Hp->Prop)->Prop
structure Ends where
 nx:St->Hp->Prop
 rt:VK
 bk:St->Hp->Prop:=λ_ _=>False
 ct:St->Hp->Prop:=λ_ _=>False
abbrev TS:=Ends->St->Hp->Prop
inductive EP(X:Cx)(pins:List (Addr×Obj))(σ:St)(Q:VK)(u:Value)(s':Shared):Prop
 |mk(v:V)(H':Hp)(I:Inv X pins σ H' s')(r:RelV v u)(q:Q v H')
inductive TP(X:Cx)(pins:List (Addr×Obj))(σ:St)(Q:Bool->Hp->Prop)(b:Bool)(s':Shared):Prop
 |mk(H':Hp)(I:Inv X pins σ H' s')(q:Q b H')
inductive AP(X:Cx)(pins:List (Addr×Obj))(σ:St)(Q:List V->Hp->Prop)(us:List Value)(s':Shared):Prop
 |mk(vs:List V)(H':Hp)(I:Inv X pins σ H' s')(r:Vals vs us)(q:Q vs H')
inductive SN(X:Cx)(pins:List (Addr×Obj))(k:St->Hp->Prop)(s':Shared):Prop
 |mk(σ':St)(H':Hp)(I:Inv X pins σ' H' s')(q:k σ' H')
def SP(X:Cx)(pins:List (Addr×Obj))(D:Ends)(f:Flow)(s':Shared):Prop:=
 match f with
 |.next=>SN X pins D.nx s'
 |.brk=>SN X pins D.bk s'
 |.cont=>SN X pins D.ct s'
 |.ret u=>∃v σ' H',Inv X pins σ' H' s'/\RelV v u/\D.rt v H'
def PE(X:Cx)(e:Expr)(t:TE):Prop:=
 ∀(pins:List (Addr×Obj)) (s:Shared) (σ:St) (H:Hp) (Q:VK),Inv X pins σ H s->t σ H Q->wpAny (model X.prog X.w) X.A (eval e X.env) (EP X pins σ Q) X.xe s
def PT(X:Cx)(e:Expr)(t:TT):Prop:=
 ∀(pins:List (Addr×Obj)) (s:Shared) (σ:St) (H:Hp) (Q:Bool->Hp->Prop),Inv X pins σ H s->t σ H Q->wpAny (model X.prog X.w) X.A (isTrue e X.env (eval e X.env)) (TP X pins σ Q) X.xe s
def PW(X:Cx)(e:Expr)(t:TT):Prop:=
 ∀(whole:Sem Value) (pins:List (Addr×Obj)) (s:Shared) (σ:St) (H:Hp) (Q:Bool->Hp->Prop),Inv X pins σ H s->t σ H Q->wpAny (model X.prog X.w) X.A (isTrue e X.env whole) (TP X pins σ Q) X.xe s
theorem PW.pt{X:Cx}{e:Expr}{t:TT}(h:PW X e t):PT X e t:=h _
def PA(X:Cx)(es:List Expr)(t:TA):Prop:=
 ∀(pos:Pos) (pins:List (Addr×Obj)) (s:Shared) (σ:St) (H:Hp) (Q:List V->Hp->Prop),Inv X pins σ H s->t σ H Q->wpAny (model X.prog X.w) X.A (spliced (backTo pos (starEach es X.env))) (AP X pins σ Q) X.xe s
def PS(X:Cx)(st:Stmt)(t:TS):Prop:=
 ∀(pins:List (Addr×Obj)) (s:Shared) (σ:St) (H:Hp) (D:Ends),Inv X pins σ H s->t D σ H->wpAny (model X.prog X.w) X.A (exec st X.env) (SP X pins D) X.xe s
def wg(X:Cx)(st:List Stmt)(t:TS):Prop:=
 ∀(pins:List (Addr×Obj)) (s:Shared) (σ:St) (H:Hp) (D:Ends),Inv X pins σ H s->t D σ H->wpAny (model X.prog X.w) X.A (execs st X.env) (SP X pins D) X.xe s
theorem di{α:Type}{t:Sem α}{Q Q':α->Shared->Prop}{M:Model}{A:Around}{E:Value->Shared->Prop}{s:Shared}(h:wpAny M A t Q E s)(hQ:∀a s,Q a s->Q' a s):wpAny M A t Q' E s:=wpAny_mono h hQ λ_ _ x=>x
end L2
namespace L2
open PySem PySem.Spec PyProof.Rows
section
variable {X:Cx}
inductive KG(i:Nat)(σ:St)(H:Hp)(Q:VK):Prop
 |mk(v:V)(h:σ[i]? =some (some v))(q:Q v H)
def iV(i:Nat):TE:=λσ H Q=>KG i σ H Q
inductive Js(x:V)(H:Hp)(Q:Bool->Hp->Prop):Prop
 |mk(c:Bool)(h:x=.bl c)(q:Q c H)
def tC(v:V):TE:=λ_ H Q=>Q v H
theorem mS {i:Nat}{x:Str}{pos:Pos}(hN:X.N[i]? =some x) (hv:K3 X.env.scope x) (hd:(x == ("__debug__" :Str))=false:=by decide) (hcd:(x == ("__classdict__" :Str))=false:=by decide):PE X (.Name x pos) (iV i):=by
 intro pins s σ H Q I h;obtain⟨v,e,h⟩:=h;obtain⟨m,hn,hl⟩:=I.loc;obtain⟨u,r,l⟩:=hl i x v hN e hv;have fin:EP X pins σ Q u s:=⟨v,H,I,r,h⟩;rcases l with ⟨hk,hm⟩|⟨hk,c,hc,hcell⟩
 ·exact wpAny_Name (wpAny_loadName_local I.ok.kind hk hn hm fin) hd
 ·rcases hk with hk|hk
  ·exact wpAny_Name (wpAny_loadName_cell I.ok.kind hk hc hcell fin) hd
  ·exact wpAny_Name (wpAny_loadName_free I.ok.kind hk hc hcell fin hcd) hd
theorem mF{i j pos}:PE X (.Constant (.int i) j pos) (tC (.int i)):=λ_ _ _ H _ I h=>wpAny_Constant_int ⟨.int i,H,I.tok _,⟨_,rfl⟩,h⟩
theorem Af{b j pos}:PE X (.Constant (.bool b) j pos) (tC (.bl b)):=λ_ _ _ H _ I h=>Constant_bool ⟨.bl b,H,I,rfl,h⟩
theorem F6{j pos}:PE X (.Constant .none j pos) (tC .non):=λ_ _ _ H _ I h=>Constant_none ⟨.non,H,I,rfl,h⟩
theorem v8{x j pos}:PE X (.Constant (.str x) j pos) (tC (.str x)):=λ_ _ _ H _ I h=>Calls.Constant_str ⟨.str x,H,I.tok _,⟨_,rfl⟩,h⟩
def Gl(X:Cx)(x:Str):Prop:=X.env.kindOf x=some .globalImplicit
theorem iI{E:Value->Shared->Prop}{pins:List (Addr×Obj)}{s:Shared}{σ:St}{H:Hp}{x:Str}{u:Value}{pos:Pos}{Q:Value->Shared->Prop}(I:Inv X pins σ H s)(hg:Gl X x)(hm:X.mg x=some u)(h:Q u s)
  (hd:(x == ("__debug__" :Str))=false:=by decide):wpAny (model X.prog X.w) X.A (eval (.Name x pos) X.env) Q E s:=
 Calls.Name_function_global I.ok.kind hg (Calls.loadGlobal_global (by rw[I.ok.glob];exact I.mod.glob.keeps I.bk) hm h) hd
theorem j4{E:Value->Shared->Prop}{pins:List (Addr×Obj)}{s:Shared}{σ:St}{H:Hp}{x:Str}{u:Value}{pos:Pos}{Q:Value->Shared->Prop}(I:Inv X pins σ H s)(hg:Gl X x)(hm:X.mg x=none)(hv:bootBuiltins x=some u)(h:Q u s)
  (hn:x≠ "__name__" :=by decide) (hd:(x == ("__debug__" :Str))=false:=by decide):wpAny (model X.prog X.w) X.A (eval (.Name x pos) X.env) Q E s:=by
 obtain⟨mb,h1,h2⟩:=I.mod.blt;exact Calls.Name_function_global I.ok.kind hg (Calls.loadGlobal_builtin (by rw[I.ok.glob];exact I.mod.glob.keeps I.bk) hm (by rw[I.ok.blt];exact h1.keeps I.bk) ((h2 x hn).trans hv) h) hd
theorem kD {x:Str}{v:V}{u:Value}{pos:Pos}(hg:Gl X x) (hm:X.mg x=some u) (r:RelV v u) (hd:(x == ("__debug__" :Str))=false:=by decide):PE X (.Name x pos) (tC v):=
 λ_ _ _ H _ I h=>iI I hg hm ⟨v,H,I,r,h⟩ hd
theorem nF {x:Str}{v:V}{u:Value}{pos:Pos}(hg:Gl X x) (hm:X.mg x=none) (hv:bootBuiltins x=some u) (r:RelV v u) (hn:x≠ "__name__" :=by decide) (hd:(x == ("__debug__" :Str))=false:=by decide):PE X (.Name x pos) (tC v):=
 λ_ _ _ H _ I h=>j4 I hg hm hv ⟨v,H,I,r,h⟩ hn hd
def J4(ta tb:TE)(k:Int->Int->Hp->Prop):St->Hp->Prop:=λσ H=>ta σ H λx H1=>tb σ H1 λy H2=>∃i j,x=.int i/\y=.int j/\k i j H2
def Na(ta tb:TE):TE:=λσ H Q=>J4 ta tb (λi j H2=>Q (.int (i+j)) H2) σ H
def Mp(ta tb:TE):TE:=λσ H Q=>J4 ta tb (λi j H2=>Q (.int (i - j)) H2) σ H
def MK(ta tb:TE):TE:=λσ H Q=>J4 ta tb (λi j H2=>(-(2 ^ 64) < i/\i < 2 ^ 64)/\Q (.int (i * j)) H2) σ H
variable {a b:Expr}{ta tb:TE}{pos:Pos}
def PC(X:Cx)(op:CmpOp)(a b:Expr)(t:TE):Prop:=
 ∀(pins:List (Addr×Obj)) (s:Shared) (σ:St) (H:Hp) (Q:VK),Inv X pins σ H s->t σ H Q->
  wpAny (model X.prog X.w) X.A (eval a X.env) (λv s₁=>wpAny (model X.prog X.w) X.A (eval b X.env) (λu s₂=>wpAny (model X.prog X.w) X.A (compareOp op v u) (EP X pins σ Q) X.xe s₂) X.xe s₁) X.xe s
def xS(p:Int->Int->Bool)(ta tb:TE):TE:=λσ H Q=>J4 ta tb (λi j H2=>Q (.bl (p i j)) H2) σ H
abbrev Nn:TE->TE->TE:=xS λi j=>decide (i < j)
abbrev Nt:TE->TE->TE:=xS λi j=>decide (i<=j)
abbrev Nk:TE->TE->TE:=xS λi j=>decide (j < i)
abbrev Nj:TE->TE->TE:=xS λi j=>decide (j<=i)
abbrev Mb:TE->TE->TE:=xS λi j=>decide (i=j)
abbrev M8:TE->TE->TE:=xS λi j=> !decide (i=j)
def MW(ta:TE):TE:=λσ H Q=>ta σ H λx H1=>Q (.bl (decide (x=.non))) H1
def LP(ta:TE):TE:=λσ H Q=>ta σ H λx H1=>Q (.bl (!decide (x=.non))) H1
def tB(t:TE):TT:=λσ H Q=>t σ H λx H1=>Js x H1 Q
theorem zr{op:CmpOp}{t:TE}(h:PC X op a b t)(h1:behindInMarks op b=false:=by first|exact nobehind _ (by decide) (by decide)|rfl):PE X (.Compare a [op] [b] pos) t:=λpins s σ H Q I hw=>wpAny_Compare1 (h pins s σ H Q I hw) h1
theorem BB{op:CmpOp}{t:TE}(h:PC X op a b t)(h1:behindInMarks op b=false:=by first|exact nobehind _ (by decide) (by decide)|rfl):PT X (.Compare a [op] [b] pos) (tB t):=by
 intro pins s σ H Q I hw;refine wpAny_isTrue_Compare1 (di (h pins s σ H _ I hw) λv s1 h1=>di h1 λu s2 h2=>di h2 λc s3 hpat=>?_) h1;obtain⟨x,H1,I1,r1,q1⟩:=hpat;obtain⟨d,rfl,q⟩:=q1;cases r1;exact wpAny_truthy_bool ⟨H1,I1,q⟩
theorem uW{e:Expr}{t:TE}(h:PE X e t)(he:∀whole,isTrue e X.env whole=(do let v <-whole;standAt e.pos;holding [v] (truthy v)):=by intro _;rfl):PT X e (tB t):=by
 intro pins s σ H Q I hw;refine isTrue_plain (di (h pins s σ H _ I hw) λv s1 hpat=>?_) (he _);obtain⟨x,H1,I1,r1,q1⟩:=hpat;obtain⟨d,rfl,q⟩:=q1;cases r1;exact wpAny_truthy_bool ⟨H1,I1,q⟩
variable {tA tB':TT}{rest:List Expr}
def Ic(t u:TT):TT:=λσ H Q=>t σ H λc H1=>if c=true then u σ H1 Q else Q false H1
def LG(t u:TT):TT:=λσ H Q=>t σ H λc H1=>if c=true then Q true H1 else u σ H1 Q
def HE(t:TT):TT:=λσ H Q=>t σ H λc H1=>Q (!c) H1
theorem C3(ha:PT X a tA):PW X (.BoolOp .And [a] pos) tA:=by
 intro wh pins s σ H Q I h;refine isTrue_and (di (ha pins s σ H Q I h) λc s1 e=>?_);cases c with
 |true=>exact isTrue_and_nil e
 |false=>exact e
theorem Be(ha:PT X a tA):PW X (.BoolOp .Or [a] pos) tA:=by
 intro wh pins s σ H Q I h;refine isTrue_or (di (ha pins s σ H Q I h) λc s1 e=>?_);cases c with
 |false=>exact isTrue_or_nil e
 |true=>exact e
theorem ET(ha:PT X a tA)(hb:PW X (.BoolOp .And (b::rest) pos) tB'):PW X (.BoolOp .And (a::b::rest) pos) (Ic tA tB'):=by
 intro wh pins s σ H Q I h;refine isTrue_and (di (ha pins s σ H _ I h) λc s1 ⟨H1,I1,q1⟩=>?_);cases c with
 |true=>exact hb wh pins s1 σ H1 Q I1 q1
 |false=>exact⟨H1,I1,q1⟩
theorem Ec(ha:PT X a tA)(hb:PW X (.BoolOp .Or (b::rest) pos) tB'):PW X (.BoolOp .Or (a::b::rest) pos) (LG tA tB'):=by
 intro wh pins s σ H Q I h;refine isTrue_or (di (ha pins s σ H _ I h) λc s1 ⟨H1,I1,q1⟩=>?_);cases c with
 |true=>exact⟨H1,I1,q1⟩
 |false=>exact hb wh pins s1 σ H1 Q I1 q1
theorem u5(ha:PT X a tA):PT X (.UnaryOp .Not a pos) (HE tA):=by
 intro pins s σ H Q I h;exact isTrue_not (di (ha pins s σ H (λc H1=>Q (!c) H1) I h) λc s1 q=>q.casesOn λH1 I1 q1=>⟨H1,I1,q1⟩)
def Ej(ta tb:TE):TE:=λσ H Q=>ta σ H λx H1=>Js x H1 λc H2=>if c=true then tb σ H2 Q else Q (.bl false) H2
def Dr(ta tb:TE):TE:=λσ H Q=>ta σ H λx H1=>Js x H1 λc H2=>if c=true then Q (.bl true) H2 else tb σ H2 Q
def Eh(ta:TE):TE:=λσ H Q=>ta σ H λx H1=>Js x H1 λc H2=>Q (.bl (!c)) H2
theorem rg{op}{t:TE}(h:PE X a t):PE X (.BoolOp op [a] pos) t:=λpins s σ H Q I hw=>BoolOp_one (h pins s σ H Q I hw)
theorem q9(ha:PE X a ta)(hb:PE X (.BoolOp .And (b::rest) pos) tb):PE X (.BoolOp .And (a::b::rest) pos) (Ej ta tb):=by
 intro pins s σ H Q I h;refine BoolOp_and (di (ha pins s σ H _ I h) λv s1 hpat=>?_);obtain⟨x,H1,I1,r1,q1⟩:=hpat;obtain⟨c,rfl,q1⟩:=q1;cases r1;refine wpAny_truthy_bool ?_;cases c with
 |true=>exact hb pins s1 σ H1 Q I1 q1
 |false=>exact⟨.bl false,H1,I1,rfl,q1⟩
theorem sZ(ha:PE X a ta)(hb:PE X (.BoolOp .Or (b::rest) pos) tb):PE X (.BoolOp .Or (a::b::rest) pos) (Dr ta tb):=by
 intro pins s σ H Q I h;refine BoolOp_or (di (ha pins s σ H _ I h) λv s1 hpat=>?_);obtain⟨x,H1,I1,r1,q1⟩:=hpat;obtain⟨c,rfl,q1⟩:=q1;cases r1;refine wpAny_truthy_bool ?_;cases c with
 |false=>exact hb pins s1 σ H1 Q I1 q1
 |true=>exact⟨.bl true,H1,I1,rfl,q1⟩
theorem mM(ha:PE X a ta):PE X (.UnaryOp .Not a pos) (Eh ta):=by
 intro pins s σ H Q I h;refine UnaryOp_ (di (ha pins s σ H _ I h) λv s1 hpat=>?_);obtain⟨x,H1,I1,r1,q1⟩:=hpat;obtain⟨c,rfl,q1⟩:=q1;cases r1;exact not_of (wpAny_truthy_bool ⟨.bl (!c),H1,I1,rfl,q1⟩)
def LS(t:TT)(ta tb:TE):TE:=λσ H Q=>t σ H λc H1=>if c=true then ta σ H1 Q else tb σ H1 Q
theorem zh{c:Expr}(hc:PT X c tA)(ha:PE X a ta)(hb:PE X b tb):PE X (.IfExp c a b pos) (LS tA ta tb):=by
 intro pins s σ H Q I h;refine wpAny_IfExp (di (hc pins s σ H _ I h) λd s1 ⟨H1,I1,q1⟩=>?_);cases d with
 |true=>exact ha pins s1 σ H1 Q I1 q1
 |false=>exact hb pins s1 σ H1 Q I1 q1
end
end L2
namespace L2
open PySem PySem.Spec PyProof.Rows
def cL(K:PySem.W.Frag)(H:Hp)(a:Addr)(xs:List V):Prop:=
 Rd H a (.lst xs)\/
  ∃(o:Obj) (its:Array Value) (n:Nat),K.lookup a=some o/\o.cls=.type "list" /\o.dict=none/\o.data=.seq its n/\its.size<=sizeLine/\Vals xs its.toList
def cW(K:PySem.W.Frag)(H:Hp)(a:Addr)(xs:List V):Prop:=
 Rd H a (.tup xs)\/
  ∃(o:Obj) (its:Array Value) (n:Nat),K.lookup a=some o/\o.cls=.type "tuple" /\o.data=.seq its n/\its.size<=sizeLine/\Vals xs its.toList
def La:Value->Option V
 |.none=>some .non
 |.bool b=>some (.bl b)
 |.int i _=>some (.int i)
 |.str x _=>some (.str x)
 |.bytes b _=>some (.byt b)
 |.float b _=>some (.flt b)
 |.ref a=>some (.ref a)
 |.type n=>some (.ty n)
 |_=>none
theorem RelV.abs{x:V}{u:Value}(r:RelV x u):La u=some x:=by
 cases x with
 |non=>cases r;rfl
 |bl _=>cases r;rfl
 |int _=>obtain⟨t,rfl⟩:=r;rfl
 |str _=>obtain⟨t,rfl⟩:=r;rfl
 |byt _=>obtain⟨t,rfl⟩:=r;rfl
 |flt _=>obtain⟨t,rfl⟩:=r;rfl
 |ref _=>cases r;rfl
 |ty _=>cases r;rfl
theorem RelV.inj{x y:V}{u:Value}(r:RelV x u)(q:RelV y u):x=y:=Option.some.inj (r.abs.symm.trans q.abs)
theorem Vals.inj:∀{xs ys:List V}{us:List Value},Vals xs us->Vals ys us->xs=ys
 |_,_,_,.nil,.nil=>rfl
 |_,_,_,.cons r t,.cons r' t'=>by rw[r.inj r',Vals.inj t t']
section
variable {X:Cx}{pins:List (Addr×Obj)}{σ:St}{H:Hp}{s:Shared}{a:Addr}{xs ys:List V}
theorem cL.of{K:PySem.W.Frag}(h:H a=some (.lst xs)):cL K H a xs:=.inl (.inl h)
theorem cW.of{K:PySem.W.Frag}(h:H a=some (.tup xs)):cW K H a xs:=.inl (.inl h)
theorem Inv.list(I:Inv X pins σ H s)(h:cL X.K H a xs):∃its:List Value,Vals xs its/\PlainL s.heap a its.toArray/\xs.length<=sizeLine:=by
 rcases h with h|⟨o,its,n,hk,hc,hd,hs,hz,r⟩
 ·obtain⟨z,its,n,r,e⟩:=h.ok I.hok
  exact⟨its,r,⟨_,n,e,rfl,rfl,rfl⟩,z⟩
 ·refine⟨its.toList,r,⟨o,n,I.iw a o hk,hc,hd,by simpa using hs⟩,?_⟩
  have e:=r.length;simp only[length_toList]at e;omega
theorem Inv.tuple(I:Inv X pins σ H s)(h:cW X.K H a xs):∃its:List Value,Vals xs its/\IsTup s.heap a its.toArray/\xs.length<=sizeLine:=by
 rcases h with h|⟨o,its,n,hk,hc,hs,hz,r⟩
 ·obtain⟨z,its,r,p⟩:=h.ok I.hok
  exact⟨its,r,p,z⟩
 ·refine⟨its.toList,r,⟨o,I.iw a o hk,hc,n,by simpa using hs⟩,?_⟩
  have e:=r.length;simp only[length_toList]at e;omega
theorem Inv.uP(I:Inv X pins σ H s)(h:cL X.K H a xs)(h':cL X.K H a ys):xs=ys:=by
 obtain⟨its,r,⟨o,n,e,_,_,d⟩,_⟩:=I.list h;obtain⟨its',r',⟨o',n',e',_,_,d'⟩,_⟩:=I.list h';rw[e]at e';cases e';rw[d]at d';injection d' with d1 _
 have:its=its':=by simpa using congrArg Array.toList d1
 subst this;exact r.inj r'
theorem Inv.xN(I:Inv X pins σ H s)(h:cW X.K H a xs)(h':cW X.K H a ys):xs=ys:=by
 obtain⟨its,r,⟨o,e,_,n,d⟩,_⟩:=I.tuple h;obtain⟨its',r',⟨o',e',_,n',d'⟩,_⟩:=I.tuple h';rw[e]at e';cases e';rw[d]at d';injection d' with d1 _
 have:its=its':=by simpa using congrArg Array.toList d1
 subst this;exact r.inj r'
end
abbrev Cx.kJ(X:Cx)(E:Value->Shared->Prop):Cx:={ X with xe:=E }
abbrev Cx.qU(X:Cx):Cx:=X.kJ λ_ _=>False
theorem Cx.Ok.kJ{X:Cx}(ok:X.Ok)(E:Value->Shared->Prop):(X.kJ E).Ok:=
 ⟨ok.mod,ok.kind,ok.glob,ok.blt,ok.above,ok.inj,ok.has,ok.cab,ok.hd,ok.frames,ok.stk,ok.exf,ok.bs,ok.bsz,ok.noex,ok.exfs,ok.lA,ok.frf⟩
theorem Cx.Ok.fE{X:Cx}{E:Value->Shared->Prop}(ok:(X.kJ E).Ok):X.Ok:=
 ⟨ok.mod,ok.kind,ok.glob,ok.blt,ok.above,ok.inj,ok.has,ok.cab,ok.hd,ok.frames,ok.stk,ok.exf,ok.bs,ok.bsz,ok.noex,ok.exfs,ok.lA,ok.frf⟩
section
variable {X:Cx}{pins:List (Addr×Obj)}{σ:St}{H:Hp}{s:Shared}{E:Value->Shared->Prop}
theorem Inv.kJ(I:Inv X pins σ H s)(E:Value->Shared->Prop):Inv (X.kJ E) pins σ H s:=⟨I.ok.kJ E,I.os,I.bare,I.base,I.loc,I.cell,I.free,I.freeC,I.pin,I.hok,I.len⟩
theorem Inv.fE(I:Inv (X.kJ E) pins σ H s):Inv X pins σ H s:=⟨I.ok.fE,I.os,I.bare,I.base,I.loc,I.cell,I.free,I.freeC,I.pin,I.hok,I.len⟩
theorem SP.fE{D:Ends}{f:Flow}{s':Shared}(h:SP (X.kJ E) pins D f s'):SP X pins D f s':=by
 cases f with
 |next=>obtain⟨σ',H',I,q⟩:=h;exact⟨σ',H',I.fE,q⟩
 |brk=>obtain⟨σ',H',I,q⟩:=h;exact⟨σ',H',I.fE,q⟩
 |cont=>obtain⟨σ',H',I,q⟩:=h;exact⟨σ',H',I.fE,q⟩
 |ret u=>obtain⟨v,σ',H',I,r,q⟩:=h;exact⟨v,σ',H',I.fE,r,q⟩
theorem PT.qU{e:Expr}{t:TT}(h:PT X.qU e t):PT X e t:=λpins s σ H Q I hw=>
 wpAny_mono (h pins s σ H Q (I.kJ _) hw) (λ_ _ ⟨H',I',q⟩=>⟨H',I'.fE,q⟩) λ_ _ z=>False.elim z
theorem wg.qU{st:List Stmt}{t:TS}(h:wg X.qU st t):wg X st t:=λpins s σ H D I hw=>
 wpAny_mono (h pins s σ H D (I.kJ _) hw) (λ_ _ q=>q.fE) λ_ _ z=>False.elim z
end
section
variable {X:Cx}{st:Stmt}{rest:List Stmt}{t u:TS}{e:Expr}{te:TE}{pos:Pos}
def oS:TS:=λD σ H=>D.nx σ H
def vZ(t u:TS):TS:=λD σ H=>t { D with nx:=u D } σ H
theorem xf:wg X [] oS:=λ_ _ σ H _ I h=>wpAny_execs_nil ⟨σ,H,I,h⟩
theorem uu(h1:PS X st t)(h2:wg X rest u):wg X (st::rest) (vZ t u):=by
 intro pins s σ H D I h;refine wpAny_execs_cons (di (h1 pins s σ H { D with nx:=u D } I h) λf s1 q=>?_);cases f with
 |next=>
  obtain⟨σ',H',I',q⟩:=q;exact h2 pins s1 σ' H' D I' q
 |ret v=>exact q
 |brk=>exact q
 |cont=>exact q
theorem jw(h1:PS X st t):wg X [st] t:=by
 intro pins s σ H D I h;refine wpAny_execs_cons (di (h1 pins s σ H D I h) λf s1 q=>?_);cases f with
 |next=>exact wpAny_execs_nil q
 |ret v=>exact q
 |brk=>exact q
 |cont=>exact q
def Kj:TS:=λD σ H=>D.bk σ H
def LY:TS:=λD σ H=>D.ct σ H
theorem Inv.quiet{pins:List (Addr×Obj)}{σ:St}{H:Hp}{s:Shared}(I:Inv X pins σ H s):interactive X.env=false:=by simp[interactive,I.ok.kind]
def qz(te:TE):TS:=λD σ H=>te σ H λ_ H1=>D.nx σ H1
theorem Cb(he:PE X e te)(hs:swapsWith e none pos.line X.env=pure false:=by rfl):PS X (.Expr e pos) (qz te):=by
 intro pins s σ H D I h;exact wpAny_Expr_any (di (he pins s σ H _ I h) λv s1 ⟨x,H1,I1,r1,q1⟩=>⟨σ,H1,I1,q1⟩) I.quiet hs
def JH(te:TE):TS:=λD σ H=>te σ H D.rt
theorem oj(he:PE X e te):PS X (.Return (some e) pos) (JH te):=by
 intro pins s σ H D I h;exact wpAny_Return_some (di (he pins s σ H _ I h) λv s1 ⟨x,H1,I1,r1,q1⟩=>⟨x,σ,H1,I1,r1,q1⟩)
def LZ:TS:=λD _ H=>D.rt .non H
def ve(c:TT)(t u:TS):TS:=λD σ H=>c σ H λb H1=>if b=true then t D σ H1 else u D σ H1
theorem D8{c:Expr}{a b:List Stmt}{tc:TT}(hc:PT X c tc)(ha:wg X a t)(hb:wg X b u):PS X (.If c a b pos) (ve tc t u):=by
 intro pins s σ H D I h;refine wpAny_If (di (hc pins s σ H _ I h) λd s1 ⟨H1,I1,q1⟩=>?_);cases d with
 |true=>exact ha pins s1 σ H1 D I1 q1
 |false=>exact hb pins s1 σ H1 D I1 q1
def zz:TS:=λ_ _ _=>False
theorem fV{sts:List Stmt}:wg X sts zz:=λ_ _ _ _ _ _ h=>h.elim
end
abbrev TG:=V->St->Hp->(St->Hp->Prop)->Prop
abbrev pS:=List V->St->Hp->(St->Hp->Prop)->Prop
def PG(X:Cx)(target:Expr)(t:TG):Prop:=
 ∀(pins:List (Addr×Obj)) (s:Shared) (σ:St) (H:Hp) (v:V) (u:Value) (Q:St->Hp->Prop),Inv X pins σ H s->RelV v u->t v σ H Q->
  wpAny (model X.prog X.w) X.A (assign target X.env u) (λ_ s'=>∃σ' H',Inv X pins σ' H' s'/\Q σ' H') X.xe s
def Hu(X:Cx)(ts:List Expr)(t:pS):Prop:=
 ∀(pins:List (Addr×Obj)) (s:Shared) (σ:St) (H:Hp) (vs:List V) (us:List Value) (Q:St->Hp->Prop),Inv X pins σ H s->Vals vs us->t vs σ H Q->
  wpAny (model X.prog X.w) X.A (assignInOrder ((assignEach ts X.env).map (·.2)) us) (λ_ s'=>∃σ' H',Inv X pins σ' H' s'/\Q σ' H') X.xe s
abbrev FD:=V->V->V->Hp->(Hp->Prop)->Prop
def Mf(X:Cx)(t:FD):Prop:=
 ∀(pins:List (Addr×Obj)) (s:Shared) (σ:St) (H:Hp) (o i v:V) (ov iv u:Value) (Q:Hp->Prop),Inv X pins σ H s->RelV o ov->RelV i iv->RelV v u->t o i v H Q->
  wpAny (model X.prog X.w) X.A (setItem ov iv u) (λ_ s'=>∃H',Inv X pins σ H' s'/\Q H') X.xe s
abbrev JQ:=V->V->Hp->VK->Prop
def Nm(X:Cx)(op:Operator)(t:JQ):Prop:=
 ∀(pins:List (Addr×Obj)) (s:Shared) (σ:St) (H:Hp) (x y:V) (v u:Value) (Q:VK),Inv X pins σ H s->RelV x v->RelV y u->t x y H Q->
  wpAny (model X.prog X.w) X.A (inplaceOp op v u) (EP X pins σ Q) X.xe s
section
variable {X:Cx}{pos:Pos}
def eQ(i:Nat):TG:=λv σ H Q=>Q (σ.set i (some v)) H
theorem n6{i:Nat}{x:Str}(hN:X.N.Nodup)(hi:X.N[i]? =some x)(hx:Loc X.env.scope x)(hf:X.fn x=true\/X.env.scope.names.lookup x=some .local:=by first|exact .inl rfl|exact .inr rfl|assumption):PG X (.Name x pos) (eQ i):=by
 intro pins s σ H v u Q I r h;exact wpAny_assign_Name (lK I hN hi hx r (λs' I'=>⟨_,H,I',h⟩) hf)
def IW:pS:=λvs σ H Q=>vs=[]/\Q σ H
inductive Jp(t:TG)(u:pS)(vs:List V)(σ:St)(H:Hp)(Q:St->Hp->Prop):Prop
 |mk(v:V)(r:List V)(e:vs=v::r)(q:t v σ H λσ' H'=>u r σ' H' Q)
def Ed(t:TG)(u:pS):pS:=λvs σ H Q=>Jp t u vs σ H Q
theorem Cp:Hu X [] IW:=by
 intro pins s σ H vs us Q I r h;obtain⟨e,h⟩:=h;subst e;cases r;exact assignInOrder_nil ⟨σ,H,I,h⟩
theorem AW{e:Expr}{es:List Expr}{t:TG}{u:pS}(h1:PG X e t)(h2:Hu X es u)
  (hs:(assignEach (e::es) X.env).map (·.2)=assign e X.env::(assignEach es X.env).map (·.2):=by rfl):Hu X (e::es) (Ed t u):=by
 intro pins s σ H vs us Q I r h;obtain⟨v,vr,e1,h⟩:=h;subst e1;cases r with
 |cons r rr=>
  rw[hs];refine assignInOrder_cons (di (h1 pins s σ H _ _ _ I r h) λ_ s1 hpat=>?_);obtain⟨σ1,H1,I1,q1⟩:=hpat;exact h2 pins s1 σ1 H1 _ _ Q I1 rr q1
inductive Le(K:PySem.W.Frag)(n:Nat)(t:pS)(v:V)(σ:St)(H:Hp)(Q:St->Hp->Prop):Prop
 |mk(a:Addr)(xs:List V)(hv:v=.ref a)(s:cW K H a xs)(e:xs.length=n)(q:t xs σ H Q)
def EZ(K:PySem.W.Frag)(n:Nat)(t:pS):TG:=λv σ H Q=>Le K n t v σ H Q
theorem Bp{es:List Expr}{k:Nat}{t:pS}{n:Nat}(hc:X.calm=true)(h:Hu X es t)
  (hn:(assignEach es X.env).length=n:=by rfl)(hst:(assignEach es X.env).findIdx? (·.1)=none:=by rfl):PG X (.Tuple es k pos) (EZ X.K n t):=by
 intro pins s σ H v u Q I r hw;obtain⟨a,xs,e1,hq,hl,hw⟩:=hw;subst e1;cases r;obtain⟨its,rv,ht,hz⟩:=I.tuple hq;refine assign_Tuple_tuple (I.ok.hd hc) ht (by simp[hn,<-hl,rv.length]) hst λh' hx=>?_;have I1:Inv X pins σ H { s with heap:=h' }:=I.kept (t':=s.toks) λb o e=>hx b o (ne_of_lt (lt_size e)) e;exact h pins _ σ H xs _ Q I1 (by simpa using rv) hw
def MC(to ti:TE)(t:FD):TG:=λv σ H Q=>to σ H λo H1=>ti σ H1 λi H2=>t o i v H2 λH3=>Q σ H3
def uj(te:TE)(g:TG):TS:=λD σ H=>te σ H λx H1=>g x σ H1 D.nx
theorem Fm{tg e:Expr}{te:TE}{g:TG}(he:PE X e te)(hg:PG X tg g)(hs:swapsWithSole [tg] e pos.line X.env=pure false:=by rfl)(hw:swappedStores [tg] e X.env=pure none:=by rfl)
  (h1:(assignEach [tg] X.env).map (·.2)=[assign tg X.env]:=by rfl):PS X (.Assign [tg] e pos) (uj te g):=by
 intro pins s σ H D I h;refine wpAny_Assign_stores (di (he pins s σ H _ I h) λv s1 hpat=>?_) hs hw;obtain⟨x,H1,I1,r1,q1⟩:=hpat;rw[h1];exact di (hg pins s1 σ H1 x v _ I1 r1 q1) λ_ s2 ⟨a,b,c,d⟩=>⟨a,b,c,d⟩
theorem Fu{i:Nat}{x:Str}{e:Expr}{te:TE}{pos':Pos}(hN:X.N.Nodup)(hi:X.N[i]? =some x)(hx:Loc X.env.scope x)(he:PE X e te)(hs:swapsWith e (some (.Name x pos')) pos.line X.env=pure false:=by rfl)(hf:X.fn x=true\/X.env.scope.names.lookup x=some .local:=by first|exact .inl rfl|exact .inr rfl|assumption):
  PS X (.Assign [.Name x pos'] e pos) (uj te (eQ i)):=by
 intro pins s σ H D I h;refine wpAny_Assign_Name (di (he pins s σ H _ I h) λv s1 hpat=>?_) hs;obtain⟨y,H1,I1,r1,q1⟩:=hpat;exact lK I1 hN hi hx r1 (λs2 I2=>⟨_,H1,I2,q1⟩) hf
def ME(i j:Nat)(ta:TA):TS:=λD σ H=>ta σ H λvs H1=>∃v w,vs=[v,w]/\D.nx ((σ.set i (some v)).set j (some w)) H1
def Mx(i:Nat)(te:TE)(ti:JQ):TS:=λD σ H=>∃x,σ[i]? =some (some x)/\te σ H λy H1=>ti x y H1 λz H2=>D.nx (σ.set i (some z)) H2
def LR(to ti te:TE)(tget:V->V->Hp->VK->Prop)(tip:JQ)(tset:FD):TS:=λD σ H=>to σ H λo H1=>ti σ H1 λi H2=>tget o i H2 λx H3=>te σ H3 λy H4=>tip x y H4 λz H5=>tset o i z H5 λH6=>D.nx σ H6
def MB(X:Cx)(t:V->V->Hp->VK->Prop):Prop:=
 ∀(pins:List (Addr×Obj)) (s:Shared) (σ:St) (H:Hp) (o i:V) (ov iv:Value) (Q:VK),Inv X pins σ H s->RelV o ov->RelV i iv->t o i H Q->
  wpAny (model X.prog X.w) X.A (getItem ov iv) (EP X pins σ Q) X.xe s
def Ni(f:Int->Int->Int):JQ:=λx y H Q=>∃i j,x=.int i/\y=.int j/\Q (.int (f i j)) H
end
section
variable {X:Cx}{pos:Pos}
def Ba(c:TT)(tb:TS):TS:=λD σ H=>∃W:Nat->St->Hp->Prop,(∃m,W m σ H)/\∀m σ H,W m σ H->
 c σ H λb H1=>if b=true then ∃N:St->Hp->Prop,(∀σ' H',N σ' H'->∃m',m' < m/\W m' σ' H')/\tb { D with nx:=N,ct:=N,bk:=D.nx } σ H1 else D.nx σ H1
theorem AK{c:Expr}{body:List Stmt}{tc:TT}{tb:TS}(hp:PassesOwn (model X.prog X.w) X.A X.env X.xe)(hc:PT X c tc)(hb:wg X body tb):PS X (.While c body [] pos) (Ba tc tb):=by
 intro pins s σ H D I h;obtain⟨W,⟨m0,w0⟩,turn⟩:=h;refine wpAny_While (codeAny_whileLoop (λn s'=>∃σ' H',Inv X pins σ' H' s'/\W n σ' H') ?_ m0 ⟨σ,H,I,w0⟩);rintro n s1 ⟨σ1,H1,I1,w1⟩;refine wpAny_passesOwn hp (di (hc pins s1 σ1 H1 _ I1 (turn n σ1 H1 w1)) λb s2 ⟨H2,I2,q2⟩=>?_);cases b with
 |true=>
  obtain⟨N,hN,q2⟩:=q2;rw[if_pos rfl];refine wpAny_passesOwn hp (di (hb pins s2 σ1 H2 _ I2 q2) λf s3 q3=>?_);cases f with
  |next=>
   obtain⟨σ3,H3,I3,n3⟩:=q3;obtain⟨m',hm,w3⟩:=hN σ3 H3 n3;exact⟨m',hm,σ3,H3,I3,w3⟩
  |cont=>
   obtain⟨σ3,H3,I3,n3⟩:=q3;obtain⟨m',hm,w3⟩:=hN σ3 H3 n3;exact⟨m',hm,σ3,H3,I3,w3⟩
  |brk=>exact q3
  |ret v=>exact q3
 |false=>
  rw[if_neg Bool.false_ne_true];exact wpAny_execs_nil ⟨σ1,H2,I2,q2⟩
end
structure It where
 go:Nat->Hp->Prop
 yld:Nat->Hp->V->Hp->Prop
 stop:Nat->Hp->Prop
def ni(X:Cx)(pins:List (Addr×Obj))(H:Hp)(b:Addr):Prop:=
 H b=none/\b≠X.env.locals/\b ∉ X.fs/\(b∈X.ex\/X.s₀.heap.objs.size<=b)/\(∀x c,X.env.cells.lookup x=some c->c≠b)/\∀p∈X.pn++pins,p.1≠b
theorem Inv.yy{X:Cx}{pins:List (Addr×Obj)}{σ:St}{H H':Hp}{s:Shared}{b:Addr}(I:Inv X pins σ H s)(hb:s.heap.objs.size<=b)(hn:H' b=none):ni X pins H' b:=by
 refine⟨hn,ne_of_gt (lt_of_lt_of_le I.lt hb),I.Lb hb,.inr (le_trans I.sz hb),λx c e z=>?_,λp hp z=>?_⟩
 ·obtain⟨v,q⟩:=I.cell x c e
  exact absurd (lt_of_lt_of_le q.lt (by rw[z];exact hb)) (lt_irrefl _)
 ·exact absurd (lt_of_lt_of_le (lt_size (I.pin p hp).1) (by rw[z];exact hb)) (lt_irrefl _)
structure Turn(P:Program)(w:World)(K:PySem.W.Frag)(tg:Expr)(J:It)(fp:List Addr)(it:Addr)(tn:Nat->Heap->Prop):Prop where
 mem:it∈fp
 obj:∀i h,tn i h->∀b∈fp,∃o,h.get? b=some o/\∀v,o.data≠.cell v
 keep:∀i h h',tn i h->(∀b∈fp,∀o,h.get? b=some o->h'.get? b=some o)->tn i h'
 item:∀(X:Cx),X.prog=P->X.w=w->X.K=K->X.calm=true->∀(i:Nat) (pins:List (Addr×Obj)) (s:Shared) (σ:St) (H:Hp) (E:Value->Shared->Prop),Inv X pins σ H s->(∀b∈fp,ni X pins H b)->tn i s.heap->J.go i H->
  wpAny (model P w) X.A (pyNext (.ref it)) (λr s1=>∃u,r=some u/\
   wpAny (model P w) X.A (letOwnedTupleGo tg (.ref it) u) (λ_ s2=>∃x H',Inv X pins σ H' s2/\RelV x u/\J.yld i H x H'/\tn (i+1) s2.heap/\∀b∈fp,H' b=none) E s1) E s
 done:∀(X:Cx),X.prog=P->X.w=w->X.K=K->X.calm=true->∀(i:Nat) (pins:List (Addr×Obj)) (s:Shared) (σ:St) (H:Hp) (E:Value->Shared->Prop),Inv X pins σ H s->(∀b∈fp,ni X pins H b)->tn i s.heap->J.stop i H->
  wpAny (model P w) X.A (pyNext (.ref it)) (λr s1=>r=none/\Inv X pins σ H s1) E s
 self:∀(A:Around) (i:Nat) (s:Shared) (Q:Value->Shared->Prop) (E:Value->Shared->Prop),tn i s.heap->Q (.ref it) s->wpAny (model P w) A (pyIter (.ref it)) Q E s
abbrev TI:=St->Hp->(It->Hp->Prop)->Prop
def KA(X:Cx)(pins:List (Addr×Obj))(σ:St)(tg:Expr)(R:It->Hp->Prop)(itv:Value)(s2:Shared):Prop:=
 ∃(it:Addr) (fp:List Addr) (tn:Nat->Heap->Prop) (J:It) (H':Hp),itv=.ref it/\Inv X pins σ H' s2/\Turn X.prog X.w X.K tg J fp it tn/\tn 0 s2.heap/\(∀b∈fp,ni X pins H' b)/\R J H'
def PI(X:Cx)(tg iter:Expr)(wi:TI):Prop:=
 ∀(pins:List (Addr×Obj)) (s:Shared) (σ:St) (H:Hp) (R:It->Hp->Prop),Inv X pins σ H s->wi σ H R->
  wpAny (model X.prog X.w) X.A (eval iter X.env) (λv s1=>wpAny (model X.prog X.w) X.A (pyIter v) (KA X pins σ tg R) X.xe s1) X.xe s
theorem xM{M:Model}{A:Around}{E:Value->Shared->Prop}{s:Shared}{tg:Expr}{it:Addr}{u:Value}{o:Obj}{n:String}{vs:Array Value}{Q:Unit->Shared->Prop}(ho:s.heap.get? it=some o)(hc:o.cls=.type n)(hd:o.data=.fields vs)
  (hn:["enumerate", "zip", "dict_itemiterator", "dict_reverseitemiterator", "odict_iterator", "itertools.zip_longest", "itertools.pairwise"].contains n=false) (hQ:Q () s):wpAny M A (letOwnedTupleGo tg (.ref it) u) Q E s:=by
 unfold letOwnedTupleGo;cases tg<;>first
  |exact wpAny_pure hQ
  | (cases u<;>first
    |exact wpAny_pure hQ
    | (refine wpAny_bind (wpAny_load ho ?_)
       rw[hc,hd];show wpAny M A (if(["enumerate", "zip", "dict_itemiterator", "dict_reverseitemiterator", "odict_iterator", "itertools.zip_longest", "itertools.pairwise"].contains n && vs[0]? == some (rawInt _))=true then _ else _) Q E s;rw[if_neg (by intro h;rw[hn,Bool.false_and]at h;cases h)];exact wpAny_pure hQ))
def BU(K:PySem.W.Frag)(a:Addr):It:=
 ⟨λi H=>∃xs x,cL K H a xs/\xs[i]? =some x,λi H x H'=>H'=H/\∀xs,cL K H a xs->xs[i]? =some x,λi H=>∃xs,cL K H a xs/\xs.length<=i⟩
def K7(K:PySem.W.Frag)(a:Addr):It:=
 ⟨λi H=>∃xs x,cW K H a xs/\xs[i]? =some x,λi H x H'=>H'=H/\∀xs,cW K H a xs->xs[i]? =some x,λi H=>∃xs,cW K H a xs/\xs.length<=i⟩
def Dz(lo:Int)(n:Nat):It:=⟨λi _=>i < n,λi H x H'=>H'=H/\x=.int (lo+i),λi _=>n<=i⟩
theorem xR{P:Program}{w:World}{K:PySem.W.Frag}{tg:Expr}(a it:Addr):Turn P w K tg (BU K a) [it] it (λi h=>h.IsListIter it a i) where
 mem:=by simp
 obj:=λi h st b hb=>by
  have e:b=it:=by simpa using hb
  subst e;obtain⟨o,e,c,d⟩:=st;exact⟨o,e,λv z=>by rw[d]at z;cases z⟩
 keep:=λi h h' st k=>st.at λo e=>k it (by simp) o e
 item:=by
  intro X hP hw hK hc i pins s σ H E I hf st hg;subst hP hw hK;obtain⟨xs,x,hq,hx⟩:=hg;obtain⟨its,rv,p,hz⟩:=I.list hq;obtain⟨u,hu,ru⟩:=rv.get hx;obtain⟨f0,f1,f2,f3,f4,f5⟩:=hf it (by simp);refine wpAny_pyNext_list_item st p.isList (x:=u) (by simpa using hu) λh' st' sb=>?_;have I1:Inv X pins σ H { s with heap:=h' }:=I.turned (t':=s.toks) (λb o hb e=>(sb.2 b hb).trans e) f0 f1 f3 f4 f5;obtain⟨o,e,c,d⟩:=id st';exact⟨u,rfl,xM (s:={ s with heap:=h' }) e c d (by decide) ⟨x,H,I1,ru,⟨rfl,λys hy=>by rw[I.uP hy hq];exact hx⟩,st',λb hb=>(hf b hb).1⟩⟩
 done:=by
  intro X hP hw hK hc i pins s σ H E I hf st hg;subst hP hw hK;obtain⟨xs,hq,hx⟩:=hg;obtain⟨its,rv,p,hz⟩:=I.list hq;obtain⟨f0,f1,f2,f3,f4,f5⟩:=hf it (by simp);have hl:=rv.length;exact wpAny_pyNext_list_end (I.ok.hd hc) st p.isList (by simp;omega) λh' eb=>⟨rfl,I.turned (t':=s.toks) (λb o hb e=>eb b o hb e) f0 f1 f3 f4 f5⟩
 self:=λ_ _ _ _ _ st h=>wpAny_pyIter_listiter st h
theorem vk{P:Program}{w:World}{K:PySem.W.Frag}{tg:Expr}(a it:Addr):Turn P w K tg (K7 K a) [it] it (λi h=>h.IsTupleIter it a i) where
 mem:=by simp
 obj:=λi h st b hb=>by
  have e:b=it:=by simpa using hb
  subst e;obtain⟨o,e,c,d⟩:=st;exact⟨o,e,λv z=>by rw[d]at z;cases z⟩
 keep:=λi h h' st k=>st.at λo e=>k it (by simp) o e
 item:=by
  intro X hP hw hK hc i pins s σ H E I hf st hg;subst hP hw hK;obtain⟨xs,x,hq,hx⟩:=hg;obtain⟨its,rv,p,hz⟩:=I.tuple hq;obtain⟨u,hu,ru⟩:=rv.get hx;obtain⟨f0,f1,f2,f3,f4,f5⟩:=hf it (by simp);refine wpAny_pyNext_tuple_item st (show s.heap.IsTuple a its.toArray from p) (x:=u) (by simpa using hu) λh' st' sb=>?_;have I1:Inv X pins σ H { s with heap:=h' }:=I.turned (t':=s.toks) (λb o hb e=>(sb.2 b hb).trans e) f0 f1 f3 f4 f5;obtain⟨o,e,c,d⟩:=id st';exact⟨u,rfl,xM (s:={ s with heap:=h' }) e c d (by decide) ⟨x,H,I1,ru,⟨rfl,λys hy=>by rw[I.xN hy hq];exact hx⟩,st',λb hb=>(hf b hb).1⟩⟩
 done:=by
  intro X hP hw hK hc i pins s σ H E I hf st hg;subst hP hw hK;obtain⟨xs,hq,hx⟩:=hg;obtain⟨its,rv,p,hz⟩:=I.tuple hq;obtain⟨f0,f1,f2,f3,f4,f5⟩:=hf it (by simp);have hl:=rv.length;exact wpAny_pyNext_tuple_end (I.ok.hd hc) st (show s.heap.IsTuple a its.toArray from p) (by simp;omega) λh' eb=>⟨rfl,I.turned (t':=s.toks) (λb o hb e=>eb b o hb e) f0 f1 f3 f4 f5⟩
 self:=λ_ _ _ _ _ st h=>wpAny_pyIter_tupleiter st h
theorem vV{P:Program}{w:World}{K:PySem.W.Frag}{tg:Expr}(it:Addr)(lo:Int)(n:Nat):Turn P w K tg (Dz lo n) [it] it (λi h=>IsRangeIter h it (lo+(i:Nat) * 1) ((n:Int) - (i:Nat)) 1) where
 mem:=by simp
 obj:=λi h st b hb=>by
  have e:b=it:=by simpa using hb
  subst e;exact⟨_,st,λv z=>by
   have z':Data.fields _=Data.cell v:=z;cases z'⟩
 keep:=λi h h' st k=>k it (by simp) _ st
 item:=by
  intro X hP hw hK hc i pins s σ H E I hf st hg;subst hP hw hK;obtain⟨f0,f1,f2,f3,f4,f5⟩:=hf it (by simp);have W:=Walks.range (prog:=X.prog) (w:=X.w) (I.ok.hd hc) it lo 1 n;refine W.item i s _ _ hg st λv h' tk hv st' kk=>?_;obtain⟨t,rfl⟩:=hv;have I1:Inv X pins σ H { s with heap:=h',toks:=tk }:=I.turned (λb o hb e=>kk b o (by simpa using hb) e) f0 f1 f3 f4 f5;refine⟨_,rfl,xM (s:={ s with heap:=h',toks:=tk }) (n:= "range_iterator") st' rfl rfl (by decide) ⟨.int (lo+i),H,I1,⟨t,?_⟩,⟨rfl,rfl⟩,st',λb hb=>(hf b hb).1⟩⟩;rw[Int.mul_one]
 done:=by
  intro X hP hw hK hc i pins s σ H E I hf st hg;subst hP hw hK;obtain⟨f0,f1,f2,f3,f4,f5⟩:=hf it (by simp);exact wpAny_pyNext_range_end (I.ok.hd hc) st (by have:n<=i:=hg;omega) λh' eb=>⟨rfl,I.turned (t':=s.toks) (λb o hb e=>eb b o hb e) f0 f1 f3 f4 f5⟩
 self:=λ_ _ _ _ _ st h=>wpAny_pyIter_rangeiter st h
end L2
namespace L2
open PySem PySem.Spec PyProof.Rows
section
variable {X:Cx}{tg:Expr}
inductive EL(K:PySem.W.Frag)(x:V)(H:Hp)(R:It->Hp->Prop):Prop
 |mk(a:Addr)(e:x=.ref a)(s:∃xs,cL K H a xs)(q:R (BU K a) H)
def Ef(K:PySem.W.Frag)(tl:TE):TI:=λσ H R=>tl σ H λx H1=>EL K x H1 R
def Jl(K:PySem.W.Frag)(tl:TE):TI:=λσ H R=>tl σ H λx H1=>∃a,x=.ref a/\(∃xs,cW K H1 a xs)/\R (K7 K a) H1
theorem CF{l:Expr}{tl:TE}(hl:PE X l tl):PI X tg l (Ef X.K tl):=by
 intro pins s σ H R I h;refine di (hl pins s σ H _ I h) λv s1 hpat=>?_;obtain⟨x,H1,I1,r1,q1⟩:=hpat;obtain⟨a,e,⟨xs,hq⟩,q⟩:=q1;subst e;cases r1;obtain⟨its,rv,p,hz⟩:=I1.list hq;refine wpAny_pyIter_list p.isList ?_;refine⟨s1.heap.objs.size,[s1.heap.objs.size],_,_,H1,rfl,I1.kept (t':=s1.toks) λb o e=>get?_push_of_some _ e,xR a _,⟨_,get?_push_size _ rfl,rfl,rfl⟩,λb hb=>?_,q⟩;have e:b=s1.heap.objs.size:=by simpa using hb
 subst e;exact I1.yy (le_refl _) (I1.hok.fresh (le_refl _))
theorem vb{l:Expr}{tl:TE}(hl:PE X l tl):PI X tg l (Jl X.K tl):=by
 intro pins s σ H R I h;refine di (hl pins s σ H _ I h) λv s1 hpat=>?_;obtain⟨x,H1,I1,r1,q1⟩:=hpat;obtain⟨a,e,⟨xs,hq⟩,q⟩:=q1;subst e;cases r1;obtain⟨its,rv,p,hz⟩:=I1.tuple hq;refine wpAny_pyIter_tuple (show s1.heap.IsTuple a its.toArray from p) ?_;refine⟨s1.heap.objs.size,[s1.heap.objs.size],_,_,H1,rfl,I1.kept (t':=s1.toks) λb o e=>get?_push_of_some _ e,vk a _,⟨_,get?_push_size _ rfl,rfl,rfl⟩,λb hb=>?_,q⟩;have e:b=s1.heap.objs.size:=by simpa using hb
 subst e;exact I1.yy (le_refl _) (I1.hok.fresh (le_refl _))
theorem zY{pins:List (Addr×Obj)}{σ:St}{H:Hp}{s:Shared}{R:It->Hp->Prop}{E:Value->Shared->Prop}{lo hi:Int}{t u v:Tok}{tk:Nat}(I:Inv X pins σ H s)(h1: -(2 ^ 62)<=lo)(h2:lo < 2 ^ 62)(h3: -(2 ^ 62)<=hi)(h4:hi < 2 ^ 62)
  (q:R (Dz lo (hi - lo).toNat) H):wpAny (model X.prog X.w) X.A (pyIter (.ref s.heap.objs.size)) (KA X pins σ tg R) E { s with heap:=s.heap.push { cls:=.type "range",data:=.fields #[.int lo t,.int hi u,.int 1 v] },toks:=tk }:=by
 refine wpAny_pyIter_range (IsRange.new ..) (small_one h1 h2 h3 h4) ?_;have I1:Inv X pins σ H { s with heap:=s.heap.push { cls:=.type "range",data:=.fields #[.int lo t,.int hi u,.int 1 v] },toks:=tk }:=I.kept λb o e=>get?_push_of_some _ e;refine⟨(s.heap.push { cls:=.type "range",data:=.fields #[.int lo t,.int hi u,.int 1 v] }).objs.size,[(s.heap.push { cls:=.type "range",data:=.fields #[.int lo t,.int hi u,.int 1 v] }).objs.size],_,_,H,rfl,
  I1.kept (t':=tk) λb o e=>get?_push_of_some _ e,vV _ lo (hi - lo).toNat,?_,λb hb=>?_,q⟩
 ·have e1:lo+((0:Nat):Int) * 1=lo:=by simp
  have e2:(((hi - lo).toNat:Nat):Int) - ((0:Nat):Int)=Builtin.Range.rangeSize lo hi 1:=by rw[rangeSize_one];split<;>omega
  show IsRangeIter _ _ (lo+((0:Nat):Int) * 1) ((((hi - lo).toNat:Nat):Int) - ((0:Nat):Int)) 1;rw[e1,e2];exact get?_push_size _ rfl
 ·have e:b=(s.heap.push { cls:=.type "range",data:=.fields #[.int lo t,.int hi u,.int 1 v] }).objs.size:=by simpa using hb
  subst e;exact I1.yy (le_refl _) (I1.hok.fresh (le_refl _))
def D9(ta:TA):TI:=λσ H R=>ta σ H λvs H1=>∃j:Int,vs=[.int j]/\ -(2 ^ 62)<=j/\j < 2 ^ 62/\R (Dz 0 j.toNat) H1
def LF(ta:TA):TI:=λσ H R=>ta σ H λvs H1=>∃i j:Int,vs=[.int i,.int j]/\(-(2 ^ 62)<=i/\i < 2 ^ 62/\ -(2 ^ 62)<=j/\j < 2 ^ 62)/\R (Dz i (j - i).toNat) H1
theorem yz {a:Expr}{ta:TA}{p pos:Pos}(hg:Gl X "range") (hm:X.mg "range" =none) (ha:PA X [a] ta) (hs:starEach [a] X.env=[(false,eval a X.env)]:=by rfl):PI X tg (.Call (.Name "range" p) [a] [] pos) (D9 ta):=by
 intro pins s σ H R I h;refine Call_ (j4 I hg hm boot_range (PyProof.Rows.callWith_type1 (di (ha pos pins s σ H _ I h) λus s1 hpat=>?_) hs rfl));obtain⟨vs,H1,I1,r1,q1⟩:=hpat;obtain⟨j,e,q1,q2,q⟩:=q1;subst e;cases r1 with
 |cons r rr=>
  cases rr;obtain⟨t,rfl⟩:=r;exact call_range_1 (zY I1 (by omega) (by omega) q1 q2 (by simpa using q))
def JD(wi:TI)(g:TG)(tb:TS):TS:=λD σ H=>wi σ H λJ H1=>∃W:Nat->Nat->St->Hp->Prop,(∃m,W 0 m σ H1)/\∀i m σ H,W i m σ H->
 (J.stop i H/\D.nx σ H)\/(J.go i H/\∃N:St->Hp->Prop,(∀σ' H',N σ' H'->∃m',m' < m/\W (i+1) m' σ' H')/\∀x H',J.yld i H x H'->g x σ H' λσ2 H2=>tb { D with nx:=N,ct:=N,bk:=D.nx } σ2 H2)
def sC(fp:List Addr)(h:Heap):List (Addr×Obj):=fp.filterMap λb=>(h.get? b).map λo=>(b,o)
theorem eI{fp:List Addr}{h:Heap}{b:Addr}{o:Obj}(hb:b∈fp)(e:h.get? b=some o):(b,o)∈sC fp h:=mem_filterMap.mpr ⟨b,hb,by rw[e];rfl⟩
theorem xY{fp:List Addr}{h:Heap}{p:Addr×Obj}(hp:p∈sC fp h):p.1∈fp/\h.get? p.1=some p.2:=by
 obtain⟨b,hb,e⟩:=mem_filterMap.mp hp;cases q:h.get? b with
 |none=>rw[q]at e;cases e
 |some o=>
  rw[q]at e;have e':(b,o)=p:=Option.some.inj e;subst e';exact⟨hb,q⟩
theorem Inv.pinned{pins:List (Addr×Obj)}{σ:St}{H:Hp}{s:Shared}{fp:List Addr}(I:Inv X pins σ H s)(hf:∀b∈fp,ni X pins H b)(ho:∀b∈fp,∃o,s.heap.get? b=some o/\∀v,o.data≠.cell v):Inv X (pins++sC fp s.heap) σ H s:=
 I.xD λp hp=>(mem_append.mp hp).elim (λz=>I.pin p (mem_append_right _ z)) λz=>by
  obtain⟨hb,e⟩:=xY z;obtain⟨f0,f1,f2,_⟩:=hf p.1 hb;obtain⟨o,e',d⟩:=ho p.1 hb;rw[e]at e';cases e';exact⟨e,f0,f1,f2,d⟩
theorem Inv.gR{pins pl:List (Addr×Obj)}{σ:St}{H:Hp}{s:Shared}(I:Inv X (pins++pl) σ H s):Inv X pins σ H s:=I.xD λp hp=>I.pin p (mem_append_right _ (mem_append_left _ hp))
theorem FY{iter:Expr}{body:List Stmt}{wi:TI}{g:TG}{tb:TS}{pos:Pos}(hp:PassesOwn (model X.prog X.w) X.A X.env X.xe)(hc:X.calm=true)(hi:PI X tg iter wi)(hg:PG X tg g)(hb:wg X body tb)
  (hs:∀x,foldedSetIterable iter X.env x=pure x:=by intro _;rfl):PS X (.For tg iter body [] pos) (JD wi g tb):=by
 intro pins s σ H D I h;refine wpAny_For (di (hi pins s σ H _ I h) λv s1 h1=>di h1 λitv s2 h2=>?_) hs;obtain⟨it,fp,tn,J,H2,e,I2,T,st2,f2,W,⟨m0,w0⟩,turn⟩:=h2;subst e;have stat:∀{H':Hp},(∀b∈fp,H' b=none)->∀b∈fp,ni X pins H' b:=λhn b hb=>⟨hn b hb,(f2 b hb).2⟩;refine codeAny_forLoop_any (λn s'=>∃i σ' H',Inv X pins σ' H' s'/\tn i s'.heap/\(∀b∈fp,H' b=none)/\W i n σ' H') ?_ m0 ⟨0,σ,H2,I2,st2,λb hb=>(f2 b hb).1,w0⟩;rintro n s3 ⟨i,σ3,H3,I3,st3,fr3,w3⟩;rcases turn i n σ3 H3 w3 with ⟨stop,qn⟩|⟨go,N,hN,step⟩
 ·refine wpAny_passesOwn hp (di (T.done X rfl rfl rfl hc i pins s3 σ3 H3 X.xe I3 (stat fr3) st3 stop) λr s4 ⟨hr,I4⟩=>?_)
  subst hr;exact wpAny_execs_nil ⟨σ3,H3,I4,qn⟩
 ·refine wpAny_passesOwn hp (di (T.item X rfl rfl rfl hc i pins s3 σ3 H3 X.xe I3 (stat fr3) st3 go) λr s4 ⟨u,hr,h4⟩=>?_)
  subst hr;refine wpAny_passesOwn hp (di h4 λ_ s5 hpat=>?_);obtain⟨x,H5,I5,r5,y5,st5,fr5⟩:=hpat;have I5':=I5.pinned (stat fr5) (T.obj _ _ st5);refine wpAny_passesOwn hp (di (hg _ s5 σ3 H5 x u _ I5' r5 (step x H5 y5)) λ_ s6 hpat=>?_);obtain⟨σ6,H6,I6,q6⟩:=hpat;refine wpAny_passesOwn hp (di (hb _ s6 σ6 H6 _ I6 q6) λf s7 q7=>?_);have again:∀{σ7:St}{H7:Hp},Inv X (pins++sC fp s5.heap) σ7 H7 s7->N σ7 H7->∃m,m < n/\∃i σ' H',Inv X pins σ' H' s7/\tn i s7.heap/\(∀b∈fp,H' b=none)/\W i m σ' H':=λ{σ7 H7} I7 n7=>by
   obtain⟨m',hm,w7⟩:=hN σ7 H7 n7;refine⟨m',hm,i+1,σ7,H7,I7.gR,T.keep _ _ _ st5 λb hb o e=>(I7.pin (b,o) (mem_append_right _ (mem_append_right _ (eI hb e)))).1,λb hb=>?_,w7⟩;obtain⟨o,e,d⟩:=T.obj _ _ st5 b hb;exact(I7.pin (b,o) (mem_append_right _ (mem_append_right _ (eI hb e)))).2.1
  cases f with
  |next=>obtain⟨σ7,H7,I7,n7⟩:=q7;exact again I7 n7
  |cont=>obtain⟨σ7,H7,I7,n7⟩:=q7;exact again I7 n7
  |brk=>obtain⟨σ7,H7,I7,q7⟩:=q7;exact⟨σ7,H7,I7.gR,q7⟩
  |ret v=>obtain⟨x7,σ7,H7,I7,r7,q7⟩:=q7;exact⟨x7,σ7,H7,I7.gR,r7,q7⟩
end
theorem da{K:PySem.W.Frag}{a:Addr}{xs:List V}{g:TG}{tb:TS}{D:Ends}{σ:St}{H:Hp}(Pv:Nat->St->Hp->Prop)(h0:Pv 0 σ H)(hl:∀i σ H,i<=xs.length->Pv i σ H->cL K H a xs)
  (hs:∀i x σ H,xs[i]? =some x->Pv i σ H->g x σ H λσ2 H2=>tb { D with nx:=Pv (i+1),ct:=Pv (i+1),bk:=D.nx } σ2 H2)(hd:∀σ H,Pv xs.length σ H->D.nx σ H):
  ∃W:Nat->Nat->St->Hp->Prop,(∃m,W 0 m σ H)/\∀i m σ H,W i m σ H->
   ((BU K a).stop i H/\D.nx σ H)\/((BU K a).go i H/\∃N:St->Hp->Prop,(∀σ' H',N σ' H'->∃m',m' < m/\W (i+1) m' σ' H')/\∀x H',(BU K a).yld i H x H'->g x σ H' λσ2 H2=>tb { D with nx:=N,ct:=N,bk:=D.nx } σ2 H2):=by
 refine⟨λi m σ H=>m=xs.length - i/\i<=xs.length/\Pv i σ H,⟨xs.length,by simp,zero_le _,h0⟩,?_⟩;rintro i m σ H ⟨rfl,hi,p⟩;have q:=hl i σ H hi p;by_cases hlt:i < xs.length
 ·refine .inr ⟨⟨xs,xs[i],q,by simp[hlt]⟩,Pv (i+1),λσ' H' p'=>⟨xs.length - (i+1),by omega,rfl,hlt,p'⟩,λx H' y=>?_⟩
  obtain⟨e,y⟩:=y;subst e;exact hs i x σ _ (y xs q) p
 ·have e:i=xs.length:=by omega
  subst e;exact .inl ⟨⟨xs,q,le_refl _⟩,hd σ H p⟩
theorem jz{lo:Int}{n:Nat}{g:TG}{tb:TS}{D:Ends}{σ:St}{H:Hp}(Pv:Nat->St->Hp->Prop)(h0:Pv 0 σ H)
  (hs:∀i σ H,i < n->Pv i σ H->g (.int (lo+i)) σ H λσ2 H2=>tb { D with nx:=Pv (i+1),ct:=Pv (i+1),bk:=D.nx } σ2 H2)(hd:∀σ H,Pv n σ H->D.nx σ H):
  ∃W:Nat->Nat->St->Hp->Prop,(∃m,W 0 m σ H)/\∀i m σ H,W i m σ H->
   ((Dz lo n).stop i H/\D.nx σ H)\/((Dz lo n).go i H/\∃N:St->Hp->Prop,(∀σ' H',N σ' H'->∃m',m' < m/\W (i+1) m' σ' H')/\∀x H',(Dz lo n).yld i H x H'->g x σ H' λσ2 H2=>tb { D with nx:=N,ct:=N,bk:=D.nx } σ2 H2):=by
 refine⟨λi m σ H=>m=n - i/\i<=n/\Pv i σ H,⟨n,by simp,zero_le _,h0⟩,?_⟩;rintro i m σ H ⟨rfl,hi,p⟩;by_cases hlt:i < n
 ·refine .inr ⟨hlt,Pv (i+1),λσ' H' p'=>⟨n - (i+1),by omega,rfl,hlt,p'⟩,λx H' y=>?_⟩
  obtain⟨e,y⟩:=y;subst e y;exact hs i σ _ hlt p
 ·have e:i=n:=by omega
  subst e;exact .inl ⟨le_refl _,hd σ H p⟩
end L2
namespace L2
open PySem PySem.Spec PyProof.Rows
abbrev R2:=V->V->Hp->VK->Prop
def gX(X:Cx)(f:Value->Value->Sem Value)(r:R2):Prop:=
 ∀(pins:List (Addr×Obj)) (s:Shared) (σ:St) (H:Hp) (x y:V) (v u:Value) (Q:VK),Inv X pins σ H s->RelV x v->RelV y u->r x y H Q->
  wpAny (model X.prog X.w) X.A (f v u) (EP X pins σ Q) X.xe s
def JY(X:Cx)(f:Value->Sem Value)(r:V->Hp->VK->Prop):Prop:=
 ∀(pins:List (Addr×Obj)) (s:Shared) (σ:St) (H:Hp) (x:V) (v:Value) (Q:VK),Inv X pins σ H s->RelV x v->r x H Q->
  wpAny (model X.prog X.w) X.A (f v) (EP X pins σ Q) X.xe s
def eR(X:Cx)(f:Value)(r:List V->Hp->VK->Prop):Prop:=
 ∀(pins:List (Addr×Obj)) (s:Shared) (σ:St) (H:Hp) (xs:List V) (us:List Value) (Q:VK),Inv X pins σ H s->Vals xs us->r xs H Q->
  wpAny (model X.prog X.w) X.A (call f us) (EP X pins σ Q) X.xe s
def MD(X:Cx)(r:V->Hp->(Bool->Hp->Prop)->Prop):Prop:=
 ∀(pins:List (Addr×Obj)) (s:Shared) (σ:St) (H:Hp) (x:V) (v:Value) (Q:Bool->Hp->Prop),Inv X pins σ H s->RelV x v->r x H Q->
  wpAny (model X.prog X.w) X.A (truthy v) (TP X pins σ Q) X.xe s
def Ei(r:R2)(ta tb:TE):TE:=λσ H Q=>ta σ H λx H1=>tb σ H1 λy H2=>r x y H2 Q
def LN(r:V->Hp->VK->Prop)(ta:TE):TE:=λσ H Q=>ta σ H λx H1=>r x H1 Q
inductive KD(C:Int->Int->Prop)(g:Int->Int->V)(x y:V)(H:Hp)(Q:VK):Prop
 |mk(i j:Int)(hx:x=.int i)(hy:y=.int j)(c:C i j)(q:Q (g i j) H)
inductive IE(g:Int->Int->V)(x y:V)(H:Hp)(Q:VK):Prop
 |mk(i j:Int)(hx:x=.int i)(hy:y=.int j)(q:Q (g i j) H)
def rI(C:Int->Int->Prop)(g:Int->Int->V):R2:=λx y H Q=>KD C g x y H Q
def xj(g:Int->Int->V):R2:=λx y H Q=>IE g x y H Q
def rU(g:Int->V):V->Hp->VK->Prop:=λx H Q=>∃i,x=.int i/\Q (g i) H
section
variable {X:Cx}{a b c:Expr}{ta tb tc:TE}{pos:Pos}
theorem Gp(ha:PE X a ta)(hb:PE X b tb){pins:List (Addr×Obj)}{s:Shared}{σ:St}{H:Hp}{R:V->V->Hp->Prop}(I:Inv X pins σ H s)
  (h:ta σ H λx H1=>tb σ H1 λy H2=>R x y H2){Q:Value->Shared->Prop}{f:Value->Value->Sem Value}
  (hf:∀v u s2 x y H2,Inv X pins σ H2 s2->RelV x v->RelV y u->R x y H2->wpAny (model X.prog X.w) X.A (f v u) Q X.xe s2):
  wpAny (model X.prog X.w) X.A (eval a X.env) (λv s₁=>wpAny (model X.prog X.w) X.A (eval b X.env) (λu s₂=>wpAny (model X.prog X.w) X.A (f v u) Q X.xe s₂) X.xe s₁) X.xe s:=by
 refine di (ha pins s σ H _ I h) λv s1 hpat=>?_;obtain⟨x,H1,I1,r1,q1⟩:=hpat;refine di (hb pins s1 σ H1 _ I1 q1) λu s2 hpat=>?_;obtain⟨y,H2,I2,r2,q2⟩:=hpat;exact hf v u s2 x y H2 I2 r1 r2 q2
theorem EE{op:Operator}{r:R2}(ho:gX X (binaryOp op) r)(ha:PE X a ta)(hb:PE X b tb):PE X (.BinOp a op b pos) (Ei r ta tb):=by
 intro pins s σ H Q I h;exact wpAny_BinOp (Gp ha hb I h λv u s2 x y H2 I2 rx ry q=>ho pins s2 σ H2 x y v u Q I2 rx ry q)
theorem tN{op:UnaryOp}{r:V->Hp->VK->Prop}(ho:JY X (unaryOp op) r)(ha:PE X a ta):PE X (.UnaryOp op a pos) (LN r ta):=by
 intro pins s σ H Q I h;exact UnaryOp_ (di (ha pins s σ H _ I h) λv s1 ⟨x,H1,I1,r1,q1⟩=>ho pins s1 σ H1 x v Q I1 r1 q1)
theorem J2{f:Value->Value->Sem Value}{C:Int->Int->Prop}{g:Int->Int->Int}
  (rule:∀(i j:Int)(t u:Tok)(s:Shared)(Q:Value->Shared->Prop)(E:Value->Shared->Prop),C i j->Q (.int (g i j) s.toks) { s with toks:=s.toks+1 }->wpAny (model X.prog X.w) X.A (f (.int i t) (.int j u)) Q E s):
  gX X f (rI C λi j=>.int (g i j)):=by
 intro pins s σ H x y v u Q I rx ry h;obtain⟨i,j,rfl,rfl,hc,q⟩:=h;obtain⟨t,rfl⟩:=rx;obtain⟨t',rfl⟩:=ry;exact rule i j t t' s _ _ hc ⟨.int (g i j),H,I.tok _,⟨_,rfl⟩,q⟩
theorem II{f:Value->Value->Sem Value}{g:Int->Int->Int}
  (rule:∀(i j:Int)(t u:Tok)(s:Shared)(Q:Value->Shared->Prop)(E:Value->Shared->Prop),Q (.int (g i j) s.toks) { s with toks:=s.toks+1 }->wpAny (model X.prog X.w) X.A (f (.int i t) (.int j u)) Q E s):
  gX X f (xj λi j=>.int (g i j)):=by
 intro pins s σ H x y v u Q I rx ry h;obtain⟨i,j,rfl,rfl,q⟩:=h;obtain⟨t,rfl⟩:=rx;obtain⟨t',rfl⟩:=ry;exact rule i j t t' s _ _ ⟨.int (g i j),H,I.tok _,⟨_,rfl⟩,q⟩
theorem C0{f:Value->Value->Sem Value}{g:Int->Int->Bool}
  (rule:∀(i j:Int)(t u:Tok)(s:Shared)(Q:Value->Shared->Prop)(E:Value->Shared->Prop),Q (.bool (g i j)) s->wpAny (model X.prog X.w) X.A (f (.int i t) (.int j u)) Q E s):
  gX X f (xj λi j=>.bl (g i j)):=by
 intro pins s σ H x y v u Q I rx ry h;obtain⟨i,j,rfl,rfl,q⟩:=h;obtain⟨t,rfl⟩:=rx;obtain⟨t',rfl⟩:=ry;exact rule i j t t' s _ _ ⟨.bl (g i j),H,I,rfl,q⟩
def Jm(i j:Int):Prop:=0 < j/\j < 1073741824
def Ly(i j:Int):Prop:=j≠0/\j.natAbs < 1073741824
def Iz(i j:Int):Prop:=0<=j/\j<=1000000/\i.natAbs < 2 ^ 64
def DB(i j:Int):Prop:=(-(2 ^ 64) < i/\i < 2 ^ 64)\/(-(2 ^ 64) < j/\j < 2 ^ 64)
theorem DB.ok{i j:Int}(h:DB i j):IntMulOk i j:=by
 rcases h with ⟨h1,h2⟩|⟨h1,h2⟩
 ·exact .of_left (intBits_le_64 h1 h2)
 ·exact .of_right (intBits_le_64 h1 h2)
theorem Fn:gX X (binaryOp .Add) (xj λi j=>.int (i+j)):=II λ_ _ _ _ _ _ _ q=>add_int q
theorem pL:gX X (binaryOp .Sub) (xj λi j=>.int (i - j)):=II λ_ _ _ _ _ _ _ q=>sub_int q
theorem FT:gX X (binaryOp .Mult) (rI DB λi j=>.int (i * j)):=J2 λ_ _ _ _ _ _ _ hc q=>mul_int q hc.ok
theorem DJ:gX X (binaryOp .FloorDiv) (rI Jm λi j=>.int (i / j)):=J2 λi j _ _ _ _ _ hc q=>by
 have h1:(0:Int) < j:=hc.1;have h2:j < 1073741824:=hc.2;exact floordiv_int (by omega) (by rw[Int.fdiv_eq_ediv_of_nonneg i (by omega)];exact q) (.inl (PyProof.noPylong_small (by omega)))
theorem GV:gX X (binaryOp .Mod) (rI (λ_ j=>0 < j) λi j=>.int (i % j)):=J2 λi j _ _ _ _ _ hc q=>by
 have h1:(0:Int) < j:=hc;exact mod_int' (by omega) (by rw[Int.fmod_eq_emod_of_nonneg i (by omega)];exact q)
theorem mR:gX X (binaryOp .Pow) (rI Iz λi j=>.int (i ^ j.toNat)):=J2 λ_ _ _ _ _ _ _ hc q=>pow_int_small hc.1 hc.2.1 hc.2.2 q
theorem Mu{f:Value->Sem Value}{g:Int->Int}
  (rule:∀(i:Int)(t:Tok)(s:Shared)(Q:Value->Shared->Prop)(E:Value->Shared->Prop),Q (.int (g i) s.toks) { s with toks:=s.toks+1 }->wpAny (model X.prog X.w) X.A (f (.int i t)) Q E s):
  JY X f (rU λi=>.int (g i)):=by
 intro pins s σ H x v Q I rx h;obtain⟨i,rfl,q⟩:=h;obtain⟨t,rfl⟩:=rx;exact rule i t s _ _ ⟨.int (g i),H,I.tok _,⟨_,rfl⟩,q⟩
theorem pe:JY X (unaryOp .USub) (rU λi=>.int (-i)):=Mu λ_ _ _ _ _ q=>neg_int q
end
def FG:V->V->Bool
 |.non,.non=>true|.non,.int _=>true|.int _,.non=>true|.non,.bl _=>true|.bl _,.non=>true|.non,.str _=>true|.str _,.non=>true
 |.int _,.int _=>true|.bl _,.bl _=>true|.str _,.str _=>true|.byt _,.byt _=>true
 |.int _,.str _=>true|.str _,.int _=>true|.bl _,.str _=>true|.str _,.bl _=>true
 |_,_=>false
def LM:R2:=λx y H Q=>FG x y=true/\Q (.bl (decide (x=y))) H
def LC:R2:=λx y H Q=>FG x y=true/\Q (.bl (!decide (x=y))) H
theorem wD{i j:Int}:decide (V.int i=V.int j)=(i == j):=by
 rw[Bool.eq_iff_iff];simp
theorem Bs{i j:Bool}:decide (V.bl i=V.bl j)=(i == j):=by
 rw[Bool.eq_iff_iff];simp
theorem wM{i j:Str}:decide (V.str i=V.str j)=(i == j):=by
 rw[Bool.eq_iff_iff];simp
theorem xF{i j:Array UInt8}:decide (V.byt i=V.byt j)=(i.toList == j.toList):=by
 rw[Bool.eq_iff_iff];cases i;cases j;simp
section
variable {X:Cx}{a b c:Expr}{ta tb tc:TE}{pos:Pos}
theorem cU{pins:List (Addr×Obj)}{σ:St}{H:Hp}{s:Shared}{Q:VK}{k k':Bool}(I:Inv X pins σ H s)(q:Q (.bl k) H)(e:k=k'):EP X pins σ Q (.bool k') s:=by
 subst e;exact⟨.bl k,H,I,rfl,q⟩
theorem HJ:gX X (compareOp .Eq) LM:=by
 intro pins s σ H x y v u Q I rx ry h;obtain⟨hs,q⟩:=h;cases x with
 |non=>
  cases rx;cases y with
  |non=>cases ry;exact PySem.EqNone.eq_none_none (cU I q (by simp))
  |bl j=>cases ry;exact PySem.EqNone.eq_none_bool (cU I q (by simp))
  |int j=>obtain⟨t',rfl⟩:=ry;exact PySem.EqNone.eq_none_int (cU I q (by simp))
  |str j=>obtain⟨t',rfl⟩:=ry;exact PySem.EqNone.eq_none_str (cU I q (by simp))
  |_=>exact absurd (show false=true from hs) Bool.false_ne_true
 |bl i=>
  cases rx;cases y with
  |non=>cases ry;exact PySem.EqNone.eq_bool_none (cU I q (by simp))
  |bl j=>cases ry;exact eq_bool (cU I q Bs)
  |str j=>obtain⟨t',rfl⟩:=ry;exact PySem.EqMixed.eq_bool_str (cU I q (by simp))
  |_=>exact absurd (show false=true from hs) Bool.false_ne_true
 |int i=>
  obtain⟨t,rfl⟩:=rx;cases y with
  |non=>cases ry;exact PySem.EqNone.eq_int_none (cU I q (by simp))
  |int j=>obtain⟨t',rfl⟩:=ry;exact eq_int (cU I q wD)
  |str j=>obtain⟨t',rfl⟩:=ry;exact PySem.EqMixed.eq_int_str (cU I q (by simp))
  |_=>exact absurd (show false=true from hs) Bool.false_ne_true
 |str i=>
  obtain⟨t,rfl⟩:=rx;cases y with
  |non=>cases ry;exact PySem.EqNone.eq_str_none (cU I q (by simp))
  |bl j=>cases ry;exact PySem.EqMixed.eq_str_bool (cU I q (by simp))
  |int j=>obtain⟨t',rfl⟩:=ry;exact PySem.EqMixed.eq_str_int (cU I q (by simp))
  |str j=>obtain⟨t',rfl⟩:=ry;exact eq_str (cU I q wM)
  |_=>exact absurd (show false=true from hs) Bool.false_ne_true
 |byt i=>
  obtain⟨t,rfl⟩:=rx;cases y with
  |byt j=>obtain⟨t',rfl⟩:=ry;exact PySem.W.eq_bytes (cU I q xF)
  |_=>exact absurd (show false=true from hs) Bool.false_ne_true
 |_=>cases y<;>exact absurd (show false=true from hs) Bool.false_ne_true
theorem IU:gX X (compareOp .NotEq) LC:=by
 intro pins s σ H x y v u Q I rx ry h;obtain⟨hs,q⟩:=h;cases x with
 |non=>
  cases rx;cases y with
  |non=>cases ry;exact PySem.EqNone.ne_none_none (cU I q (by simp))
  |bl j=>cases ry;exact PySem.EqNone.ne_none_bool (cU I q (by simp))
  |int j=>obtain⟨t',rfl⟩:=ry;exact PySem.EqNone.ne_none_int (cU I q (by simp))
  |str j=>obtain⟨t',rfl⟩:=ry;exact PySem.EqNone.ne_none_str (cU I q (by simp))
  |_=>exact absurd (show false=true from hs) Bool.false_ne_true
 |bl i=>
  cases rx;cases y with
  |non=>cases ry;exact PySem.EqNone.ne_bool_none (cU I q (by simp))
  |bl j=>cases ry;exact ne_bool (cU I q (congrArg not Bs))
  |str j=>obtain⟨t',rfl⟩:=ry;exact PySem.EqMixed.ne_bool_str (cU I q (by simp))
  |_=>exact absurd (show false=true from hs) Bool.false_ne_true
 |int i=>
  obtain⟨t,rfl⟩:=rx;cases y with
  |non=>cases ry;exact PySem.EqNone.ne_int_none (cU I q (by simp))
  |int j=>obtain⟨t',rfl⟩:=ry;exact ne_int (cU I q (congrArg not wD))
  |str j=>obtain⟨t',rfl⟩:=ry;exact PySem.EqMixed.ne_int_str (cU I q (by simp))
  |_=>exact absurd (show false=true from hs) Bool.false_ne_true
 |str i=>
  obtain⟨t,rfl⟩:=rx;cases y with
  |non=>cases ry;exact PySem.EqNone.ne_str_none (cU I q (by simp))
  |bl j=>cases ry;exact PySem.EqMixed.ne_str_bool (cU I q (by simp))
  |int j=>obtain⟨t',rfl⟩:=ry;exact PySem.EqMixed.ne_str_int (cU I q (by simp))
  |str j=>obtain⟨t',rfl⟩:=ry;exact ne_str (cU I q (congrArg not wM))
  |_=>exact absurd (show false=true from hs) Bool.false_ne_true
 |byt i=>
  obtain⟨t,rfl⟩:=rx;cases y with
  |byt j=>obtain⟨t',rfl⟩:=ry;exact PySem.W.ne_bytes (cU I q (congrArg not xF))
  |_=>exact absurd (show false=true from hs) Bool.false_ne_true
 |_=>cases y<;>exact absurd (show false=true from hs) Bool.false_ne_true
theorem Jj:gX X (compareOp .Lt) (xj λi j=>.bl (decide (i < j))):=C0 λ_ _ _ _ _ _ _ q=>lt_int q
theorem t6:gX X (compareOp .LtE) (xj λi j=>.bl (decide (i<=j))):=C0 λ_ _ _ _ _ _ _ q=>le_int q
theorem IH:gX X (compareOp .Gt) (xj λi j=>.bl (decide (j < i))):=C0 λ_ _ _ _ _ _ _ q=>gt_int q
theorem xK:gX X (compareOp .GtE) (xj λi j=>.bl (decide (j<=i))):=C0 λ_ _ _ _ _ _ _ q=>ge_int q
theorem Gq:gX X (compareOp .Is) (λx y H Q=>y=.non/\Q (.bl (decide (x=.non))) H):=by
 intro pins s σ H x y v u Q I rx ry h;obtain⟨rfl,q⟩:=h;cases ry;refine is_none_gen (cU I q ?_);cases x<;>first
  | (cases rx;rfl)
  | (obtain⟨t,rfl⟩:=rx;rfl)
theorem C2:gX X (compareOp .IsNot) (λx y H Q=>y=.non/\Q (.bl (!decide (x=.non))) H):=by
 intro pins s σ H x y v u Q I rx ry h;obtain⟨rfl,q⟩:=h;cases ry;refine isnot_none_gen (cU I q ?_);cases x<;>first
  | (cases rx;rfl)
  | (obtain⟨t,rfl⟩:=rx;rfl)
def isObj:HO->Bool
 |.lst _=>true
 |.ins _ _ _=>true
 |_=>false
theorem cJ(b:Expr){op:CmpOp}(h:op≠.In:=by decide)(h2:op≠.NotIn:=by decide):behindInMarks op b=false:=by
 have e1:(op == CmpOp.In)=false:=by cases op<;>first|rfl|exact absurd rfl h
 have e2:(op == CmpOp.NotIn)=false:=by cases op<;>first|rfl|exact absurd rfl h2
 cases b<;>simp[behindInMarks,e1,e2]
theorem wO{op:CmpOp}{r:R2}(ho:gX X (compareOp op) r)(ha:PE X a ta)(hb:PE X b tb)(hm:behindInMarks op b=false):PE X (.Compare a [op] [b] pos) (Ei r ta tb):=by
 intro pins s σ H Q I h;exact wpAny_Compare1 (Gp ha hb I h λv u s2 x y H2 I2 rx ry q=>ho pins s2 σ H2 x y v u Q I2 rx ry q) hm
def wC(t:TE):TT:=λσ H Q=>t σ H λx H'=>Js x H' Q
theorem CS{op:CmpOp}{r:R2}(ho:gX X (compareOp op) r)(ha:PE X a ta)(hb:PE X b tb)(hm:behindInMarks op b=false):PT X (.Compare a [op] [b] pos) (wC (Ei r ta tb)):=by
 intro pins s σ H Q I h;refine wpAny_isTrue_Compare1 (di (ha pins s σ H _ I h) λv s1 ⟨x,H1,I1,r1,q1⟩=>di (hb pins s1 σ H1 _ I1 q1) λu s2 ⟨y,H2,I2,r2,q2⟩=>
  di (ho pins s2 σ H2 x y v u _ I2 r1 r2 q2) λc s3 ⟨z,H3,I3,r3,k,e,q3⟩=>?_) hm
 subst e;cases r3;exact wpAny_truthy_bool ⟨H3,I3,q3⟩
def su(r r':R2)(ta tb tc:TE):TE:=λσ H Q=>ta σ H λx H1=>tb σ H1 λy H2=>r x y H2 λz H3=>∃k,z=.bl k/\
 (if k=true then tc σ H3 λw' H4=>r' y w' H4 Q else Q (.bl false) H3)
theorem gW{op op':CmpOp}{r r':R2}(ho:gX X (compareOp op) r)(ho':gX X (compareOp op') r')(ha:PE X a ta)(hb:PE X b tb)(hc:PE X c tc)
  (hm:lastMarks [op,op'] [b,c]=false:=by with_unfolding_all rfl):PE X (.Compare a [op,op'] [b,c] pos) (su r r' ta tb tc):=by
 intro pins s σ H Q I h;refine Compare_chain (di (ha pins s σ H _ I h) λv s1 ⟨x,H1,I1,r1,q1⟩=>chain_link (di (hb pins s1 σ H1 _ I1 q1) λu s2 ⟨y,H2,I2,r2,q2⟩=>
  di (ho pins s2 σ H2 x y v u _ I2 r1 r2 q2) λd s3 ⟨z,H3,I3,r3,k,e,q3⟩=>?_)) hm
 subst e;cases r3;refine wpAny_truthy_bool ?_;cases k with
 |false=>exact ite_ff ⟨.bl false,H3,I3,rfl,q3⟩
 |true=>exact ite_tt (chain_last (di (hc pins s3 σ H3 _ I3 q3) λw' s4 ⟨z',H4,I4,r4,q4⟩=>ho' pins s4 σ H4 y z' u w' Q I4 r2 r4 q4))
theorem kK{op op':CmpOp}{r r':R2}(ho:gX X (compareOp op) r)(ho':gX X (compareOp op') r')(ha:PE X a ta)(hb:PE X b tb)(hc:PE X c tc)
  (hm:lastMarks [op,op'] [b,c]=false:=by with_unfolding_all rfl):PT X (.Compare a [op,op'] [b,c] pos) (wC (su r r' ta tb tc)):=by
 intro pins s σ H Q I h;refine isTrue_chain (di (ha pins s σ H _ I h) λv s1 ⟨x,H1,I1,r1,q1⟩=>test_link (di (hb pins s1 σ H1 _ I1 q1) λu s2 ⟨y,H2,I2,r2,q2⟩=>
  di (ho pins s2 σ H2 x y v u _ I2 r1 r2 q2) λd s3 ⟨z,H3,I3,r3,k,e,q3⟩=>?_)) hm
 subst e;cases r3;refine wpAny_truthy_bool ?_;cases k with
 |false=>
  obtain⟨k',e',q'⟩:=q3;cases e';exact ite_ff ⟨H3,I3,q'⟩
 |true=>
  refine ite_tt (test_last (di (hc pins s3 σ H3 _ I3 q3) λw' s4 ⟨z',H4,I4,r4,q4⟩=>di (ho' pins s4 σ H4 y z' u w' _ I4 r2 r4 q4) λd' s5 hpat=>?_));obtain⟨z2,H5,I5,r5,k2,e2,q5⟩:=hpat;subst e2;cases r5;exact wpAny_truthy_bool ⟨H5,I5,q5⟩
def Mt(K:PySem.W.Frag)(x:V)(H:Hp)(k:Bool):Prop:=
 match x with
 |.non=>k=false
 |.bl b=>k=b
 |.int i=>k=(i != 0)
 |.str y=>y.length<=sizeLine/\k=((y.length:Int) != 0)
 |.byt y=>y.size<=sizeLine/\k=((y.size:Int) != 0)
 |.ref p=>(∃xs,cL K H p xs/\k= !xs.isEmpty)\/(∃xs,cW K H p xs/\k= !xs.isEmpty)\/∃kvs,H p=some (.dK kvs)/\k= !kvs.isEmpty
 |_=>False
theorem pK:(sizeLine:Nat) < 2 ^ 63:=by rw[sizeLine_eq];decide
theorem iR:gX X (binaryOp .Add) (λx y H Q=>∃i j,x=.str i/\y=.str j/\i.length+j.length<=sizeLine/\Q (.str (i++j)) H):=by
 intro pins s σ H x y v u Q I rx ry h;obtain⟨i,j,rfl,rfl,hz,q⟩:=h;obtain⟨t,rfl⟩:=rx;obtain⟨t',rfl⟩:=ry;exact add_str (λt' tk=>⟨.str (i++j),H,I.tok _,⟨_,rfl⟩,q⟩) hz
def Jf(b:Expr):Prop:=∀o i,subscripted b false o i=operate [o,i] (getItem o i)
theorem vals1{x:V}{us:List Value}(r:Vals [x] us):∃u,us=[u]/\RelV x u:=by
 cases r with
 |cons r1 r2=>cases r2;exact⟨_,rfl,r1⟩
theorem vals2{x y:V}{us:List Value}(r:Vals [x,y] us):∃u w',us=[u,w']/\RelV x u/\RelV y w':=by
 cases r with
 |cons r1 r2=>
  cases r2 with
  |cons r3 r4=>cases r4;exact⟨_,_,rfl,r1,r3⟩
theorem hJ(hc:X.calm=true):eR X (.builtin "max") (λxs H Q=>∃i j,xs=[.int i,.int j]/\Q (.int (if j > i then j else i)) H):=by
 intro pins s σ H xs us Q I r h;obtain⟨i,j,rfl,q⟩:=h;obtain⟨u,w',rfl,⟨t,rfl⟩,⟨t',rfl⟩⟩:=vals2 r;refine max_two_ints (I.ok.hd hc) λh' tk k=>⟨_,H,I.kept k,?_,q⟩;by_cases hj:j > i
 ·rw[if_pos hj,if_pos hj];exact⟨_,rfl⟩
 ·rw[if_neg hj,if_neg hj];exact⟨_,rfl⟩
theorem fX(hc:X.calm=true):eR X (.builtin "min") (λxs H Q=>∃i j,xs=[.int i,.int j]/\Q (.int (if j < i then j else i)) H):=by
 intro pins s σ H xs us Q I r h;obtain⟨i,j,rfl,q⟩:=h;obtain⟨u,w',rfl,⟨t,rfl⟩,⟨t',rfl⟩⟩:=vals2 r;refine min_two_ints (I.ok.hd hc) λh' tk k=>⟨_,H,I.kept k,?_,q⟩;by_cases hj:j < i
 ·rw[if_pos hj,if_pos hj];exact⟨_,rfl⟩
 ·rw[if_neg hj,if_neg hj];exact⟨_,rfl⟩
theorem jE:eR X (.type "int") (λxs H Q=>(∃i,xs=[.int i]/\Q (.int i) H)\/∃k,xs=[.bl k]/\Q (.int (if k then 1 else 0)) H):=by
 intro pins s σ H xs us Q I r h;rcases h with ⟨i,rfl,q⟩|⟨k,rfl,q⟩
 ·obtain⟨u,rfl,t,rfl⟩:=vals1 r
  exact call_int_int ⟨.int i,H,I,⟨_,rfl⟩,q⟩
 ·obtain⟨u,rfl,r1⟩:=vals1 r
  cases r1;exact call_int_bool ⟨.int (if k then 1 else 0),H,I.tok _,⟨_,rfl⟩,q⟩
def MQ(K:PySem.W.Frag)(x:V)(H:Hp)(n:Nat):Prop:=
 match x with
 |.str y=>y.length<=sizeLine/\n=y.length
 |.byt y=>y.size<=sizeLine/\n=y.size
 |.ref p=>(∃xs,cL K H p xs/\n=xs.length)\/∃xs,cW K H p xs/\n=xs.length
 |_=>False
end
end L2
namespace L2
open PySem PySem.Spec PyProof.Rows
structure vM(h:Heap)(x dx C:Addr)(mA:Str->Option Value):Prop where
 obj:h.get? x=some (instObj C dx)
 ns:h.Ns1 dx mA
 ne:dx≠x
theorem yY{h:Heap}{dx:Addr}{mA:Str->Option Value}(n:h.Ns1 dx mA):∃od,h.get? dx=some od/\∀name,lookIn name od=some (mA name):=by
 obtain⟨o,es,ep,ho,hd,hk,_,hm⟩:=n;refine⟨o,ho,λname=>?_⟩;have e:=hm name;unfold nsFind findBy at e;rw[<-Array.find?_toList]at e;unfold lookIn;rw[hd];dsimp only;split
 ·rename_i y q
  rw[q]at e;exact congrArg some e
 ·rename_i q
  rw[q]at e;have a:es.toList.any (·.refKey)=false:=by
   rw[any_eq_false];intro y hy;obtain⟨z,t,hkey⟩:=hk y (Array.mem_toList_iff.mp hy);simp[DictEntry.refKey,hkey]
  have a':¬es.toList.any (·.refKey)=true:=by rw[a];exact Bool.false_ne_true
  rw[if_neg a'];exact congrArg some e
theorem vM.look{h:Heap}{x dx C:Addr}{mA:Str->Option Value}(I:vM h x dx C mA):∃od,PySem.W.InstAt h x (instObj C dx) C (some od)/\∀name,lookIn name od=some (mA name):=
 let ⟨od,ho,hl⟩:=yY I.ns
 ⟨od,⟨I.obj,rfl,rfl,ho⟩,hl⟩
section
variable {prog:Program}{w:World}{A:Around}{E:Value->Shared->Prop}{s:Shared}{K:PySem.W.Frag}{x dx C f:Addr}{mA:Str->Option Value}{name:Str}{v:Value}
theorem get_map{expr:Bool}{Q:Value->Shared->Prop}(X:K.In s.heap)(I:vM s.heap x dx C mA)(hg:plainGet K C name=true)(hh:hasDictIn K C=true)
  (ha:findIn K (.ref C) name=some none)(hv:mA name=some v)(hv':handedIn v=true)(h:Q v { s with toks:=s.toks+1 }):
  wpAny (model prog w) A (getAttr (.ref x) name expr) Q E s:=by
 obtain⟨od,J,hl⟩:=I.look;exact PySem.W.get_value X J (plainGet_of hg).1 (PySem.W.findObj_own hh ha rfl (by rw[hl,hv])) hv' h
theorem zN{pl:Sem Bool}{Q:Value×List Value->Shared->Prop}(X:K.In s.heap)(I:vM s.heap x dx C mA)(hg:plainGet K C name=true)
  (hf:findIn K (.ref C) name=some (some (.ref f)))(ht:isFn K (.ref f)=true)(hv:mA name=none)(h:Q (.ref f,[.ref x]) s):
  wpAny (model prog w) A (getMethod (.ref x) name pl) Q E s:=by
 obtain⟨od,J,hl⟩:=I.look;exact PySem.W.method_fn X J (plainGet_of hg).1 (plainGet_of hg).2 hf (beq_iff_eq.mp ht) (by show(lookIn name od).map (·.isSome)=some false;rw[hl,hv];rfl) h
theorem Dv{ns:List Str}{Q:Unit->Shared->Prop}(X:K.In s.heap)(I:vM s.heap x dx C mA)
  (hs:findIn K (.ref C) "__setattr__" =some (some (.builtin "object.__setattr__"))) (hp:plainOver K C=true) (ht:takerIn K C name=some none) (hh:hasDictIn K C=true)
  (hw:PySem.Within mA ns)(hsz:ns.length<=sizeLine)
  (h:∀h',vM h' x dx C (λy=>if y=name then some v else mA y)->Heap.SameBut dx s.heap h'->Q () { s with heap:=h',toks:=s.toks+2 }):
  wpAny (model prog w) A (setAttr (.ref x) name v) Q E s:=by
 obtain⟨od,J,hl⟩:=I.look;refine PySem.W.set_plain X J hs (PySem.W.osa_open (s:={ s with toks:=s.toks+1 }) (r:=none) X J hp ht λb=>?_);obtain⟨cd,hc,hd'⟩:=PySem.W.any_some hh;have hx:s.heap.get? x=some ⟨.ref C,some dx,.plain,#[]⟩:=I.obj;refine wpAny_bind (wpAny_pure (wpAny_bind (wpAny_bind (wpAny_loadPart hx (wpAny_bind (Looks.here (s:={ s with toks:=s.toks+1 }) (PySem.W.looks_clsIn X hc) ?_))))));rw[hd'];refine wpAny_pure (a:=some dx) (wpAny_bind (wpAny_pure (wpAny_bind ?_)));refine wpAny_nsSet1 (s:={ s with toks:=s.toks+1 }) I.ns λh' hn2 hs2=>?_;obtain⟨oD,esD,epD,hoD,hdD,hcD⟩:=hn2.count (PySem.Within.cons name v hw);refine wpAny_bind (wpAny_lookBehind hoD (by rw[hdD];exact pastItsLine_dict (le_trans hcD (by rw[length_cons];omega))) ?_);exact wpAny_pure (h _ ⟨(hs2.2 _ (Ne.symm I.ne)).trans I.obj,hn2,I.ne⟩ hs2)
theorem BD{R:Result->Shared->Prop}{vs:List Value}{kw:List (Str×Value)}(X:K.In s.heap)(hm:makesIn K C=true)
  (hi:findIn K (.ref C) "__init__" =some (some (.ref f))) (hf:PySem.W.typeIn K (.ref f)=some (.type "function"))
  (h:codeAny (model prog w) (A.under (.builtin "type.__call__" ⟨.ref C::vs,kw⟩)) (.call (.ref f) ⟨.ref (s.heap.objs.size+1)::vs,kw⟩) (PySem.W.InitBack (s.heap.objs.size+1) R)
   { s with heap:=(s.heap.push emptyDict).push (instObj C s.heap.objs.size) }):
  codeAny (model prog w) A (.call (.ref C) ⟨vs,kw⟩) R s:=by
 obtain⟨hh,g,d,t,os⟩:=s;exact PySem.W.make_core (PySem.W.makes_of X hm) (PySem.W.looks_findIn X hi) (λself=>PySem.W.bind_fn X self hf) (.inl rfl) h
end
def fF(f:Str)(v:V):List (Str×V)->List (Str×V)
 |[]=>[(f,v)]
 | (g,x)::r=>if g=f then(g,v)::r else(g,x)::fF f v r
theorem cP(f g:Str)(v:V):∀fs:List (Str×V),(fF f v fs).lookup g=if g=f then some v else fs.lookup g
 |[]=>by
  show List.lookup g [(f,v)]=_;by_cases h:g=f
  ·have hb:(g == f)=true:=beq_iff_eq.mpr h
   simp only[List.lookup,hb,if_pos h]
  ·have hb:(g == f)=false:=beq_eq_false_iff_ne.mpr h
   simp only[List.lookup,hb,if_neg h]
 | (k,x)::r=>by
  have ih:=cP f g v r;rw[show fF f v ((k,x)::r)=(if k=f then(k,v)::r else(k,x)::fF f v r) from rfl];by_cases hk:k=f
  ·rw[if_pos hk]
   by_cases h:g=k
   ·have hb:(g == k)=true:=beq_iff_eq.mpr h
    simp only[List.lookup,hb,if_pos (h.trans hk)]
   ·have hb:(g == k)=false:=beq_eq_false_iff_ne.mpr h
    simp only[List.lookup,hb,if_neg (λe:g=f=>h (e.trans hk.symm))]
  ·rw[if_neg hk]
   by_cases h:g=k
   ·have hb:(g == k)=true:=beq_iff_eq.mpr h
    simp only[List.lookup,hb,if_neg (λe:g=f=>hk (h.symm.trans e))]
   ·have hb:(g == k)=false:=beq_eq_false_iff_ne.mpr h
    simp only[List.lookup,hb];exact ih
theorem l7(f:Str)(v:V):∀fs:List (Str×V),f∈(fF f v fs).map (·.1)/\∀g,g∈fs.map (·.1)->g∈(fF f v fs).map (·.1)
 |[]=>⟨by simp[fF],λg h=>by simp at h⟩
 | (k,x)::r=>by
  obtain⟨i1,i2⟩:=l7 f v r;rw[show fF f v ((k,x)::r)=(if k=f then(k,v)::r else(k,x)::fF f v r) from rfl];by_cases hk:k=f
  ·rw[if_pos hk]
   subst hk;exact⟨by simp,λg h=>by simpa using h⟩
  ·rw[if_neg hk]
   refine⟨?_,λg h=>?_⟩
   ·rw[map_cons]
    exact mem_cons_of_mem _ i1
   ·rw[map_cons]at h ⊢
    rcases mem_cons.mp h with e|e
    ·exact mem_cons.mpr (.inl e)
    ·exact mem_cons_of_mem _ (i2 g e)
theorem mV(f:Str)(v:V):∀fs:List (Str×V),(fF f v fs).length<=fs.length+1
 |[]=>by simp[fF]
 | (k,x)::r=>by
  have ih:=mV f v r;rw[show fF f v ((k,x)::r)=(if k=f then(k,v)::r else(k,x)::fF f v r) from rfl];by_cases hk:k=f
  ·rw[if_pos hk,length_cons,length_cons];omega
  ·rw[if_neg hk,length_cons,length_cons];omega
theorem iX.some_of{v:V}{o:Option Value}(r:iX (some v) o):∃u,o=some u/\RelV v u:=by
 cases o with
 |none=>exact(show False from r).elim
 |some u=>exact⟨u,rfl,r⟩
theorem iX.none_of{o:Option Value}(r:iX none o):o=none:=by
 cases o with
 |none=>rfl
 |some u=>exact(show False from r).elim
theorem y4{v:V}{u:Value}(r:RelV v u):handedIn u=true:=by
 cases v with
 |non=>cases (show u=Value.none from r);rfl
 |bl b=>cases (show u=Value.bool b from r);rfl
 |int i=>obtain⟨t,e⟩:=(show ∃t,u=Value.int i t from r);cases e;rfl
 |str x=>obtain⟨t,e⟩:=(show ∃t,u=Value.str x t from r);cases e;rfl
 |byt b=>obtain⟨t,e⟩:=(show ∃t,u=Value.bytes b t from r);cases e;rfl
 |flt b=>obtain⟨t,e⟩:=(show ∃t,u=Value.float b t from r);cases e;rfl
 |ref a=>cases (show u=Value.ref a from r);rfl
 |ty n=>cases (show u=Value.type n from r);rfl
section
variable {P:Program}{w:World}{H H':Hp}{h h':Heap}{a C dx:Addr}{fs fs':List (Str×V)}
theorem nG(hok:gw P w H h)(e:H a=some (.ins C dx fs)):∃mA,vM h a dx C mA/\(∀f,iX (fs.lookup f) (mA f))/\PySem.Within mA (fs.map (·.1))/\fs.length<=1000/\H dx=some (.own a):=by
 obtain⟨d,z,ne,ob,mA,n,r,q⟩:=(show dk P w H h a (.ins C dx fs) from hok a _ e);exact⟨mA,⟨ob,n,ne⟩,r,q,z,d⟩
end
structure uS(K:PySem.W.Frag)(C:Addr):Prop where
 pg:plainGet K C Str.empty=true
 hd:hasDictIn K C=true
 po:plainOver K C=true
 sa:findIn K (.ref C) "__setattr__" =some (some (.builtin "object.__setattr__"))
theorem uS.get{K:PySem.W.Frag}{C:Addr}(c:uS K C)(f:Str):plainGet K C f=true:=c.pg
def gn(K:PySem.W.Frag)(C:Addr)(f:Str):Prop:=findIn K (.ref C) f=some none
theorem gn.IA{K:PySem.W.Frag}{C:Addr}{f:Str}(n:gn K C f):takerIn K C f=some none:=by
 unfold takerIn;rw[show findIn K (.ref C) f=some none from n];rfl
structure MR(K:PySem.W.Frag)(C:Addr)(f:Str)(v:V)(u:Value):Prop where
 at_:findIn K (.ref C) f=some (some u)
 rel:RelV v u
 get:specialIn K u "__get__" =some none
 cp:PySem.W.copiedNames.contains f=false
structure Meth(K:PySem.W.Frag)(C:Addr)(m:Str)(f:Addr):Prop where
 at_:findIn K (.ref C) m=some (some (.ref f))
 fn:isFn K (.ref f)=true
 kp:keepIn K (.ref f)=true
section
variable {X:Cx}{pins:List (Addr×Obj)}{σ:St}{H:Hp}{s:Shared}{a C dx:Addr}{fs:List (Str×V)}{f:Str}{v:V}{A:Around}{E:Value->Shared->Prop}
theorem vp{b:Bool}{Q:Value->Shared->Prop}(I:Inv X pins σ H s)(e:H a=some (.ins C dx fs))(c:uS X.K C)(n:gn X.K C f)(l:fs.lookup f=some v)
  (h:∀u s',Inv X pins σ H s'->RelV v u->Q u s'):wpAny (model X.prog X.w) A (getAttr (.ref a) f b) Q E s:=by
 obtain⟨mA,O,r,_,_,_⟩:=nG I.hok e;obtain⟨u,hu,ru⟩:=iX.some_of (v:=v) (o:=mA f) (by rw[<-l];exact r f);exact get_map I.iw O (c.get f) c.hd n hu (y4 ru) (h u _ (I.tok _) ru)
theorem vz{m:Str}{g:Addr}{pl:Sem Bool}{Q:Value×List Value->Shared->Prop}(I:Inv X pins σ H s)(e:H a=some (.ins C dx fs))(c:uS X.K C)(k:Meth X.K C m g)(l:fs.lookup m=none)
  (h:Q (.ref g,[.ref a]) s):wpAny (model X.prog X.w) A (getMethod (.ref a) m pl) Q E s:=by
 obtain⟨mA,O,r,_,_,_⟩:=nG I.hok e;have hn:mA m=none:=iX.none_of (by rw[<-l];exact r m);exact zN I.iw O (c.get m) k.at_ k.fn hn h
theorem vv{y:V}{u:Value}{Q:Unit->Shared->Prop}(I:Inv X pins σ H s)(e:H a=some (.ins C dx fs))(c:uS X.K C)(n:gn X.K C f)(hl:fs.length < 1000)(ry:RelV y u)
  (h:∀s',Inv X pins σ (upd H a (.ins C dx (fF f y fs))) s'->Q () s'):wpAny (model X.prog X.w) A (setAttr (.ref a) f u) Q E s:=by
 obtain⟨mA,O,r,wi,_,ho⟩:=nG I.hok e;have hz:(fs.map (·.1)).length<=sizeLine:=by rw[length_map,sizeLine_eq];omega
 refine Dv I.iw O c.sa c.po n.IA c.hd wi hz λh' O' sb=>h _ ?_;have hd:∃o,h'.get? dx=some o:=let ⟨o,_,_,e',_⟩:=O'.ns;⟨o,e'⟩;refine I.write (x:=a) (e:=dx) (by rw[e];exact True.intro) (.inr ho) (λb q hb z=>(sb.2 b hb).trans z) hd ?_;refine⟨by rw[cH O.ne];exact ho,?_,O.ne,O'.obj,_,O'.ns,λg=>?_,λg hg=>?_⟩
 ·have:=mV f y fs;omega
 ·show iX ((fF f y fs).lookup g) (if g=f then some u else mA g)
  rw[cP];by_cases q:g=f
  ·rw[if_pos q,if_pos q];exact ry
  ·rw[if_neg q,if_neg q];exact r g
 ·by_cases q:g=f
  ·rw[q];exact(l7 f y fs).1
  ·refine(l7 f y fs).2 g (wi g λz=>hg ?_)
   show(if g=f then some u else mA g)=none;rw[if_neg q];exact z
theorem Inv.made(I:Inv X pins σ H s):Inv X pins σ (upd (upd H s.heap.objs.size (.own (s.heap.objs.size+1))) (s.heap.objs.size+1) (.ins C s.heap.objs.size []))
  { s with heap:=(s.heap.push emptyDict).push (instObj C s.heap.objs.size) }:=by
 have e1:(s.heap.push emptyDict).get? s.heap.objs.size=some emptyDict:=get?_push_size s.heap rfl;have e2:((s.heap.push emptyDict).push (instObj C s.heap.objs.size)).get? (s.heap.objs.size+1)=some (instObj C s.heap.objs.size):=by
  have:=get?_push_size (s.heap.push emptyDict) (o:=instObj C s.heap.objs.size) rfl
  rwa [size_push]at this
 have e3:(s.heap.push emptyDict).Ns s.heap.objs.size (λ_=>none):=⟨emptyDict,#[],_,e1,rfl,(λe he=>absurd he (by simp)),λ_=>rfl⟩;have I1:=I.laid (a:=s.heap.objs.size) (o:=.own (s.heap.objs.size+1)) (h':=s.heap.push emptyDict) (t':=s.toks) (λb u q=>get?_push_of_some _ q) (le_refl _) ⟨_,e1⟩;refine I1.laid (a:=s.heap.objs.size+1) (o:=.ins C s.heap.objs.size []) (t':=s.toks) (λb u q=>get?_push_of_some _ q) (le_of_eq (size_push _ _)) ?_;have ne:s.heap.objs.size≠s.heap.objs.size+1:=ne_of_lt (lt_succ_self _);refine⟨by rw[cH ne,cD],zero_le _,ne,e2,λ_=>none,(Heap.Ns1.of_empty e3).at λo q=>get?_push_of_some _ q,λ_=>True.intro,λy hy=>absurd rfl hy⟩
theorem CQ{prog:Program}{w:World}{env:Env}{e:Expr}{f:Str}{pos:Pos}{s:Shared}{Q:Value->Shared->Prop}(hb:attributeBase e f env (eval e env)=eval e env)
  (h:wpAny (model prog w) A (eval e env) (λo s₁=>wpAny (model prog w) A (getAttr o f true) Q E s₁) E s):wpAny (model prog w) A (eval (.Attribute e f pos) env) Q E s:=
 Attribute_any_ h (by rw[arm_eval_Attribute,hb])
end
inductive KQ(K:PySem.W.Frag)(f:Str)(x:V)(H:Hp)(Q:VK):Prop
 |mk(a C dx:Addr)(fs:List (Str×V))(v:V)(hx:x=.ref a)(h:H a=some (.ins C dx fs))(c:uS K C)(n:gn K C f)(l:fs.lookup f=some v)(q:Q v H)
def Jc(K:PySem.W.Frag)(ta:TE)(f:Str):TE:=λσ H Q=>ta σ H λx H1=>KQ K f x H1 Q
def Nh(K:PySem.W.Frag)(ta:TE)(f:Str):TE:=λσ H Q=>ta σ H λx H1=>∃a C dx fs v u,x=.ref a/\H1 a=some (.ins C dx fs)/\uS K C/\MR K C f v u/\fs.lookup f=none/\Q v H1
def Jq(K:PySem.W.Frag)(ta tv:TE)(f:Str):TS:=λD σ H=>tv σ H λy H1=>ta σ H1 λx H2=>∃a C dx fs,x=.ref a/\H2 a=some (.ins C dx fs)/\uS K C/\gn K C f/\fs.length < 1000/\
 D.nx σ (upd H2 a (.ins C dx (fF f y fs)))
def M7(X:Cx)(op:Operator)(rd:V->V->Hp->VK->Prop):Prop:=
 ∀(pins:List (Addr×Obj)) (s:Shared) (σ:St) (H:Hp) (x y:V) (u v:Value) (Q:VK),Inv X pins σ H s->RelV x u->RelV y v->rd x y H Q->wpAny (model X.prog X.w) X.A (inplaceOp op u v) (EP X pins σ Q) X.xe s
def J8(K:PySem.W.Frag)(ta tv:TE)(rd:V->V->Hp->VK->Prop)(f:Str):TS:=λD σ H=>ta σ H λx H1=>∃a C dx fs v,x=.ref a/\H1 a=some (.ins C dx fs)/\uS K C/\gn K C f/\fs.lookup f=some v/\
 tv σ H1 λy H2=>rd v y H2 λz H3=>∃dx' fs',H3 a=some (.ins C dx' fs')/\fs'.length < 1000/\D.nx σ (upd H3 a (.ins C dx' (fF f z fs')))
section
variable {X:Cx}{o e value:Expr}{f:Str}{pos pos' tpos:Pos}{ta tv:TE}
theorem GL(he:PE X e ta)(hb:attributeBase e f X.env (eval e X.env)=eval e X.env):PE X (.Attribute e f pos) (Jc X.K ta f):=by
 intro pins s σ H Q I h;refine CQ hb (di (he pins s σ H _ I h) λu s1 hpat=>?_);obtain⟨x,H1,I1,rx,a,C,dx,fs,v,ex,ea,c,n,l,q⟩:=hpat;subst ex;obtain rfl:u=Value.ref a:=rx;exact vp I1 ea c n l λu' s2 I2 ru=>⟨v,H1,I2,ru,q⟩
theorem lN(ha:PE X o ta)(hv:PE X value tv)(hs:swapsWith value (some (.Attribute o f pos')) pos.line X.env=pure false):PS X (.Assign [.Attribute o f pos'] value pos) (Jq X.K ta tv f):=by
 intro pins s σ H D I h;refine plainObj_wpAny_Assign_Attribute (di (hv pins s σ H _ I h) λu s1 ⟨y,H1,I1,ry,q⟩=>di (ha pins s1 σ H1 _ I1 q) λov s2 hpat=>?_) hs;obtain⟨x,H2,I2,rx,a,C,dx,fs,ex,ea,c,n,l,q2⟩:=hpat;subst ex;obtain rfl:ov=Value.ref a:=rx;exact vv I2 ea c n l ry λs3 I3=>⟨σ,_,I3,q2⟩
def MZ:V->V->Hp->VK->Prop:=λx y H Q=>∃i j,x=.int i/\y=.int j/\Q (.int (i+j)) H
def Mc:V->V->Hp->VK->Prop:=λx y H Q=>∃i j,x=.int i/\y=.int j/\Q (.int (i - j)) H
end
section
variable {X:Cx}{pins:List (Addr×Obj)}{σ:St}{H:Hp}{s:Shared}{A:Around}{E:Value->Shared->Prop}{Q:Value->Shared->Prop}{c:Value}{b:Bool}
inductive dU(K:PySem.W.Frag)(H:Hp):V->Value->Prop where
 |non:dU K H .non (.type "NoneType")
 |bl (x:Bool):dU K H (.bl x) (.type "bool")
 |int (i:Int):dU K H (.int i) (.type "int")
 |str (x:Str):dU K H (.str x) (.type "str")
 |flt (x:UInt64):dU K H (.flt x) (.type "float")
 |lst {a:Addr}{xs:List V}(e:H a=some (.lst xs)):dU K H (.ref a) (.type "list")
 |frz {a:Addr}{o:Obj}{xs:List V}(e:H a=some (.frz o (.lst xs))):dU K H (.ref a) (.type "list")
 |tup {a:Addr}{xs:List V}(e:H a=some (.tup xs)):dU K H (.ref a) (.type "tuple")
 |dK {a:Addr}{kvs:List (Key×V)}(e:H a=some (.dK kvs)):dU K H (.ref a) (.type "dict")
 |dT {a:Addr}{kvs:List (List Key×V)}(e:H a=some (.dT kvs)):dU K H (.ref a) (.type "dict")
 |ins {a C dx:Addr}{fs:List (Str×V)}(e:H a=some (.ins C dx fs)) (cl:uS K C) (ha:findIn K (.ref C) "__class__" =some (some (.builtin "object.__class__")))
   (hn:specialIn K (.builtin "object.__class__") "__get__" =some (some (.builtin "getset_descriptor.__get__"))) (htk:PySem.W.takesIn K (.builtin "object.__class__")=some true)
   (hm:PySem.W.mroIn K C (.type "object")=some true):dU K H (.ref a) (.ref C)
theorem yp{x:V}{u t:Value}(I:Inv X pins σ H s)(rx:RelV x u)(ty:dU X.K H x t)(e:kitOne X.K t c=some b)(h:∀tk,Q (.bool b) { s with toks:=tk }):
  wpAny (model X.prog X.w) A (call (.builtin "isinstance") [u,c]) Q E s:=by
 cases ty with
 |non=>cases (show u=Value.none from rx);exact kia_one PySem.W.kitx_none I.iw True.intro e (λz=>nomatch z) h
 |bl y=>cases (show u=Value.bool y from rx);exact kia_one PySem.W.kitx_bool I.iw True.intro e (λz=>nomatch z) h
 |int i=>obtain⟨t,q⟩:=(show ∃t,u=Value.int i t from rx);cases q;exact kia_one PySem.W.kitx_int I.iw True.intro e (λz=>nomatch z) h
 |str y=>obtain⟨t,q⟩:=(show ∃t,u=Value.str y t from rx);cases q;exact kia_one PySem.W.kitx_str I.iw True.intro e (λz=>nomatch z) h
 |flt y=>obtain⟨t,q⟩:=(show ∃t,u=Value.float y t from rx);cases q;exact kia_one PySem.W.kitx_float I.iw True.intro e (λz=>nomatch z) h
 | @lst a xs ea=>
  cases (show u=Value.ref a from rx);obtain⟨_,_,n,_,h1⟩:=(show dk X.prog X.w H s.heap a (.lst xs) from I.hok a _ ea);exact kia_one kitx_list I.iw ⟨_,h1,rfl⟩ e (λz=>nomatch z) h
 | @frz a ob xs ea=>
  cases (show u=Value.ref a from rx);obtain⟨_,_,_,n,_,h1⟩:=(show dk X.prog X.w H s.heap a (.frz ob (.lst xs)) from I.hok a _ ea);exact kia_one kitx_list I.iw ⟨_,h1,rfl⟩ e (λz=>nomatch z) h
 | @tup a xs ea=>
  cases (show u=Value.ref a from rx);obtain⟨_,_,_,p⟩:=(show dk X.prog X.w H s.heap a (.tup xs) from I.hok a _ ea);obtain⟨o,h1,h2,_⟩:=p;exact kia_one PySem.W.kitx_tuple I.iw ⟨o,h1,h2⟩ e (λz=>nomatch z) h
 | @dK a kvs ea=>
  cases (show u=Value.ref a from rx);obtain⟨_,_,vs,_,p⟩:=(show dk X.prog X.w H s.heap a (.dK kvs) from I.hok a _ ea);obtain⟨o,es,ep,h1,h2,_⟩:=p;exact kia_one kitx_dict I.iw ⟨o,h1,h2.1⟩ e (λz=>nomatch z) h
 | @dT a kvs ea=>
  cases (show u=Value.ref a from rx);obtain⟨_,_,xs,_,o,es,ep,h1,h2,_⟩:=(show dk X.prog X.w H s.heap a (.dT kvs) from I.hok a _ ea);exact kia_one kitx_dict I.iw ⟨o,h1,h2.1⟩ e (λz=>nomatch z) h
 | @ins a C dx fs ea cl ha hn htk hm=>
  cases (show u=Value.ref a from rx);obtain⟨mA,O,_⟩:=nG I.hok ea;obtain⟨od,J,_⟩:=O.look;exact kia_one (PySem.W.kitx_own (cl.get _) cl.hd ha hn htk hm) I.iw J e (λz=>nomatch z) h
end
end L2
namespace L2
open PySem PySem.Spec PyProof.Rows
structure dF(k:Nat)(A:Around):Prop where
 hd:A.handled=none
 dp:A.depth+3 * k+5 < recursionLimit
 un:A.units+16 * k+200 < cLine
theorem dF.mono{j k:Nat}{A:Around}(r:dF k A)(h:j<=k):dF j A:=⟨r.hd,by have:=r.dp;omega,by have:=r.un;omega⟩
theorem dF.deeper{k:Nat}{A:Around}(r:dF (k+1) A)(env:Env):dF k (A.deeper env):=
 ⟨r.hd,by have:=r.dp;show A.depth+1+3 * k+5 < _;omega,by have:=r.un;show A.units+3+16 * k+200 < _;omega⟩
theorem dF.in1{k:Nat}{A:Around}(r:dF (k+1) A):dF k A.in1:=
 ⟨r.hd,by have:=r.dp;show A.depth+3 * k+5 < _;omega,by have:=r.un;show A.units+1+16 * k+200 < _;omega⟩
theorem wu{A:Around}{C:Addr}{us:List Value}{kw:List (Str×Value)}:(A.under (.builtin "type.__call__" ⟨.ref C::us,kw⟩)).depth=A.depth+1:=by
 first|rfl|simp[Around.under,Code.weight,Code.isCreation,Code.isGuard,Code.isCaller,Code.frames,Code.isFrame,guardIds]
theorem uX{A:Around}{C:Addr}{us:List Value}{kw:List (Str×Value)}:(A.under (.builtin "type.__call__" ⟨.ref C::us,kw⟩)).units=A.units+1:=by
 first|rfl|simp[Around.under,Code.cUnits,Code.frames,Code.isFrame]
theorem dF.make{k:Nat}{A:Around}(r:dF (k+1) A)(C:Addr)(us:List Value)(kw:List (Str×Value)):dF k (A.under (.builtin "type.__call__" ⟨.ref C::us,kw⟩)):=
 ⟨r.hd,by have:=r.dp;rw[wu];omega,by have:=r.un;rw[uX];omega⟩
theorem dF.depth{k:Nat}{A:Around}(r:dF k A):A.depth < recursionLimit:=by have:=r.dp;omega
theorem dF.units{k:Nat}{A:Around}(r:dF k A):A.units+64 < cLine:=by have:=r.un;omega
def mP:TA:=λ_ H Q=>Q [] H
def dA(ta:TE)(tr:TA):TA:=λσ H Q=>ta σ H λx H1=>tr σ H1 λxs H2=>Q (x::xs) H2
section
variable {X:Cx}{e:Expr}{es:List Expr}{te:TE}{t:TA}{pos:Pos}
theorem jO:PA X [] mP:=λ_ _ _ _ H Q I h=>Calls.spliced_nil ⟨[],H,I,.nil,h⟩
theorem fw(ha:PE X e te)(hr:PA X es t)(hs:starEach (e::es) X.env=(false,eval e X.env)::starEach es X.env:=by rfl):PA X (e::es) (dA te t):=by
 intro pos pins s σ H Q I h;rw[hs];show wpAny _ _ (spliced ((false,eval e X.env)::backTo pos (starEach es X.env))) _ _ s;refine Calls.spliced_cons (di (ha pins s σ H _ I h) λu s1 hpat=>?_);obtain⟨x,H1,I1,r1,q1⟩:=hpat;exact di (hr pos pins s1 σ H1 _ I1 q1) λus s2 ⟨xs,H2,I2,r2,q2⟩=>⟨x::xs,H2,I2,.cons r1 r2,q2⟩
def F9(t:TA):TE:=λσ H Q=>t σ H λxs H1=>xs.length<=sizeLine/\∀p,H1 p=none->Q (.ref p) (upd H1 p (.tup xs))
def HR(t:TA):TE:=λσ H Q=>t σ H λxs H1=>xs.length<=sizeLine/\∀p,H1 p=none->Q (.ref p) (upd H1 p (.lst xs))
theorem G0{x1}(h:PA X es t):PE X (.Tuple es x1 pos) (F9 t):=by
 intro pins s σ H Q I hq;refine wpAny_Tuple_spliced (di (h pos pins s σ H _ I hq) λus s1 ⟨xs,H1,I1,r,z,q⟩=>⟨by rw[<-r.length];exact z,?_⟩);have hf:H1 s1.heap.objs.size=none:=I1.hok.fresh (le_refl _);refine⟨.ref s1.heap.objs.size,upd H1 s1.heap.objs.size (.tup xs),I1.laid (t':=s1.toks) (λb u e=>get?_push_of_some _ e) (le_refl _) ?_,rfl,q _ hf⟩;exact⟨z,us,r,⟨_,get?_push_size _ rfl,rfl,_,rfl⟩⟩
theorem Fs(h:PA X es t):PE X (.List es pos) (HR t):=by
 intro pins s σ H Q I hq;refine wpAny_List_spliced (di (h pos pins s σ H _ I hq) λus s1 ⟨xs,H1,I1,r,z,q⟩=>⟨by rw[<-r.length];exact z,?_⟩);have hf:H1 s1.heap.objs.size=none:=I1.hok.fresh (le_refl _);refine⟨.ref s1.heap.objs.size,upd H1 s1.heap.objs.size (.lst xs),I1.laid (t':=s1.toks) (λb u e=>get?_push_of_some _ e) (le_refl _) ?_,rfl,q _ hf⟩;exact⟨z,us,0,r,get?_push_size _ rfl⟩
end
abbrev Sp:=List V->Hp->VK->XK->Prop
abbrev zf:=List Env->Hp->Shared->XK->Value->Shared->Prop
structure qg(P:Program)(w:World)(K:PySem.W.Frag)(mg:Str->Option Value)(base:Heap)(A:Around)(outer:List Env)(s:Shared)(H:Hp):Prop where
 frames:A.frames=some outer
 mod:Mod K mg base
 bs:∀b o,base.get? b=some o->s.heap.get? b=some o/\H b=none
 bsz:base.objs.size<=s.heap.objs.size
 lA:s.heap.FunFrames base outer
 frf:∀b∈i5 outer,H b=none
 hok:gw P w H s.heap
 bare:AllBare s.gens
def CE(outer:List Env)(P:Program)(w:World)(H:Hp)(s:Shared)(Q:VK)(u:Value)(s':Shared):Prop:=
 ∃v H',s'.os=s.os/\AllBare s'.gens/\Un (i5 outer) [] H H' s.heap s'.heap/\gw P w H' s'.heap/\RelV v u/\Q v H'
def CR(CX:zf)(outer:List Env)(P:Program)(w:World)(H:Hp)(s:Shared)(Q:VK)(E:XK)(r:Result)(s':Shared):Prop:=
 match r with
 |.ok (.ret u)=>CE outer P w H s Q u s'
 |.ok _=>False
 |.error e=>CX outer H s E e s'
structure eC(P:Program)(w:World)(K:PySem.W.Frag)(mg:Str->Option Value)(base:Heap)(CX:zf)(k:Nat)(f:Addr)(fd:FuncData)(ps:List Str)(sp:Sp):Prop where
 len:∀vs H Q E,sp vs H Q E->vs.length=ps.length
 run:∀(A:Around) (outer:List Env) (s:Shared) (H:Hp) (args:Args) (us:List Value) (vs:List V) (Q:VK) (E:XK),dF k A->qg P w K mg base A outer s H->BindsTo s fd args (ps.zip us)->Vals vs us->sp vs H Q E->
  codeAny (model P w) A (.call (.ref f) args) (CR CX outer P w H s Q E) s
theorem qg.make{P:Program}{w:World}{K:PySem.W.Frag}{mg:Str->Option Value}{base:Heap}{A:Around}{outer:List Env}{s:Shared}{H:Hp}(e:qg P w K mg base A outer s H)(C:Addr)(us:List Value)(kw:List (Str×Value)):
  qg P w K mg base (A.under (.builtin "type.__call__" ⟨.ref C::us,kw⟩)) outer s H:=⟨by first|exact e.frames| (simpa [Around.under,Code.envs,Code.isFrame,pushEnvs] using e.frames),e.mod,e.bs,e.bsz,e.lA,e.frf,e.hok,e.bare⟩
theorem qg.in1{P:Program}{w:World}{K:PySem.W.Frag}{mg:Str->Option Value}{base:Heap}{A:Around}{outer:List Env}{s:Shared}{H:Hp}(e:qg P w K mg base A outer s H):
  qg P w K mg base A.in1 outer s H:=⟨e.frames,e.mod,e.bs,e.bsz,e.lA,e.frf,e.hok,e.bare⟩
section
variable {X:Cx}{pins:List (Addr×Obj)}{σ:St}{H:Hp}{s s':Shared}
theorem Inv.Du(I:Inv X pins σ H s):qg X.prog X.w X.K X.mg X.base X.A X.stack s H:=
 ⟨I.ok.frames,I.ok.mod,I.bs,le_trans I.ok.bsz I.sz,I.stack,I.kC,I.hok,I.bare⟩
theorem Inv.after{Q:VK}{u:Value}(I:Inv X pins σ H s)(h:CE X.stack X.prog X.w H s Q u s'):EP X pins σ Q u s':=by
 obtain⟨v,H',os,bare,un,hok,r,q⟩:=h;obtain⟨hh,g,d,t,os'⟩:=s';obtain rfl:os'=s.os:=os;exact⟨v,H',I.call (h':=hh) (g':=g) (d':=d) (t':=t) (ch:=[]) un hok bare (λb z=>absurd z (by simp)),r,q⟩
end
def o6(sp:Sp)(dvs:List V)(E:XK)(t:TA):TE:=λσ H Q=>t σ H λvs H1=>sp (vs++dvs) H1 Q E
inductive MethP(C:Addr)(m:Str)(x:V)(H:Hp)(G:Prop):Prop
 |mk(a dx:Addr)(fs:List (Str×V))(hx:x=.ref a)(h:H a=some (.ins C dx fs))(l:fs.lookup m=none)(q:G)
def EB(C:Addr)(m:Str)(sp:Sp)(dvs:List V)(E:XK)(ta:TE)(t:TA):TE:=λσ H Q=>ta σ H λx H1=>MethP C m x H1 (t σ H1 λvs H2=>sp (x::(vs++dvs)) H2 Q E)
def DZ(C:Addr)(sp:Sp)(dvs:List V)(E:XK)(t:TA):TE:=λσ H Q=>t σ H λvs H1=>∀x dx,H1 x=none->H1 dx=none->dx≠x->
 sp (.ref x::(vs++dvs)) (upd (upd H1 dx (.own x)) x (.ins C dx [])) (λv H2=>v=.non/\Q (.ref x) H2) E
def Binds(K:PySem.W.Frag)(fd:FuncData)(ps:List Str)(ds:List Value):Prop:=
 ∀(s:Shared) (us:List Value),K.In s.heap->(us++ds).length=ps.length->BindsTo s fd ⟨us,[]⟩ (ps.zip (us++ds))
theorem Binds.all{K:PySem.W.Frag}{fd:FuncData}{ps:List Str}(h:∀us:List Value,us.length=ps.length->bindArgs fd ⟨us,[]⟩=pure (ps.zip us)):Binds K fd ps []:=λs us _ hl=>by
 rw[append_nil]at hl ⊢;exact .of_eq (h us hl)
def Passes(CX:zf)(X:Cx)(E:XK):Prop:=∀(pins:List (Addr×Obj)) (σ:St) (H:Hp) (s:Shared) (e:Value) (s':Shared),Inv X pins σ H s->CX X.stack H s E e s'->X.xe e s'
section
variable {X:Cx}{CX:zf}{k:Nat}{f C:Addr}{fd:FuncData}{ps:List Str}{sp:Sp}{dvs:List V}{ds:List Value}{E:XK}{x m:Str}{p pos apos:Pos}{e o:Expr}{es:List Expr}{ta:TE}{t:TA}
theorem BP{pins:List (Addr×Obj)}{σ:St}{H:Hp}{s:Shared}{Q:VK}{us:List Value}{vs:List V}(F:eC X.prog X.w X.K X.mg X.base CX k f fd ps sp)(hr:dF k X.A)(hb:Binds X.K fd ps ds)(hd:Vals dvs ds)(hx:Passes CX X E)
  (I:Inv X pins σ H s)(r:Vals vs us)(h:sp (vs++dvs) H Q E):wpAny (model X.prog X.w) X.A (call (.ref f) us) (EP X pins σ Q) X.xe s:=by
 have r2:Vals (vs++dvs) (us++ds):=r.append hd;have hl:(us++ds).length=ps.length:=by rw[<-r2.length];exact F.len _ _ _ _ h
 refine wpAny_call (codeAny_mono (F.run X.A X.stack s H ⟨us,[]⟩ (us++ds) (vs++dvs) Q E hr I.Du (hb s us I.iw hl) r2 h) λr s' hq=>?_);cases r with
 |error e=>exact hx pins σ H s e s' I hq
 |ok fl=>
  cases fl with
  |ret u=>exact I.after hq
  |next=>exact False.elim hq
  |brk=>exact False.elim hq
  |cont=>exact False.elim hq
theorem xo(F:eC X.prog X.w X.K X.mg X.base CX k f fd ps sp)(hr:dF k X.A)(hg:Gl X x)(hm:X.mg x=some (.ref f))(hk:keepIn X.K (.ref f)=true)(hb:Binds X.K fd ps ds)(hd:Vals dvs ds)(hx:Passes CX X E)
  (ha:PA X (e::es) t) (hdb:(x == ("__debug__" :Str))=false:=by decide) (he:starEach (e::es) X.env=(false,eval e X.env)::starEach es X.env:=by rfl) (hpl:(backTo pos (starEach es X.env)).any (·.1)=false:=by rfl):
  PE X (.Call (.Name x p) (e::es) [] pos) (o6 sp dvs E t):=by
 intro pins s σ H Q I h;refine wpAny_Call_Name_kw (iI I hg hm ?_ hdb);refine callWith_K (h₀:=X.base) I.ok.mod.kin hk (di (ha pos pins s σ H _ I h) λus s1 ⟨vs,H1,I1,r,q⟩=>⟨I1.iw,?_⟩) he hpl;exact BP F hr hb hd hx I1 r q
theorem BH{pl:Sem Bool}(he:PE X o ta)(c:uS X.K C)(hm:Meth X.K C m f)(F:eC X.prog X.w X.K X.mg X.base CX k f fd ps sp)(hr:dF k X.A)(hb:Binds X.K fd ps ds)(hd:Vals dvs ds)(hx:Passes CX X E)
  (ht:eval (.Call (.Attribute o m apos) [] [] pos) X.env=(do
   let ov <-eval o X.env
   standAt apos.atName
   let (f,first) <-holding [ov] (getMethod ov m pl)
   callWith pos f first (backTo pos (starEach [] X.env)) (backToKw pos (keywordEach [] X.env))):=by rfl):
  PE X (.Call (.Attribute o m apos) [] [] pos) (EB C m sp dvs E ta mP):=by
 intro pins s σ H Q I h;refine PySem.W.methodCall_KW (pl:=pl) (di (he pins s σ H _ I h) λu s1 hpat=>?_) ht;obtain⟨x,H1,I1,rx,a,dx,fs,ex,ea,l,q⟩:=hpat;subst ex;obtain rfl:u=Value.ref a:=rx;refine vz I1 ea c hm l ?_;exact PySem.W.callWith_K0 (first:=[.ref a]) I1.iw hm.kp (BP (us:=[.ref a]) (vs:=[.ref a]) F hr hb hd hx I1 (.cons rfl .nil) q)
structure Mk(K:PySem.W.Frag)(C f:Addr):Prop where
 makes:makesIn K C=true
 init:findIn K (.ref C) "__init__" =some (some (.ref f))
 fn:isFn K (.ref f)=true
 kp:keepIn K (.ref C)=true
theorem zU{pins:List (Addr×Obj)}{σ:St}{H:Hp}{s:Shared}{Q:VK}{us:List Value}{vs:List V}(M:Mk X.K C f)(F:eC X.prog X.w X.K X.mg X.base CX k f fd ps sp)(hr:dF (k+1) X.A)(hb:Binds X.K fd ps ds)(hd:Vals dvs ds)
  (hx:Passes CX X E)(I:Inv X pins σ H s)(r:Vals vs us)
  (h:∀x dx,H x=none->H dx=none->dx≠x->sp (.ref x::(vs++dvs)) (upd (upd H dx (.own x)) x (.ins C dx [])) (λv H2=>v=.non/\Q (.ref x) H2) E):
  wpAny (model X.prog X.w) X.A (call (.ref C) us) (EP X pins σ Q) X.xe s:=by
 have hq:=h (s.heap.objs.size+1) s.heap.objs.size (I.hok.fresh (le_succ _)) (I.hok.fresh (le_refl _)) (ne_of_lt (lt_succ_self _));have I2:=Inv.made (C:=C) I;have r2:Vals (V.ref (s.heap.objs.size+1)::(vs++dvs)) (Value.ref (s.heap.objs.size+1)::(us++ds)):=.cons rfl (r.append hd);have hl:(Value.ref (s.heap.objs.size+1)::us++ds).length=ps.length:=by
  have e:=r2.length;rw[F.len _ _ _ _ hq]at e;exact e.symm
 refine wpAny_call (BD (f:=f) I.iw M.makes M.init (beq_iff_eq.mp M.fn) (codeAny_mono (F.run _ X.stack _ _ ⟨Value.ref (s.heap.objs.size+1)::us,[]⟩ (Value.ref (s.heap.objs.size+1)::(us++ds)) _ _ E (hr.make C us [])
  (I2.Du.make C us []) (hb _ (Value.ref (s.heap.objs.size+1)::us) I2.iw hl) r2 hq) λr s' hq'=>?_))
 cases r with
 |error e=>exact hx pins σ _ _ e s' I2 hq'
 |ok fl=>
  cases fl with
  |ret u=>
   obtain⟨v,H',I3,rv,ev,q3⟩:=I2.after hq';subst ev;exact⟨rv,⟨V.ref (s.heap.objs.size+1),H',I3,rfl,q3⟩⟩
  |next=>exact False.elim hq'
  |brk=>exact False.elim hq'
  |cont=>exact False.elim hq'
theorem B4(M:Mk X.K C f)(F:eC X.prog X.w X.K X.mg X.base CX k f fd ps sp)(hr:dF (k+1) X.A)(hg:Gl X x)(hm:X.mg x=some (.ref C))(hb:Binds X.K fd ps ds)(hd:Vals dvs ds)(hx:Passes CX X E)
  (ha:PA X (e::es) t) (hdb:(x == ("__debug__" :Str))=false:=by decide) (he:starEach (e::es) X.env=(false,eval e X.env)::starEach es X.env:=by rfl) (hpl:(backTo pos (starEach es X.env)).any (·.1)=false:=by rfl):
  PE X (.Call (.Name x p) (e::es) [] pos) (DZ C sp dvs E t):=by
 intro pins s σ H Q I h;refine wpAny_Call_Name_kw (iI I hg hm ?_ hdb);refine callWith_K (h₀:=X.base) I.ok.mod.kin M.kp (di (ha pos pins s σ H _ I h) λus s1 ⟨vs,H1,I1,r,q⟩=>⟨I1.iw,?_⟩) he hpl;exact zU M F hr hb hd hx I1 r q
end
def PK(X:Cx)(kws:List Keyword)(t:TA):Prop:=
 ∀(pos:Pos) (pins:List (Addr×Obj)) (s:Shared) (σ:St) (H:Hp) (Q:List V->Hp->Prop),Inv X pins σ H s->t σ H Q->wpAny (model X.prog X.w) X.A (evalAll ((backToKw pos (keywordEach kws X.env)).map (·.2))) (AP X pins σ Q) X.xe s
section
variable {X:Cx}{CX:zf}{k:Nat}{f C:Addr}{fd:FuncData}{ps ks:List Str}{sp:Sp}{E:XK}{x m:Str}{p pos apos kpos:Pos}{e o:Expr}{es:List Expr}{kws:List Keyword}{te ta:TE}{t tk:TA}{nm:Option Str}
structure KH(K:PySem.W.Frag)(fd:FuncData)(ps ks:List Str)(g:List Value->List Value->List Value)(gV:List V->List V->List V):Prop where
 to:∀(s:Shared) (us ws:List Value),K.In s.heap->(g us ws).length=ps.length->BindsTo s fd ⟨us,ks.zip ws⟩ (ps.zip (g us ws))
 rel:∀{vs:List V}{us:List Value}{zs:List V}{ws:List Value},Vals vs us->Vals zs ws->Vals (gV vs zs) (g us ws)
def Lk(sp:Sp)(gV:List V->List V->List V)(E:XK)(t tk:TA):TE:=λσ H Q=>t σ H λvs H1=>tk σ H1 λzs H2=>sp (gV vs zs) H2 Q E
variable {g:List Value->List Value->List Value}{gV:List V->List V->List V}
end
structure cI(N P:List Str)(sc:Scope):Prop where
 kind:sc.kind=.function:=by rfl
 co:sc.isCoroutine=false:=by rfl
 gen:sc.isGenerator=false:=by rfl
 nd:N.Nodup:=by decide+kernel
 pre:N.take P.length=P:=by rfl
 par:∀x∈P,sc.names.lookup x=some .local\/sc.names.lookup x=some .cell:=by decide+kernel
 nofree:∀y∈sc.names,y.2≠.free:=by decide+kernel
theorem qB{kindOf:Str->Option NameKind}{x:Str}:∀{binds:List (Str×Value)}{m:Str->Option Value},(∀v,(x,v) ∉ binds)->bindL kindOf binds m x=m x
 |[],_,_=>rfl
 | (n,v)::r,m,h=>by
  unfold bindL;rw[qB λw hw=>h w (mem_cons_of_mem _ hw)];split
  ·have:x≠n:=by rintro rfl;exact h v mem_cons_self
   simp[this]
  ·rfl
theorem qO{kindOf:Str->Option NameKind}{x:Str}:∀{binds:List (Str×Value)}{m:Str->Option Value},(∀v,(x,v) ∉ binds)->bindC kindOf binds m x=m x
 |[],_,_=>rfl
 | (n,v)::r,m,h=>by
  unfold bindC;rw[qO λw hw=>h w (mem_cons_of_mem _ hw)];split
  ·rfl
  ·have:x≠n:=by rintro rfl;exact h v mem_cons_self
   simp[this]
theorem qt{kindOf:Str->Option NameKind}{x:Str}{v:Value}:∀{P:List Str}{vs:List Value}{i:Nat}{m:Str->Option Value},P.Nodup->P[i]? =some x->vs[i]? =some v->kindOf x=some .local->
  bindL kindOf (P.zip vs) m x=some v
 |[],_,_,_,_,h,_,_=>by simp at h
 |_::_,[],_,_,_,_,h,_=>by simp at h
 |p::P,w::vs,0,m,nd,h1,h2,hk=>by
  simp at h1 h2;subst h1;subst h2;show bindL kindOf ((p,w)::P.zip vs) m p=_;unfold bindL;rw[qB λv hv=>(nodup_cons.mp nd).1 (of_mem_zip hv).1,if_pos hk];simp
 |p::P,w::vs,i+1,m,nd,h1,h2,hk=>by
  show bindL kindOf ((p,w)::P.zip vs) m x=_;unfold bindL;exact qt (i:=i) (nodup_cons.mp nd).2 (by simpa using h1) (by simpa using h2) hk
theorem qy{kindOf:Str->Option NameKind}{x:Str}{v:Value}:∀{P:List Str}{vs:List Value}{i:Nat}{m:Str->Option Value},P.Nodup->P[i]? =some x->vs[i]? =some v->kindOf x≠some .local->
  bindC kindOf (P.zip vs) m x=some v
 |[],_,_,_,_,h,_,_=>by simp at h
 |_::_,[],_,_,_,_,h,_=>by simp at h
 |p::P,w::vs,0,m,nd,h1,h2,hk=>by
  simp at h1 h2;subst h1;subst h2;show bindC kindOf ((p,w)::P.zip vs) m p=_;unfold bindC;rw[qO λv hv=>(nodup_cons.mp nd).1 (of_mem_zip hv).1,if_neg hk];simp
 |p::P,w::vs,i+1,m,nd,h1,h2,hk=>by
  show bindC kindOf ((p,w)::P.zip vs) m x=_;unfold bindC;exact qy (i:=i) (nodup_cons.mp nd).2 (by simpa using h1) (by simpa using h2) hk
def start(N:List Str)(vs:List V):St:=vs.map some++List.replicate (N.length - vs.length) none
def nj(CX:zf)(P:Program)(w:World)(K:PySem.W.Frag)(mg:Str->Option Value)(base:Heap)(N:List Str)(qual:Str)(scope:Scope)(f:Addr)(cd:Value)(A:Around)(outer:List Env)(s:Shared)(H:Hp)(E:XK):Cx where
 prog:=P
 w:=w
 K:=K
 mg:=mg
 base:=base
 A:=A.deeper (envOfC qual scope s.heap.objs.size f cd)
 N:=N
 s₀:=s
 H₀:=H
 env:=envOfC qual scope s.heap.objs.size f cd
 outer:=outer
 stack:=envOfC qual scope s.heap.objs.size f cd::outer
 ex:=[]
 calm:=true
 fn:=λ_=>true
 pn:=[]
 xe:=λe s'=>wpAny (model P w) (A.deeper (envOfC qual scope s.heap.objs.size f cd)) (leaving (envOfC qual scope s.heap.objs.size f cd) e) (λ_ s''=>CX outer H s E e s'') (λe' s''=>CX outer H s E e' s'') s'
theorem ud{sc:Scope}{n:Nat}{x:Str}(h:sc.names.lookup x=some .cell):∃c,(cellsFrom n sc.names []).lookup x=some c:=by
 have q:=PySem.W.cellsFrom_some sc.names n [] (.inl h);exact isSome_iff_exists.mp q
theorem xZ{CX:zf}{P:Program}{w:World}{K:PySem.W.Frag}{mg:Str->Option Value}{base:Heap}{N ps:List Str}{qual:Str}{scope:Scope}{f:Addr}{cd:Value}{A:Around}{outer:List Env}{s s1:Shared}{H:Hp}{E:XK}{us:List Value}{vs:List V}
  (S:cI N ps scope)(hd:A.handled=none)(e0:qg P w K mg base A outer s H)(hl:vs.length=ps.length)(r:Vals vs us)
  (x:InCallC s s.heap.objs.size (bindL (envOfC qual scope s.heap.objs.size f cd).kindOf (ps.zip us) λ_=>none) (cellsFrom (s.heap.objs.size+1) scope.names []) (bindC (envOfC qual scope s.heap.objs.size f cd).kindOf (ps.zip us) λ_=>none) s1):
  Inv (nj CX P w K mg base N qual scope f cd A outer s H E) [] (start N vs) H s1:=by
 have hpl:ps.length<=N.length:=by have:=congrArg List.length S.pre;rw[length_take]at this;omega
 obtain⟨h1,tk,rfl,hk⟩:=x.done;have noA:∀b:Addr,b ∉ (nj CX P w K mg base N qual scope f cd A outer s H E).ex:=λb z=>absurd (show b∈([]:List Addr) from z) (by simp);refine⟨⟨e0.mod,S.kind,rfl,rfl,le_refl _,λy z c h1 h2=>?_,λy hy=>?_,λy c _ h=>?_,λ_=>hd,Around.frames_deeper e0.frames,.inr ⟨rfl,rfl⟩,λb z=>absurd z (noA b),e0.bs,e0.bsz,λb _ _=>noA b,λb z=>absurd z (noA b),e0.lA,e0.frf⟩,
  rfl,e0.bare,Un.kept hk,⟨_,x.toInCall.ns,λi y v h1 h2 h3=>?_⟩,λy c h=>⟨_,x.cell y c h⟩,e0.hok.fresh (le_refl _),λy c h=>?_,λp hp=>absurd (show p∈([]:List (Addr×Obj)) from hp) (by simp),e0.hok.kept hk,?_⟩
 ·exact name_of_addr x.apart (PySem.mem_of_lookup h1) (PySem.mem_of_lookup h2)
 ·have hy:scope.names.lookup y=some .cell\/scope.names.lookup y=some .free:=hy
  rcases hy with hy|hy
  ·exact ud hy
  ·exact absurd rfl (S.nofree _ (PySem.mem_of_lookup hy))
 ·exact le_of_lt (x.above y c (PySem.mem_of_lookup h))
 ·have hi:i < vs.length:=by
   unfold start at h2;by_cases hi:i < vs.length
   ·exact hi
   ·rw[getElem?_append_right (by simpa using hi)]at h2
    rw[List.getElem?_replicate]at h2;split at h2<;>cases h2
  have ha:vs[i]? =some v:=by
   unfold start at h2;rw[getElem?_append_left (by simpa using hi),getElem?_map]at h2;cases e:vs[i]? with
   |none=>rw[e]at h2;cases h2
   |some a=>rw[e]at h2;cases h2;rfl
  obtain⟨u,hu,rv⟩:=r.get ha;have hp:ps[i]? =some y:=by
   rw[<-S.pre,getElem?_take_of_lt (by omega)];exact h1
  have ndP:ps.Nodup:=by rw[<-S.pre];exact S.nd.sublist (List.take_sublist _ _)
  refine⟨u,rv,?_⟩;rcases S.par y (mem_of_getElem? hp) with k|k
  ·exact .inl ⟨k,qt ndP hp hu k⟩
  ·obtain⟨c,e⟩:=ud (n:=s.heap.objs.size+1) k
   refine .inr ⟨.inl k,c,e,?_⟩;have q:=x.cell y c e;rw[qy ndP hp hu (by show scope.names.lookup y≠_;rw[k];decide)]at q;exact q
 ·exact e0.hok.fresh (le_of_lt (x.above y c (PySem.mem_of_lookup h)))
 ·unfold start
  show _=N.length;rw[length_append,length_map,List.length_replicate];omega
theorem El{CX:zf}{P:Program}{w:World}{K:PySem.W.Frag}{mg:Str->Option Value}{base:Heap}{k:Nat}{f:Addr}{name qual:Str}{params:Arguments}{body:List Stmt}{scope:Scope}{dV kV doc pm cdv ct oc:Value}{an od:Option Addr}
  {osl:Array (Option Value)}{N ps:List Str}{sp:Sp}(lk:K.lookup f=some ⟨oc,od,.func (fnOf name qual params body scope dV kV doc pm an cdv ct),osl⟩) (hcd:codeIn K cdv qual=true) (S:cI N ps scope)
  (len:∀vs H Q E,sp vs H Q E->vs.length=ps.length)
  (hbody:∀(A:Around) (outer:List Env) (s:Shared) (H:Hp) (vs:List V) (Q:VK) (E:XK),dF k (A.deeper (envOfC qual scope s.heap.objs.size f cdv))->sp vs H Q E->
   ∃t,wg (nj CX P w K mg base N qual scope f cdv A outer s H E) body t/\t { nx:=λ_ H'=>Q .non H',rt:=Q } (start N vs) H):
  eC P w K mg base CX (k+1) f (fnOf name qual params body scope dV kV doc pm an cdv ct) ps sp:=by
 refine⟨len,λA outer s H args us vs Q E hr e0 hb r hsp=>?_⟩;have hl:=len _ _ _ _ hsp;have KX:K.In s.heap:=e0.mod.kin.keeps λb o e=>(e0.bs b o e).1;have lim:s.heap.NoLimit:=e0.mod.nolimit.keeps λb o e=>(e0.bs b o e).1;have hkind:∀y∈ps.zip us,scope.names.lookup y.1=some .local\/(scope.names.lookup y.1=some .cell/\((cellsFrom (s.heap.objs.size+1) scope.names []).lookup y.1).isSome=true):=λ⟨n,v⟩ hy=>by
  rcases S.par n (of_mem_zip hy).1 with q|q
  ·exact .inl q
  ·exact .inr ⟨q,PySem.W.cellsFrom_some _ _ _ (.inl q)⟩
 refine codeAny_call_function hr.depth (KX _ _ lk) rfl S.co S.gen rfl (PySem.W.codeRec_of KX hcd) (hb _ _ _ _ ?_);refine wpAny_newFunctionEnv_cells S.kind hkind λenv he s1 x=>?_;subst he;refine⟨lim.keeps x.toInCall.keep,codeAny_func ?_⟩;obtain⟨t,ht,hq⟩:=hbody A outer s H vs Q E (hr.deeper _) hsp;have I:Inv (nj CX P w K mg base N qual scope f cdv A outer s H E) [] (start N vs) H s1:=xZ S hr.hd e0 hl r x;refine wpAny_mono (ht [] s1 (start N vs) H _ I hq) (λfl s' hs=>?_) λe s' hs=>hs;have fin:∀{σ':St}{H':Hp}{v:V}{u:Value},Inv (nj CX P w K mg base N qual scope f cdv A outer s H E) [] σ' H' s'->RelV v u->Q v H'->CE outer P w H s Q u s':=
  λ{σ' H' v u} J rv q=>⟨v,H',J.os,J.bare,J.base,J.hok,rv,q⟩
 cases fl with
 |ret u=>
  obtain⟨v,σ',H',J,rv,q⟩:=hs;exact fin J rv q
 |next=>
  obtain⟨σ',H',J,q⟩:=hs;exact fin (v:=V.non) (u:=Value.none) J rfl q
 |brk=>
  obtain⟨_,_,_,q⟩:=hs;exact False.elim q
 |cont=>
  obtain⟨_,_,_,q⟩:=hs;exact False.elim q
end L2
namespace L2
open PySem PySem.Spec PyProof.Rows
section
variable {X:Cx}{x:Str}{p pos:Pos}{e:Expr}{es:List Expr}{t:TA}{id T:String}{r:List V->Hp->VK->Prop}
def Hi(r:List V->Hp->VK->Prop)(t:TA):TE:=λσ H Q=>t σ H λvs H1=>r vs H1 Q
theorem gY (hc:eR X (.builtin id) r) (hg:Gl X x) (hm:X.mg x=none) (hv:bootBuiltins x=some (.builtin id)) (ha:PA X (e::es) t) (hn:x≠ "__name__" :=by decide) (hdb:(x == ("__debug__" :Str))=false:=by decide)
  (he:starEach (e::es) X.env=(false,eval e X.env)::starEach es X.env:=by rfl)(hpl:(backTo pos (starEach es X.env)).any (·.1)=false:=by rfl):PE X (.Call (.Name x p) (e::es) [] pos) (Hi r t):=by
 intro pins s σ H Q I h;refine wpAny_Call_Name_kw (j4 I hg hm hv ?_ hn hdb);exact PyProof.Rows.callWith_builtin1 (di (ha pos pins s σ H _ I h) λus s1 ⟨vs,H1,I1,r1,q1⟩=>hc pins s1 σ H1 vs us Q I1 r1 q1) he hpl
theorem xO (hc:eR X (.type T) r) (hg:Gl X x) (hm:X.mg x=none) (hv:bootBuiltins x=some (.type T)) (ha:PA X (e::es) t) (hn:x≠ "__name__" :=by decide) (hdb:(x == ("__debug__" :Str))=false:=by decide)
  (he:starEach (e::es) X.env=(false,eval e X.env)::starEach es X.env:=by rfl)(hpl:(backTo pos (starEach es X.env)).any (·.1)=false:=by rfl):PE X (.Call (.Name x p) (e::es) [] pos) (Hi r t):=by
 intro pins s σ H Q I h;refine wpAny_Call_Name_kw (j4 I hg hm hv ?_ hn hdb);exact PyProof.Rows.callWith_type1 (di (ha pos pins s σ H _ I h) λus s1 ⟨vs,H1,I1,r1,q1⟩=>hc pins s1 σ H1 vs us Q I1 r1 q1) he hpl
end
end L2
namespace HT
open PySem PyProof.Rows
def lexLt:List Int->List Int->Bool
 |[],[]=>false
 |[],_::_=>true
 |_::_,[]=>false
 |x::xs,y::ys=>if x=y then lexLt xs ys else decide (x < y)
section
open PySem.SeqAt
open PySem.AutoSeq1 (wpAny_loadPart')
open PySem.MeetsSeq PySem.MeetsSeq2 PySem.MeetsSeq3
end
section
variable {prog:Program}{w:World}{A:Around}{E:Value->Shared->Prop}{s:Shared}
def eJ(n d:Nat):Option Int->Nat
 |none=>d
 |some v=>if v < 0 then(v+(n:Int)).toNat else min v.toNat n
theorem Bh(n d:Nat):eJ n d none=d:=rfl
theorem Dg(n d k:Nat):eJ n d (some (k:Int))=min k n:=by
 show(if(k:Int) < 0 then((k:Int)+(n:Int)).toNat else min (k:Int).toNat n)=min k n;rw[if_neg (by omega),Int.toNat_natCast]
theorem Fw(n d:Nat)(hd:d<=n)(o:Option Int):eJ n d o<=n:=by
 cases o with
 |none=>exact hd
 |some v=>
  show(if v < 0 then(v+(n:Int)).toNat else min v.toNat n)<=n;by_cases hv:v < 0
  ·rw[if_pos hv];omega
  ·rw[if_neg hv];exact Nat.min_le_right _ _
theorem xq(a b:Nat):((min a b:Nat):Int)=min (a:Int) (b:Int):=by omega
theorem wV(v:Int)(n d:Nat):(if v < 0 then max (v+(n:Int)) 0 else min v (n:Int))=((eJ n d (some v):Nat):Int):=by
 show(if v < 0 then max (v+(n:Int)) 0 else min v (n:Int))=(((if v < 0 then(v+(n:Int)).toNat else min v.toNat n):Nat):Int);by_cases hv:v < 0
 ·rw[if_pos hv,if_pos hv,Int.toNat_eq_max]
 ·rw[if_neg hv,if_neg hv,xq,Int.toNat_of_nonneg (Int.not_lt.mp hv)]
theorem vF(lo hi:Option Int)(n:Nat):Builtin.Slice.sliceAdjust lo hi 1 (n:Int)=(((eJ n 0 lo:Nat):Int),((eJ n n hi:Nat):Int)):=by
 have h1:¬((1:Int) < 0):=by omega
 unfold Builtin.Slice.sliceAdjust;simp only[h1,if_false];refine Prod.ext ?_ ?_
 ·cases lo with
  |none=>rfl
  |some v=>exact wV v n 0
 ·cases hi with
  |none=>rfl
  |some v=>exact wV v n n
theorem wj(i j:Nat):Builtin.Slice.slicePlaces (i:Int) (j:Int) 1=j - i:=by
 unfold Builtin.Slice.slicePlaces;have h1:(1:Int) > 0:=by omega
 simp only[h1,if_true,Int.ediv_one];split<;>omega
theorem oF{v:Value}{o:Option Int}{Q:Option Int->Shared->Prop}(p:IsPart v o)(h:Q o s):wpAny (model prog w) A (Builtin.Slice.slicePartIndex v) Q E s:=by
 cases p with
 |none=>exact slicePart_none h
 |int i t=>exact slicePart_int h
theorem lT{sl:Addr}{vl vu:Value}{lo hi:Option Int}{n:Nat}{Q:Int×Int×Nat->Shared->Prop}(hs:s.heap.IsSliceOf sl vl vu .none)(pl:IsPart vl lo)(pu:IsPart vu hi)
  (h:Q (((eJ n 0 lo:Nat):Int),1,eJ n n hi - eJ n 0 lo) s):wpAny (model prog w) A (Builtin.Slice.sliceApplied (.ref sl) (pure (n:Int))) Q E s:=by
 obtain⟨os,hos,hcs,hds⟩:=id hs;unfold Builtin.Slice.sliceApplied Builtin.Slice.sliceFields;refine wpAny_bind (wpAny_bind (wpAny_field hos hds (x:=vl) rfl (wpAny_bind (wpAny_field hos hds (x:=vu) rfl (wpAny_bind (wpAny_field hos hds (x:=.none) rfl (wpAny_pure ?_)))))));refine wpAny_bind (slicePart_none ?_);show wpAny _ _ (if((1:Int) == 0)=true then _ else _) _ _ s;rw[if_neg (by decide)];refine wpAny_bind (oF pl (wpAny_bind (oF pu (wpAny_bind (wpAny_pure ?_)))));show wpAny _ _ (match Builtin.Slice.sliceAdjust lo hi 1 (n:Int) with| (lo,hi)=>pure (lo,(1:Int),Builtin.Slice.slicePlaces lo hi 1)) _ _ s;rw[vF lo hi n];show wpAny _ _ (pure (((eJ n 0 lo:Nat):Int),(1:Int),Builtin.Slice.slicePlaces ((eJ n 0 lo:Nat):Int) ((eJ n n hi:Nat):Int) 1)) _ _ s;rw[wj];exact wpAny_pure h
theorem Aw(xs:Array Value)(i k:Nat):((List.range k).filterMap λ(m:Nat)=>xs[((i:Int)+(m:Int) * 1).toNat]?).toArray=((xs.toList.drop i).take k).toArray:=by
 have e:(λ(m:Nat)=>xs[((i:Int)+(m:Int) * 1).toNat]?)=λm=>xs[i+m]? :=by
  funext m
  have:((i:Int)+(m:Int) * 1).toNat=i+m:=by omega
  rw[this]
 rw[e];have:=pick_run xs i k;rw[List.filterMap_map]at this;have e2:((λx=>xs[x]?) ∘ λx=>i+x)=λm=>xs[i+m]? :=rfl;rw[e2]at this;rw[this]
theorem kR{t sl:Addr}{items:Array Value}{vl vu:Value}{lo hi:Option Int}{Q:Value->Shared->Prop}(ht:IsTup s.heap t items)(hs:s.heap.IsSliceOf sl vl vu .none)(pl:IsPart vl lo)(pu:IsPart vu hi)
  (hw:¬(eJ items.size 0 lo=0/\eJ items.size items.size hi=items.size))
  (h:Q (.ref s.heap.objs.size) { s with heap:=s.heap.push { cls:=.type "tuple",data:=.seq ((items.toList.drop (eJ items.size 0 lo)).take (eJ items.size items.size hi - eJ items.size 0 lo)).toArray } })
  (hsz:items.size<=sizeLine):wpAny (model prog w) A (getItem (.ref t) (.ref sl)) Q E s:=by
 have htake:sizeOk (.seq ((items.toList.drop (eJ items.size 0 lo)).take (eJ items.size items.size hi - eJ items.size 0 lo)).toArray):=by
  show((items.toList.drop (eJ items.size 0 lo)).take (eJ items.size items.size hi - eJ items.size 0 lo)).toArray.size<=sizeLine;rw[size_toArray,length_take,length_drop,length_toList];omega
 have hj:eJ items.size items.size hi<=items.size:=Fw _ _ (le_refl _) hi;obtain⟨os,hos,hcs,hds⟩:=id hs;have hTs:s.TypeIs (.ref sl) "slice" :=⟨os,hos,hcs⟩;unfold getItem
 try with_reducible refine wpAny_holding ?_
 first|refine wpAny_bind (wpAny_pure ?_)|skip
 refine wpAny_bind (wpAny_sequenceKey ht.typeIs (by decide) ?_);refine wpAny_bind (wpAny_callSpecial?_slot (name:=Str.ofString "__getitem__") ht.typeIs PyProof.Rows.slot_tuple_getitem
  (wpAny_call_entry PyProof.Rows.slot_tuple_getitem ht.typeIs entry_tuple_getitem ?_ (args_tuple_getitem _ _)))
 show wpAny _ _ (Builtin.Tuple.tupleItemsOf (.ref t) >>= _) _ _ s;refine wpAny_bind (tupleItemsOf_ ht ?_);refine wpAny_bind (wpAny_typeOf hTs ?_);rw[if_pos (by decide)];refine wpAny_bind (lT hs pl pu ?_);have hno:¬((((eJ items.size 0 lo:Nat):Int) == 0 && (1:Int) == 1 && (eJ items.size items.size hi - eJ items.size 0 lo) == items.size)=true):=by
  intro q;rw[and_eq_true,and_eq_true]at q;have q1:((eJ items.size 0 lo:Nat):Int)=0:=eq_of_beq q.1.1;have q2:eJ items.size items.size hi - eJ items.size 0 lo=items.size:=eq_of_beq q.2;exact hw ⟨by omega,by omega⟩
 show wpAny _ _ (if(((eJ items.size 0 lo:Nat):Int) == 0 && (1:Int) == 1 && (eJ items.size items.size hi - eJ items.size 0 lo) == items.size)=true then _ else _) _ _ s;rw[if_neg hno,Aw]
 first
  |exact wpAny_bind (m:=Builtin.Tuple.tupleExact _) (wpAny_newObj_type (wpAny_pure ⟨_,rfl,wpAny_pure h⟩) htake)
  |exact wpAny_bind (m:=Builtin.Tuple.tupleExact _) (wpAny_newObj_type (wpAny_bind (wpAny_pure (wpAny_pure ⟨_,rfl,wpAny_pure h⟩))) htake)
  |exact wpAny_bind (wpAny_bind (m:=Builtin.Tuple.tupleExact _) (wpAny_newObj_type (wpAny_pure (wpAny_pure ⟨_,rfl,wpAny_pure h⟩)) htake))
  |exact wpAny_bind (wpAny_bind (m:=Builtin.Tuple.tupleExact _) (wpAny_newObj_type (wpAny_pure ⟨_,rfl,wpAny_pure h⟩) htake))
end
end HT
namespace L2
open PySem PySem.Spec PyProof.Rows
abbrev TO:=St->Hp->(Option Int->Hp->Prop)->Prop
def PO(X:Cx)(e:Option Expr)(t:TO):Prop:=
 ∀(pins:List (Addr×Obj)) (s:Shared) (σ:St) (H:Hp) (Q:Option Int->Hp->Prop),Inv X pins σ H s->t σ H Q->
  wpAny (model X.prog X.w) X.A (evalPart e X.env) (λu s'=>∃o H',Inv X pins σ H' s'/\IsPart u o/\Q o H') X.xe s
def wU:TO:=λ_ H Q=>Q none H
inductive Lm(x:V)(H:Hp)(Q:Option Int->Hp->Prop):Prop
 |mk(i:Int)(h:x=.int i)(q:Q (some i) H)
def Em(t:TE):TO:=λσ H Q=>t σ H λx H1=>Lm x H1 Q
theorem intsAre_of{ns:List Int}:∀{us:List Value},Vals (ns.map V.int) us->IntsAre us ns:=by
 induction ns with
 |nil=>intro us r;rw[map_nil]at r;cases r;exact .nil
 |cons n ns ih=>
  intro us r;rw[map_cons]at r;cases r with
  |cons r1 r2=>
   obtain⟨t,e⟩:=r1;subst e;exact .cons n t (ih r2)
section
variable {X:Cx}{e:Expr}{te:TE}{lo hi:Option Expr}{tl th:TO}{pos p2:Pos}
theorem B9:PO X none wU:=by
 intro pins s σ H Q I h;rw[evalPart_none];exact wpAny_pure ⟨none,H,I,.none,h⟩
theorem Dc(h:PE X e te):PO X (some e) (Em te):=by
 intro pins s σ H Q I hw;rw[evalPart_some];refine di (h pins s σ H _ I hw) λu s1 hpat=>?_;obtain⟨x,H1,I1,r1,q1⟩:=hpat;obtain⟨i,rfl,q⟩:=q1;obtain⟨t,rfl⟩:=r1;exact⟨some i,H1,I1,.int i t,q⟩
def JR(X:Cx)(r:V->Option Int->Option Int->Hp->VK->Prop):Prop:=
 ∀(pins:List (Addr×Obj)) (s:Shared) (σ:St) (H:Hp) (x:V) (v vl vu:Value) (lo hi:Option Int) (sl:Addr) (Q:VK),Inv X pins σ H s->RelV x v->s.heap.IsSliceOf sl vl vu .none->IsPart vl lo->IsPart vu hi->r x lo hi H Q->
  ∃T id,typeLookup (.type T) "__getitem__" =pure (some (.builtin id))/\s.TypeIs v T/\wpAny (model X.prog X.w) X.A (getItem v (.ref sl)) (EP X pins σ Q) X.xe s
def Lv(r:V->Option Int->Option Int->Hp->VK->Prop)(te:TE)(tl th:TO):TE:=λσ H Q=>te σ H λx H1=>tl σ H1 λl H2=>th σ H2 λu H3=>r x l u H3 Q
theorem zR{r:V->Option Int->Option Int->Hp->VK->Prop}(hr:JR X r)(he:PE X e te)(hl:PO X lo tl)(hu:PO X hi th):PE X (.Subscript e (.Slice lo hi none p2) pos) (Lv r te tl th):=by
 intro pins s σ H Q I h;refine Subscript_ (di (he pins s σ H _ I h) λv s1 hpat=>?_);obtain⟨x,H1,I1,r1,q1⟩:=hpat;refine wpAny_Slice (di (hl pins s1 σ H1 _ I1 q1) λvl s2 ⟨l,H2,I2,pl,q2⟩=>di (hu pins s2 σ H2 _ I2 q2) λvu s3 hpat=>?_);obtain⟨u,H3,I3,pu,q3⟩:=hpat;rw[evalPart_none];refine wpAny_pure ?_;have I4:Inv X pins σ H3 { s3 with heap:=s3.heap.push { cls:=.type "slice",data:=.fields #[vl,vu,.none] } }:=I3.kept (t':=s3.toks) λb ob q=>get?_push_of_some _ q;obtain⟨T,id,hT,ht,hg⟩:=hr pins { s3 with heap:=s3.heap.push { cls:=.type "slice",data:=.fields #[vl,vu,.none] } } σ H3 x v vl vu l u s3.heap.objs.size Q I4 r1 (Heap.IsSliceOf.new ..) pl pu q3;show wpAny (model X.prog X.w) X.A (subscriptTail e (.Slice lo hi none p2) v (.ref s3.heap.objs.size)) (EP X pins σ Q) X.xe { s3 with heap:=s3.heap.push { cls:=.type "slice",data:=.fields #[vl,vu,.none] } };exact tail_any (ops:=[.ref s3.heap.objs.size,v]) ht hT hg (by with_unfolding_all rfl)
def fO(xs:List V)(lo hi:Option Int):List V:=(xs.drop (HT.eJ xs.length 0 lo)).take (HT.eJ xs.length xs.length hi - HT.eJ xs.length 0 lo)
theorem mX(xs:List V)(lo hi:Option Int):(fO xs lo hi).length<=xs.length:=by
 unfold fO;rw[length_take,length_drop];exact le_trans (Nat.min_le_right _ _) (Nat.sub_le _ _)
def JP(K:PySem.W.Frag):V->Option Int->Option Int->Hp->VK->Prop:=λx lo hi H Q=>∃a xs,x=.ref a/\cW K H a xs/\
 ¬(HT.eJ xs.length 0 lo=0/\HT.eJ xs.length xs.length hi=xs.length)/\∀p,H p=none->Q (.ref p) (upd H p (.tup (fO xs lo hi)))
theorem wo:JR X (JP X.K):=by
 intro pins s σ H x v vl vu lo hi sl Q I rx hs pl pu h;obtain⟨a,xs,rfl,hx,hw,q⟩:=h;cases rx;obtain⟨its,r,ht,hz⟩:=I.tuple hx;have hlen:its.toArray.size=xs.length:=by rw[size_toArray];exact r.length.symm
 refine⟨"tuple",_,PyProof.Rows.slot_tuple_getitem.lookup,ht.typeIs,?_⟩;refine HT.kR ht hs pl pu (by rw[hlen];exact hw) ?_ (by rw[hlen];exact hz);rw[hlen];refine⟨.ref s.heap.objs.size,_,I.laid (t':=s.toks) (o:=.tup (fO xs lo hi)) (λb ob q=>get?_push_of_some _ q) (le_refl _) ?_,rfl,q _ (I.hok.fresh (le_refl _))⟩;exact⟨le_trans (mX xs lo hi) hz,_,(r.drop (HT.eJ xs.length 0 lo)).take (HT.eJ xs.length xs.length hi - HT.eJ xs.length 0 lo),IsTup.new _ _⟩
def Mj(K:PySem.W.Frag):R2:=λx y H Q=>∃a b ns ms,x=.ref a/\y=.ref b/\cW K H a (ns.map V.int)/\cW K H b (ms.map V.int)/\Q (.bl (HT.lexLt ns ms)) H
def Lw(K:PySem.W.Frag):R2:=λx y H Q=>∃a b xs ys,x=.ref a/\y=.ref b/\cW K H a xs/\cW K H b ys/\xs≠[]/\xs.length+ys.length<=sizeLine/\
 (ys=[]->Q (.ref a) H)/\(ys≠[]->∀p,H p=none->Q (.ref p) (upd H p (.tup (xs++ys))))
end
end L2
namespace L2
open PySem PySem.Spec PyProof.Rows
def CI(n:Nat)(i:Int):Option Nat:=if 0<=i then(if i < n then some i.toNat else none) else if -(n:Int)<=i then some (i+n).toNat else none
def nM{α:Type}(xs:List α)(i:Int):Option α:=(CI xs.length i).bind λj=>xs[j]?
theorem DG{n:Nat}{i:Int}{j:Nat}(h:CI n i=some j):seqIndex? i n=some j/\j < n/\ -(n:Int)<=i/\i < n:=by
 unfold CI at h;by_cases h0:0<=i
 ·rw[if_pos h0]at h
  by_cases h1:i < n
  ·rw[if_pos h1]at h
   have e:i.toNat=j:=Option.some.inj h;exact⟨by rw[seqIndex_of h0 h1,e],by omega,by omega,h1⟩
  ·rw[if_neg h1]at h;cases h
 ·rw[if_neg h0]at h
  by_cases h1: -(n:Int)<=i
  ·rw[if_pos h1]at h
   have e:(i+n).toNat=j:=Option.some.inj h;exact⟨by rw[seqIndex_neg (by omega) h1,e],by omega,h1,by omega⟩
  ·rw[if_neg h1]at h;cases h
theorem rq{α:Type}{xs:List α}{i:Int}{v:α}(h:nM xs i=some v):∃j,seqIndex? i xs.length=some j/\xs[j]? =some v/\j < xs.length/\ -(xs.length:Int)<=i/\i < xs.length:=by
 unfold nM at h;cases e:CI xs.length i with
 |none=>rw[e]at h;cases h
 |some j=>
  rw[e]at h;obtain⟨h1,h2,h3,h4⟩:=DG e;exact⟨j,h1,h,h2,h3,h4⟩
theorem cQ{α:Type}{xs:List α}{j:Nat}{v:α}(h:xs[j]? =some v):nM xs (j:Int)=some v:=by
 have hj:j < xs.length:=(List.getElem?_eq_some_iff.mp h).1;have e:CI xs.length (j:Int)=some j:=by
  unfold CI;rw[if_pos (by omega),if_pos (by omega)];simp
 unfold nM;rw[e];exact h
theorem AX{α:Type}(xs:List α)(v:α):nM (xs++[v]) (-1)=some v:=by
 have hl:(xs++[v]).length=xs.length+1:=by simp
 have e:CI (xs++[v]).length (-1)=some xs.length:=by
  unfold CI;rw[hl,if_neg (by decide),if_pos (by omega)]
  congr 1
  omega
 unfold nM;rw[e];show(xs++[v])[xs.length]? =some v;simp
def dO(b:Expr):Prop:=∀o i,subscripted b false o i=operate [o,i] (getItem o i)
def IC(X:Cx)(r:R2):Prop:=
 ∀(value slice:Expr) (pins:List (Addr×Obj)) (s:Shared) (σ:St) (H:Hp) (x y:V) (v u:Value) (Q:VK),Inv X pins σ H s->RelV x v->RelV y u->r x y H Q->
  subscripted slice false v u=operate [v,u] (getItem v u)->wpAny (model X.prog X.w) X.A (subscriptTail value slice v u) (EP X pins σ Q) X.xe s
def J5(X:Cx)(id:String)(r:V->List V->Hp->VK->Prop):Prop:=
 ∀(pins:List (Addr×Obj)) (s:Shared) (σ:St) (H:Hp) (x:V) (xs:List V) (v:Value) (us:List Value) (Q:VK),Inv X pins σ H s->RelV x v->Vals xs us->r x xs H Q->
  wpAny (model X.prog X.w) X.A (call (.builtin id) (v::us)) (EP X pins σ Q) X.xe s
section
variable {X:Cx}{a b:Expr}{ta tb:TE}{pos:Pos}
theorem IF{r:R2}(hr:IC X r)(ha:PE X a ta)(hb:PE X b tb)(hs:dO b):PE X (.Subscript a b pos) (Ei r ta tb):=by
 intro pins s σ H Q I h;exact Subscript_ (Gp ha hb I h λv u s2 x y H2 I2 rx ry q=>hr a b pins s2 σ H2 x y v u Q I2 rx ry q (hs _ _))
inductive JV(S:Addr->List V->Prop)(x y:V)(H:Hp)(Q:VK):Prop
 |mk(p:Addr)(xs:List V)(i:Int)(v:V)(hx:x=.ref p)(hy:y=.int i)(s:S p xs)(e:nM xs i=some v)(q:Q v H)
inductive KJ(x y:V)(H:Hp)(Q:VK):Prop
 |mk(z:Str)(i:Int)(c:Nat)(hx:x=.str z)(hy:y=.int i)(s:z.length<=sizeLine)(e:nM z.cps.toList i=some c)(q:Q (.str ⟨#[c]⟩) H)
theorem xT{K:PySem.W.Frag}{H:Hp}{p:Addr}{xs:List V}{i:Int}{v:V}{Q:VK}(h:H p=some (.tup xs))(e:nM xs i=some v)(q:Q v H):JV (cW K H) (.ref p) (.int i) H Q:=⟨p,xs,i,v,rfl,rfl,cW.of h,e,q⟩
theorem xL{K:PySem.W.Frag}{H:Hp}{p:Addr}{xs:List V}{i:Int}{v:V}{Q:VK}(h:H p=some (.lst xs))(e:nM xs i=some v)(q:Q v H):JV (cL K H) (.ref p) (.int i) H Q:=⟨p,xs,i,v,rfl,rfl,cL.of h,e,q⟩
def Cm(K:PySem.W.Frag):R2:=λx y H Q=>JV (cL K H) x y H Q
def Cu(K:PySem.W.Frag):R2:=λx y H Q=>JV (cW K H) x y H Q
def F3:R2:=λx y H Q=>KJ x y H Q
theorem wX:IC X (Cm X.K):=by
 intro value slice pins s σ H x y v u Q I rx ry h hs;obtain⟨p,xs,i,z,rfl,rfl,hq,he,q⟩:=h;cases rx;obtain⟨t,rfl⟩:=ry;obtain⟨its,r,pl,hz⟩:=I.list hq;obtain⟨j,h1,h2,h3,h4,h5⟩:=rq he;obtain⟨w,ew,rw'⟩:=r.get h2;have hl:=r.length;have hn:=pK;have fin:EP X pins σ Q w s:=⟨z,H,I,rw',q⟩;by_cases h0:0<=i
 ·have hj:i.toNat=j:=by
   rw[seqIndex_of h0 h5]at h1;exact Option.some.inj h1
  exact item_listR pl.isList h0 (by omega) (by rw[hj];simpa using ew) fin hs
 ·have hj:(i+(its.toArray.size:Int)).toNat=j:=by
   rw[seqIndex_neg (by omega) h4]at h1;rw[size_toArray,<-hl];exact Option.some.inj h1
  exact subscriptTail_builtinR (x:=w) pl.isList.typeIs slot_list_getitem.lookup
   (wpAny_getItem_list_neg (Q:=λr s'=>r=w/\EP X pins σ Q r s') pl.isList (by omega) (by rw[size_toArray]<;>omega) (by omega) (by rw[hj];simpa using ew) ⟨rfl,fin⟩) hs
theorem Bu:IC X (Cu X.K):=by
 intro value slice pins s σ H x y v u Q I rx ry h hs;obtain⟨p,xs,i,z,rfl,rfl,hq,he,q⟩:=h;cases rx;obtain⟨t,rfl⟩:=ry;obtain⟨its,r,pl,hz⟩:=I.tuple hq;obtain⟨j,h1,h2,h3,h4,h5⟩:=rq he;obtain⟨w,ew,rw'⟩:=r.get h2;have hl:=r.length;have hn:=pK;have fin:EP X pins σ Q w s:=⟨z,H,I,rw',q⟩;exact subscriptTail_builtinR (x:=w) pl.typeIs slot_tuple_getitem.lookup
  (getItem_tuple (j:=j) (Q:=λr s'=>r=w/\EP X pins σ Q r s') pl (by omega) (by omega) (by rw[size_toArray,<-hl];exact h1) (by simpa using ew) ⟨rfl,fin⟩) hs
theorem vn:IC X F3:=by
 intro value slice pins s σ H x y v u Q I rx ry h hs;obtain⟨z,i,c,rfl,rfl,hz,he,q⟩:=h;obtain⟨t,rfl⟩:=rx;obtain⟨t',rfl⟩:=ry;obtain⟨j,h1,h2,h3,h4,h5⟩:=rq he;have hl:z.cps.toList.length=z.length:=by simp[Str.length]
 rw[hl]at h1 h4 h5;have hn:=pK;exact tail_any (typeIs_str s z t) slot_str_getitem.lookup (getItem_str (c:=c) (by
  have e1:decide (i < -(2 ^ 63:Int))=false:=decide_eq_false (by omega);have e2:decide (i ≥ 2 ^ 63)=false:=decide_eq_false (by omega);rw[e1,e2,Bool.or_false]) (by rw[h1];simpa using h2) ⟨.str ⟨#[c]⟩,H,I.tok _,⟨_,rfl⟩,q⟩) hs
def Nq(K:PySem.W.Frag):R2:=λx y H Q=>Cm K x y H Q\/Cu K x y H Q\/F3 x y H Q
inductive EG(o i v:V)(H:Hp)(Q:Hp->Prop):Prop
 |mk(p:Addr)(xs:List V)(k:Int)(j:Nat)(ho:o=.ref p)(hi:i=.int k)(s:H p=some (.lst xs))(e:CI xs.length k=some j)(q:Q (upd H p (.lst (xs.set j v))))
def LJ:V->V->V->Hp->(Hp->Prop)->Prop:=λo i v H Q=>EG o i v H Q
theorem Ek(v:Int)(n d:Nat):max 0 (min (if v < 0 then v+(n:Int) else v) (n:Int))=((HT.eJ n d (some v):Nat):Int):=by
 show _=(((if v < 0 then(v+(n:Int)).toNat else min v.toNat n):Nat):Int);by_cases hv:v < 0
 ·rw[if_pos hv,if_pos hv,Int.toNat_eq_max,Int.max_comm,Int.min_eq_left (by omega)]
 ·rw[if_neg hv,if_neg hv,HT.xq,Int.toNat_of_nonneg (Int.not_lt.mp hv)]
  exact Int.max_eq_right (Int.le_min.mpr ⟨Int.not_lt.mp hv,Int.natCast_nonneg n⟩)
theorem sj(lo hi:Option Int)(n:Nat):(sliceBounds lo hi none n).1=((HT.eJ n 0 lo:Nat):Int)/\(sliceBounds lo hi none n).2.1=((HT.eJ n n hi:Nat):Int)/\(sliceBounds lo hi none n).2.2=1:=by
 refine⟨?_,?_,rfl⟩
 ·cases lo with
  |none=>simp[sliceBounds,HT.eJ]
  |some i=>
   simp only[sliceBounds,Option.getD_none,show(1:Int) > 0 by decide,if_true];exact Ek i n 0
 ·cases hi with
  |none=>simp[sliceBounds,HT.eJ]
  |some i=>
   simp only[sliceBounds,Option.getD_none,show(1:Int) > 0 by decide,if_true];exact Ek i n n
theorem p5(its:List Value)(lo hi:Option Int):slicePick its.toArray lo hi none=((its.drop (HT.eJ its.length 0 lo)).take (HT.eJ its.length its.length hi - HT.eJ its.length 0 lo)).toArray:=by
 obtain⟨h1,h2,h3⟩:=sj lo hi its.toArray.size;unfold slicePick;rw[h1,h2,h3];simp only[sliceRange_one,pick_run,size_toArray]<;>rfl
inductive L7(K:PySem.W.Frag)(x:V)(lo hi:Option Int)(H:Hp)(Q:VK):Prop
 |mk(a:Addr)(xs:List V)(hx:x=.ref a)(s:cL K H a xs)(q:∀p,H p=none->Q (.ref p) (upd H p (.lst (fO xs lo hi))))
def Iw(K:PySem.W.Frag):V->Option Int->Option Int->Hp->VK->Prop:=λx lo hi H Q=>L7 K x lo hi H Q
theorem Cg:JR X (Iw X.K):=by
 intro pins s σ H x v vl vu lo hi sl Q I rx hs pl pu h;obtain⟨a,xs,rfl,hx,q⟩:=h;cases rx;obtain⟨its,r,ht,hz⟩:=I.list hx;have hlen:=r.length;refine⟨"list",_,slot_list_getitem.lookup,ht.isList.typeIs,?_⟩;refine wpAny_getItem_list_slice ht.isList hs pl pu .none (by simp) ?_ (by rw[size_toArray]<;>omega);rw[p5,<-hlen];refine⟨.ref s.heap.objs.size,_,I.laid (t':=s.toks) (o:=.lst (fO xs lo hi)) (λb ob q=>get?_push_of_some _ q) (le_refl _) ?_,rfl,q _ (I.hok.fresh (le_refl _))⟩;exact⟨le_trans (mX xs lo hi) hz,_,0,(r.drop (HT.eJ xs.length 0 lo)).take (HT.eJ xs.length xs.length hi - HT.eJ xs.length 0 lo),get?_push_size _ rfl⟩
def df:V->Bool
 |.non=>true
 |.bl _=>true
 |.int _=>true
 |.str _=>true
 |_=>false
def uv:V->V->Bool
 |.non,.non=>true
 |.bl a,.bl b=>a == b
 |.bl a,.int b=>(if a then 1 else 0) == b
 |.int a,.bl b=>a == (if b then 1 else 0)
 |.int a,.int b=>a == b
 |.str a,.str b=>a == b
 |_,_=>false
theorem rN{A:Around}{s:Shared}{y x:V}{u v:Value}(ry:RelV y u)(rx:RelV x v)(fy:df y=true)(fx:df x=true):SeqAt.EqAt A s u v (uv y x):=by
 cases y with
 |non=>
  cases ry;cases x with
  |non=>cases rx;exact SeqAt.EqAt.same _
  |bl b=>cases rx;exact SeqAt.EqAt.none_bool b
  |int b=>obtain⟨t,rfl⟩:=rx;exact SeqAt.EqAt.none_int b t
  |str b=>obtain⟨t,rfl⟩:=rx;exact SeqAt.EqAt.none_str b t
  |_=>exact absurd (show false=true from fx) Bool.false_ne_true
 |bl a=>
  cases ry;cases x with
  |non=>cases rx;exact SeqAt.EqAt.bool_none a
  |bl b=>cases rx;exact SeqAt.EqAt.bool_bool a b
  |int b=>obtain⟨t,rfl⟩:=rx;exact SeqAt.EqAt.bool_int a b t
  |str b=>obtain⟨t,rfl⟩:=rx;exact SeqAt.EqAt.bool_str a b t
  |_=>exact absurd (show false=true from fx) Bool.false_ne_true
 |int a=>
  obtain⟨t',rfl⟩:=ry;cases x with
  |non=>cases rx;exact SeqAt.EqAt.int_none a t'
  |bl b=>cases rx;exact SeqAt.EqAt.int_bool a t' b
  |int b=>obtain⟨t,rfl⟩:=rx;exact SeqAt.EqAt.int_int a t' b t
  |str b=>obtain⟨t,rfl⟩:=rx;exact SeqAt.EqAt.int_str a t' b t
  |_=>exact absurd (show false=true from fx) Bool.false_ne_true
 |str a=>
  obtain⟨t',rfl⟩:=ry;cases x with
  |non=>cases rx;exact SeqAt.EqAt.str_none a t'
  |bl b=>cases rx;exact SeqAt.EqAt.str_bool a t' b
  |int b=>obtain⟨t,rfl⟩:=rx;exact SeqAt.EqAt.str_int a t' b t
  |str b=>obtain⟨t,rfl⟩:=rx;exact SeqAt.EqAt.str_str a t' b t
  |_=>exact absurd (show false=true from fx) Bool.false_ne_true
 |_=>exact absurd (show false=true from fy) Bool.false_ne_true
def wt(x:V)(u:Value):Bool:=match u with
 |.none=>uv .non x
 |.bool b=>uv (.bl b) x
 |.int i _=>uv (.int i) x
 |.str z _=>uv (.str z) x
 |_=>false
theorem AU{x y:V}{u:Value}(r:RelV y u)(f:df y=true):wt x u=uv y x:=by
 cases y with
 |non=>cases r;rfl
 |bl b=>cases r;rfl
 |int i=>obtain⟨t,rfl⟩:=r;rfl
 |str z=>obtain⟨t,rfl⟩:=r;rfl
 |_=>exact absurd (show false=true from f) Bool.false_ne_true
theorem lh{x:V}:∀{xs:List V}{us:List Value},Vals xs us->xs.all df=true->us.any (wt x)=xs.any λy=>uv y x
 |_,_,.nil,_=>rfl
 |y::xs,u::us,.cons r t,f=>by
  rw[all_cons,and_eq_true]at f;rw[any_cons,any_cons,AU r f.1,lh t f.2]
theorem i9{A:Around}{s:Shared}{x:V}{v:Value}(rx:RelV x v)(fx:df x=true):∀{xs:List V}{us:List Value},Vals xs us->xs.all df=true->∀u∈us,SeqAt.EqAt A s u v (wt x u)
 |_,_,.nil,_=>λu hu=>by cases hu
 |y::xs,u::us,.cons r t,f=>λu' hu=>by
  rw[all_cons,and_eq_true]at f;rcases mem_cons.mp hu with rfl|hu
  ·rw[AU r f.1];exact rN r rx f.1 fx
  ·exact i9 rx fx t f.2 u' hu
def Am(x:V)(xs:List V):Bool:=xs.any λy=>uv y x
inductive M0(K:PySem.W.Frag)(neg:Bool)(x y:V)(H:Hp)(Q:VK):Prop
 |mk(p:Addr)(xs:List V)(hy:y=.ref p)(s:cL K H p xs\/cW K H p xs)(f:df x=true)(fs:xs.all df=true)(q:Q (.bl (if neg then !Am x xs else Am x xs)) H)
def Ka(K:PySem.W.Frag)(neg:Bool):R2:=λx y H Q=>M0 K neg x y H Q
theorem ip:gX X (compareOp .In) (Ka X.K false):=by
 intro pins s σ H x y v u Q I rx ry h;obtain⟨p,xs,rfl,hq,fx,fs,q⟩:=h;cases ry;rcases hq with hq|hq
 ·obtain⟨its,r,pl,hz⟩:=I.list hq
  refine SeqAt.in_listAt (wt x) pl.isList (λw hw=>i9 rx fx r fs w (by simpa using hw)) ⟨.bl _,H,I,rfl,?_⟩;rw[show its.toArray.any (wt x)=its.any (wt x) by simp,lh r fs];exact q
 ·obtain⟨its,r,pl,hz⟩:=I.tuple hq
  refine SeqAt.in_tupleAt (wt x) pl (λw hw=>i9 rx fx r fs w (by simpa using hw)) ⟨.bl _,H,I,rfl,?_⟩;rw[show its.toArray.any (wt x)=its.any (wt x) by simp,lh r fs];exact q
theorem fM:gX X (compareOp .NotIn) (Ka X.K true):=by
 intro pins s σ H x y v u Q I rx ry h;obtain⟨p,xs,rfl,hq,fx,fs,q⟩:=h;cases ry;rcases hq with hq|hq
 ·obtain⟨its,r,pl,hz⟩:=I.list hq
  refine SeqAt.notIn_listAt (wt x) pl.isList (λw hw=>i9 rx fx r fs w (by simpa using hw)) ⟨.bl _,H,I,rfl,?_⟩;rw[show its.toArray.any (wt x)=its.any (wt x) by simp,lh r fs];exact q
 ·obtain⟨its,r,pl,hz⟩:=I.tuple hq
  refine SeqAt.notIn_tupleAt (wt x) pl (λw hw=>i9 rx fx r fs w (by simpa using hw)) ⟨.bl _,H,I,rfl,?_⟩;rw[show its.toArray.any (wt x)=its.any (wt x) by simp,lh r fs];exact q
inductive ES(K:PySem.W.Frag)(xs:List V)(H:Hp)(Q:VK):Prop
 |mk(p:Addr)(ys:List V)(e:xs=[.ref p])(s:cL K H p ys\/cW K H p ys)(q:Q (.int ys.length) H)
theorem kO:eR X (.builtin "len") (λxs H Q=>L2.ES X.K xs H Q):=by
 intro pins s σ H xs us Q I r h;obtain⟨p,ys,rfl,hq,q⟩:=h;obtain⟨u,rfl,rx⟩:=vals1 r;cases rx;have hn:=pK;rcases hq with hq|hq
 ·obtain⟨its,r',pl,hz⟩:=I.list hq
  have hlen:=r'.length;exact Calls.call_len_list pl.isList (by simp only[size_toArray]<;>omega) ⟨.int ys.length,H,I.tok _,⟨s.toks+1,by rw[size_toArray,hlen]⟩,q⟩
 ·obtain⟨its,r',pl,hz⟩:=I.tuple hq
  have hlen:=r'.length;exact len_tuple pl (by simp only[size_toArray]<;>omega) ⟨.int ys.length,H,I.tok _,⟨s.toks+1,by rw[size_toArray,hlen]⟩,q⟩
theorem rA:eR X (.builtin "len") (λxs H Q=>∃z,xs=[.str z]/\z.length<=sizeLine/\Q (.int z.length) H):=by
 intro pins s σ H xs us Q I r h;obtain⟨z,rfl,hz,q⟩:=h;obtain⟨u,rfl,t,rfl⟩:=vals1 r;have hn:=pK;exact len_str (by omega) ⟨.int z.length,H,I.tok _,⟨_,rfl⟩,q⟩
theorem sE:eR X (.type "list") (λxs H Q=>∃p ys,xs=[.ref p]/\(cL X.K H p ys\/cW X.K H p ys)/\∀l,H l=none->Q (.ref l) (upd H l (.lst ys))):=by
 intro pins s σ H xs us Q I r h;obtain⟨p,ys,rfl,hq,q⟩:=h;obtain⟨u,rfl,rx⟩:=vals1 r;cases rx;have fin:∀(its:List Value),Vals ys its->ys.length<=sizeLine->∀(h':Heap) (c':Nat),(∀b o',s.heap.get? b=some o'->h'.get? b=some o')->
   h'.get? s.heap.objs.size=some { cls:=.type "list",dict:=none,data:=.seq its.toArray c',slots:= #[] }->EP X pins σ Q (.ref s.heap.objs.size) { s with heap:=h' }:=λits r' hz h' c' kp e=>
  ⟨.ref s.heap.objs.size,_,I.laid (t':=s.toks) kp (le_refl _) (show dk X.prog X.w _ h' _ (.lst ys) from ⟨hz,its,c',r',e⟩),rfl,q _ (I.hok.fresh (le_refl _))⟩
 rcases hq with hq|hq
 ·obtain⟨its,r',pl,hz⟩:=I.list hq
  have hlen:=r'.length;obtain⟨o,ho,hc,n,hd⟩:=pl.isList;exact call_list_seq p (.inl rfl) ho hc hd (λh' c' kp e=>fin its r' hz h' c' kp e) (by simp only[size_toArray]<;>omega)
 ·obtain⟨its,r',pl,hz⟩:=I.tuple hq
  have hlen:=r'.length;obtain⟨o,ho,hc,n,hd⟩:=pl;exact call_list_seq p (.inr rfl) ho hc hd (λh' c' kp e=>fin its r' hz h' c' kp e) (by simp only[size_toArray]<;>omega)
def Ky(K:PySem.W.Frag)(T:String)(x:V)(H:Hp):Prop:=match x with
 |.str _=>T= "str"
 |.int _=>T= "int"
 |.ref p=>(T= "list" /\∃xs,cL K H p xs)\/(T= "tuple" /\∃o,K.lookup p=some o/\o.cls=.type "tuple" /\o.dict=none)\/
   (T= "dict" /\((∃kvs,H p=some (.dK kvs))\/∃kvs,H p=some (.dT kvs)))\/(T= "set" /\∃S n,H p=some (.set S n))
 |_=>False
theorem zJ{pins:List (Addr×Obj)}{σ:St}{H:Hp}{s:Shared}{T:String}{x:V}{v:Value}(I:Inv X pins σ H s)(r:RelV x v)(ty:Ky X.K T x H):
  s.TypeIs v T/\∀a,v=.ref a->∃ob,s.heap.get? a=some ob/\ob.dict=none:=by
 cases x with
 |str z=>
  obtain⟨t,rfl⟩:=r;cases (show T= "str" from ty);exact⟨typeIs_str s z t,λ_ e=>nomatch e⟩
 |int i=>
  obtain⟨t,rfl⟩:=r;cases (show T= "int" from ty);exact⟨typeIs_int s i t,λ_ e=>nomatch e⟩
 |ref p=>
  cases r;rcases ty with ⟨rfl,xs,hq⟩|⟨rfl,o,hk,hc,hd⟩|⟨rfl,hk⟩|⟨rfl,S,n,hk⟩
  ·obtain⟨its,_,pl,_⟩:=I.list hq
   refine⟨pl.isList.typeIs,λa e=>?_⟩;cases e;obtain⟨o,n,e,c,hd,_⟩:=pl;exact⟨o,e,hd⟩
  ·refine⟨⟨o,I.iw p o hk,hc⟩,λa e=>?_⟩
   cases e;exact⟨o,I.iw _ o hk,hd⟩
  ·have z:∃o,s.heap.get? p=some o/\o.ExactDict:=by
    rcases hk with ⟨kvs,hk⟩|⟨kvs,hk⟩
    ·obtain⟨_,_,_,_,o,_,_,e,ex,_⟩:=I.hok p _ hk
     exact⟨o,e,ex⟩
    ·obtain⟨_,_,_,_,o,_,_,e,ex,_⟩:=I.hok p _ hk
     exact⟨o,e,ex⟩
   obtain⟨o,e,ex⟩:=z;refine⟨⟨o,e,ex.1⟩,λa e2=>?_⟩;cases e2;exact⟨o,e,ex.2.1⟩
  ·obtain⟨o,_,_,_,e,ex,_⟩:=I.hok p _ hk
   refine⟨⟨o,e,ex.1⟩,λa e2=>?_⟩;cases e2;exact⟨o,e,ex.2.1⟩
 |_=>exact False.elim ty
def Hy(K:PySem.W.Frag)(T:String)(r:V->List V->Hp->VK->Prop)(to:TE):TE:=λσ H Q=>to σ H λx H1=>Ky K T x H1/\r x [] H1 Q
def KZ(K:PySem.W.Frag)(T:String)(r:V->List V->Hp->VK->Prop)(to:TE)(t:TA):TE:=λσ H Q=>to σ H λx H1=>Ky K T x H1/\t σ H1 λxs H2=>r x xs H2 Q
variable {o e:Expr}{es:List Expr}{to:TE}{t:TA}{name:Str}{apos cpos:Pos}{T id:String}{r:V->List V->Hp->VK->Prop}
theorem Gi (pa:PlainAttrs T) (slot:Slot T name id) (hty:typeOf (.builtin id)=pure (.type "method_descriptor")) (hm:J5 X id r) (ho:PE X o to)
  (hbase:attributeBase o name X.env (eval o X.env)=eval o X.env:=by rfl)(hline:(apos.endLine == cpos.line)=true:=by rfl):PE X (.Call (.Attribute o name apos) [] [] cpos) (Hy X.K T r to):=by
 intro pins s σ H Q I h;refine wpAny_Call_method0_late hbase hline (di (ho pins s σ H _ I h) λv s1 hpat=>?_);obtain⟨x,H1,I1,r1,ty,q1⟩:=hpat;obtain⟨h1,h2⟩:=zJ I1 r1 ty;exact⟨T,id,pa,slot,hty,h1,h2,Calls.callWith_builtin rfl (PySem.evalArgs_none (hm pins s1 σ H1 x [] v [] Q I1 r1 .nil q1))⟩
theorem Im (pa:PlainAttrs T) (slot:Slot T name id) (hty:typeOf (.builtin id)=pure (.type "method_descriptor")) (hm:J5 X id r) (ho:PE X o to) (ha:PA X (e::es) t)
  (hbase:attributeBase o name X.env (eval o X.env)=eval o X.env:=by rfl)
  (hfew:((backTo cpos (starEach (e::es) X.env)).all (λx=> !x.1) && (backToKw cpos (keywordEach [] X.env)).all (λx=>x.1.isSome)
   && decide ((e::es).length+([]:List Keyword).length+(if([]:List Keyword).isEmpty then 0 else 1) < 30))=true:=by rfl)
  (hline:(apos.endLine == cpos.line)=true:=by rfl) (hs:starEach (e::es) X.env=(false,eval e X.env)::starEach es X.env:=by rfl) (hplain:(backTo cpos (starEach es X.env)).any (·.1)=false:=by rfl):
  PE X (.Call (.Attribute o name apos) (e::es) [] cpos) (KZ X.K T r to t):=by
 intro pins s σ H Q I h;refine wpAny_Call_method_late hbase hfew hline rfl (di (ho pins s σ H _ I h) λv s1 hpat=>?_);obtain⟨x,H1,I1,r1,ty,q1⟩:=hpat;obtain⟨h1,h2⟩:=zJ I1 r1 ty;refine⟨T,id,pa,slot,hty,h1,h2,?_⟩;have hA:=ha cpos pins s1 σ H1 _ I1 q1;rw[hs]at hA ⊢;refine Calls.callWith_builtin (by show(false || (backTo cpos (starEach es X.env)).any (·.1))=false;rw[hplain]<;>rfl) (Calls.evalArgs_plain ?_);exact di hA λus s2 ⟨vs,H2,I2,r2,q2⟩=>hm pins s2 σ H2 x vs v us Q I2 r1 r2 q2
end
end L2
namespace L2
open PySem PySem.Spec PyProof.Rows
def Lj(X:Cx)(id:String)(r:V->List V->Hp->VK->Prop):Prop:=
 ∀(pins:List (Addr×Obj)) (s:Shared) (σ:St) (H:Hp) (x:V) (xs:List V) (v:Value) (us:List Value) (Q:VK),Inv X pins σ H s->RelV x v->Vals xs us->r x xs H Q->
  wpAny (model X.prog X.w) X.A (call (.builtin id) (v::us)) (EP X pins σ Q) X.xe s
theorem Vals.one:∀{x:V}{us:List Value},Vals [x] us->∃u,us=[u]/\RelV x u
 |_,_,.cons r .nil=>⟨_,rfl,r⟩
theorem Vals.zero:∀{us:List Value},Vals [] us->us=[]
 |_,.nil=>rfl
theorem Vals.reverse{xs:List V}{us:List Value}(h:Vals xs us):Vals xs.reverse us.reverse:=by
 induction h with
 |nil=>exact .nil
 |cons r t ih=>rw[List.reverse_cons,List.reverse_cons];exact Vals.append ih (.cons r .nil)
theorem Vals.rep{xs:List V}{us:List Value}(h:Vals xs us):∀k:Nat,Vals (List.replicate k xs).flatten (List.replicate k us).flatten
 |0=>.nil
 |k+1=>by
  rw[replicate_succ,replicate_succ,flatten_cons,flatten_cons];exact Vals.append h (Vals.rep h k)
theorem foldl_rep(its:List Value):∀(k:Nat) (acc:List Value),
  List.foldl (λx1 x2=>x1++x2) acc.toArray (List.replicate k its.toArray)=(acc++(List.replicate k its).flatten).toArray
 |0,acc=>by simp
 |k+1,acc=>by
  have e:acc.toArray++its.toArray=(acc++its).toArray:=by simp
  have e2:(acc++its)++(List.replicate k its).flatten=acc++(List.replicate (k+1) its).flatten:=by
   rw[replicate_succ,flatten_cons,append_assoc]
  rw[<-e2,<-foldl_rep its k (acc++its),<-e,replicate_succ,foldl_cons]
section
variable {X:Cx}{pins:List (Addr×Obj)}{σ:St}{H:Hp}{s:Shared}{l b:Addr}{xs ys zs:List V}
theorem Inv.EV{its its':List Value}{n:Nat}{f:Array Value->Array Value}{t':Nat}(I:Inv X pins σ H s)(hH:H l=some (.lst xs))
  (e:s.heap.get? l=some { cls:=.type "list",data:=.seq its.toArray n }) (hf:f its.toArray=its'.toArray) (hv:Vals ys its') (hz:ys.length<=sizeLine):
  Inv X pins σ (upd H l (.lst ys)) { s with heap:=s.heap.update l (Obj.mapSeq f),toks:=t' }:=by
 have q:=PySem.IsL.update e f;rw[hf]at q;refine I.write (x:=l) (e:=l) (by rw[hH];exact trivial) (.inl rfl) (λb' u hb hu=>(Heap.get?_update_other s.heap (Obj.mapSeq f) (Ne.symm hb)).trans hu) ⟨_,q⟩ ?_;exact⟨hz,its',_,hv,q⟩
theorem Inv.JK{its:List Value}{t':Nat}(I:Inv X pins σ H s)(hv:Vals ys its)(hz:ys.length<=sizeLine):
  Inv X pins σ (upd H s.heap.objs.size (.lst ys)) { s with heap:=s.heap.push { cls:=.type "list",data:=.seq its.toArray },toks:=t' }:=
 I.laid (λ_ _ q=>get?_push_of_some _ q) (le_refl _) ⟨hz,its,0,hv,get?_push_size _ rfl⟩
theorem Inv.fresh(I:Inv X pins σ H s):H s.heap.objs.size=none:=I.hok.fresh (le_refl _)
theorem Inv.CD(I:Inv X pins σ H s)(hH:H l=some (.lst xs)):xs.length<=sizeLine/\∃(its:List Value) (n:Nat),Vals xs its/\xs.length=its.length/\s.heap.get? l=some { cls:=.type "list",data:=.seq its.toArray n }:=by
 obtain⟨z,its,n,r,e⟩:=I.hok l _ hH;exact⟨z,its,n,r,r.length,e⟩
theorem zm{n:Nat}(h:n<=sizeLine):Builtin.List.listTooLong n=false:=by
 unfold Builtin.List.listTooLong;exact decide_eq_false (by omega)
end
section
variable {X:Cx}
inductive Ld(x:V)(vs:List V)(H:Hp)(Q:VK):Prop
 |mk(l:Addr)(xs:List V)(y:V)(hx:x=.ref l)(hv:vs=[y])(s:H l=some (.lst xs))(b:xs.length < sizeLine)(q:Q .non (upd H l (.lst (xs++[y]))))
def rT:V->List V->Hp->VK->Prop:=λx vs H Q=>Ld x vs H Q
theorem qG:Lj X "list.append" rT:=by
 intro pins s σ H x vs v us Q I rx rv h;obtain⟨l,xs,y,rfl,rfl,hH,hz,q⟩:=h;cases rx;obtain⟨u,rfl,ru⟩:=rv.one;obtain⟨z,its,n,r,hl,e⟩:=I.CD hH;refine call_meets F.slot_list_append ⟨_,e,rfl⟩ F.entry_list_append (F.args_list_append_2 _ _) (PySem.list_append l its.toArray n u (by rw[size_toArray];omega)) ⟨e,?_⟩;refine⟨.non,_,I.EV (its':=its++[u]) hH e (by simp) (r.append (.cons ru .nil)) ?_,rfl,q⟩;rw[length_append,List.length_singleton];omega
def J1:V->List V->Hp->VK->Prop:=λx vs H Q=>∃l b xs zs,x=.ref l/\vs=[.ref b]/\H l=some (.lst xs)/\H b=some (.lst zs)/\xs.length+zs.length<=sizeLine/\Q .non (upd H l (.lst (xs++zs)))
def Ms:V->List V->Hp->VK->Prop:=λx vs H Q=>∃l xs y,x=.ref l/\vs=[]/\H l=some (.lst xs)/\xs[xs.length - 1]? =some y/\Q y (upd H l (.lst xs.dropLast))
def K8:V->List V->Hp->VK->Prop:=λx vs H Q=>∃l xs i k y,x=.ref l/\vs=[.int i]/\H l=some (.lst xs)/\ -(2 ^ 63)<=i/\i < 2 ^ 63/\seqIndex? i xs.length=some k/\xs[k]? =some y/\Q y (upd H l (.lst (xs.eraseIdx k)))
def uH:V->List V->Hp->VK->Prop:=λx vs H Q=>∃l xs,x=.ref l/\vs=[]/\H l=some (.lst xs)/\Q .non (upd H l (.lst xs.reverse))
theorem jZ:Lj X "list.reverse" uH:=by
 intro pins s σ H x vs v us Q I rx rv h;obtain⟨l,xs,rfl,rfl,hH,q⟩:=h;cases rx;have hus:=rv.zero;subst hus;obtain⟨z,its,n,r,hl,e⟩:=I.CD hH;refine call_meets F.slot_list_reverse ⟨_,e,rfl⟩ F.entry_list_reverse (F.args_list_reverse_1 _) (AutoSeq1.list_reverse_list_0 l its.toArray n (by rw[size_toArray];omega)) ⟨e,?_⟩;refine⟨.non,_,I.EV (its':=its.reverse) hH e (by simp) r.reverse ?_,rfl,q⟩;rw[length_reverse];omega
def BL:V->List V->Hp->VK->Prop:=λx vs H Q=>∃l xs,x=.ref l/\vs=[]/\H l=some (.lst xs)/\Q .non (upd H l (.lst []))
theorem oq:Lj X "list.clear" BL:=by
 intro pins s σ H x vs v us Q I rx rv h;obtain⟨l,xs,rfl,rfl,hH,q⟩:=h;cases rx;have hus:=rv.zero;subst hus;obtain⟨z,its,n,r,hl,e⟩:=I.CD hH;refine call_meets F.slot_list_clear ⟨_,e,rfl⟩ F.entry_list_clear (F.args_list_clear_1 _) (AutoSeq1.list_clear_list_0 l its.toArray n (by rw[size_toArray];omega)) ⟨e,?_⟩;exact⟨.non,_,I.EV (its':=[]) (ys:=[]) hH e rfl .nil (zero_le _),rfl,q⟩
def MP:R2:=λx y H Q=>∃l b xs zs,x=.ref l/\y=.ref b/\H l=some (.lst xs)/\H b=some (.lst zs)/\xs.length+zs.length<=sizeLine/\∀p,H p=none->Q (.ref p) (upd H p (.lst (xs++zs)))
def HZ:R2:=λx y H Q=>∃l k xs,x=.ref l/\y=.int k/\H l=some (.lst xs)/\ -(2 ^ 63)<=k/\k < 2 ^ 63/\xs.length * k.toNat<=sizeLine/\
 ∀p,H p=none->Q (.ref p) (upd H p (.lst (List.replicate k.toNat xs).flatten))
theorem len_rep{α:Type}(xs:List α)(k:Nat):(List.replicate k xs).flatten.length=k * xs.length:=by
 induction k with
 |zero=>simp
 |succ k ih=>rw[replicate_succ,flatten_cons,length_append,ih,Nat.succ_mul,Nat.add_comm]
theorem vO:gX X (binaryOp .Mult) HZ:=by
 intro pins s σ H x y v u Q I rx ry h;obtain⟨l,k,xs,rfl,rfl,hH,h1,h2,hz,q⟩:=h;cases rx;obtain⟨t,rfl⟩:=ry;obtain⟨z,its,n,r,hl,e⟩:=I.CD hH;have hlen:its.toArray.size * k.toNat<=sizeLine:=by rw[size_toArray,<-hl];exact hz
 have hcap:¬its.toArray.size * k.toNat > (2 ^ 63 - 1) / 8:=by
  have:(sizeLine:Nat)<=(2 ^ 63 - 1) / 8:=by decide
  omega
 have hfit:¬(!Builtin.List.listFitsIndex k)=true:=by
  rw[fitsIndex_both h1 h2];exact Bool.false_ne_true
 have hlong:¬Builtin.List.listTooLong (its.toArray.size * k.toNat)=true:=by
  rw[zm hlen];exact Bool.false_ne_true
 have hnew:List.foldl (λx1 x2=>x1++x2) #[] (List.replicate (if its.toArray.isEmpty=true then 0 else k.toNat) its.toArray)=(List.replicate k.toNat its).flatten.toArray:=by
  have f0:∀m:Nat,List.foldl (λx1 x2=>x1++x2) #[] (List.replicate m its.toArray)=(List.replicate m its).flatten.toArray:=λm=>by
   have:=foldl_rep its m [];rw[nil_append]at this;exact this
  rw[f0];cases its with
  |nil=>simp
  |cons a r'=>rw[if_neg (by simp)]
 refine wpAny_binaryOp_repeat_ref (T:= "list") (U:= "int") (by decide) ⟨_,e,rfl⟩ (λs'=>typeIs_int s' k t) noFill_list_mul F.fills_int_mul F.slot_int_rmul repeat_list F.slot_int_index.lookup
  (call_meets F.slot_int_rmul (typeIs_int s k t) F.entry_int_rmul (F.args_int_rmul_2 _ _) (int___rmul___int_list k t l its.toArray n)
   ⟨e,rfl,⟨_,e,rfl⟩,call_meets F.slot_list_mul ⟨_,e,rfl⟩ F.entry_list_mul (F.args_list_mul_2 _ _) (AutoListH.list___mul___list_int_3 l its.toArray n k t hfit hcap hlong) ⟨e,?_⟩⟩)
 rw[hnew];exact⟨.ref _,_,I.JK (t':=s.toks) (r.rep k.toNat) (by rw[len_rep,Nat.mul_comm];exact hz),rfl,q _ I.fresh⟩
end
section
variable {prog:Program}{w:World}{A:Around}{E:Value->Shared->Prop}{s:Shared}
set_option maxRecDepth 100000 in
end
section
variable {X:Cx}
end
end L2
namespace Att
open PySem PySem.W PySem.Calls PyProof.Rows
theorem nE{P:Params}{h:Heap}:∀(ns:List Int) (vs:List Value),WellAll P h vs (ns.map WData.int)->IntsAre vs ns:=by
 intro ns
 induction ns with
 |nil=>
  intro vs w;rw[map_nil]at w;cases w;exact .nil
 |cons n ns ih=>
  intro vs w;rw[map_cons]at w;cases w with
  |cons a b=>
   cases a;exact .cons _ _ (ih _ b)
theorem yA{l:OpenLaw}{n:Nat}(hn:l.most=some n){P:Params}{h:Heap}{args:List WData}{vals:List Value}
  (hpre:l.row.toRowW.claim.pre args=true)(hwl:WellAll P h vals args):
  ∃a vs ns,vals=[Value.ref a]/\args=[WData.list (ns.map WData.int)]/\h.get? a=some { cls:=.type "list",data:=.seq vs.toArray }/\IntsAre vs ns/\ns.length<=n:=by
 have hsh:WShape.hasAll [] args [.list .int]=true:=(pre_splitW hpre).1;have hc:l.pre.holds [] { args:=args }=true:=(pre_splitW hpre).2;obtain⟨d,r,rfl,h1,h2⟩:=hasAllW_cons hsh;obtain rfl:=hasAllW_nil h2;obtain⟨xs,rfl,h3⟩:=hasW_list h1;obtain⟨ns,rfl⟩:=items_int h3;have hlen:ns.length<=n:=by
  unfold OpenLaw.pre at hc;have h4:(WTm.not (.lt (.lit (.int (n:Int))) (.len (.arg 0)))).holds [] { args:=[.list (ns.map .int)] }=true:=by
   have h4:=(holds_andW hc).1;rw[hn]at h4;exact h4
  have h5:=condW_of h4 (w_not (w_lt w_lit (w_len_list (w_arg rfl))));rw[length_map]at h5;refine Nat.le_of_not_lt λq=>?_;have q':(n:Int) < ((ns.length:Nat):Int):=by omega
  first
   | (rw[decide_eq_true q']at h5;exact absurd h5 (by decide))
   | (simp at h5;omega)
 cases hwl with
 |cons w1 w2=>
  cases w2;cases w1 with
  |list ho hall=>exact⟨_,_,ns,rfl,rfl,ho,nE ns _ hall,hlen⟩
theorem xQ(l:OpenLaw)(args:List WData):l.row.toRowW.claim.post args (.bool true) args=true:=
 postW_of (r:=l.row.toRowW) (X:=(true == true))
  (show WShape.has [] (.bool true) .bool=true by first|rfl|decide|simp[WShape.has,WShape.arms,WShape.armsAll])
  (show(WTm.eq .res (.lit (.bool true))).value [] { args:=args,res:=some (.bool true),after:=args }=some (.bool (true == true)) from w_eq_bool (w_res rfl) w_lit) rfl
theorem tf{l:OpenLaw}{n:Nat}{q:Program}{loose:List Str}{XP:(Str->Option Value)->Heap->Prop}{YP:World->Heap->Prop}{d:DefRec}
  (hn:l.most=some n)(hdf:d.params.defaults=[])
  (call:∀(w:World)(s₀ s₁:Shared)(mg mb:Str->Option Value)(fa:Addr)(o:Obj)(pm cd doc:Value)(a:Addr)(vs:List Value)(ns:List Int),
   Ground q loose [] XP w s₀ mg mb s₁.heap->YP w s₁.heap->
   s₁.heap.get? fa=some o->o.data=.func (docDef d.name d.params d.body d.scope pm cd doc)->s₁.heap.CodeRec cd d.name->mg d.name=some (.ref fa)->
   s₁.heap.get? a=some { cls:=.type "list",data:=.seq vs.toArray }->IntsAre vs ns->ns.length<=n->s₁.gens= #[]->
   codeAny (model l.prog w) callerA (.call (.ref fa) ⟨[.ref a],[]⟩) (λr s'=>r=.ok (.ret (.bool true))/\OldK s₁.heap s'.heap/\s'.os=s₁.os/\AllBare s'.gens) s₁):
  WalkO q loose XP YP l.row.toRowW d [] (λf vs=>PySem.call f vs):=by
 intro w s₀ s₁ mg mb G Y fa o pm cd doc dV kV ho hd hcd hD hmg hg args vals as hpre hlay hrd hwl hlo;obtain rfl:dV=.none:=Dflts.none hD hdf;obtain rfl:kV=.none:=Dflts.noKw hD;obtain⟨a,vs,ns,rfl,rfl,hobj,hints,hlen⟩:=yA hn hpre hwl;refine enter_call (codeAny_mono (call w s₀ s₁ mg mb fa o pm cd doc a vs ns G Y ho (fd_plain hd) hcd hmg hobj hints hlen hg) λr s' hq=>?_);obtain⟨rfl,h2,h3,h4⟩:=hq;exact⟨.inl ⟨.bool true,.bool true,[],rfl,λ_=>rfl,.bool true,xQ l _,λ_=>⟨List.Pairwise.nil,λ_ hm=>(nomatch hm)⟩⟩,h2,h3,h4⟩
section
variable {prog:Program}{w:World}{A:Around}{E:Value->Shared->Prop}{s:Shared}{K:Frag}
def KP(h:Heap):Heap:={ h with objs:= #[] }
def ledger(h:Heap)(L d:Addr):List (Addr×Obj):=(List.range h.objs.size).filterMap λa=>if a=L\/a=d then none else(h.get? a).map λo=>(a,o)
end
end Att
namespace L2
open PySem PySem.Spec PyProof.Rows
theorem qR:∀{vs:List Value}{ns:List Int},IntsAre vs ns->Vals (ns.map V.int) vs
 |_,_,.nil=>.nil
 |_,_,.cons n t h=>.cons ⟨t,rfl⟩ (qR h)
def Gu(H:Hp):Prop:=∀b,H b=none\/∃o xs,H b=some (.frz o (.lst xs))
theorem AO{P:Program}{w:World}{K:PySem.W.Frag}{mg mb:Str->Option Value}{CX:zf}{k:Nat}{fa a:Addr}{fd:FuncData}{x:Str}{sp:Sp}{s₁:Shared}{vs:List Value}{ns:List Int}
  (KX:K.In s₁.heap) (hns:s₁.heap.Ns mainGlobals mg) (hb:s₁.heap.Ns builtinsNs mb) (hbb:∀x:Str,x≠ "__name__" ->mb x=bootBuiltins x) (hlim:s₁.heap.NoLimit) (hg:s₁.gens= #[])
  (ha:s₁.heap.get? a=some { cls:=.type "list",data:=.seq vs.toArray }) (hi:IntsAre vs ns) (hl:ns.length<=sizeLine) (hr:dF k callerA)
  (F:∀base:Heap,K.In base->base.Ns mainGlobals mg->eC P w K mg base CX k fa fd [x] sp)(hbind:∀(s:Shared)(u:Value),BindsTo s fd ⟨[u],[]⟩ [(x,u)])
  (hsp:∀H:Hp,Gu H->cL K H a (ns.map V.int)->sp [.ref a] H (λv _=>v=.bl true) λ_ _ _=>False)
  (hCX:∀H e s',CX [] H s₁ (λ_ _ _=>False) e s'->False):
  codeAny (model P w) callerA (.call (.ref fa) ⟨[.ref a],[]⟩) (λr s'=>r=.ok (.ret (.bool true))/\OldK s₁.heap s'.heap/\s'.os=s₁.os/\AllBare s'.gens) s₁:=by
 have rv:=qR hi;have lenV:=hi.length;have core:∀H:Hp,Gu H->cL K H a (ns.map V.int)->gw P w H s₁.heap->(∀b,H b≠none->b=a)->(H a≠none->K.lookup a=none)->
   codeAny (model P w) callerA (.call (.ref fa) ⟨[.ref a],[]⟩) (λr s'=>r=.ok (.ret (.bool true))/\OldK s₁.heap s'.heap/\s'.os=s₁.os/\AllBare s'.gens) s₁:=by
  intro H hO hS hok hA hK;have base_of:∀{b:Addr}{o:Obj},s₁.heap.get? b=some o->H b=none->(sh s₁.heap H).get? b=some o:=λe n=>zp e n;have noA:∀{b:Addr}{o:Obj}{es:Array DictEntry}{ep:Nat},s₁.heap.get? b=some o->o.data=.dict es ep->H b=none:=λ{b o es ep} e d=>by
   cases q:H b with
   |none=>rfl
   |some u=>
    have e':b=a:=hA b (by rw[q];simp);subst e';rw[ha]at e;cases e;have d':Data.seq vs.toArray _=Data.dict es ep:=d;cases d'
  have nsK:∀{b:Addr}{m:Str->Option Value},s₁.heap.Ns b m->(sh s₁.heap H).Ns b m:=λ{b m} ⟨o,es,ep,e,d,r⟩=>⟨o,es,ep,base_of e (noA e d),d,r⟩;have hKb:K.In (sh s₁.heap H):=λb o e=>base_of (KX b o e) (by
   cases q:H b with
   |none=>rfl
   |some u=>
    have e':b=a:=hA b (by rw[q];simp);subst e';rw[hK (by rw[q];simp)]at e;cases e)
  have hM:Mod K mg (sh s₁.heap H):=⟨hKb,nsK hns,⟨mb,nsK hb,hbb⟩,let ⟨mc,h1,h2⟩:=hlim;⟨mc,nsK h1,h2⟩⟩;have e0:qg P w K mg (sh s₁.heap H) callerA [] s₁ H:=⟨rfl,hM,λb o e=>Cv e,le_of_eq (zb _ _),trivial,λb hb=>absurd (show b∈([]:List Addr) from hb) (by simp),hok,.of_eq hg⟩;refine codeAny_mono ((F _ hKb (nsK hns)).run callerA [] s₁ H ⟨[.ref a],[]⟩ [.ref a] [.ref a] _ _ hr e0 (hbind s₁ (.ref a)) (.cons rfl .nil) (hsp H hO hS)) λr s' h=>?_;cases r with
  |error e=>exact(hCX H e s' h).elim
  |ok fl=>
   cases fl with
   |next=>exact False.elim h
   |brk=>exact False.elim h
   |cont=>exact False.elim h
   |ret u=>
    obtain⟨v,H',os,bare,un,hok',r',q⟩:=h;have q':v=.bl true:=q;subst q';obtain rfl:u=Value.bool true:=r';refine⟨rfl,OldK.of_keep λb o e=>?_,os,bare⟩;cases q:H b with
    |none=>exact un.keep b o e q (by intro z;exact absurd (show b∈([]:List Addr) from z) (by simp)) (by simp)
    |some u=>
     rcases hO b with z|⟨ob,xs,z⟩
     ·rw[q]at z;cases z
     ·have z2:=un.frzs b ob _ z
      obtain⟨e1,_⟩:=hok b _ z;obtain⟨e2,_⟩:=hok' b _ z2;rw[e]at e1;cases e1;exact e2
 cases hk:K.lookup a with
 |some o=>
  have e:=KX a o hk;rw[ha]at e;cases e;refine core (λ_=>none) (λ_=>.inl rfl) (.inr ⟨_,vs.toArray,_,hk,rfl,rfl,rfl,by rw[size_toArray,lenV];exact hl,by simpa using rv⟩) (λb u z=>by have z':(none:Option HO)=some u:=z;cases z') (λb z=>absurd rfl z) λz=>absurd rfl z
 |none=>
  refine core (λb=>if b=a then some (.frz { cls:=.type "list",data:=.seq vs.toArray } (.lst (ns.map V.int))) else none) (λb=>?_) (.inl (.inr ⟨{ cls:=.type "list",data:=.seq vs.toArray },if_pos rfl⟩)) (λb u z=>?_) (λb z=>?_) λ_=>hk
  ·by_cases hb:b=a
   ·exact .inr ⟨_,_,if_pos hb⟩
   ·exact .inl (if_neg hb)
  ·by_cases hb:b=a
   ·have z':=(if_pos hb).symm.trans z
    cases z';subst hb;exact⟨ha,by rw[length_map];exact hl,vs,_,rv,ha⟩
   ·have z':=(if_neg hb).symm.trans z
    cases z'
  ·by_cases hb:b=a
   ·exact hb
   ·exact absurd (if_neg hb) z
end L2
namespace L2
open PySem PySem.Spec PyProof.Rows
abbrev Nu{K:PySem.W.Frag}{h:Heap}(_:K.In h):PySem.W.Frag:=K
theorem CY{l:PySem.W.OpenLaw}{n k:Nat}{q:Program}{loose:List Str}{XP:(Str->Option Value)->Heap->Prop}{YP:World->Heap->Prop}{d:DefRec}{K:Params->PySem.W.Frag}{CX:World->zf}{sp:World->Sp}{x:Str}
  (hn:l.most=some n)(hn2:n<=sizeLine)(hdf:d.params.defaults=[])(hr:dF k callerA)
  (hY:∀(w:World)(h:Heap),YP w h->(K w.params).In h)
  (F:∀(w:World)(mg:Str->Option Value)(fa:Addr)(h:Heap),(K w.params).In h->h.Ns mainGlobals mg->mg d.name=some (.ref fa)->
   ∃fd:FuncData,(∀(s:Shared) (u:Value),BindsTo s fd ⟨[u],[]⟩ [(x,u)])/\
    ∀base:Heap,(K w.params).In base->base.Ns mainGlobals mg->eC l.prog w (K w.params) mg base (CX w) k fa fd [x] (sp w))
  (hsp:∀(w:World) (H:Hp) (a:Addr) (ns:List Int),ns.length<=n->Gu H->cL (K w.params) H a (ns.map V.int)->sp w [.ref a] H (λv _=>v=.bl true) λ_ _ _=>False)
  (hCX:∀(w:World) (H:Hp) (s:Shared) (e:Value) (s':Shared),CX w [] H s (λ_ _ _=>False) e s'->False):
  PySem.W.WalkO q loose XP YP l.row.toRowW d [] (λf vs=>PySem.call f vs):=by
 refine Att.tf hn hdf λw s₀ s₁ mg mb fa o pm cd doc a vs ns G Y ho hd hcd hmg hobj hints hlen hg=>?_;have KX:=hY w _ Y;obtain⟨fd,hb,hF⟩:=F w mg fa _ KX G.T.g hmg;exact AO KX G.T.g G.T.b G.T.builtins G.T.nolimit hg hobj hints (le_trans hlen hn2) hr hF hb (λH hO hS=>hsp w H a ns hlen hO hS) λH e s'=>hCX w H s₁ e s'
end L2
namespace L2
open PySem PySem.Spec PyProof.Rows
abbrev m9:zf:=λ_ _ _ _ _ _=>False
abbrev E0:XK:=λ_ _ _=>False
theorem wJ{X:Cx}:Passes m9 X E0:=λ_ _ _ _ _ _ _ h=>h.elim
structure pT(K:PySem.W.Frag)(x qual:Str)(st:Stmt)(f:Addr)(fd:FuncData):Prop where
 ex:∃(oc:Value) (od:Option Addr) (kV doc pm:Value) (an:Option Addr) (cdv ct:Value) (osl:Array (Option Value)),
  fd=fnOf x qual (ef st) (cX st) (cG st) .none kV doc pm an cdv ct/\K.lookup f=some ⟨oc,od,.func fd,osl⟩/\codeIn K cdv qual=true
 kp:keepIn K (.ref f)=true
section
variable {P:Program}{w:World}{K:PySem.W.Frag}{mg:Str->Option Value}{base:Heap}
theorem pT.ok{x qual:Str}{st:Stmt}{f:Addr}{fd:FuncData}{N ps:List Str}{k:Nat}{sp:Sp}(F:pT K x qual st f fd)(S:cI N ps (cG st))(len:∀vs H Q E,sp vs H Q E->vs.length=ps.length)
  (hbody:∀(cdv:Value)(A:Around)(outer:List Env)(s:Shared)(H:Hp)(vs:List V)(Q:VK)(E:XK),dF k (A.deeper (envOfC qual (cG st) s.heap.objs.size f cdv))->sp vs H Q E->
   ∃t,wg (nj m9 P w K mg base N qual (cG st) f cdv A outer s H E).qU (cX st) t/\t { nx:=λ_ H'=>Q .non H',rt:=Q } (start N vs) H):eC P w K mg base m9 (k+1) f fd ps sp:=by
 obtain⟨oc,od,kV,doc,pm,an,cdv,ct,osl,rfl,lk,hcd⟩:=F.ex;refine El lk hcd S len λA outer s H vs Q E hr hsp=>?_;obtain⟨t,h,q⟩:=hbody cdv A outer s H vs Q E hr hsp;exact⟨t,h.qU,q⟩
theorem pT.binds{x qual:Str}{st:Stmt}{f:Addr}{fd:FuncData}{ps:List Str}(F:pT K x qual st f fd)
  (h:∀(kV doc pm:Value)(an:Option Addr)(cdv ct:Value)(us:List Value),us.length=ps.length->bindArgs (fnOf x qual (ef st) (cX st) (cG st) .none kV doc pm an cdv ct) ⟨us,[]⟩=pure (ps.zip us)):Binds K fd ps []:=by
 obtain⟨oc,od,kV,doc,pm,an,cdv,ct,osl,rfl,lk,hcd⟩:=F.ex;exact .all (h kV doc pm an cdv ct)
theorem jc{x qual:Str}{st:Stmt}{f:Addr}{oc:Value}{od an:Option Addr}{osl:Array (Option Value)}{kV doc pm cdv ct:Value}(l:K.lookup f=some ⟨oc,od,.func (fnOf x qual (ef st) (cX st) (cG st) .none kV doc pm an cdv ct),osl⟩)
  (c:codeIn K cdv qual=true)(k:keepIn K (.ref f)=true):pT K x qual st f (fnOf x qual (ef st) (cX st) (cG st) .none kV doc pm an cdv ct):=⟨⟨oc,od,kV,doc,pm,an,cdv,ct,osl,rfl,l,c⟩,k⟩
end
theorem eU{A:Around}{k:Nat}(hr:dF k A):A.units+1 < cLine:=Nat.lt_of_le_of_lt (Nat.add_le_add_left (by decide:1<=64) _) hr.units
section
variable {X:Cx}
theorem pv (i:Nat){x:Str}{pos:Pos}(hN:X.N[i]? =some x:=by rfl) (hv:K3 X.env.scope x:=by first|exact Or.inl rfl|exact Or.inr (Or.inl rfl)|exact Or.inr (Or.inr rfl)) (hd:(x == ("__debug__" :Str))=false:=by decide)
  (hcd:(x == ("__classdict__" :Str))=false:=by decide):PE X (.Name x pos) (iV i):=mS hN hv hd hcd
end
theorem cV{A B:Prop}(h:B):if false=true then A else B:=by
 rw[if_neg Bool.false_ne_true];exact h
theorem dq{A B:Prop}(h:A):if true=true then A else B:=by
 rw[if_pos rfl];exact h
theorem cZ{c A B:Prop} [Decidable c] (h1:c->A)(h2:¬c->B):if c then A else B:=by
 by_cases h:c
 ·rw[if_pos h]
  exact h1 h
 ·rw[if_neg h]
  exact h2 h
def cF(H H':Hp):Prop:=∀b o,H b=some o->H' b=some o
theorem cF.refl(H:Hp):cF H H:=λ_ _ h=>h
theorem cF.trans{H H1 H2:Hp}(a:cF H H1)(b:cF H1 H2):cF H H2:=λc o h=>b c o (a c o h)
theorem cF.free{H H':Hp}(e:cF H H'){l:Addr}(h:H' l=Option.none):H l=Option.none:=by
 cases q:H l with
 |none=>rfl
 |some o=>
  rw[e l o q]at h;cases h
theorem cF.seq{K:PySem.W.Frag}{H H':Hp}{a:Addr}{xs:List V}(e:cF H H')(h:cL K H a xs):cL K H' a xs:=by
 rcases h with (h|⟨o,h⟩)|h
 ·exact .inl (.inl (e _ _ h))
 ·exact .inl (.inr ⟨o,e _ _ h⟩)
 ·exact .inr h
end L2
namespace L2
open PySem PySem.Builtin.Str
end L2
namespace L2
open PySem PySem.Spec PyProof.Rows
theorem vE{env:Env}{scope:Scope}(h:∀y∈scope.names,y.2=.free->∃c,env.cells.lookup y.1=some c):
  ∃cl,closureFor scope env=pure cl/\(∀y c,cl.lookup y=some c->env.cells.lookup y=some c)/\(∀y∈scope.names,y.2=.free->cl.lookup y.1=env.cells.lookup y.1):=by
 have gen:∀(names:List (Str×NameKind)) (acc:List (Str×Addr)),(∀y∈names,y.2=.free->∃c,env.cells.lookup y.1=some c)->(∀y c,acc.lookup y=some c->env.cells.lookup y=some c)->
   ∃cl,(forIn (m:=Sem) names acc λx r=>match x with
    | (name,kind)=>if(kind == NameKind.free)=true then do
      let a <-cellOf env name
      pure (ForInStep.yield ((name,a)::r))
     else pure (ForInStep.yield r))=pure cl/\(∀y c,cl.lookup y=some c->env.cells.lookup y=some c)/\(∀y c,acc.lookup y=some c->cl.lookup y=some c)/\(∀y∈names,y.2=.free->cl.lookup y.1=env.cells.lookup y.1):=by
  intro names
  induction names with
  |nil=>intro acc _ ha;exact⟨acc,rfl,ha,λ_ _ e=>e,λy hy=>nomatch hy⟩
  |cons x r ih=>
   intro acc hn ha;obtain⟨n,k⟩:=x;by_cases hk:k=.free
   ·subst hk
    obtain⟨c,hc⟩:=hn (n,.free) mem_cons_self rfl;have hc':cellOf env n=pure c:=by
     unfold cellOf;rw[show env.cells.lookup n=some c from hc]
    have ha':∀y d,((n,c)::acc).lookup y=some d->env.cells.lookup y=some d:=λy d e=>by
     rw[lookup_cons]at e;cases q:y == n with
     |true=>rw[q]at e;cases e;rw[eq_of_beq q];exact hc
     |false=>rw[q]at e;exact ha y d e
    obtain⟨cl,e,h1,h2,h3⟩:=ih ((n,c)::acc) (λy hy=>hn y (mem_cons_of_mem _ hy)) ha';refine⟨cl,?_,h1,λy d q=>?_,λy hy hf=>?_⟩
    ·rw[forIn_cons]
     simp only[beq_self_eq_true,if_true,hc'];exact e
    ·cases z:y == n with
     |true=>
      have:y=n:=eq_of_beq z;subst this;have q1:=ha y d q;rw[hc]at q1;cases q1;exact h2 y c (by rw[lookup_cons,z])
     |false=>exact h2 y d (by rw[lookup_cons,z];exact q)
    ·rcases mem_cons.mp hy with rfl|hy
     ·have:=h2 n c (by rw[lookup_cons,beq_self_eq_true])
      rw[this,hc]
     ·exact h3 y hy hf
   ·have hb:(k == NameKind.free)=false:=by simpa using hk
    obtain⟨cl,e,h1,h2,h3⟩:=ih acc (λy hy=>hn y (mem_cons_of_mem _ hy)) ha;refine⟨cl,?_,h1,h2,λy hy hf=>?_⟩
    ·rw[forIn_cons]
     simp only[hb,false_eq_true,if_false];exact e
    ·rcases mem_cons.mp hy with rfl|hy
     ·exact absurd hf hk
     ·exact h3 y hy hf
 obtain⟨cl,e,h1,_,h3⟩:=gen scope.names [] h (λy c e=>by cases e);refine⟨cl,?_,h1,h3⟩;simp only[closureFor];rw[show(forIn scope.names ([]:List (Str×Addr)) _:Sem _)=pure cl from e];rfl
theorem lp{env:Env}(hk:env.scope.kind=.function):∀{names:List (Str×NameKind)}{x:Str},names.lookup x=some .free->env.kindOf x=some .cell->
  (names.map λ(n,k)=>if(k == NameKind.free && env.scope.kind == .function && env.kindOf n == some .cell) then(n,NameKind.cell) else(n,k)).lookup x=some .cell
 |[],_,h,_=>by simp at h
 | (n,k)::r,x,h,hc=>by
  have ih:=@lp env hk r x;show List.lookup x ((if(k == NameKind.free && env.scope.kind == .function && env.kindOf n == some .cell)=true then(n,NameKind.cell) else(n,k))::_)=_;cases hx:x == n with
  |true=>
   simp only[lookup_cons,hx]at h;cases h;have e:x=n:=eq_of_beq hx;subst e;rw[if_pos (by simp[hk,hc])];simp[lookup_cons]
  |false=>
   simp only[lookup_cons,hx]at h;by_cases hc':(k == NameKind.free && env.scope.kind == .function && env.kindOf n == some .cell)=true
   ·rw[if_pos hc'];simp only[lookup_cons,hx];exact ih h hc
   ·rw[if_neg hc'];simp only[lookup_cons,hx];exact ih h hc
theorem kN{env:Env}{scope:Scope}{y:Str}{k':NameKind}(h:(relabel scope env).names.lookup y=some k')(hk':k'=.cell\/k'=.free)(nocell:∀z∈scope.names,z.2≠.cell):(y,NameKind.free)∈scope.names:=by
 have hm:=PySem.mem_of_lookup h;obtain⟨⟨n,k⟩,hm',e⟩:=mem_map.mp hm;dsimp only at e;split at e
 ·rename_i c
  cases e;rw[and_eq_true,and_eq_true]at c;have e2:k=.free:=by simpa using c.1.1
  subst e2;exact hm'
 ·cases e
  rcases hk' with rfl|rfl
  ·exact absurd rfl (nocell _ hm')
  ·exact hm'
def dD(X:Cx)(N':List Str)(scope:Scope)(cl:List (Str×Addr))(fp:List Addr)(s3:Shared)(H3:Hp)(C:Addr):Cx:=
 { X with N:=N',s₀:=s3,H₀:=H3,env:=compEnvC scope cl C X.env,outer:=X.stack,ex:=fp,fn:=λ_=>false,pn:=[],xe:=λ_ _=>False }
def d9(is:List Nat)(σ:St):St:=is.map λi=>(σ[i]?).join
def iM(J:It)(is:List Nat)(te:TE)(σ:St)(H1:Hp)(Q:VK):Prop:=∀D,H1 D=none->∃W:Nat->Nat->List V->Hp->Prop,(∃m,W 0 m [] (upd H1 D (.lst [])))/\
 ∀i m ys H2,W i m ys H2->H2 D=some (.lst ys)/\((J.stop i H2/\Q (.ref D) H2)\/(J.go i H2/\∀v H3,J.yld i H2 v H3->te (some v::d9 is σ) H3 λy H4=>
  H4 D=some (.lst ys)/\ys.length < sizeLine/\∃m',m' < m/\W (i+1) m' (ys++[y]) (upd H4 D (.lst (ys++[y])))))
def Lu(wi:TI)(is:List Nat)(te:TE):TE:=λσ H Q=>wi σ H λJ H1=>iM J is te σ H1 Q
structure HU(sc:Scope)(N:List Str)(x:Str)(scope:Scope)(is:List Nat)(ns:List Str):Prop where
 kind:scope.kind=.function:=by rfl
 nocell:∀y∈scope.names,y.2≠.cell:=by decide+kernel
 names:∀y∈scope.names,y.2=.local->scope.names.lookup y.1=some .local:=by decide+kernel
 free:∀y∈scope.names,y.2=.free->sc.names.lookup y.1=some .cell:=by decide+kernel
 hx:scope.names.lookup x=some .local:=by rfl
 cap:ns.map some=is.map λi=>N[i]? :=by rfl
 nd:(x::ns).Nodup:=by decide+kernel
 capf:∀y∈ns,scope.names.lookup y=some .free/\sc.names.lookup y=some .cell:=by decide+kernel
section
variable {X:Cx}{x:Str}{px pos:Pos}{elt iter:Expr}{scope:Scope}{wi:TI}{te:TE}{is:List Nat}{ns:List Str}
end
end L2
namespace L2
open PySem PySem.Spec PyProof.Rows
section
variable {K:PySem.W.Frag}{is:List Nat}{te:TE}{σ:St}{H:Hp}{Q:VK}
theorem cF.upd{H:Hp}{D:Addr}{o:HO}(h:H D=none):cF H (upd H D o):=λb u e=>by
 rw[cH (cE e h)];exact e
theorem zH{J:It}{xs:List V}(f:V->V)(hz:xs.length<=sizeLine)(hgo:∀i H2,cF H H2->i < xs.length->J.go i H2)(hstop:∀H2,cF H H2->J.stop xs.length H2)
  (hy:∀i H2 v H3,cF H H2->i < xs.length->J.yld i H2 v H3->H3=H2/\xs[i]? =some v)
  (he:∀v H2 Q',v∈xs->cF H H2->Q' (f v) H2->te (some v::d9 is σ) H2 Q')(q:∀D,H D=none->Q (.ref D) (upd H D (.lst (xs.map f)))):iM J is te σ H Q:=by
 intro D hD;refine⟨λi m ys H2=>m=xs.length - i/\i<=xs.length/\ys=(xs.take i).map f/\H2=upd H D (.lst ys),⟨_,rfl,zero_le _,by simp,rfl⟩,?_⟩;rintro i m ys H2 ⟨rfl,hi,hys,rfl⟩;have sm:cF H (upd H D (.lst ys)):=cF.upd hD;refine⟨cD,?_⟩;by_cases hlt:i < xs.length
 ·refine .inr ⟨hgo i _ sm hlt,λv H3 y=>?_⟩
  obtain⟨rfl,hv⟩:=hy i _ v H3 sm hlt y;refine he v _ _ (mem_of_getElem? hv) sm ⟨cD,?_,xs.length - (i+1),by omega,rfl,hlt,?_,Dd⟩
  ·rw[hys,length_map,length_take]
   omega
  ·rw[hys,take_add_one,hv,map_append]
   rfl
 ·have e:i=xs.length:=by omega
  subst e;refine .inl ⟨hstop _ sm,?_⟩;rw[hys,take_length];exact q D hD
theorem cF.GU{K:PySem.W.Frag}{H H':Hp}{a:Addr}{xs:List V}(e:cF H H')(h:cW K H a xs):cW K H' a xs:=by
 rcases h with (h|⟨o,h⟩)|h
 ·exact .inl (.inl (e _ _ h))
 ·exact .inl (.inr ⟨o,e _ _ h⟩)
 ·exact .inr h
theorem BQ{lo:Int}{n:Nat}(f:V->V)(hz:n<=sizeLine)(he:∀(i:Nat) H2 Q',i < n->cF H H2->Q' (f (.int (lo+i))) H2->te (some (.int (lo+i))::d9 is σ) H2 Q')
  (q:∀D,H D=none->Q (.ref D) (upd H D (.lst ((List.range n).map λ(i:Nat)=>f (.int (lo+i)))))):iM (Dz lo n) is te σ H Q:=by
 refine zH (xs:=(List.range n).map λ(i:Nat)=>V.int (lo+i)) f (by simpa using hz) (λi H2 _ hi=>?_) (λH2 _=>?_) (λi H2 v H3 _ hi y=>?_) (λv H2 Q' hv sm q'=>?_) (λD hD=>?_)
 ·show i < n
  simpa using hi
 ·show n<=_
  simp
 ·obtain⟨rfl,rfl⟩:=y
  have hi':i < n:=by simpa using hi
  exact⟨rfl,by simp[hi']⟩
 ·obtain⟨i,hi,rfl⟩:=mem_map.mp hv
  exact he i H2 Q' (mem_range.mp hi) sm q'
 ·rw[map_map]
  exact q D hD
end
def signs(z:Str):List V:=z.cps.toList.map λc=>V.str ⟨#[c]⟩
theorem signs_length(z:Str):(signs z).length=z.cps.size:=by simp[signs]
def Lp(z:Str):It:=⟨λi _=>i < z.cps.size,λi H x H'=>H'=H/\(signs z)[i]? =some x,λi _=>i=z.cps.size⟩
theorem AY{P:Program}{w:World}{K:PySem.W.Frag}{tg:Expr}{ty:String}{z:Str}{t:Tok}(it:Addr)(hW:∀A:Around,A.handled=none->Walks P w A it [it] [it] z.cps.size (SignAt z) (λi h=>h.IsStrIter it ty z t i))
  (hS:∀(A:Around)(i:Nat)(s:Shared)(Q:Value->Shared->Prop)(E:Value->Shared->Prop),s.heap.IsStrIter it ty z t i->Q (.ref it) s->wpAny (model P w) A (pyIter (.ref it)) Q E s)
  (hn:["enumerate", "zip", "dict_itemiterator", "dict_reverseitemiterator", "odict_iterator", "itertools.zip_longest", "itertools.pairwise"].contains ty=false):Turn P w K tg (Lp z) [it] it (λi h=>h.IsStrIter it ty z t i) where
 mem:=by simp
 obj:=λi h st b hb=>by
  have e:b=it:=by simpa using hb
  subst e;obtain⟨o,e,c,d⟩:=st;exact⟨o,e,λv z=>by rw[d]at z;cases z⟩
 keep:=λi h h' st k=>by
  obtain⟨o,e,r⟩:=st;exact⟨o,k it (by simp) o e,r⟩
 item:=by
  intro X hP hw hK hc i pins s σ H E I hf st hg;subst hP hw hK;obtain⟨f0,f1,f2,f3,f4,f5⟩:=hf it (by simp);refine(hW X.A (I.ok.hd hc)).item i s _ _ hg st λv h' tk hv st' kk=>?_;obtain⟨c,u,hcp,rfl⟩:=hv;have I1:Inv X pins σ H { s with heap:=h',toks:=tk }:=I.turned (λb o hb e=>kk b o (by simpa using hb) e) f0 f1 f3 f4 f5;obtain⟨o,e,cc,d⟩:=id st';refine⟨_,rfl,xM (s:={ s with heap:=h',toks:=tk }) e cc d hn ⟨.str ⟨#[c]⟩,H,I1,⟨u,rfl⟩,⟨rfl,?_⟩,st',λb hb=>(hf b hb).1⟩⟩;unfold signs;rw[getElem?_map,getElem?_toList,hcp];rfl
 done:=by
  intro X hP hw hK hc i pins s σ H E I hf st hg;subst hP hw hK;obtain⟨f0,f1,f2,f3,f4,f5⟩:=hf it (by simp);have hg':i=z.cps.size:=hg;subst hg';exact(hW X.A (I.ok.hd hc)).done s _ _ st λh' tk kk=>⟨rfl,I.turned (λb o hb e=>kk b o (by simpa using hb) e) f0 f1 f3 f4 f5⟩
 self:=hS
section
variable {X:Cx}{tg:Expr}
def Kq(tl:TE):TI:=λσ H R=>tl σ H λx H1=>∃z,x=.str z/\R (Lp z) H1
theorem EX{l:Expr}{tl:TE}(hl:PE X l tl):PI X tg l (Kq tl):=by
 intro pins s σ H R I h;refine di (hl pins s σ H _ I h) λv s1 hpat=>?_;obtain⟨x,H1,I1,r1,q1⟩:=hpat;obtain⟨z,e,q⟩:=q1;subst e;obtain⟨t,rfl⟩:=r1;have fin:∀(ty:String) (hW:∀A:Around,A.handled=none->Walks X.prog X.w A s1.heap.objs.size [s1.heap.objs.size] [s1.heap.objs.size] z.cps.size (SignAt z) (λi h=>h.IsStrIter s1.heap.objs.size ty z t i))
   (hS:∀(A:Around) (i:Nat) (s:Shared) (Q:Value->Shared->Prop) (E:Value->Shared->Prop),s.heap.IsStrIter s1.heap.objs.size ty z t i->Q (.ref s1.heap.objs.size) s->wpAny (model X.prog X.w) A (pyIter (.ref s1.heap.objs.size)) Q E s)
   (hn:["enumerate", "zip", "dict_itemiterator", "dict_reverseitemiterator", "odict_iterator", "itertools.zip_longest", "itertools.pairwise"].contains ty=false),
   KA X pins σ tg R (.ref s1.heap.objs.size) { s1 with heap:=s1.heap.push { cls:=.type ty,data:=.fields #[.str z t,.int 0 0] } }:=λty hW hS hn=>by
  refine⟨s1.heap.objs.size,[s1.heap.objs.size],_,_,H1,rfl,I1.kept (t':=s1.toks) λb o e=>get?_push_of_some _ e,AY _ hW hS hn,⟨_,get?_push_size _ rfl,rfl,rfl⟩,λb hb=>?_,q⟩;have e:b=s1.heap.objs.size:=by simpa using hb
  subst e;exact I1.yy (le_refl _) (I1.hok.fresh (le_refl _))
 cases ha:z.cps.all (· < 128)
 ·exact wpAny_pyIter_wide ha (fin "str_iterator" (λA hA=>Walks.strWide hA _ z t) (λA i s Q E st h=>wpAny_pyIter_striter_wide st h) (by decide))
 ·exact wpAny_pyIter_ascii ha (fin "str_ascii_iterator" (λA hA=>Walks.strAscii hA _ z t) (λA i s Q E st h=>wpAny_pyIter_striter_ascii st h) (by decide))
theorem E7{z:Str}{is:List Nat}{te:TE}{σ:St}{H:Hp}{Q:VK}(f:V->V)(hz:z.length<=sizeLine)(he:∀v H2 Q',v∈signs z->cF H H2->Q' (f v) H2->te (some v::d9 is σ) H2 Q')
  (q:∀D,H D=none->Q (.ref D) (upd H D (.lst ((signs z).map f)))):iM (Lp z) is te σ H Q:=
 zH f (by rw[signs_length];exact hz) (λi H2 _ hi=>by rw[signs_length]at hi;exact hi) (λH2 _=>signs_length z) (λi H2 v H3 _ hi y=>y) he q
theorem tH:∀bs:List Bool,((List.range bs.length).all λi=>bs.getD i false)=bs.all id
 |[]=>rfl
 |b::r=>by
  rw[length_cons,List.range_succ_eq_map,all_cons,all_map,all_cons,<-tH r];rfl
theorem qv(hc:X.calm=true):eR X (.builtin "all") (λxs H Q=>∃(p:Addr) (bs:List Bool),xs=[.ref p]/\cL X.K H p (bs.map V.bl)/\Q (.bl (bs.all id)) H):=by
 intro pins s σ H xs us Q I r h;obtain⟨p,bs,rfl,hq,q⟩:=h;obtain⟨u,rfl,rx⟩:=vals1 r;cases rx;obtain⟨its,rv,pl,hz⟩:=I.list hq;have hl:=rv.length;rw[length_map]at hl;have hlt:p < s.heap.objs.size:=by obtain⟨o,n,e,_⟩:=pl;exact lt_size e
 refine call_all_walk (wpAny_pyIter_list pl.isList ?_);refine⟨s.heap.objs.size,[s.heap.objs.size,p],[s.heap.objs.size],its.toArray.size,_,_,λi=>bs.getD i false,rfl,Walks.list (show X.A.in1.handled=none from I.ok.hd hc) s.heap.objs.size p (ne_of_lt hlt) its.toArray,
  ⟨⟨_,get?_push_size _ rfl,rfl,rfl⟩,?_⟩,λi v s' Q' E' hv hQ=>?_,λh' tk kk=>?_⟩
 ·obtain⟨o,e,r⟩:=pl.isList
  exact⟨o,get?_push_of_some _ e,r⟩
 ·have hi:i < bs.length:=by
   have:i < its.length:=by
    have:=(Array.getElem?_eq_some_iff.mp hv).1
    simpa using this
   omega
  have hb:(bs.map V.bl)[i]? =some (V.bl bs[i]):=by simp[hi]
  obtain⟨u,hu,ru⟩:=rv.get hb;have hv':its[i]? =some v:=by simpa using hv
  rw[hu]at hv';cases hv';obtain rfl:v=Value.bool bs[i]:=ru;refine wpAny_truthy_bool ?_;have e:bs.getD i false=bs[i]:=by simp[List.getD,hi]
  rw[<-e];exact hQ
 ·refine⟨.bl (bs.all id),H,?_,?_,q⟩
  ·have I1:Inv X pins σ H { s with heap:=s.heap.push { cls:=.type "list_iterator",data:=.fields #[.ref p,.int 0 0] } }:=I.kept (t':=s.toks) λb o e=>get?_push_of_some _ e
   have I2:Inv X pins σ H { s with heap:=h',toks:=tk }:=I.kept (t':=tk) λb o e=>kk b o (by
    intro z;have z':b=s.heap.objs.size:=by simpa using z
    exact absurd (lt_size e) (by rw[z'];exact lt_irrefl _)) (get?_push_of_some _ e)
   exact I2
  ·show Value.bool _=Value.bool _
   congr 1
   rw[size_toArray,<-hl];exact tH bs
inductive GY(K:PySem.W.Frag)(xs:List V)(H:Hp)(Q:VK):Prop
 |mk(x:V)(t:Value)(n:String)(b:Bool)(e:xs=[x,.ty n])(ty:dU K H x t)(k:kitOne K t (.type n)=some b)(q:Q (.bl b) H)
theorem jt:eR X (.builtin "isinstance") (λxs H Q=>L2.GY X.K xs H Q):=by
 intro pins s σ H xs us Q I r h;obtain⟨x,t,n,b,rfl,ty,e,q⟩:=h;obtain⟨u,c,rfl,rx,rc⟩:=vals2 r;obtain rfl:c=Value.type n:=rc;exact yp I rx ty e λtk=>⟨.bl b,H,I.tok _,rfl,q⟩
theorem qP:gX X (compareOp .LtE) (λx y H Q=>∃i j,x=.str i/\y=.str j/\Q (.bl (!decide (j.cps.toList < i.cps.toList))) H):=by
 intro pins s σ H x y v u Q I rx ry h;obtain⟨i,j,rfl,rfl,q⟩:=h;obtain⟨t,rfl⟩:=rx;obtain⟨t',rfl⟩:=ry;exact PySem.P.le_str ⟨.bl _,H,I,rfl,q⟩
def Fi(z:Str)(lo hi:Option Int):Str:=⟨((z.cps.toList.drop (HT.eJ z.length 0 lo)).take (HT.eJ z.length z.length hi - HT.eJ z.length 0 lo)).toArray⟩
inductive Ko(x:V)(lo hi:Option Int)(H:Hp)(Q:VK):Prop
 |mk(z:Str)(hx:x=.str z)(b:z.length<=sizeLine)(q:Q (.str (Fi z lo hi)) H)
def ML:V->Option Int->Option Int->Hp->VK->Prop:=λx lo hi H Q=>Ko x lo hi H Q
end
end L2
namespace L2
open PySem PySem.Spec PyProof.Rows
theorem Inv.Lc{X:Cx}{pins:List (Addr×Obj)}{σ:St}{H:Hp}{s:Shared}(I:Inv X pins σ H s):sysModules < s.heap.objs.size:=by
 have h:mainGlobals < s.heap.objs.size:=(I.mod.glob.keeps I.bk).lt;exact Nat.lt_trans (by decide) h
theorem Dm{P:Program}{w:World}{H:Hp}(h:Heap)(hb:sysModules < h.objs.size):dk P w H (h.push { cls:=.type "dict",data:=.dict #[] }) h.objs.size (.dK []):=
 ⟨zero_le _,beq_eq_false_iff_ne.mpr (Ne.symm (ne_of_lt hb)),[],.nil,Heap.DictOf.new h⟩
def D7:TE:=λ_ H Q=>∀p,H p=none->Q (.ref p) (upd H p (.dK []))
theorem Ce{X:Cx}{pos:Pos}:PE X (.Dict [] [] pos) D7:=λpins s σ H Q I h=>
 wpAny_Dict_empty ⟨.ref s.heap.objs.size,_,I.laid (a:=s.heap.objs.size) (o:=.dK []) (t':=s.toks) (λ_ _ q=>get?_push_of_some _ q) (le_refl _) (Dm s.heap I.Lc),rfl,h _ (I.hok.fresh (le_refl _))⟩
structure Df(K:PySem.W.Frag)(mg:Str->Option Value)(x:Str)(st:Stmt)(ps:List Str)(f:Addr)(fd:FuncData):Prop where
 fn:pT K x x st f fd
 nm:mg x=some (.ref f)
 bi:Binds K fd ps []
def tys:List String:=["NoneType", "bool", "int", "str", "list", "tuple", "dict"]
def xW(T n:String):Bool:=T == n || (T == "bool" && n == "int")
theorem dB {K:PySem.W.Frag}{T n:String}(hT:T∈tys) (hn:n∈["int", "bool", "str", "list", "tuple"]):kitOne K (.type T) (.type n)=some (xW T n):=by
 simp only[tys,mem_cons,not_mem_nil,or_false]at hT hn;rcases hT with rfl|rfl|rfl|rfl|rfl|rfl|rfl<;>rcases hn with rfl|rfl|rfl|rfl|rfl<;>rfl
section
variable {K:PySem.W.Frag}{H:Hp}{x:V}{T:String}
theorem ty_int (ty:dU K H x (.type "int")):∃i,x=.int i:=by
 generalize h:Value.type "int" =t at ty;cases ty<;>first|exact⟨_,rfl⟩| (injection h with h';exact absurd h' (by decide))|cases h
theorem ty_str (ty:dU K H x (.type "str")):∃z,x=.str z:=by
 generalize h:Value.type "str" =t at ty;cases ty<;>first|exact⟨_,rfl⟩| (injection h with h';exact absurd h' (by decide))|cases h
theorem yV{i:Int}(ty:dU K H (.int i) (.type T)):T= "int" :=by
 generalize h:Value.type T=t at ty;cases ty;injection h
theorem yd{z:Str}(ty:dU K H (.str z) (.type T)):T= "str" :=by
 generalize h:Value.type T=t at ty;cases ty;injection h
end
theorem cK:bootBuiltins "isinstance" =some (.builtin "isinstance"):=by decide+kernel
theorem qS:bootBuiltins "int" =some (.type "int"):=by decide+kernel
theorem nH:bootBuiltins "bool" =some (.type "bool"):=by decide+kernel
theorem vR:bootBuiltins "str" =some (.type "str"):=by decide+kernel
theorem lV:bootBuiltins "all" =some (.builtin "all"):=by decide+kernel
theorem dE:bootBuiltins "len" =some (.builtin "len"):=by decide+kernel
theorem dG:bootBuiltins "list" =some (.type "list"):=by decide+kernel
theorem hU:bootBuiltins "tuple" =some (.type "tuple"):=by decide+kernel
end L2
namespace L2
open PySem PySem.Spec PyProof.Rows
def notStar(e:Expr):Bool:=match e with
 |.Starred _ _=>false
 |_=>true
theorem cR{e:Expr}{rest:List Expr}{env:Env}(h:notStar e=true):starEach (e::rest) env=(false,eval e env)::starEach rest env:=by
 cases e<;>first|rfl|cases h
theorem fg{env:Env}{pos:Pos}:∀{es:List Expr},es.all notStar=true->(backTo pos (starEach es env)).any (·.1)=false
 |[],_=>rfl
 |e::es,h=>by
  rw[all_cons,and_eq_true]at h;rw[cR h.1];exact fg h.2
theorem vc{X:Cx}{e:Expr}{es:List Expr}{te:TE}{t:TA}(ha:PE X e te)(hr:PA X es t)(h:notStar e=true:=by rfl):PA X (e::es) (dA te t):=fw ha hr (cR h)
def jQ(e:Expr):Bool:=match e with
 |.ListComp .. =>true
 |.SetComp .. =>true
 |.DictComp .. =>true
 |_=>false
theorem ja{e:Expr}{tg:Option Expr}{n:Nat}{env:Env}(h:jQ e=false):swapsWith e tg n env=pure false:=by
 cases e<;>first|rfl|cases h
theorem DR{X:Cx}{f:Expr}{as:List Expr}{kw:List Keyword}{p:Pos}{t:TE}(h:PE X (.Call f as kw p) t):PT X (.Call f as kw p) (tB t):=uW h (λ_=>rfl)
theorem Ju{l r:Expr}{op:Operator}{p:Pos}:dO (.BinOp l op r p):=λ_ _=>rfl
theorem Cz{x:Str}{p:Pos}:dO (.Name x p):=λ_ _=>rfl
theorem Ga{c:Const}{k:Nat}{p:Pos}:dO (.Constant c k p):=λ_ _=>rfl
theorem j3{op op':CmpOp}{b c:Expr}(h:op'≠.In:=by decide)(h2:op'≠.NotIn:=by decide):lastMarks [op,op'] [b,c]=false:=by
 have e:lastMarks [op,op'] [b,c]=behindInMarks op' c:=by rfl
 rw[e];exact cJ c h h2
theorem IG{X:Cx}{e:Expr}{te:TE}{p:Pos}(he:PE X e te)(h:jQ e=false:=by rfl):PS X (.Expr e p) (qz te):=Cb he (ja h)
structure Slot(X:Cx)(i:Nat)(x:Str):Prop where
 hN:X.N[i]? =some x
 lc:Loc X.env.scope x
 fn:X.fn x=true\/X.env.scope.names.lookup x=some .local
 db:(x == ("__debug__" :Str))=false
 cd:(x == ("__classdict__" :Str))=false
structure Bt(X:Cx)(x:Str):Prop where
 gl:Gl X x
 nm:X.mg x=none
 hn:x≠ "__name__"
 db:(x == ("__debug__" :Str))=false
structure GQ(X:Cx)(x:Str)(sp:Sp):Prop where
 ex:∃(k:Nat) (f:Addr) (fd:FuncData) (ps:List Str),eC X.prog X.w X.K X.mg X.base m9 k f fd ps sp/\dF k X.A/\X.mg x=some (.ref f)/\keepIn X.K (.ref f)=true/\Binds X.K fd ps []
 gl:Gl X x
 db:(x == ("__debug__" :Str))=false
section
variable {X:Cx}{i:Nat}{x:Str}{sp:Sp}{p pos pos':Pos}{e:Expr}{es:List Expr}{te:TE}{t:TA}
theorem Slot.rd(S:Slot X i x):PE X (.Name x p) (iV i):=mS S.hN (S.lc.elim .inl λh=>.inr (.inl h)) S.db S.cd
theorem Slot.set(S:Slot X i x)(nd:X.N.Nodup)(he:PE X e te)(h:jQ e=false:=by rfl):PS X (.Assign [.Name x pos'] e pos) (uj te (eQ i)):=Fu nd S.hN S.lc he (ja h) S.fn
theorem Slot.tg(S:Slot X i x)(nd:X.N.Nodup):PG X (.Name x p) (eQ i):=n6 nd S.hN S.lc S.fn
theorem Bt.call{id:String}{r:List V->Hp->VK->Prop}(B:Bt X x)(hc:eR X (.builtin id) r)(hv:bootBuiltins x=some (.builtin id))(ha:PA X (e::es) t)(h1:notStar e=true:=by rfl)
  (h2:es.all notStar=true:=by rfl):PE X (.Call (.Name x p) (e::es) [] pos) (Hi r t):=gY hc B.gl B.nm hv ha B.hn B.db (cR h1) (fg h2)
theorem Bt.HH{T:String}{r:List V->Hp->VK->Prop}(B:Bt X x)(hc:eR X (.type T) r)(hv:bootBuiltins x=some (.type T))(ha:PA X (e::es) t)(h1:notStar e=true:=by rfl)
  (h2:es.all notStar=true:=by rfl):PE X (.Call (.Name x p) (e::es) [] pos) (Hi r t):=xO hc B.gl B.nm hv ha B.hn B.db (cR h1) (fg h2)
theorem Bt.ty{n:String}(B:Bt X x)(hv:bootBuiltins x=some (.type n)):PE X (.Name x p) (tC (.ty n)):=nF (v:=.ty n) B.gl B.nm hv rfl B.hn B.db
theorem GQ.call(C:GQ X x sp)(ha:PA X (e::es) t)(h1:notStar e=true:=by rfl)
  (h2:es.all notStar=true:=by rfl):PE X (.Call (.Name x p) (e::es) [] pos) (o6 sp [] E0 t):=by
 obtain⟨k,f,fd,ps,G,hr,nm,kp,bi⟩:=C.ex;exact xo G hr C.gl nm kp bi .nil wJ ha C.db (cR h1) (fg h2)
end
end L2
namespace J
open PySem PySem.Spec PyProof.Rows
open L2 (Cx V Hp St VK TE TT TA TS TG pS TI TO R2 Sp XK E0 m9 eC dF Gl Binds RelV Vals cL cW dU)
structure JE(X:Cx)(e:Expr)(t:TE):Prop where
 out:L2.PE X e t
structure JT(X:Cx)(e:Expr)(t:TT):Prop where
 out:L2.PT X e t
structure JW(X:Cx)(e:Expr)(t:TT):Prop where
 out:L2.PW X e t
structure JA(X:Cx)(es:List Expr)(t:TA):Prop where
 out:L2.PA X es t
structure JS(X:Cx)(st:Stmt)(t:TS):Prop where
 out:L2.PS X st t
structure tP(X:Cx)(st:List Stmt)(t:TS):Prop where
 out:L2.wg X st t
structure JG(X:Cx)(tg:Expr)(g:TG):Prop where
 out:L2.PG X tg g
structure HK(X:Cx)(ts:List Expr)(g:pS):Prop where
 out:L2.Hu X ts g
structure JI(X:Cx)(tg it:Expr)(wi:TI):Prop where
 out:L2.PI X tg it wi
structure JO(X:Cx)(e:Option Expr)(t:TO):Prop where
 out:L2.PO X e t
structure JB(X:Cx)(op:Operator)(r:R2):Prop where
 out:L2.gX X (binaryOp op) r
structure JC(X:Cx)(op:CmpOp)(r:R2):Prop where
 out:L2.gX X (compareOp op) r
structure JU(X:Cx)(op:UnaryOp)(r:V->Hp->VK->Prop):Prop where
 out:L2.JY X (unaryOp op) r
structure JF(X:Cx)(f:Value)(r:List V->Hp->VK->Prop):Prop where
 out:L2.eR X f r
structure JX(X:Cx)(r:R2):Prop where
 out:L2.IC X r
structure JM(X:Cx)(id:String)(r:V->List V->Hp->VK->Prop):Prop where
 out:L2.J5 X id r
structure JL(X:Cx)(r:V->Option Int->Option Int->Hp->VK->Prop):Prop where
 out:L2.JR X r
structure dO(b:Expr):Prop where
 out:L2.dO b
section
variable {X:Cx}{a b c e:Expr}{es:List Expr}{ta tb tc te:TE}{t:TA}{tA tB':TT}{pos p2:Pos}{r r':R2}{u v:TS}{st:Stmt}{sts:List Stmt}{tg:Expr}
theorem _root_.bD:JB X .Add (L2.xj λi j=>.int (i+j)):=⟨L2.Fn⟩
theorem pL:JB X .Sub (L2.xj λi j=>.int (i - j)):=⟨L2.pL⟩
theorem _root_.bP:JB X .Mult (L2.rI L2.DB λi j=>.int (i * j)):=⟨L2.FT⟩
theorem _root_.bj:JB X .FloorDiv (L2.rI L2.Jm λi j=>.int (i / j)):=⟨L2.DJ⟩
theorem _root_.a8:JB X .Mod (L2.rI (λ_ j=>0 < j) λi j=>.int (i % j)):=⟨L2.GV⟩
theorem mR:JB X .Pow (L2.rI L2.Iz λi j=>.int (i ^ j.toNat)):=⟨L2.mR⟩
theorem iR:JB X .Add (λx y H Q=>∃i j,x=.str i/\y=.str j/\i.length+j.length<=sizeLine/\Q (.str (i++j)) H):=⟨L2.iR⟩
theorem pe:JU X .USub (L2.rU λi=>.int (-i)):=⟨L2.pe⟩
theorem _root_.aL:JC X .Eq L2.LM:=⟨L2.HJ⟩
theorem _root_.bQ:JC X .NotEq L2.LC:=⟨L2.IU⟩
theorem _root_.bU:JC X .Lt (L2.xj λi j=>.bl (decide (i < j))):=⟨L2.Jj⟩
theorem _root_.bJ:JC X .LtE (L2.xj λi j=>.bl (decide (i<=j))):=⟨L2.t6⟩
theorem _root_.bW:JC X .Gt (L2.xj λi j=>.bl (decide (j < i))):=⟨L2.IH⟩
theorem xK:JC X .GtE (L2.xj λi j=>.bl (decide (j<=i))):=⟨L2.xK⟩
theorem _root_.cB:JC X .Is (λx y H Q=>y=.non/\Q (.bl (decide (x=.non))) H):=⟨L2.Gq⟩
theorem _root_.cv:JC X .IsNot (λx y H Q=>y=.non/\Q (.bl (!decide (x=.non))) H):=⟨L2.C2⟩
theorem ip:JC X .In (L2.Ka X.K false):=⟨L2.ip⟩
theorem fM:JC X .NotIn (L2.Ka X.K true):=⟨L2.fM⟩
theorem _root_.bw:JF X (.builtin "len") (λxs H Q=>L2.ES X.K xs H Q):=⟨L2.kO⟩
theorem _root_.bI:JF X (.type "list") (λxs H Q=>∃p ys,xs=[.ref p]/\(cL X.K H p ys\/cW X.K H p ys)/\∀l,H l=none->Q (.ref l) (L2.upd H l (.lst ys))):=⟨L2.sE⟩
theorem _root_.bF:JF X (.builtin "isinstance") (λxs H Q=>L2.GY X.K xs H Q):=⟨L2.jt⟩
theorem _root_.cA(hc:X.calm=true):JF X (.builtin "all") (λxs H Q=>∃(p:Addr) (bs:List Bool),xs=[.ref p]/\cL X.K H p (bs.map V.bl)/\Q (.bl (bs.all id)) H):=⟨L2.qv hc⟩
theorem jE:JF X (.type "int") (λxs H Q=>(∃i,xs=[.int i]/\Q (.int i) H)\/∃k,xs=[.bl k]/\Q (.int (if k then 1 else 0)) H):=⟨L2.jE⟩
theorem hJ(hc:X.calm=true):JF X (.builtin "max") (λxs H Q=>∃i j,xs=[.int i,.int j]/\Q (.int (if j > i then j else i)) H):=⟨L2.hJ hc⟩
theorem fX(hc:X.calm=true):JF X (.builtin "min") (λxs H Q=>∃i j,xs=[.int i,.int j]/\Q (.int (if j < i then j else i)) H):=⟨L2.fX hc⟩
theorem _root_.aZ:JX X (L2.Cm X.K):=⟨L2.wX⟩
theorem _root_.ak:JX X (L2.Cu X.K):=⟨L2.Bu⟩
theorem vn:JX X L2.F3:=⟨L2.vn⟩
theorem _root_.cz{l r:Expr}{op:Operator}{p:Pos}:dO (.BinOp l op r p):=⟨L2.Ju⟩
theorem _root_.aX{x:Str}{p:Pos}:dO (.Name x p):=⟨L2.Cz⟩
theorem _root_.ah{c:Const}{k:Nat}{p:Pos}:dO (.Constant c k p):=⟨L2.Ga⟩
theorem sH{f:Expr}{as:List Expr}{kw:List Keyword}{p:Pos}:dO (.Call f as kw p):=⟨λ_ _=>rfl⟩
theorem _root_.cy:JL X (L2.Iw X.K):=⟨L2.Cg⟩
theorem _root_.b6:JO X none L2.wU:=⟨L2.B9⟩
theorem _root_.b9(h:JE X e te):JO X (some e) (L2.Em te):=⟨L2.Dc h.out⟩
theorem _root_.ae{i j pos}:JE X (.Constant (.int i) j pos) (L2.tC (.int i)):=⟨L2.mF⟩
theorem _root_.a9{b j pos}:JE X (.Constant (.bool b) j pos) (L2.tC (.bl b)):=⟨L2.Af⟩
theorem _root_.bB{j pos}:JE X (.Constant .none j pos) (L2.tC .non):=⟨L2.F6⟩
theorem _root_.aP{x j pos}:JE X (.Constant (.str x) j pos) (L2.tC (.str x)):=⟨L2.v8⟩
theorem _root_.az{op:Operator}(ho:JB X op r)(ha:JE X a ta)(hb:JE X b tb):JE X (.BinOp a op b pos) (L2.Ei r ta tb):=⟨L2.EE ho.out ha.out hb.out⟩
theorem tN{op:UnaryOp}{r:V->Hp->VK->Prop}(ho:JU X op r)(ha:JE X a ta):JE X (.UnaryOp op a pos) (L2.LN r ta):=⟨L2.tN ho.out ha.out⟩
theorem _root_.af(hr:JX X r)(ha:JE X a ta)(hb:JE X b tb)(hs:dO b):JE X (.Subscript a b pos) (L2.Ei r ta tb):=⟨L2.IF hr.out ha.out hb.out hs.out⟩
theorem _root_.cb{r:V->Option Int->Option Int->Hp->VK->Prop}{lo hi:Option Expr}{tl th:TO}(hr:JL X r)(he:JE X e te)(hl:JO X lo tl)(hu:JO X hi th):JE X (.Subscript e (.Slice lo hi none p2) pos) (L2.Lv r te tl th):=⟨L2.zR hr.out he.out hl.out hu.out⟩
theorem _root_.aT{op:CmpOp}(ho:JC X op r)(ha:JE X a ta)(hb:JE X b tb)(hm:behindInMarks op b=false):JE X (.Compare a [op] [b] pos) (L2.Ei r ta tb):=⟨L2.wO ho.out ha.out hb.out hm⟩
theorem _root_.aB{op:CmpOp}(ho:JC X op r)(ha:JE X a ta)(hb:JE X b tb)(hm:behindInMarks op b=false):JT X (.Compare a [op] [b] pos) (L2.wC (L2.Ei r ta tb)):=⟨L2.CS ho.out ha.out hb.out hm⟩
theorem gW{op op':CmpOp}(ho:JC X op r)(ho':JC X op' r')(ha:JE X a ta)(hb:JE X b tb)(hc:JE X c tc)(hm:lastMarks [op,op'] [b,c]=false):JE X (.Compare a [op,op'] [b,c] pos) (L2.su r r' ta tb tc):=⟨L2.gW ho.out ho'.out ha.out hb.out hc.out hm⟩
theorem kK{op op':CmpOp}(ho:JC X op r)(ho':JC X op' r')(ha:JE X a ta)(hb:JE X b tb)(hc:JE X c tc)(hm:lastMarks [op,op'] [b,c]=false):JT X (.Compare a [op,op'] [b,c] pos) (L2.wC (L2.su r r' ta tb tc)):=⟨L2.kK ho.out ho'.out ha.out hb.out hc.out hm⟩
theorem gB{op:CmpOp}{x:Str}{p:Pos}:behindInMarks op (.Name x p)=false:=rfl
theorem A0{op:CmpOp}{es:List Expr}{k:Nat}{p:Pos}:behindInMarks op (.Tuple es k p)=false:=rfl
theorem _root_.a7{op}(h:JE X a te):JE X (.BoolOp op [a] pos) te:=⟨L2.rg h.out⟩
theorem _root_.aU(ha:JE X a ta)(hb:JE X (.BoolOp .And (b::es) pos) tb):JE X (.BoolOp .And (a::b::es) pos) (L2.Ej ta tb):=⟨L2.q9 ha.out hb.out⟩
theorem sZ(ha:JE X a ta)(hb:JE X (.BoolOp .Or (b::es) pos) tb):JE X (.BoolOp .Or (a::b::es) pos) (L2.Dr ta tb):=⟨L2.sZ ha.out hb.out⟩
theorem mM(ha:JE X a ta):JE X (.UnaryOp .Not a pos) (L2.Eh ta):=⟨L2.mM ha.out⟩
theorem _root_.bA(ha:JT X a tA):JW X (.BoolOp .And [a] pos) tA:=⟨L2.C3 ha.out⟩
theorem _root_.bu(ha:JT X a tA):JW X (.BoolOp .Or [a] pos) tA:=⟨L2.Be ha.out⟩
theorem _root_.bp(ha:JT X a tA)(hb:JW X (.BoolOp .And (b::es) pos) tB'):JW X (.BoolOp .And (a::b::es) pos) (L2.Ic tA tB'):=⟨L2.ET ha.out hb.out⟩
theorem _root_.bg(ha:JT X a tA)(hb:JW X (.BoolOp .Or (b::es) pos) tB'):JW X (.BoolOp .Or (a::b::es) pos) (L2.LG tA tB'):=⟨L2.Ec ha.out hb.out⟩
theorem _root_.aS(h:JW X e tA):JT X e tA:=⟨h.out.pt⟩
theorem _root_.a5(ha:JT X a tA):JT X (.UnaryOp .Not a pos) (L2.HE tA):=⟨L2.u5 ha.out⟩
theorem _root_.aQ{f:Expr}{as:List Expr}{kw:List Keyword}{p:Pos}(h:JE X (.Call f as kw p) te):JT X (.Call f as kw p) (L2.tB te):=⟨L2.DR h.out⟩
theorem _root_.bE:JA X [] L2.mP:=⟨L2.jO⟩
theorem vc(ha:JE X e te)(hr:JA X es t)(h:L2.notStar e=true:=by rfl):JA X (e::es) (L2.dA te t):=⟨L2.vc ha.out hr.out h⟩
theorem _root_.ao(a:JE X e te)(i:L2.notStar e=true:=by rfl):JA X [e] (L2.dA te L2.mP):=vc a bE i
theorem _root_.aA{e₁:Expr}{t₁:TE}(a0:JE X e te)(a1:JE X e₁ t₁)(i0:L2.notStar e=true:=by rfl)(i1:L2.notStar e₁=true:=by rfl):JA X [e,e₁] (L2.dA te (L2.dA t₁ L2.mP)):=vc a0 (ao a1 i1) i0
theorem _root_.aM{e₁ e₂:Expr}{t₁ t₂:TE}(a0:JE X e te)(a1:JE X e₁ t₁)(a2:JE X e₂ t₂)(i0:L2.notStar e=true:=by rfl)(i1:L2.notStar e₁=true:=by rfl)(i2:L2.notStar e₂=true:=by rfl):JA X [e,e₁,e₂] (L2.dA te (L2.dA t₁ (L2.dA t₂ L2.mP))):=vc a0 (aA a1 a2 i1 i2) i0
theorem _root_.cj{e₁ e₂ e₃:Expr}{t₁ t₂ t₃:TE}(a0:JE X e te)(a1:JE X e₁ t₁)(a2:JE X e₂ t₂)(a3:JE X e₃ t₃)(i0:L2.notStar e=true:=by rfl)(i1:L2.notStar e₁=true:=by rfl)(i2:L2.notStar e₂=true:=by rfl)(i3:L2.notStar e₃=true:=by rfl):JA X [e,e₁,e₂,e₃] (L2.dA te (L2.dA t₁ (L2.dA t₂ (L2.dA t₃ L2.mP)))):=vc a0 (aM a1 a2 a3 i1 i2 i3) i0
theorem MT{e₁ e₂ e₃ e₄:Expr}{t₁ t₂ t₃ t₄:TE}(a0:JE X e te)(a1:JE X e₁ t₁)(a2:JE X e₂ t₂)(a3:JE X e₃ t₃)(a4:JE X e₄ t₄)(i0:L2.notStar e=true:=by rfl)(i1:L2.notStar e₁=true:=by rfl)(i2:L2.notStar e₂=true:=by rfl)(i3:L2.notStar e₃=true:=by rfl)(i4:L2.notStar e₄=true:=by rfl):JA X [e,e₁,e₂,e₃,e₄] (L2.dA te (L2.dA t₁ (L2.dA t₂ (L2.dA t₃ (L2.dA t₄ L2.mP))))):=vc a0 (cj a1 a2 a3 a4 i1 i2 i3 i4) i0
theorem _root_.ba(h:JA X es t):JE X (.List es pos) (L2.HR t):=⟨L2.Fs h.out⟩
theorem _root_.aV{k}(h:JA X es t):JE X (.Tuple es k pos) (L2.F9 t):=⟨L2.G0 h.out⟩
theorem _root_.cn:JE X (.Dict [] [] pos) L2.D7:=⟨L2.Ce⟩
theorem kD {x:Str}{v:V}{u:Value}(hg:Gl X x) (hm:X.mg x=some u) (r:RelV v u) (hd:(x == ("__debug__" :Str))=false):JE X (.Name x pos) (L2.tC v):=⟨L2.kD hg hm r hd⟩
theorem _root_.aO(h:JE X e te):JI X tg e (L2.Ef X.K te):=⟨L2.CF h.out⟩
theorem vb(h:JE X e te):JI X tg e (L2.Jl X.K te):=⟨L2.vb h.out⟩
theorem _root_.aJ:tP X [] L2.oS:=⟨L2.xf⟩
theorem _root_.ag(h1:JS X st u)(h2:tP X sts v):tP X (st::sts) (L2.vZ u v):=⟨L2.uu h1.out h2.out⟩
theorem _root_.aj(h1:JS X st u):tP X [st] u:=⟨L2.jw h1.out⟩
theorem fV:tP X sts L2.zz:=⟨L2.fV⟩
theorem _root_.au(h:JE X e te):JS X (.Return (some e) pos) (L2.JH te):=⟨L2.oj h.out⟩
theorem _root_.bG(h:JE X e te)(hc:L2.jQ e=false:=by rfl):JS X (.Expr e pos) (L2.qz te):=⟨L2.IG h.out hc⟩
theorem _root_.aI{c:Expr}{x y:List Stmt}{tc:TT}(hc:JT X c tc)(ha:tP X x u)(hb:tP X y v):JS X (.If c x y pos) (L2.ve tc u v):=⟨L2.D8 hc.out ha.out hb.out⟩
theorem _root_.bo{it:Expr}{body:List Stmt}{wi:TI}{g:TG}{tb:TS}(hp:PassesOwn (model X.prog X.w) X.A X.env X.xe)(hc:X.calm=true)(hi:JI X tg it wi)(hg:JG X tg g)(hb:tP X body tb)
  (hs:∀x,foldedSetIterable it X.env x=pure x:=by intro _;rfl):JS X (.For tg it body [] pos) (L2.JD wi g tb):=⟨L2.FY hp hc hi.out hg.out hb.out hs⟩
end
section
variable {X:Cx}{i:Nat}{x:Str}{sp:Sp}{p pos pos':Pos}{e:Expr}{es:List Expr}{te:TE}{t:TA}{tg:Expr}
theorem _root_.aa(S:L2.Slot X i x):JE X (.Name x p) (L2.iV i):=⟨S.rd⟩
theorem _root_.aD(S:L2.Slot X i x)(nd:X.N.Nodup)(he:JE X e te)(h:L2.jQ e=false:=by rfl):JS X (.Assign [.Name x pos'] e pos) (L2.uj te (L2.eQ i)):=⟨S.set nd he.out h⟩
theorem _root_.aG(S:L2.Slot X i x)(nd:X.N.Nodup):JG X (.Name x p) (L2.eQ i):=⟨S.tg nd⟩
theorem _root_.aE{id:String}{r:List V->Hp->VK->Prop}(B:L2.Bt X x)(hc:JF X (.builtin id) r)(hv:bootBuiltins x=some (.builtin id))(ha:JA X (e::es) t)(h1:L2.notStar e=true:=by rfl)(h2:es.all L2.notStar=true:=by rfl):
  JE X (.Call (.Name x p) (e::es) [] pos) (L2.Hi r t):=⟨B.call hc.out hv ha.out h1 h2⟩
theorem _root_.bC{T:String}{r:List V->Hp->VK->Prop}(B:L2.Bt X x)(hc:JF X (.type T) r)(hv:bootBuiltins x=some (.type T))(ha:JA X (e::es) t)(h1:L2.notStar e=true:=by rfl)(h2:es.all L2.notStar=true:=by rfl):
  JE X (.Call (.Name x p) (e::es) [] pos) (L2.Hi r t):=⟨B.HH hc.out hv ha.out h1 h2⟩
theorem ty{n:String}(B:L2.Bt X x)(hv:bootBuiltins x=some (.type n)):JE X (.Name x p) (L2.tC (.ty n)):=⟨B.ty hv⟩
theorem _root_.aw(C:L2.GQ X x sp)(ha:JA X (e::es) t)(h1:L2.notStar e=true:=by rfl)(h2:es.all L2.notStar=true:=by rfl):JE X (.Call (.Name x p) (e::es) [] pos) (L2.o6 sp [] E0 t):=⟨C.call ha.out h1 h2⟩
theorem _root_.b5 (B:L2.Bt X "range") (ha:JA X [e] t) (h:L2.notStar e=true:=by rfl):JI X tg (.Call (.Name "range" p) [e] [] pos) (L2.D9 t):=⟨L2.yz B.gl B.nm ha.out (L2.cR h)⟩
end
theorem Eb{P:Program}{w:World}{K:PySem.W.Frag}{mg:Str->Option Value}{base:Heap}{x qual:Str}{st:Stmt}{f:Addr}{fd:FuncData}{N ps:List Str}{k:Nat}{sp:Sp}(F:L2.pT K x qual st f fd)(S:L2.cI N ps (L2.cG st))(len:∀vs H Q E,sp vs H Q E->vs.length=ps.length)
  (hbody:∀(X:Cx)(cdv:Value)(A:Around)(outer:List Env)(s:Shared)(H:Hp)(vs:List V)(Q:VK)(E:XK),X=(L2.nj m9 P w K mg base N qual (L2.cG st) f cdv A outer s H E).qU->dF k X.A->sp vs H Q E->
   ∃t,tP X (L2.cX st) t/\t { nx:=λ_ H'=>Q .non H',rt:=Q } (L2.start N vs) H):eC P w K mg base m9 (k+1) f fd ps sp:=by
 refine F.ok S len (λcdv A outer s H vs Q E hr h=>?_);obtain⟨t,h1,h2⟩:=hbody _ cdv A outer s H vs Q E rfl hr h;exact⟨t,h1.out,h2⟩
end J
namespace Z
open PySem PySem.Spec PyProof.Rows
section
variable {prog:Program}{w:World}{A:Around}{E:Value->Shared->Prop}{s:Shared}
end
structure Ap(z TI TO i1 i2:Addr)(fp1 fp2:List Addr):Prop where
 TIz:TI≠z
 TOz:TO≠z
 TITO:TI≠TO
 TI1:TI≠i1
 TI2:TI≠i2
 z1:z ∉ fp1
 z2:z ∉ fp2
 o1:TO ∉ fp1
 o2:TO ∉ fp2
 m1:i1∈fp1
 m2:i2∈fp2
 x12:i1 ∉ fp2
 x21:i2 ∉ fp1
section
variable {prog:Program}{w:World}{A:Around}{E:Value->Shared->Prop}{s:Shared}{z TI TO i1 i2:Addr}{fp1 fp2:List Addr}{n1 n2:Nat}{P1 P2:Nat->Value->Prop}{S1 S2:Nat->Heap->Prop}
end
end Z
namespace L2
open PySem PySem.Spec PyProof.Rows
theorem Inv.yQ{X:Cx}{pins:List (Addr×Obj)}{σ:St}{H:Hp}{s:Shared}{g:Heap}{t':Nat}{fp:List Addr}{T:Addr}{o:HO}(I:Inv X pins σ H s)(hf:∀b∈fp,ni X pins H b)
  (k:∀b u,b ∉ fp->s.heap.get? b=some u->g.get? b=some u)(hT:s.heap.objs.size<=T)(nf:∀b∈fp,∃u,s.heap.get? b=some u)(new:dk X.prog X.w (upd H T o) g T o):Inv X pins σ (upd H T o) { s with heap:=g,toks:=t' }:=by
 have hn:H T=none:=I.hok.fresh hT;have BV:∀b u,H b=some u->b ∉ fp:=λb u e z=>by rw[(hf b z).1]at e;cases e
 refine I.step (g':=s.gens) (d':=s.drawn) (ch:=fp) (λb hb=>⟨(hf b hb).2.2.2.1,(hf b hb).2.1,(hf b hb).2.2.2.2.1,(hf b hb).2.2.2.2.2⟩) (λb u _ _ hc e _=>k b u hc e) (λb u _ _ hc e _=>⟨u.slots,k b u hc e⟩) (λb u _ e n=>?_)
  (λb u hc e=>⟨u,k b u hc e⟩) (λb xs e=>?_) (λb u xs e=>?_) (λb ps e=>⟨#[],?_⟩) (λm hm=>?_) (λb u e=>?_) I.bare
 ·rw[cH (ne_of_lt (lt_of_lt_of_le (lt_size e) hT))]
  exact n
 ·rw[cH (cE e hn)]
  exact e
 ·rw[cH (cE e hn)]
  exact e
 ·rw[cH (cE e hn),e]
  simp
 ·obtain⟨ob,es,ep,ho,r⟩:=hm
  exact⟨ob,es,ep,k _ ob (λz=>(hf _ z).2.1 rfl) ho,r⟩
 ·by_cases hb:b=T
  ·subst hb
   rw[cD]at e;cases e;exact new
  ·rw[cH hb]at e
   refine(I.hok b u e).fN (λc v hc q=>k c v ?_ q) (λc q=>by rw[cH (cE q hn)];exact q) λc xs q=>by rw[cH (cE q hn)];exact q
   rcases hc with rfl|hc
   ·exact BV c u e
   ·exact BV c _ hc
theorem Inv.mQ{X:Cx}{pins:List (Addr×Obj)}{σ:St}{H:Hp}{s:Shared}{g:Heap}{t':Nat}{fp:List Addr}(I:Inv X pins σ H s)(hf:∀b∈fp,ni X pins H b)
  (k:∀b u,b ∉ fp->s.heap.get? b=some u->g.get? b=some u):Inv X pins σ H { s with heap:=g,toks:=t' }:=by
 have BV:∀b u,H b=some u->b ∉ fp:=λb u e z=>by rw[(hf b z).1]at e;cases e
 refine I.step (g':=s.gens) (d':=s.drawn) (ch:=fp) (λb hb=>⟨(hf b hb).2.2.2.1,(hf b hb).2.1,(hf b hb).2.2.2.2.1,(hf b hb).2.2.2.2.2⟩) (λb u _ _ hc e _=>k b u hc e) (λb u _ _ hc e _=>⟨u.slots,k b u hc e⟩) (λ_ _ _ _ n=>n)
  (λb u hc e=>⟨u,k b u hc e⟩) (λ_ _ e=>e) (λ_ _ _ e=>e) (λb ps e=>⟨#[],by rw[e];simp⟩) (λm hm=>?_) (λb u e=>?_) I.bare
 ·obtain⟨ob,es,ep,ho,r⟩:=hm
  exact⟨ob,es,ep,k _ ob (λz=>(hf _ z).2.1 rfl) ho,r⟩
 ·refine(I.hok b u e).fN (λc v hc q=>k c v ?_ q) (λ_ q=>q) λ_ _ q=>q
  rcases hc with rfl|hc
  ·exact BV c u e
  ·exact BV c _ hc
def uN(q:Bool)(K:PySem.W.Frag)(H:Hp)(a:Addr)(xs:List V):Prop:=match q with
 |true=>cL K H a xs
 |false=>cW K H a xs
def Fv(q:Bool)(h:Heap)(it a:Addr)(i:Nat):Prop:=match q with
 |true=>h.IsListIter it a i
 |false=>h.IsTupleIter it a i
def isAt(q:Bool)(h:Heap)(a:Addr)(its:Array Value):Prop:=match q with
 |true=>h.IsList a its
 |false=>h.IsTuple a its
def EI(q:Bool):String:=match q with
 |true=> "list_iterator"
 |false=> "tuple_iterator"
theorem sW{q:Bool}{h:Heap}{it a:Addr}{i:Nat}(p:Fv q h it a i):∃o,h.get? it=some o/\∀v,o.data≠.cell v:=by
 cases q with
 |true=>obtain⟨o,e,c,d⟩:=p;exact⟨o,e,λv z=>by rw[d]at z;cases z⟩
 |false=>obtain⟨o,e,c,d⟩:=p;exact⟨o,e,λv z=>by rw[d]at z;cases z⟩
theorem yG{q:Bool}{h g:Heap}{it a:Addr}{i:Nat}(p:Fv q h it a i)(k:∀o,h.get? it=some o->g.get? it=some o):Fv q g it a i:=by
 cases q with
 |true=>obtain⟨o,e,r⟩:=p;exact⟨o,k o e,r⟩
 |false=>obtain⟨o,e,r⟩:=p;exact⟨o,k o e,r⟩
def Nf(K:PySem.W.Frag)(q1 q2:Bool)(a1 a2:Addr):It:=
 ⟨λi H=>∃xs ys x y,uN q1 K H a1 xs/\uN q2 K H a2 ys/\xs[i]? =some x/\ys[i]? =some y,
  λi H v H'=>∃p x y,H p=none/\v=.ref p/\H'=upd H p (.tup [x,y])/\(∀xs,uN q1 K H a1 xs->xs[i]? =some x)/\(∀ys,uN q2 K H a2 ys->ys[i]? =some y),
  λi H=>∃xs,uN q1 K H a1 xs/\xs.length=i⟩
end L2
namespace L2
open PySem PySem.Spec PyProof.Rows
abbrev HY(q:Bool)(h:Heap)(a:Addr):Heap:=h.push { cls:=.type (EI q),data:=.fields #[.ref a,.int 0 0] }
abbrev LD(q1 q2:Bool)(h:Heap)(a b:Addr):Heap:=(HY q2 (HY q1 h a) b).push { cls:=.type "tuple",data:=.seq #[.ref h.objs.size,.ref (HY q1 h a).objs.size] }
abbrev L9(q1 q2:Bool)(h:Heap)(a b:Addr):Heap:=(LD q1 q2 h a b).push { cls:=.type "tuple",data:=.seq #[.none,.none] }
abbrev Nl(q1 q2:Bool)(h:Heap)(a b:Addr):Heap:=(L9 q1 q2 h a b).push { cls:=.type "zip",data:=.fields #[.none,.bool false,.bool false,.ref (HY q2 (HY q1 h a) b).objs.size,.ref (LD q1 q2 h a b).objs.size] }
theorem Ln(n b:Nat)(h:b∈[n+1,n]):n<=b:=by
 simp only[mem_cons,not_mem_nil,or_false]at h;omega
theorem rG:bootBuiltins "enumerate" =some (.type "enumerate"):=by decide+kernel
def Mv(K:PySem.W.Frag)(ta:TA):TI:=λσ H R=>ta σ H λvs H1=>∃q a1 a2,vs=[.ref a1,.ref a2]/\(∃xs,uN q K H1 a1 xs)/\(∃ys,uN q K H1 a2 ys)/\R (Nf K q q a1 a2) H1
theorem De{X:Cx}{pins:List (Addr×Obj)}{σ:St}{H:Hp}{s:Shared}{q:Bool}{a:Addr}{xs:List V}(I:Inv X pins σ H s)(h:uN q X.K H a xs):a < s.heap.objs.size:=by
 cases q with
 |true=>obtain⟨its,r,⟨o,n,e,_⟩,z⟩:=I.list h;exact lt_size e
 |false=>obtain⟨its,r,⟨o,e,_⟩,z⟩:=I.tuple h;exact lt_size e
section
variable {X:Cx}
end
def Hg(K:PySem.W.Frag)(a:Addr):It:=
 ⟨λi H=>∃xs x,cL K H a xs/\xs[i]? =some x,λi H v H'=>∃p x,H p=none/\v=.ref p/\H'=upd H p (.tup [.int i,x])/\∀xs,cL K H a xs->xs[i]? =some x,λi H=>∃xs,cL K H a xs/\xs.length=i⟩
theorem yx{P:Program}{w:World}{K:PySem.W.Frag}{es:List Expr}{kk:Nat}{tp:Pos}{a:Addr}(e it:Addr)(ne:e≠it)(n1:a≠e)(n2:a≠it):
  Turn P w K (.Tuple es kk tp) (Hg K a) [e,it] e (λi h=>(∃old,IsEnum h e it i old)/\h.IsListIter it a i):=by
 refine⟨by simp,λi h st b hb=>?_,λi h g st k=>?_,?_,?_,λA i s Q E st h=>?_⟩
 ·obtain⟨⟨old,ce⟩,c1⟩:=st
  simp only[mem_cons,not_mem_nil,or_false]at hb;rcases hb with rfl|rfl
  ·exact⟨_,ce,λv e=>by cases e⟩
  ·exact sW (q:=true) c1
 ·obtain⟨⟨old,ce⟩,c1⟩:=st
  exact⟨⟨old,k _ (by simp) _ ce⟩,yG (q:=true) c1 λo e=>k _ (by simp) o e⟩
 ·intro X hP hw hK hc i pins s σ H E I hf st hg
  subst hP hw hK;obtain⟨⟨old,ce⟩,c1⟩:=st;obtain⟨xs,x,hx,ex⟩:=hg;obtain⟨its,r,p,l⟩:=I.list hx;obtain⟨u,eu,ru⟩:=r.get ex;have W:=WalksT.enumerate (prog:=X.prog) (w:=X.w) (A:=X.A) (I.ok.hd hc) e it a ne n1 n2 its.toArray;have hi:i < its.toArray.size:=by
   have:=(List.getElem?_eq_some_iff.mp eu).1
   simpa using this
  refine W.item i s _ _ hi ⟨⟨old,ce⟩,c1,p.isList⟩ λT vals g tk hP hT hTup hM kp=>?_;obtain⟨t,v,hv,rfl⟩:=hP;have hvu:v=u:=by
   have:its[i]? =some v:=by simpa using hv
   rw[eu]at this;exact(Option.some.inj this).symm
  subst hvu;have hTw:T ∉ [e,it]:=W.apart i T g hM;refine⟨_,rfl,W.go es kk tp i T { s with heap:=g,toks:=tk } _ _ hM λg2 st2 kp2=>?_⟩;have hn:H T=none:=I.hok.fresh hT;have kk2:∀b u,b ∉ [e,it]->s.heap.get? b=some u->g2.get? b=some u:=λb u hb q=>kp2 b u hb (kp b u hb q);have I2:Inv X pins σ (upd H T (.tup [.int i,x])) { s with heap:=g2,toks:=tk }:=by
   refine I.yQ hf kk2 hT (λb hb=>?_) ⟨by show 2<=sizeLine;decide,[.int i t,v],.cons ⟨t,rfl⟩ (.cons ru .nil),?_⟩
   ·simp only[mem_cons,not_mem_nil,or_false]at hb
    rcases hb with rfl|rfl
    ·exact⟨_,ce⟩
    ·obtain⟨o,q,_⟩:=sW (q:=true) c1;exact⟨o,q⟩
   ·obtain⟨o,q,rest⟩:=hTup
    exact⟨o,kp2 T o hTw q,rest⟩
  refine⟨.ref T,_,I2,rfl,⟨T,x,hn,rfl,rfl,λzs hz=>by rw[I.uP hz hx];exact ex⟩,⟨by simpa using st2.1,st2.2.1⟩,λb hb=>?_⟩;have hbT:b≠T:=by
   rintro rfl;exact hTw hb
  rw[cH hbT];exact(hf b hb).1
 ·intro X hP hw hK hc i pins s σ H E I hf st hg
  subst hP hw hK;obtain⟨⟨old,ce⟩,c1⟩:=st;obtain⟨xs,hx,rfl⟩:=hg;obtain⟨its,r,p,l⟩:=I.list hx;have W:=WalksT.enumerate (prog:=X.prog) (w:=X.w) (A:=X.A) (I.ok.hd hc) e it a ne n1 n2 its.toArray;have e1:xs.length=its.toArray.size:=by rw[size_toArray];exact r.length
  rw[e1]at ce c1;exact W.done s _ _ ⟨⟨old,ce⟩,c1,p.isList⟩ λg tk kp=>⟨rfl,I.mQ hf kp⟩
 ·obtain⟨⟨old,ce⟩,c1⟩:=st
  exact wpAny_pyIter_enum ce h
def Ep(K:PySem.W.Frag)(ta:TA):TI:=λσ H R=>ta σ H λvs H1=>∃a,vs=[.ref a]/\(∃xs,cL K H1 a xs)/\R (Hg K a) H1
section
variable {X:Cx}
theorem kU {e1:Expr}{es:List Expr}{kk:Nat}{tp p pos:Pos}{ta:TA}(B:Bt X "enumerate") (ha:PA X [e1] ta) (h1:notStar e1=true:=by rfl):PI X (.Tuple es kk tp) (.Call (.Name "enumerate" p) [e1] [] pos) (Ep X.K ta):=by
 intro pins s σ H R I h;refine wpAny_Call_Name_kw (j4 I B.gl B.nm rG ?_ B.hn B.db);refine PyProof.Rows.callWith_type1 (di (ha pos pins s σ H _ I h) λus s1 hpat=>?_) (cR h1) (fg rfl);obtain⟨vs,H1,I1,r1,a,e,⟨xs,m1⟩,q⟩:=hpat;subst e;obtain⟨u1,rfl,rx⟩:=vals1 r1;cases rx;obtain⟨its,v1,p1,l1⟩:=I1.list m1;have b1:a < s1.heap.objs.size:=De (q:=true) I1 m1;refine call_enumerate_list p1.isList λg ge gi _ kp=>?_;refine wpAny_pyIter_enum ge ?_;refine⟨_,_,_,_,H1,rfl,I1.kept (t':=s1.toks) kp,yx (a:=a) (s1.heap.objs.size+1) s1.heap.objs.size (ne_of_gt (lt_succ_self _)) (ne_of_lt (lt_succ_of_lt b1)) (ne_of_lt b1),⟨⟨_,ge⟩,gi⟩,λb hb=>?_,q⟩;have hle:s1.heap.objs.size<=b:=Ln _ _ hb;exact I1.yy hle (I1.hok.fresh hle)
end
theorem BM{K:PySem.W.Frag}{a:Addr}{xs:List V}{g:TG}{tb:TS}{D:Ends}{σ:St}{H:Hp}(Pv:Nat->St->Hp->Prop)(h0:Pv 0 σ H)(hq:∀i σ H,Pv i σ H->cL K H a xs)
  (hs:∀(i:Nat) x p σ H,xs[i]? =some x->H p=none->Pv i σ H->g (.ref p) σ (upd H p (.tup [.int i,x])) λσ2 H2=>tb { D with nx:=Pv (i+1),ct:=Pv (i+1),bk:=D.nx } σ2 H2)(hd:∀σ H,Pv xs.length σ H->D.nx σ H):
  ∃W:Nat->Nat->St->Hp->Prop,(∃m,W 0 m σ H)/\∀i m σ H,W i m σ H->
   ((Hg K a).stop i H/\D.nx σ H)\/((Hg K a).go i H/\∃N:St->Hp->Prop,(∀σ' H',N σ' H'->∃m',m' < m/\W (i+1) m' σ' H')/\∀x H',(Hg K a).yld i H x H'->g x σ H' λσ2 H2=>tb { D with nx:=N,ct:=N,bk:=D.nx } σ2 H2):=by
 refine⟨λi m σ H=>m=xs.length - i/\i<=xs.length/\Pv i σ H,⟨xs.length,by simp,zero_le _,h0⟩,?_⟩;rintro i m σ H ⟨rfl,hi,p⟩;have m1:=hq i σ H p;by_cases hlt:i < xs.length
 ·refine .inr ⟨⟨xs,xs[i],m1,by simp[hlt]⟩,Pv (i+1),λσ' H' p'=>⟨xs.length - (i+1),by omega,rfl,hlt,p'⟩,λv H' y=>?_⟩
  obtain⟨pp,x,hn,rfl,rfl,e1⟩:=y;exact hs i x pp σ H (e1 xs m1) hn p
 ·have e:i=xs.length:=by omega
  subst e;exact .inl ⟨⟨xs,m1,rfl⟩,hd σ H p⟩
end L2
namespace L2
open PySem PySem.Spec PyProof.Rows
local instance keyBEq:BEq Key:=instBEqOfDecidableEq
local instance keyLBEq:@LawfulBEq Key keyBEq:=inferInstanceAs (@LawfulBEq Key instBEqOfDecidableEq)
theorem kF{prog:Program}{w:World}{h:Heap}{a:Addr}{S S':Key->Bool}{n n':Nat}(hS:h.SetOf (cN prog w) a S n)(e:∀k,S k=S' k)(en:n=n'):h.SetOf (cN prog w) a S' n':=by
 have:S=S':=funext e;subst this;subst en;exact hS
section
variable {prog:Program}{w:World}{A:Around}{R:Result->Shared->Prop}{I:Addr}{fp wr:List Addr}{G:Array GenState->Array GenState->Prop}{n:Nat}{P:Nat->Value->Prop}{St:Nat->Shared->Prop}
theorem setLoop(W:WalksS prog w A.in1 I fp wr G n P St)(S:Addr)(hSf:S ∉ fp)(key:Nat->Key)(hval:∀i v,P i v->jf (key i) v=true/\v.scannable=true)
  (hnd:∀i j,i < j->j < n->key i≠key j)(hb:n+1 < scanBound):∀(k i:Nat) (s:Shared),n - i=k->i<=n->St i s->s.heap.SetOf (cN prog w) S (λc=>(List.range i).any λj=>decide (c=key j)) i->
   (∀s',Moved (S::wr) G s s'->s'.heap.SetOf (cN prog w) S (λc=>(List.range n).any λj=>decide (c=key j)) n->R (.ok (.ret .none)) s')->
   codeAny (model prog w) A (.builtin "set.update.loop" ⟨[.ref S,.ref I],[]⟩) R s:=by
 have hSw:S ∉ wr:=λh=>hSf (W.sub _ h);have hsub:∀b∈wr,b∈S::wr:=λb hb=>mem_cons_of_mem _ hb;have fN:∀{s s':Shared}{T:Key->Bool}{m:Nat},Moved wr G s s'->s.heap.SetOf (cN prog w) S T m->s'.heap.SetOf (cN prog w) S T m:=λhm ⟨o,es,ep,tb,ho,rest⟩=>⟨o,es,ep,tb,hm.heap S _ hSw ho,rest⟩;intro k
 induction k with
 |zero=>
  intro i s hk hi hst hS hR;obtain rfl:i=n:=by omega
  refine codeAny_builtin PyProof.Rows.F.entry_set_update_loop ?_;rw[Around.under_plainId PyProof.Rows.F.plain_set_update_loop _];show wpAny _ A.in1 (pyNext (.ref I) >>= _) _ _ s;refine wpAny_bind (W.done s _ _ hst λs' hm=>?_);show wpAny _ A.in1 (ret Value.none) _ _ s';exact wpAny_pure (hR s' (hm.mono hsub) (fN hm hS))
 |succ k ih=>
  intro i s hk hi hst hS hR;have hlt:i < n:=by omega
  refine codeAny_builtin PyProof.Rows.F.entry_set_update_loop ?_;rw[Around.under_plainId PyProof.Rows.F.plain_set_update_loop _];show wpAny _ A.in1 (pyNext (.ref I) >>= _) _ _ s;refine wpAny_bind (W.item i s _ _ hlt hst λv s' hP hst' hm=>?_);obtain⟨hkv,hsc⟩:=hval i v hP;have hS1:=fN hm hS;show wpAny _ A.in1 (holding [v] (setAdd S v) >>= _) _ _ s';refine wpAny_bind (wpAny_holding ?_);unfold setAdd;refine wpAny_holding ?_;refine wpAny_bind ((cN prog w).pyHash (k:=key i) hkv ?_);refine wpAny_setAddHashed_of (knd:=cN prog w) (s:={ s' with toks:=s'.toks+1 }) hkv hsc hS1 (by omega) λg hsb hS2=>?_;have hno:((List.range i).any λj=>decide (key i=key j))=false:=by
   rw[any_eq_false];intro j hj;have hj':=mem_range.mp hj;simp only[decide_eq_true_eq];exact λe=>hnd j i hj' hlt e.symm
  have hS3:g.SetOf (cN prog w) S (λc=>(List.range (i+1)).any λj=>decide (c=key j)) (i+1):=by
   refine kF hS2 (λc=>?_) (by rw[hno];rfl);rw[range_succ,List.any_append];simp
  refine wpAny_pure ⟨plainId_quiet PyProof.Rows.F.plain_set_update_loop _,ih (i+1) _ (by omega) hlt (W.frame _ s' _ _ hst' (le_succ _) λb hb o e=>?_) hS3 λs'' hm'' hS''=>?_⟩
  ·rw[hsb.2 b (by rintro rfl;exact hSf hb)]
   exact e
  ·refine hR s'' (Moved.trans W.gtrans ((hm.mono hsub).then_heap (le_succ _) λb o hb e=>?_) hm'') hS''
   rw[hsb.2 b (by rintro rfl;exact hb mem_cons_self)];exact e
end
section
variable {prog:Program}{w:World}{A:Around}{E:Value->Shared->Prop}{s:Shared}
theorem yN{l:Addr}{items:Array Value}{key:Nat->Key}{Q:Value->Shared->Prop}(hh:A.handled=none)(hl:s.heap.IsList l items)(hv:∀i v,items[i]? =some v->jf (key i) v=true/\v.scannable=true)
  (hnd:∀i j,i < j->j < items.size->key i≠key j)(hb:items.size+1 < scanBound)
  (h:∀(g:Heap)(tk:Nat)(T:Key->Bool),g.SetOf (cN prog w) s.heap.objs.size T items.size->(∀b o,b < s.heap.objs.size->s.heap.get? b=some o->g.get? b=some o)->Q (.ref s.heap.objs.size) { s with heap:=g,toks:=tk }):
  wpAny (model prog w) A (call (.type "set") [.ref l]) Q E s:=by
 obtain⟨c,tl,hmro⟩:=called_set.mro;have hmade:=called_set.made;have hsub:=called_set.sub;refine wpAny_call (codeAny_of_tree ?_);show wpAny _ _ (callAny (.type "set") _) _ _ _;refine wpAny_pure ⟨Code.quiet_builtin _ (by decide+kernel),codeAny_builtin PySem.F.entry_type_call ?_⟩;rw[Around.under_plain (weight_type_call_type "set" [.ref l] []) rfl];have f1:=called_set.notType;have f2:=called_set.canCreate;have f3:=PySem.F.typeCall_set_1 (.ref l)
 repeat (any_goals (first|assumption|wp_step))
 refine codeAny_mono (code_set_new_1 (.ref l) (E:=E) (Q₁:=λobj u=>∃led:Bool,obj=.ref s.heap.objs.size/\u={ s with heap:=s.heap.push { cls:=.type "set",dict:=none,data:=.set #[] 0 (.fresh 0 0 led) } }) λled=>⟨led,rfl,rfl⟩) λr u hr=>?_;cases r with
 |error e=>exact hr
 |ok fl=>
  cases fl with
  |ret obj=>
   obtain⟨led,rfl,rfl⟩:=hr;have hS:(s.heap.push { cls:=.type "set",dict:=none,data:=.set #[] 0 (.fresh 0 0 led) }).get? s.heap.objs.size=some { cls:=.type "set",dict:=none,data:=.set #[] 0 (.fresh 0 0 led) }:=get?_push_size _ rfl;have hT:Shared.TypeIs { s with heap:=s.heap.push { cls:=.type "set",dict:=none,data:=.set #[] 0 (.fresh 0 0 led) } } (.ref s.heap.objs.size) "set" :=⟨_,hS,rfl⟩;have hli:=called_set.init.lookup;have hbi:=called_set.init.bind (.ref s.heap.objs.size)
   repeat (any_goals (first|assumption|wp_step))
   refine codeAny_mono (codeAny_call_builtin (R:=wants (λr u=>r=.none/\∃g tk T,u={ s with heap:=g,toks:=tk }/\g.SetOf (cN prog w) s.heap.objs.size T items.size/\(∀b o,b < s.heap.objs.size->s.heap.get? b=some o->g.get? b=some o)) E)
    called_set.init.plain PySem.F.entry_set_init (check_set_init_1 hT ?_)) λr2 u hr2=>?_
   ·obtain⟨⟨ocls,odict,odata,oslots⟩,hol,hcl,nl,hdl⟩:=hl
    simp only at hcl hdl;subst hcl;subst hdl;have hol':(s.heap.push { cls:=.type "set",dict:=none,data:=.set #[] 0 (.fresh 0 0 led) }).get? l=some { cls:=.type "list",dict:=odict,data:=.seq items nl,slots:=oslots }:=get?_push_of_some _ hol;have k1:=PySem.F.sub_list_set;have k2:=PySem.F.sub_list_frozenset;have k3:(Value.type "list" == Value.type "dict")=false:=by decide
    have hl1:(s.heap.push { cls:=.type "set",dict:=none,data:=.set #[] 0 (.fresh 0 0 led) }).IsList l items:=⟨_,hol',rfl,nl,rfl⟩;unfold Builtin.«set.__init__» noKeywords Builtin.Frozenset.updateFrom;generalize hPI:pyIter=PI
    wp_walk
    subst hPI;refine wpAny_pyIter_list hl1 ?_;refine wpAny_bind (wpAny_runValue ?_);have hlS:l < s.heap.objs.size:=lt_size hol;have hneI:l≠(s.heap.push { cls:=.type "set",dict:=none,data:=.set #[] 0 (.fresh 0 0 led) }).objs.size:=by
     rw[size_push];exact ne_of_lt (lt_succ_of_lt hlS)
    have hSf:s.heap.objs.size ∉ [(s.heap.push { cls:=.type "set",dict:=none,data:=.set #[] 0 (.fresh 0 0 led) }).objs.size,l]:=by
     rw[size_push];simp only[mem_cons,not_mem_nil,or_false,not_or];exact⟨ne_of_lt (lt_succ_self _),ne_of_gt hlS⟩
    refine setLoop ((Walks.list (show A.in1.in1.in1.handled=none by simp[hh]) _ l hneI items).toS) s.heap.objs.size hSf key hv hnd hb (items.size - 0) 0 _ (by omega) (zero_le _) ⟨⟨_,get?_push_size _ rfl,rfl,rfl⟩,(hl1.push _)⟩ ?_ ?_
    ·refine kF ((PyProof.Rows.setObjOf_fresh (knd:=cN prog w) led).setOf (get?_push_of_some _ hS) (by unfold scanBound;omega)) (λ_=>rfl) rfl
    ·intro s' hm hS'
     obtain⟨g,g',d',tk',os'⟩:=s';have eg:g'=s.gens:=hm.gens;have ed:d'=s.drawn:=hm.drawn;have eo:os'=s.os:=hm.os;subst eg ed eo;show wpAny _ _ _ _ _ _;refine wpAny_pure ?_;show wpAny _ _ (ret Value.none) _ _ _;refine wpAny_pure ⟨rfl,g,tk',_,rfl,hS',λb o hb e=>?_⟩;have hb2:b≠(s.heap.push { cls:=.type "set",dict:=none,data:=.set #[] 0 (.fresh 0 0 led) }).objs.size:=by
      rw[size_push];exact ne_of_lt (lt_succ_of_lt hb)
     exact hm.heap b o (by simp only[mem_cons,not_mem_nil,or_false,not_or];exact⟨ne_of_lt hb,hb2⟩) (get?_push_of_some _ (get?_push_of_some _ e))
   ·cases r2 with
    |error e=>exact hr2
    |ok fl2=>
     cases fl2 with
     |ret r=>
      obtain⟨rfl,g,tk,T,rfl,hS',hk'⟩:=hr2
      repeat (any_goals (first|assumption|wp_step))
      exact h _ _ _ hS' hk'
     |_=>exact hr2.elim
  |_=>exact hr.elim
end
def setM(P:Program)(w:World)(a:Addr)(n:Nat):HO:=.ext λh=>∃T,h.SetOf (cN P w) a T n
theorem mh{X:Cx}(hc:X.calm=true):eR X (.type "set") (λxs H Q=>∃(p:Addr) (zs:List Str),xs=[.ref p]/\cL X.K H p (zs.map V.str)/\zs.Nodup/\zs.length < 1000/\∀q,H q=none->Q (.ref q) (upd H q (setM X.prog X.w q zs.length))):=by
 intro pins s σ H xs us Q I r h;obtain⟨p,zs,rfl,hq,nd,hz,q⟩:=h;obtain⟨u,rfl,rx⟩:=vals1 r;cases rx;obtain⟨its,rv,pl,_⟩:=I.list hq;have hl:=rv.length;rw[length_map]at hl;refine yN (key:=λi=>Sum.inr (zs.getD i "")) (I.ok.hd hc) pl.isList (λi v e=>?_) (λi j hij hj=>?_) (by rw[size_toArray,<-hl];unfold scanBound;omega) λg tk T hS kp=>?_
 ·have e':its[i]? =some v:=by simpa using e
  have hi:i < zs.length:=by
   have:=(List.getElem?_eq_some_iff.mp e').1;omega
  obtain⟨u,eu,t,rfl⟩:=rv.get (show(zs.map V.str)[i]? =some (V.str zs[i]) by simp[hi]);rw[eu]at e';cases e';have e2:zs.getD i "" =zs[i]:=by simp[List.getD,hi]
  show jf (Sum.inr (zs.getD i "")) _=true/\_;rw[e2];exact⟨qA _ _,rfl⟩
 ·have hj':j < zs.length:=by
   rw[size_toArray,<-hl]at hj;exact hj
  have hi':i < zs.length:=by omega
  intro e;have e1:zs.getD i "" =zs.getD j "" :=Sum.inr.inj e;have e2:zs[i]=zs[j]:=by simpa [List.getD,hi',hj'] using e1
  exact absurd ((List.getElem_inj nd).mp e2) (by omega)
 ·have hn:H s.heap.objs.size=none:=I.hok.fresh (le_refl _)
  have e3:its.toArray.size=zs.length:=by rw[size_toArray,hl]
  rw[e3]at hS;refine⟨.ref s.heap.objs.size,_,I.laid (t':=tk) (o:=setM X.prog X.w s.heap.objs.size zs.length) (λb o e=>kp b o (lt_size e) e) (le_refl _) ⟨⟨T,hS⟩,?_,λh1 h2 p k=>?_⟩,rfl,q _ hn⟩
  ·obtain⟨o,_,_,_,e,_⟩:=hS
   exact⟨o,e⟩
  ·obtain⟨T,o,es,ep,t,e,rest⟩:=p
   exact⟨T,o,es,ep,t,k o e,rest⟩
theorem gM{X:Cx}:eR X (.builtin "len") (λxs H Q=>∃(p:Addr) (n:Nat),xs=[.ref p]/\H p=some (setM X.prog X.w p n)/\Q (.int n) H):=by
 intro pins s σ H xs us Q I r h;obtain⟨p,n,rfl,hp,q⟩:=h;obtain⟨u,rfl,rx⟩:=vals1 r;cases rx;obtain⟨⟨T,o,es,ep,t,e,ex,d,_,_,hsz,hf,rfl⟩,_⟩:=I.hok p _ hp;have hb:es.size < 4096:=hsz;exact call_len_set e ex d hf (by omega) ⟨.int es.size,H,I.tok _,⟨_,rfl⟩,q⟩
end L2
namespace L2
open PySem PySem.Spec PyProof.Rows
section
variable {K:PySem.W.Frag}{is:List Nat}{te:TE}{σ:St}{H:Hp}{Q:VK}
theorem Gb{J:It}{n:Nat}(Pv:Addr->Nat->List V->Hp->Prop)(hz:n<=sizeLine)(h0:∀D,H D=none->Pv D 0 [] (upd H D (.lst [])))
  (hD:∀D i ys H2,Pv D i ys H2->H2 D=some (.lst ys)/\ys.length=i)(hgo:∀D i ys H2,Pv D i ys H2->i < n->J.go i H2)(hstop:∀D ys H2,Pv D n ys H2->J.stop n H2)
  (he:∀D i ys H2 v H3 (Q':VK),Pv D i ys H2->i < n->J.yld i H2 v H3->(∀y H4,H4 D=some (.lst ys)->Pv D (i+1) (ys++[y]) (upd H4 D (.lst (ys++[y])))->Q' y H4)->te (some v::d9 is σ) H3 Q')
  (q:∀D ys H2,H D=none->Pv D n ys H2->Q (.ref D) H2):iM J is te σ H Q:=by
 intro D hDn;refine⟨λi m ys H2=>m=n - i/\i<=n/\Pv D i ys H2,⟨_,rfl,zero_le _,h0 D hDn⟩,?_⟩;rintro i m ys H2 ⟨rfl,hi,p⟩;obtain⟨d1,d2⟩:=hD D i ys H2 p;refine⟨d1,?_⟩;by_cases hlt:i < n
 ·refine .inr ⟨hgo D i ys H2 p hlt,λv H3 y=>?_⟩
  refine he D i ys H2 v H3 _ p hlt y λy' H4 e4 p4=>⟨e4,by omega,n - (i+1),by omega,rfl,hlt,p4⟩
 ·have e:i=n:=by omega
  subst e;exact .inl ⟨hstop D ys H2 p,q D ys H2 hDn p⟩
theorem xv{J:It}{xs:List V}(f:V->V)(hz:xs.length<=sizeLine)(hgo:∀i H2,cF H H2->i < xs.length->J.go i H2)(hstop:∀H2,cF H H2->J.stop xs.length H2)
  (hy:∀i H2 v H3,cF H H2->i < xs.length->J.yld i H2 v H3->H3=H2/\xs[i]? =some v)
  (he:∀v H2 (Q':VK),v∈xs->cF H H2->(∀H3,cF H2 H3->Q' (f v) H3)->te (some v::d9 is σ) H2 Q')
  (q:∀D H',H D=none->cF H H'->H' D=some (.lst (xs.map f))->Q (.ref D) H'):iM J is te σ H Q:=by
 refine Gb (n:=xs.length) (λD i ys H2=>H D=none/\cF H H2/\H2 D=some (.lst ys)/\i<=xs.length/\ys=(xs.take i).map f) hz (λD hD=>⟨hD,cF.upd hD,cD,zero_le _,by simp⟩)
  (λD i ys H2 p=>⟨p.2.2.1,by rw[p.2.2.2.2,length_map,length_take];have:=p.2.2.2.1;omega⟩) (λD i ys H2 p hi=>hgo i H2 p.2.1 hi) (λD ys H2 p=>hstop H2 p.2.1) ?_ ?_
 ·rintro D i ys H2 v H3 Q' ⟨hD,sm,hl,hi,hys⟩ hlt y k
  obtain⟨rfl,hv⟩:=hy i H2 v H3 sm hlt y;refine he v _ _ (mem_of_getElem? hv) sm λH4 s4=>?_;refine k _ _ (s4 _ _ hl) ⟨hD,λb o e=>?_,cD,hlt,?_⟩
  ·rw[cH (cE e hD)]
   exact s4 _ _ (sm _ _ e)
  ·rw[hys,take_add_one,hv,map_append]
   rfl
 ·rintro D ys H2 hD ⟨_,sm,hl,_,hys⟩
  rw[take_length]at hys;rw[hys]at hl;exact q D H2 hD sm hl
theorem ku{a:Addr}{xs:List V}(f:V->V)(hq:cL K H a xs)(hz:xs.length<=sizeLine)(he:∀v H2 (Q':VK),v∈xs->cF H H2->(∀H3,cF H2 H3->Q' (f v) H3)->te (some v::d9 is σ) H2 Q')
  (q:∀D H',H D=none->cF H H'->H' D=some (.lst (xs.map f))->Q (.ref D) H'):iM (BU K a) is te σ H Q:=
 xv f hz (λi H2 sm hi=>⟨xs,xs[i],sm.seq hq,by simp[hi]⟩) (λH2 sm=>⟨xs,sm.seq hq,le_refl _⟩) (λi H2 v H3 sm hi y=>⟨y.1,y.2 xs (sm.seq hq)⟩) he q
theorem CV{a:Addr}{xs:List V}(f:V->V)(hq:cW K H a xs)(hz:xs.length<=sizeLine)(he:∀v H2 (Q':VK),v∈xs->cF H H2->(∀H3,cF H2 H3->Q' (f v) H3)->te (some v::d9 is σ) H2 Q')
  (q:∀D H',H D=none->cF H H'->H' D=some (.lst (xs.map f))->Q (.ref D) H'):iM (K7 K a) is te σ H Q:=
 xv f hz (λi H2 sm hi=>⟨xs,xs[i],sm.GU hq,by simp[hi]⟩) (λH2 sm=>⟨xs,sm.GU hq,le_refl _⟩) (λi H2 v H3 sm hi y=>⟨y.1,y.2 xs (sm.GU hq)⟩) he q
end
theorem fQ{env:Env}{k:NameKind}(hk:k≠.free):∀{names:List (Str×NameKind)}{x:Str},names.lookup x=some k->
  (names.map λ(n,k)=>if(k == NameKind.free && env.scope.kind == .function && env.kindOf n == some .cell) then(n,NameKind.cell) else(n,k)).lookup x=some k
 |[],_,h=>by simp at h
 | (n,j)::r,x,h=>by
  have ih:=@fQ env k hk r x;show List.lookup x ((if(j == NameKind.free && env.scope.kind == .function && env.kindOf n == some .cell)=true then(n,NameKind.cell) else(n,j))::_)=_;cases hx:x == n with
  |true=>
   simp only[lookup_cons,hx]at h;cases h;rw[if_neg (by simp[hk])];simp only[lookup_cons,hx]
  |false=>
   simp only[lookup_cons,hx]at h;by_cases hc':(j == NameKind.free && env.scope.kind == .function && env.kindOf n == some .cell)=true
   ·rw[if_pos hc'];simp only[lookup_cons,hx];exact ih h
   ·rw[if_neg hc'];simp only[lookup_cons,hx];exact ih h
theorem jr{env:Env}:∀{names:List (Str×NameKind)}{x:Str},names.lookup x=some .free->
  (names.map λ(n,k)=>if(k == NameKind.free && env.scope.kind == .function && env.kindOf n == some .cell) then(n,NameKind.cell) else(n,k)).lookup x=some .cell\/
  (names.map λ(n,k)=>if(k == NameKind.free && env.scope.kind == .function && env.kindOf n == some .cell) then(n,NameKind.cell) else(n,k)).lookup x=some .free
 |[],_,h=>by simp at h
 | (n,j)::r,x,h=>by
  have ih:=@jr env r x;show List.lookup x ((if(j == NameKind.free && env.scope.kind == .function && env.kindOf n == some .cell)=true then(n,NameKind.cell) else(n,j))::_)=_\/List.lookup x ((if(j == NameKind.free && env.scope.kind == .function && env.kindOf n == some .cell)=true then(n,NameKind.cell) else(n,j))::_)=_;cases hx:x == n with
  |true=>
   simp only[lookup_cons,hx]at h;cases h;by_cases hc':(NameKind.free == NameKind.free && env.scope.kind == .function && env.kindOf n == some .cell)=true
   ·rw[if_pos hc'];simp only[lookup_cons,hx];first|exact .inl rfl|exact .inl trivial
   ·rw[if_neg hc'];simp only[lookup_cons,hx];first|exact .inr rfl|exact .inr trivial
  |false=>
   simp only[lookup_cons,hx]at h;by_cases hc':(j == NameKind.free && env.scope.kind == .function && env.kindOf n == some .cell)=true
   ·rw[if_pos hc'];simp only[lookup_cons,hx];exact ih h
   ·rw[if_neg hc'];simp only[lookup_cons,hx];exact ih h
section
variable {X:Cx}{x y:Str}{ns:List Str}{scope:Scope}{cl:List (Str×Addr)}{fp:List Addr}{s3:Shared}{H3:Hp}{C:Addr}{sp:Sp}
structure yK(X:Cx)(x:Str)(sp:Sp):Prop where
 ex:∃(k:Nat) (f:Addr) (fd:FuncData) (ps:List Str),eC X.prog X.w X.K X.mg X.base m9 k f fd ps sp/\dF k X.A/\X.mg x=some (.ref f)/\keepIn X.K (.ref f)=true/\Binds X.K fd ps []
 db:(x == ("__debug__" :Str))=false
structure Hk(X:Cx)(x:Str):Prop where
 nm:X.mg x=none
 hn:x≠ "__name__"
 db:(x == ("__debug__" :Str))=false
theorem yK.lc(B:yK X y sp)(h:scope.names.lookup y=some .globalImplicit):GQ (dD X (x::ns) scope cl fp s3 H3 C) y sp:=⟨B.ex,fQ (by decide) h,B.db⟩
end
structure Gd(P:Program)(w:World)(K:PySem.W.Frag)(mg:Str->Option Value)(base:Heap)(k:Nat)(x:Str)(sp:Sp):Prop where
 ex:∃(f:Addr) (fd:FuncData) (ps:List Str),eC P w K mg base m9 k f fd ps sp/\mg x=some (.ref f)/\keepIn K (.ref f)=true/\Binds K fd ps []
structure Md(P:Program)(w:World)(K:PySem.W.Frag)(mg:Str->Option Value)(base:Heap)(k:Nat)(C:Addr)(m:Str)(sp:Sp):Prop where
 ex:∃(f:Addr) (fd:FuncData) (ps:List Str),eC P w K mg base m9 k f fd ps sp/\Meth K C m f/\Binds K fd ps []
 cl:uS K C
structure Kd(P:Program)(w:World)(K:PySem.W.Frag)(mg:Str->Option Value)(base:Heap)(k:Nat)(x:Str)(C:Addr)(sp:Sp):Prop where
 ex:∃(f:Addr) (fd:FuncData) (ps:List Str),eC P w K mg base m9 k f fd ps sp/\Mk K C f/\Binds K fd ps []
 nm:mg x=some (.ref C)
structure K4(X:Cx)(x:Str)(C:Addr)(sp:Sp):Prop where
 ex:∃(k:Nat) (f:Addr) (fd:FuncData) (ps:List Str),eC X.prog X.w X.K X.mg X.base m9 k f fd ps sp/\dF (k+1) X.A/\Mk X.K C f/\Binds X.K fd ps []
 nm:X.mg x=some (.ref C)
 gl:Gl X x
 db:(x == ("__debug__" :Str))=false
structure Met(X:Cx)(C:Addr)(m:Str)(sp:Sp):Prop where
 ex:∃(k:Nat) (f:Addr) (fd:FuncData) (ps:List Str),eC X.prog X.w X.K X.mg X.base m9 k f fd ps sp/\dF k X.A/\Meth X.K C m f/\Binds X.K fd ps []
 cl:uS X.K C
structure Here(X:Cx)(P:Program)(w:World)(K:PySem.W.Frag)(mg:Str->Option Value)(base:Heap)(sc:Scope)(N:List Str)(k:Nat):Prop where
 pr:X.prog=P
 wd:X.w=w
 fK:X.K=K
 gm:X.mg=mg
 bs:X.base=base
 calm:X.calm=true
 own:PassesOwn (model X.prog X.w) X.A X.env X.xe
 hsc:X.env.scope=sc
 hN:X.N=N
 nd:X.N.Nodup
 room:dF k X.A
 fn:∀x,X.fn x=true
section
variable {X:Cx}{P:Program}{w:World}{K:PySem.W.Frag}{mg:Str->Option Value}{base:Heap}{sc:Scope}{N:List Str}{k j:Nat}{x m:Str}{sp:Sp}{C:Addr}
theorem Here.slot (h:Here X P w K mg base sc N k) (i:Nat) (hN:N[i]? =some x) (lc:Loc sc x) (db:(x == ("__debug__" :Str))=false) (cd:(x == ("__classdict__" :Str))=false):Slot X i x:=
 ⟨by rw[h.hN];exact hN,by rw[h.hsc];exact lc,.inl (h.fn x),db,cd⟩
theorem Here.sl (h:Here X P w K mg base sc N k) (i:Nat) (x:Str) (hN:N[i]? =some x:=by rfl) (lc:Loc sc x:=by first|exact .inl rfl|exact .inr rfl) (db:(x == ("__debug__" :Str))=false:=by decide) (cd:(x == ("__classdict__" :Str))=false:=by decide):Slot X i x:=h.slot i hN lc db cd
def Ll(X:Cx):List Nat->List Str->Prop
 |i::is,x::r=>Slot X i x/\Ll X is r
 |_,_=>True
theorem Here.IL(h:Here X P w K mg base sc N k):∀(is:List Nat) (r:List Str),(∀(j i:Nat) x,is[j]? =some i->r[j]? =some x->N[i]? =some x)->(∀x∈r,(sc.names.lookup x=some .local\/sc.names.lookup x=some .cell)/\(x == ("__debug__" :Str))=false/\(x == ("__classdict__" :Str))=false)->Ll X is r
 |[],_,_,_=>trivial
 |_::_,[],_,_=>trivial
 |i::is,x::r,e,c=>⟨h.slot i (e 0 i x rfl rfl) (c x mem_cons_self).1 (c x mem_cons_self).2.1 (c x mem_cons_self).2.2,Here.IL h is r (λj i x a b=>e (j+1) i x a b) λy hy=>c y (mem_cons_of_mem _ hy)⟩
theorem Here.eB (h:Here X P w K mg base sc N k) (is:List Nat) (e:is=List.range N.length:=by rfl) (c:∀x∈N,(sc.names.lookup x=some .local\/sc.names.lookup x=some .cell)/\(x == ("__debug__" :Str))=false/\(x == ("__classdict__" :Str))=false:=by decide+kernel):Ll X is N:=h.IL is N (λj i x a b=>by
 subst e;obtain⟨h1,h2⟩:=List.getElem?_eq_some_iff.mp a;rw[List.getElem_range]at h2;exact h2 ▸ b) c
theorem Here.gl(h:Here X P w K mg base sc N k)(hg:sc.names.lookup x=some .globalImplicit):Gl X x:=by
 show X.env.scope.names.lookup x=_;rw[h.hsc];exact hg
theorem Here.bt (h:Here X P w K mg base sc N k) (hm:mg x=none) (hg:sc.names.lookup x=some .globalImplicit) (hn:x≠ "__name__") (db:(x == ("__debug__" :Str))=false):Bt X x:=⟨h.gl hg,by rw[h.gm];exact hm,hn,db⟩
theorem Here.b (h:Here X P w K mg base sc N k) (hm:mg x=none) (hg:sc.names.lookup x=some .globalImplicit:=by rfl) (hn:x≠ "__name__" :=by decide) (db:(x == ("__debug__" :Str))=false:=by decide):Bt X x:=h.bt hm hg hn db
theorem Here.MV (h:Here X P w K mg base sc N k) (G:Gd P w K mg base j x sp) (hg:sc.names.lookup x=some .globalImplicit) (hj:j<=k) (db:(x == ("__debug__" :Str))=false):GQ X x sp:=by
 obtain⟨f,fd,ps,h1,h2,h3,h4⟩:=G.ex;obtain⟨rfl,rfl,rfl,rfl,rfl⟩:=And.intro h.pr (And.intro h.wd (And.intro h.fK (And.intro h.gm h.bs)));exact⟨⟨j,f,fd,ps,h1,h.room.mono hj,h2,h3,h4⟩,h.gl hg,db⟩
theorem Here.c (h:Here X P w K mg base sc N k) (G:Gd P w K mg base j x sp) (hg:sc.names.lookup x=some .globalImplicit:=by rfl) (hj:j<=k:=by first|decide|exact le_refl _) (db:(x == ("__debug__" :Str))=false:=by decide):GQ X x sp:=h.MV G hg hj db
theorem Here.KW (h:Here X P w K mg base sc N k) (hm:mg x=none) (hn:x≠ "__name__") (db:(x == ("__debug__" :Str))=false):Hk X x:=⟨by rw[h.gm];exact hm,hn,db⟩
theorem Here.KU (h:Here X P w K mg base sc N k) (G:Gd P w K mg base j x sp) (hj:j<=k) (db:(x == ("__debug__" :Str))=false):yK X x sp:=by
 obtain⟨f,fd,ps,h1,h2,h3,h4⟩:=G.ex;obtain⟨rfl,rfl,rfl,rfl,rfl⟩:=And.intro h.pr (And.intro h.wd (And.intro h.fK (And.intro h.gm h.bs)));exact⟨⟨j,f,fd,ps,h1,h.room.mono hj,h2,h3,h4⟩,db⟩
theorem Here.ci (h:Here X P w K mg base sc N k) (G:Gd P w K mg base j x sp) (hj:j<=k:=by first|decide|exact le_refl _) (db:(x == ("__debug__" :Str))=false:=by decide):yK X x sp:=h.KU G hj db
theorem Here.Lg (h:Here X P w K mg base sc N k) (G:Kd P w K mg base j x C sp) (hg:sc.names.lookup x=some .globalImplicit) (hj:j+1<=k) (db:(x == ("__debug__" :Str))=false):K4 X x C sp:=by
 obtain⟨f,fd,ps,h1,h2,h3⟩:=G.ex;have nm:=G.nm;obtain⟨rfl,rfl,rfl,rfl,rfl⟩:=And.intro h.pr (And.intro h.wd (And.intro h.fK (And.intro h.gm h.bs)));exact⟨⟨j,f,fd,ps,h1,h.room.mono hj,h2,h3⟩,nm,h.gl hg,db⟩
theorem Here.met(h:Here X P w K mg base sc N k)(G:Md P w K mg base j C m sp)(hj:j<=k):Met X C m sp:=by
 obtain⟨f,fd,ps,h1,h2,h3⟩:=G.ex;have c:=G.cl;obtain⟨rfl,rfl,rfl,rfl,rfl⟩:=And.intro h.pr (And.intro h.wd (And.intro h.fK (And.intro h.gm h.bs)));exact⟨⟨j,f,fd,ps,h1,h.room.mono hj,h2,h3⟩,c⟩
end
section
variable {X:Cx}{x y:Str}{ns:List Str}{scope:Scope}{cl:List (Str×Addr)}{fp:List Addr}{s3:Shared}{H3:Hp}{C D:Addr}{sp:Sp}{m:Str}
end
theorem EK:bootBuiltins "set" =some (.type "set"):=by decide+kernel
theorem rE:bootBuiltins "min" =some (.builtin "min"):=by decide+kernel
theorem va:bootBuiltins "max" =some (.builtin "max"):=by decide+kernel
theorem eZ{c A B:Prop} [Decidable c] (hc:c)(h:A):if c then A else B:=by
 rw[if_pos hc];exact h
theorem hZ{c A B:Prop} [Decidable c] (hc:¬c)(h:B):if c then A else B:=by
 rw[if_neg hc];exact h
inductive Ks(K:PySem.W.Frag)(x y:V)(H:Hp)(Q:VK):Prop
 |mk(l b:Addr)(xs zs:List V)(hx:x=.ref l)(hy:y=.ref b)(s:cL K H l xs)(t:cL K H b zs)(e:xs.length+zs.length<=sizeLine)(q:∀p,H p=none->Q (.ref p) (upd H p (.lst (xs++zs))))
def Ex(K:PySem.W.Frag):R2:=λx y H Q=>Ks K x y H Q
theorem jD{X:Cx}:gX X (binaryOp .Add) (Ex X.K):=by
 intro pins s σ H x y v u Q I rx ry h;obtain⟨l,b,xs,zs,rfl,rfl,hH,hB,hz,q⟩:=h;cases rx;cases ry;obtain⟨its,r,pl,z⟩:=I.list hH;obtain⟨its2,r2,pl2,z2⟩:=I.list hB;have hl:=r.length;have hl2:=r2.length;obtain⟨⟨cls,dd,data,sl⟩,ho,hc,n,hd⟩:=pl.isList;obtain⟨⟨cls2,dd2,data2,sl2⟩,ho2,hc2,n2,hd2⟩:=pl2.isList;simp only at hc hd hc2 hd2;subst hc hd hc2 hd2;have e:its.toArray++its2.toArray=(its++its2).toArray:=by simp
 refine concat_meets ⟨_,ho,rfl⟩ ⟨_,ho2,rfl⟩ noFill_list_add seq_list_add PySem.F.slot_list_add PySem.F.entry_list_add (PySem.F.args_list_add_2 _ _) (list_addW l b its.toArray its2.toArray n n2 dd dd2 sl sl2 (by simp only[size_toArray];omega)) ⟨ho,ho2,?_⟩;rw[e];exact⟨.ref _,_,I.JK (t':=s.toks) (r.append r2) (by rw[length_append];omega),rfl,q _ I.fresh⟩
end L2
namespace J
open PySem PySem.Spec PyProof.Rows
open L2 (Cx V Hp St VK TE TT TA TS TG pS TI TO R2 Sp XK E0 m9 eC dF Gl Binds RelV Vals cL cW dU Here Gd Md Kd K4 Met Df pT cI Meth Mk uS)
structure Jx(X:Cx)(id:String)(r:V->List V->Hp->VK->Prop):Prop where
 out:L2.J5 X id r
section
variable {X:Cx}{x y:Str}{ns:List Str}{scope:Scope}{cl:List (Str×Addr)}{fp:List Addr}{s3:Shared}{H3:Hp}{C:Addr}{sp:Sp}{p pos apos pos':Pos}{e o value:Expr}{es:List Expr}{ta te tv:TE}{t:TA}{m f:Str}{tg:Expr}
theorem _root_.b7 (h:scope.names.lookup x=some .local) (db:(x == ("__debug__" :Str))=false) (cd:(x == ("__classdict__" :Str))=false):JE (L2.dD X (x::ns) scope cl fp s3 H3 C) (.Name x p) (L2.iV 0):=
 ⟨L2.mS (i:=0) rfl (.inl (PySem.lookup_relabel_local h)) db cd⟩
theorem _root_.cq {i:Nat}(h:scope.names.lookup y=some .free) (hi:ns[i]? =some y) (db:(y == ("__debug__" :Str))=false) (cd:(y == ("__classdict__" :Str))=false):JE (L2.dD X (x::ns) scope cl fp s3 H3 C) (.Name y p) (L2.iV (i+1)):=
 ⟨L2.mS (i:=i+1) hi (.inr (L2.jr h)) db cd⟩
theorem Lg(M:K4 X x C sp)(ha:JA X (e::es) t)(h1:L2.notStar e=true:=by rfl)(h2:es.all L2.notStar=true:=by rfl):JE X (.Call (.Name x p) (e::es) [] pos) (L2.DZ C sp [] E0 t):=by
 obtain⟨k,f,fd,ps,F,hr,mk,bi⟩:=M.ex;exact⟨L2.B4 mk F hr M.gl M.nm bi .nil L2.wJ ha.out M.db (L2.cR h1) (L2.fg h2)⟩
theorem _root_.bR{pl:Sem Bool}(M:Met X C m sp)(he:JE X o ta)(ht:eval (.Call (.Attribute o m apos) [] [] pos) X.env=(do
   let ov <-eval o X.env
   standAt apos.atName
   let (f,first) <-holding [ov] (getMethod ov m pl)
   callWith pos f first (backTo pos (starEach [] X.env)) (backToKw pos (keywordEach [] X.env)))):JE X (.Call (.Attribute o m apos) [] [] pos) (L2.EB C m sp [] E0 ta L2.mP):=by
 obtain⟨k,f,fd,ps,F,hr,me,bi⟩:=M.ex;exact⟨L2.BH he.out M.cl me F hr bi .nil L2.wJ ht⟩
theorem _root_.cw(he:JE X (.Name x p) ta):JE X (.Attribute (.Name x p) f pos) (L2.Jc X.K ta f):=⟨L2.GL he.out rfl⟩
theorem lN(ha:JE X o ta)(hv:JE X value tv)(h:L2.jQ value=false:=by rfl):JS X (.Assign [.Attribute o f pos'] value pos) (L2.Jq X.K ta tv f):=⟨L2.lN ha.out hv.out (L2.ja h)⟩
theorem _root_.bN:Jx X "list.append" L2.rT:=⟨L2.qG⟩
theorem jZ:Jx X "list.reverse" L2.uH:=⟨L2.jZ⟩
theorem oq:Jx X "list.clear" L2.BL:=⟨L2.oq⟩
def se(o:Expr):Bool:=match o with
 |.Call .. =>false
 |_=>true
theorem jm{o:Expr}{name:Str}{env:Env}{v:Sem Value}(h:se o=true):attributeBase o name env v=v:=by
 cases o<;>first|rfl|cases h
theorem Hj{cpos:Pos}{env:Env}(h1:L2.notStar e=true):((backTo cpos (starEach [e] env)).all (λx=> !x.1) && (backToKw cpos (keywordEach [] env)).all (λx=>x.1.isSome)
   && decide ([e].length+([]:List Keyword).length+(if([]:List Keyword).isEmpty then 0 else 1) < 30))=true:=by
 rw[L2.cR h1];rfl
theorem Lx {T id:String}{r:V->List V->Hp->VK->Prop}{name:Str}(pa:PlainAttrs T) (slot:Slot T name id) (hty:typeOf (.builtin id)=pure (.type "method_descriptor")) (hm:Jx X id r) (ho:JE X o te)
  (h:se o=true:=by rfl)(hline:(apos.endLine == pos.line)=true:=by rfl):JE X (.Call (.Attribute o name apos) [] [] pos) (L2.Hy X.K T r te):=⟨L2.Gi pa slot hty hm.out ho.out (jm h) hline⟩
theorem _root_.bM {T id:String}{r:V->List V->Hp->VK->Prop}{name:Str}(pa:PlainAttrs T) (slot:Slot T name id) (hty:typeOf (.builtin id)=pure (.type "method_descriptor")) (hm:Jx X id r) (ho:JE X o te) (ha:JA X [e] t)
  (h:se o=true:=by rfl)(h1:L2.notStar e=true:=by rfl)(hline:(apos.endLine == pos.line)=true:=by rfl):JE X (.Call (.Attribute o name apos) [e] [] pos) (L2.KZ X.K T r te t):=
 ⟨L2.Im pa slot hty hm.out ho.out ha.out (jm h) (Hj h1) hline (L2.cR h1) rfl⟩
theorem kU {e1:Expr}{kk:Nat}{tp:Pos}(B:L2.Bt X "enumerate") (ha:JA X [e1] t) (h1:L2.notStar e1=true:=by rfl):JI X (.Tuple es kk tp) (.Call (.Name "enumerate" p) [e1] [] pos) (L2.Ep X.K t):=⟨L2.kU B ha.out h1⟩
theorem mh(hc:X.calm=true):JF X (.type "set") (λxs H Q=>∃(p:Addr) (zs:List Str),xs=[.ref p]/\cL X.K H p (zs.map V.str)/\zs.Nodup/\zs.length < 1000/\∀q,H q=none->Q (.ref q) (L2.upd H q (L2.setM X.prog X.w q zs.length))):=⟨L2.mh hc⟩
theorem gM:JF X (.builtin "len") (λxs H Q=>∃(p:Addr) (n:Nat),xs=[.ref p]/\H p=some (L2.setM X.prog X.w p n)/\Q (.int n) H):=⟨L2.gM⟩
theorem _root_.bh:HK X [] L2.IW:=⟨L2.Cp⟩
theorem _root_.aF{g:TG}{u:pS}(S:JG X (.Name x p) g)(h:HK X es u):HK X (.Name x p::es) (L2.Ed g u):=⟨L2.AW S.out h.out rfl⟩
theorem _root_.bq{k n:Nat}{u:pS}(hc:X.calm=true)(h:HK X es u)(hn:(assignEach es X.env).length=n:=by rfl)(hst:(assignEach es X.env).findIdx? (·.1)=none:=by rfl):JG X (.Tuple es k pos) (L2.EZ X.K n u):=⟨L2.Bp hc h.out hn hst⟩
theorem _root_.bO{g:TG}(he:JE X e te)(hg:JG X tg g)(hs:swapsWithSole [tg] e pos.line X.env=pure false:=by rfl)(hw:swappedStores [tg] e X.env=pure none:=by rfl)
  (h1:(assignEach [tg] X.env).map (·.2)=[assign tg X.env]:=by rfl):JS X (.Assign [tg] e pos) (L2.uj te g):=⟨L2.Fm he.out hg.out hs hw h1⟩
theorem jD:JB X .Add (L2.Ex X.K):=⟨L2.jD⟩
theorem xx(h:JE X (.Name x p) te):JT X (.Name x p) (L2.tB te):=⟨L2.uW h.out (λ_=>rfl)⟩
theorem _root_.b8{a b:Expr}:dO (.Subscript a b p):=⟨λ_ _=>rfl⟩
theorem _root_.bH{P:Program}{w:World}{K:PySem.W.Frag}{mg:Str->Option Value}{base:Heap}{sc:Scope}{N:List Str}{k:Nat}{v:V}(hh:Here X P w K mg base sc N k)(hm:∃u,mg x=some u/\RelV v u)(hg:sc.names.lookup x=some .globalImplicit)
  (db:(x == ("__debug__" :Str))=false):JE X (.Name x p) (L2.tC v):=by
 obtain⟨u,h1,h2⟩:=hm;exact J.kD (hh.gl hg) (by rw[hh.gm];exact h1) h2 db
end
section
variable {P:Program}{w:World}{K:PySem.W.Frag}{mg:Str->Option Value}{base:Heap}{x qual m:Str}{st:Stmt}{f C:Addr}{fd:FuncData}{N ps:List Str}{k:Nat}{sp:Sp}
theorem nU(F:pT K x qual st f fd)(S:cI N ps (L2.cG st))(len:∀vs H Q E,sp vs H Q E->vs.length=ps.length)
  (hbody:∀(X:Cx)(H:Hp)(vs:List V)(Q:VK)(E:XK),Here X P w K mg base (L2.cG st) N k->sp vs H Q E->∃t,tP X (L2.cX st) t/\t { nx:=λ_ H'=>Q .non H',rt:=Q } (L2.start N vs) H):eC P w K mg base m9 (k+1) f fd ps sp:=by
 refine Eb F S len λX cdv A outer s H vs Q E hX hr h=>?_;subst hX;exact hbody _ H vs Q E ⟨rfl,rfl,rfl,rfl,rfl,rfl,PassesOwn.never,rfl,rfl,S.nd,hr,λ_=>rfl⟩ h
theorem E6(D:Df K mg x st ps f fd)(S:cI N ps (L2.cG st))(len:∀vs H Q E,sp vs H Q E->vs.length=ps.length)
  (hbody:∀(X:Cx)(H:Hp)(vs:List V)(Q:VK)(E:XK),Here X P w K mg base (L2.cG st) N k->sp vs H Q E->∃t,tP X (L2.cX st) t/\t { nx:=λ_ H'=>Q .non H',rt:=Q } (L2.start N vs) H):Gd P w K mg base (k+1) x sp:=
 ⟨f,fd,ps,nU D.fn S len hbody,D.nm,D.fn.kp,D.bi⟩
theorem _root_.aH(D:Df K mg x st ps f fd)(S:cI N ps (L2.cG st))
  (hbody:∀(X:Cx)(H:Hp)(vs:List V)(Q:VK)(E:XK),Here X P w K mg base (L2.cG st) N k->sp vs H Q E->∃t,tP X (L2.cX st) t/\t { nx:=λ_ H'=>Q .non H',rt:=Q } (L2.start N vs) H)(len:∀vs H Q E,sp vs H Q E->vs.length=ps.length:=by intro _ _ _ _ h;first| (obtain⟨⟩:=h;subst_vars;rfl)| ((repeat (obtain⟨_,h⟩:=h));subst_vars;rfl)):Gd P w K mg base (k+1) x sp:=E6 D S len hbody
theorem _root_.cC(F:pT K m qual st f fd)(me:Meth K C m f)(bi:Binds K fd ps [])(cl:uS K C)(S:cI N ps (L2.cG st))(len:∀vs H Q E,sp vs H Q E->vs.length=ps.length)
  (hbody:∀(X:Cx)(H:Hp)(vs:List V)(Q:VK)(E:XK),Here X P w K mg base (L2.cG st) N k->sp vs H Q E->∃t,tP X (L2.cX st) t/\t { nx:=λ_ H'=>Q .non H',rt:=Q } (L2.start N vs) H):Md P w K mg base (k+1) C m sp:=
 ⟨⟨f,fd,ps,nU F S len hbody,me,bi⟩,cl⟩
theorem DC{y:Str}(F:pT K m qual st f fd)(mk:Mk K C f)(bi:Binds K fd ps [])(nm:mg y=some (.ref C))(S:cI N ps (L2.cG st))(len:∀vs H Q E,sp vs H Q E->vs.length=ps.length)
  (hbody:∀(X:Cx)(H:Hp)(vs:List V)(Q:VK)(E:XK),Here X P w K mg base (L2.cG st) N k->sp vs H Q E->∃t,tP X (L2.cX st) t/\t { nx:=λ_ H'=>Q .non H',rt:=Q } (L2.start N vs) H):Kd P w K mg base (k+1) y C sp:=
 ⟨⟨f,fd,ps,nU F S len hbody,mk,bi⟩,nm⟩
end
end J
namespace L2
open PySem PySem.Spec PyProof.Rows
theorem eS(n:Nat):(List.range n).all (λ_=>true)=true:=by
 rw[all_eq_true];intro _ _;rfl
def MO(K:PySem.W.Frag):R2:=λx y H Q=>∃a b xs ys,x=.ref a/\y=.ref b/\cL K H a xs/\cL K H b ys/\xs.length=ys.length/\
 (∀(i:Nat) u v,xs[i]? =some u->ys[i]? =some v->∃p q zs,u=.ref p/\v=.ref q/\p≠q/\cL K H p zs/\cL K H q zs/\∀z∈zs,(∃t,z=V.str t)\/∃c,z=V.ref c)/\Q (.bl false) H
end L2
namespace J
open PySem PySem.Spec PyProof.Rows
end J
namespace L2
open PySem PySem.Spec PyProof.Rows
section
variable {X:Cx}{x:Str}{px pos:Pos}{elt iter:Expr}{scope:Scope}{wi:TI}{te:TE}{is:List Nat}{ns:List Str}
end
theorem yD{elt:Expr}{gs:List Comprehension}{scope:Scope}{pos py:Pos}{y:Str}{n:Nat}{env:Env}{sc:Scope}(hsc:env.scope=sc)
  (h:((if sc.kind.isAnnotationScope then ScopeKind.function else sc.kind) == .function && sc.names.lookup y == some .local && py.line == pos.line && !(scope.names.any λ(n,k)=>n == y && (k == .local || k == .cell)))=true):
  swapsWith (.ListComp elt gs scope pos) (some (.Name y py)) n env=pure true:=by
 subst hsc;show(pure _:Sem Bool)=pure true;exact congrArg pure h
end L2
namespace J
open PySem PySem.Spec PyProof.Rows
open L2 (Cx V Hp St VK TE TT TA TS TG pS TI TO)
end J
namespace L2
open PySem PySem.Spec PyProof.Rows
def Dy(J:It)(is:List Nat)(tc:TT)(te:TE)(σ:St)(H1:Hp)(Q:VK):Prop:=∀D,H1 D=none->∃W:Nat->Nat->List V->Hp->Prop,(∃m,W 0 m [] (upd H1 D (.lst [])))/\
 ∀i m ys H2,W i m ys H2->H2 D=some (.lst ys)/\((J.stop i H2/\Q (.ref D) H2)\/(J.go i H2/\∀v H3,J.yld i H2 v H3->tc (some v::d9 is σ) H3 λb H4=>if b=true then te (some v::d9 is σ) H4 (λy H5=>
  H5 D=some (.lst ys)/\ys.length < sizeLine/\∃m',m' < m/\W (i+1) m' (ys++[y]) (upd H5 D (.lst (ys++[y])))) else ∃m',m' < m/\W (i+1) m' ys H4))
def MM(wi:TI)(is:List Nat)(tc:TT)(te:TE):TE:=λσ H Q=>wi σ H λJ H1=>Dy J is tc te σ H1 Q
section
variable {X:Cx}{x:Str}{px pos:Pos}{elt iter ct:Expr}{scope:Scope}{wi:TI}{te:TE}{tc:TT}{is:List Nat}{ns:List Str}
end
end L2
namespace J
open PySem PySem.Spec PyProof.Rows
open L2 (Cx V Hp St VK TE TT TA TS TG pS TI TO)
end J
namespace L2
open PySem PySem.Spec PyProof.Rows
section
variable {X:Cx}{pins:List (Addr×Obj)}{σ:St}{H:Hp}{s:Shared}{p:Addr}{ns:List Int}
theorem Inv.ints(I:Inv X pins σ H s)(h:cL X.K H p (ns.map V.int)):∃xs:Array (Int×Tok),s.heap.IsList p (intItems xs)/\xs.toList.map (·.1)=ns:=by
 obtain⟨its,r,pl,_⟩:=I.list h;have hi:=intsAre_of r;obtain⟨xs,e⟩:=hi.allInts.items;refine⟨xs,by rw[<-e];exact pl.isList,?_⟩;have e2:=hi.numsOf;have e3:its=(intItems xs).toList:=by rw[<-e]
 rw[e3,nums_intItems]at e2;exact e2
theorem jA(hc:X.calm=true):eR X (.builtin "sum") (λxs H Q=>∃(p:Addr) (ns:List Int),xs=[.ref p]/\cL X.K H p (ns.map V.int)/\Q (.int ns.sum) H):=by
 intro pins s σ H xs us Q I r h;obtain⟨p,ns,rfl,hq,q⟩:=h;obtain⟨u,rfl,rx⟩:=vals1 r;cases rx;obtain⟨ys,hl,e⟩:=I.ints hq;refine sum_intListG (I.ok.hd hc) hl λh' tk t' hk=>?_;rw[preSum_eq,e,take_of_length_le (by rw[<-e,length_map,length_toList];exact le_refl _)];exact⟨.int _,H,I.kept (t':=tk) hk,⟨_,rfl⟩,q⟩
def iU:V->V->Option Bool
 |.ref a,.ref b=>if a=b then some true else none
 |x,y=>if df x=true/\df y=true then some (uv x y) else none
theorem gT{A:Around}{s:Shared}{x y:V}{u v:Value}{b:Bool}(ru:RelV x u)(rv:RelV y v)(h:iU x y=some b):SeqAt.EqAt A s u v b:=by
 have flat:(if df x=true/\df y=true then some (uv x y) else none)=some b->SeqAt.EqAt A s u v b:=λh=>by
  by_cases c:df x=true/\df y=true
  ·rw[if_pos c]at h
   cases h;exact rN ru rv c.1 c.2
  ·rw[if_neg c]at h
   cases h
 cases x with
 |ref a=>
  cases y with
  |ref c=>
   have h':(if a=c then some true else none)=some b:=h;by_cases e:a=c
   ·rw[if_pos e]at h'
    cases h';cases ru;cases rv;rw[e];exact SeqAt.EqAt.same _
   ·rw[if_neg e]at h'
    cases h'
  |_=>exact flat h
 |_=>exact flat h
def Hn(bs:List Bool):Bool:=(List.range bs.length).all λi=>bs.getD i false
def Hv(K:PySem.W.Frag):R2:=λx y H Q=>∃a b xs ys bs,x=.ref a/\y=.ref b/\cL K H a xs/\cL K H b ys/\xs.length=bs.length/\ys.length=bs.length/\(∀(i:Nat) u v c,xs[i]? =some u->ys[i]? =some v->bs[i]? =some c->iU u v=some c)/\Q (.bl (Hn bs)) H
theorem c9{its:List Value}{xs:List V}{j:Nat}(r:Vals xs its)(h:j < its.length):∃x,xs[j]? =some x/\RelV x its[j]:=by
 have hl:=r.length;have e:xs[j]? =some xs[j]:=getElem?_eq_getElem (by omega);obtain⟨u,eu,ru⟩:=r.get e;rw[getElem?_eq_getElem h]at eu;cases eu;exact⟨_,e,ru⟩
theorem o7(hu:X.A.units+1 < cLine):gX X (compareOp .Eq) (Hv X.K):=by
 intro pins s σ H x y v u Q I rx ry h;obtain⟨a,b,xs,ys,bs,rfl,rfl,ha,hb,l1,l2,he,q⟩:=h;cases rx;cases ry;obtain⟨its,r,pl,_⟩:=I.list ha;obtain⟨its2,r2,pl2,_⟩:=I.list hb;have m1:=r.length;have m2:=r2.length;refine SeqAt.eq_listAt (e:=λi=>bs.getD i false) pl.isList pl2.isList (by simp only[size_toArray];omega) (by omega) (λj h1 h2=>?_) ?_
 ·simp only[size_toArray]at h1 h2
  obtain⟨x1,e1,r1⟩:=c9 r h1;obtain⟨x2,e2,r2'⟩:=c9 r2 h2;have hj:j < bs.length:=by omega
  have e3:bs[j]? =some bs[j]:=getElem?_eq_getElem hj;have e4:bs.getD j false=bs[j]:=by rw[getD_eq_getElem?_getD,e3];rfl
  show SeqAt.EqAt X.A.in1 s its.toArray[j] its2.toArray[j] (bs.getD j false);rw[e4];simp only[getElem_toArray];exact gT r1 r2' (he j x1 x2 _ e1 e2 e3)
 ·have hz:its.toArray.size=bs.length:=by simp only[size_toArray];omega
  rw[hz];exact⟨.bl _,H,I,rfl,q⟩
end
end L2
namespace J
open PySem PySem.Spec PyProof.Rows
open L2 (Cx V cL)
theorem jA{X:Cx}(hc:X.calm=true):JF X (.builtin "sum") (λxs H Q=>∃(p:Addr) (ns:List Int),xs=[.ref p]/\cL X.K H p (ns.map V.int)/\Q (.int ns.sum) H):=⟨L2.jA hc⟩
theorem o7{X:Cx}(hu:X.A.units+1 < cLine):JC X .Eq (L2.Hv X.K):=⟨L2.o7 hu⟩
end J
namespace L2
open PySem PySem.Spec PyProof.Rows
section
variable {X:Cx}
inductive IT(vs:List V)(H:Hp)(Q:VK):Prop
 |mk(j:Int)(e:vs=[.int j])(lo: -(2 ^ 62)<=j)(hi:j<=sizeLine)(q:∀l,H l=none->Q (.ref l) (upd H l (.lst ((List.range j.toNat).map λ(i:Nat)=>V.int (i:Int)))))
def LU(ta:TA):TE:=λσ H Q=>ta σ H λvs H1=>IT vs H1 Q
inductive Gj(K:PySem.W.Frag)(x y:V)(H:Hp)(Q:VK):Prop
 |mk(a b:Addr)(xs ys:List V)(hx:x=.ref a)(hy:y=.ref b)(s:cL K H a xs)(t:cL K H b ys)(n:xs.length≠ys.length)(q:Q (.bl false) H)
theorem yH(hu:X.A.units+1 < cLine):gX X (compareOp .Eq) (λx y H Q=>Gj X.K x y H Q):=by
 intro pins s σ H x y v u Q I rx ry h;obtain⟨a,b,xs,ys,rfl,rfl,ha,hb,n,q⟩:=h;cases rx;cases ry;obtain⟨its,r,pl,_⟩:=I.list ha;obtain⟨its2,r2,pl2,_⟩:=I.list hb;have m1:=r.length;have m2:=r2.length;refine SeqAt.eq_list_lengthsAt pl.isList pl2.isList ?_ (by omega) ⟨.bl _,H,I,rfl,q⟩;rw[bne_iff_ne];simp only[size_toArray];omega
inductive MX(K:PySem.W.Frag)(x y:V)(H:Hp)(Q:VK):Prop
 |mk(a b:Addr)(xs ys:List V)(bs:List Bool)(hx:x=.ref a)(hy:y=.ref b)(s:cW K H a xs)(t:cW K H b ys)(l1:xs.length=bs.length)(l2:ys.length=bs.length)
   (e:∀(i:Nat) u v c,xs[i]? =some u->ys[i]? =some v->bs[i]? =some c->iU u v=some c)(q:Q (.bl (Hn bs)) H)
end
end L2
namespace J
open PySem PySem.Spec PyProof.Rows
open L2 (Cx V cL cW)
theorem wo{X:Cx}:JL X (L2.JP X.K):=⟨L2.wo⟩
end J
namespace L2
open PySem PySem.Spec PyProof.Rows
theorem oh{prog:Program}{w:World}{A:Around}{R:Result->Shared->Prop}{s:Shared}{elt target iter:Expr}{cts:List Expr}{scope:Scope}{pos:Pos}{it acc:Value}{env:Env}(I:Nat->Shared->Prop)
  (turn:∀n s,I n s->wpAny (model prog w) A (pyNext it) (λr s₁=>match r with
   |none=>R (.ok .next) s₁
   |some v=>wpAny (model prog w) A (letOwnedTupleGo target it v) (λ_ s₁'=>wpAny (model prog w) A (assign target env v) (λ_ s₂=>wpAny (model prog w) A (forIn cts true λc r=>if r=true then do let ok <-isTrue c env (eval c env);pure (ForInStep.yield ok) else pure (ForInStep.yield r)) (λok s₂'=>if ok=true then wpAny (model prog w) A (eval elt env) (λx s₃=>
     wpAny (model prog w) A (call (.builtin "list.append") [acc,x]) (λ_ s₄=>∃m,m < n/\I m s₄) (notedBy (model prog w) A env λe s'=>R (.error e) s') s₃)
     (notedBy (model prog w) A env λe s'=>R (.error e) s') s₂' else ∃m,m < n/\I m s₂') (notedBy (model prog w) A env λe s'=>R (.error e) s') s₂) (notedBy (model prog w) A env λe s'=>R (.error e) s') s₁') (notedBy (model prog w) A env λe s'=>R (.error e) s') s₁) (notedBy (model prog w) A env λe s'=>R (.error e) s') s)
  (n:Nat) (h:I n s):
  codeAny (model prog w) A (.compLoop (.ListComp elt [⟨target,iter,cts,0⟩] scope pos) 0 it acc env) R s:=by
 refine codeAny_loop rfl I (λn s hI=>?_) n h;show wpAny _ _ ((compTurn (.ListComp elt [⟨target,iter,cts,0⟩] scope pos) 0 it acc env).onRaise (λx=>do noteFrame x env;theTreesLotGoes x)) _ _ s;refine wpAny_noted ?_;rw[compTurn_list];refine wpAny_bind (wpAny_standAt (wpAny_bind (wpAny_mono (turn n s hI) (λr s₁ h₁=>?_) λ_ _ h'=>h')));cases r with
 |none=>exact wpAny_pure h₁
 |some v=>
  refine wpAny_bind (wpAny_mono h₁ (λ_ s₁' h₁'=>?_) λ_ _ h'=>h');refine wpAny_bind (wpAny_mono h₁' (λ_ s₂ h₂=>wpAny_bind (wpAny_mono h₂ (λok s₃ h₃=>?_) λ_ _ h'=>h')) λ_ _ h'=>h');cases ok with
  |false=>exact wpAny_pure ⟨rfl,h₃⟩
  |true=>
   exact wpAny_bind (wpAny_bind (wpAny_mono h₃ (λx s₄ h₄=>wpAny_bind (wpAny_mono h₄ (λ_ s₅ h₅=>wpAny_pure (wpAny_pure ⟨rfl,h₅⟩)) λ_ _ h'=>h')) λ_ _ h'=>h'))
def Hl(X:Cx)(cts:List Expr)(t:TT):Prop:=
 ∀(pins:List (Addr×Obj)) (s:Shared) (σ:St) (H:Hp) (Q:Bool->Hp->Prop),Inv X pins σ H s->t σ H Q->wpAny (model X.prog X.w) X.A (forIn cts true λc r=>if r=true then do let ok <-isTrue c X.env (eval c X.env);pure (ForInStep.yield ok) else pure (ForInStep.yield r)) (TP X pins σ Q) X.xe s
def tQ:TT:=λ_ H Q=>Q true H
theorem xB{X:Cx}:Hl X [] tQ:=λ_ _ _ H _ I h=>wpAny_tests_nil ⟨H,I,h⟩
theorem B7{X:Cx}{ct:Expr}{t:TT}(h:PT X ct t):Hl X [ct] t:=λpins s σ H Q I q=>wpAny_tests_one (h pins s σ H Q I q)
inductive Iy(J:It)(n:Nat)(is:List Nat)(g:TG)(tc:TT)(te:TE)(σ:St)(W:Nat->Nat->List V->Hp->Prop)(D:Addr)(i m:Nat)(ys:List V)(H2:Hp):Prop
 |mk(go:J.go i H2)(nx:∀(os:St) v H3,os.length=n->J.yld i H2 v H3->g v (os++d9 is σ) H3 λσ' H4=>(∃os':St,os'.length=n/\σ'=os'++d9 is σ)/\tc σ' H4 λb H5=>if b=true then te σ' H5 (λy H6=>
  H6 D=some (.lst ys)/\ys.length < sizeLine/\∃m',m' < m/\W (i+1) m' (ys++[y]) (upd H6 D (.lst (ys++[y])))) else ∃m',m' < m/\W (i+1) m' ys H5)
def eX(J:It)(n:Nat)(is:List Nat)(g:TG)(tc:TT)(te:TE)(σ:St)(H1:Hp)(Q:VK):Prop:=∀D,H1 D=none->∃W:Nat->Nat->List V->Hp->Prop,(∃m,W 0 m [] (upd H1 D (.lst [])))/\
 ∀i m ys H2,W i m ys H2->H2 D=some (.lst ys)/\((J.stop i H2/\Q (.ref D) H2)\/Iy J n is g tc te σ W D i m ys H2)
def C9(wi:TI)(n:Nat)(is:List Nat)(g:TG)(tc:TT)(te:TE):TE:=λσ H Q=>wi σ H λJ H1=>eX J n is g tc te σ H1 Q
structure tK(sc:Scope)(N:List Str)(xs:List Str)(scope:Scope)(is:List Nat)(ns:List Str):Prop where
 kind:scope.kind=.function:=by rfl
 nocell:∀y∈scope.names,y.2≠.cell:=by decide+kernel
 names:∀y∈scope.names,y.2=.local->scope.names.lookup y.1=some .local:=by decide+kernel
 free:∀y∈scope.names,y.2=.free->sc.names.lookup y.1=some .cell:=by decide+kernel
 cap:ns.map some=is.map λi=>N[i]? :=by rfl
 capf:∀y∈ns,scope.names.lookup y=some .free/\sc.names.lookup y=some .cell:=by decide+kernel
section
variable {X:Cx}{xs:List Str}{tg:Expr}{pos:Pos}{elt iter:Expr}{cts:List Expr}{scope:Scope}{wi:TI}{g:TG}{tc:TT}{te:TE}{is:List Nat}{ns:List Str}
def zW(X:Cx)(pins:List (Addr×Obj))(σ:St)(Qs:VK)(use:Option (Value->Sem Unit))(Qv:Value->Shared->Prop):Prop:=
 ∀(D C:Addr) (H5:Hp) (s6:Shared) (m:Str->Option Value),Qs (.ref D) H5->Inv X pins σ H5 s6->ni X pins H5 C->s6.heap.Ns C m->compPost (model X.prog X.w) X.A X.xe use Qv (.ref D) C (.ok .next) s6
theorem mB{sc:Scope}{N:List Str}{use:Option (Value->Sem Unit)}{Qv:Value->Shared->Prop}{Gf:It->Hp->Prop}{Qs:VK}{cp:Pos}{pins:List (Addr×Obj)}{s:Shared}{σ:St}{H:Hp}(I:Inv X pins σ H s)(h:wi σ H Gf)(hG:∀J H1,Gf J H1->eX J xs.length is g tc te σ H1 Qs)
  (fin:zW X pins σ Qs use Qv)(hc:X.calm=true)(hi:PI X tg iter wi)(L:tK sc N xs scope is ns)(hg:∀cl fp s3 H3 C,PG (dD X (xs++ns) scope cl fp s3 H3 C) tg g)(hct:∀cl fp s3 H3 C,Hl (dD X (xs++ns) scope cl fp s3 H3 C) cts tc)(he:∀cl fp s3 H3 C,PE (dD X (xs++ns) scope cl fp s3 H3 C) elt te)
  (hsc:X.env.scope=sc)(hN:X.N=N)(hs:∀x,foldedSetIterable iter X.env x=pure x):
  wpAny (model X.prog X.w) X.A (comprehension (.ListComp elt [⟨tg,iter,cts,0⟩] scope pos) scope X.env cp (newList []) false (eval iter X.env) use) Qv X.xe s:=by
 subst hsc hN;obtain⟨cl,hcl,cl1,cl2⟩:=vE (env:=X.env) (scope:=scope) (λy hy hf=>I.ok.has y.1 (.inl (L.free y hy hf)));refine wpAny_comprehension_free rfl hs hcl L.kind L.names (di (hi pins s σ H _ I h) λv s1 h1=>di h1 λitv s2 h2=>?_);obtain⟨it,fp,tn,J,H2,e,I2,T,st2,f2,h2⟩:=h2;subst e;refine wpAny_newObj_type (wpAny_newFunctionEnv L.nocell (by intro y hy;simp at hy) (λh₁ hns₁ hsb₁=>?_) L.kind);have hD:H2 s2.heap.objs.size=none:=I2.hok.fresh (le_refl _);have I3:Inv X pins σ (upd H2 s2.heap.objs.size (.lst [])) { s2 with heap:=s2.heap.push { cls:=.type "list",dict:=none,data:=.seq ([]:List Value).toArray } }:=
  I2.laid (t':=s2.toks) (λb u e=>get?_push_of_some _ e) (le_refl _) ⟨zero_le _,[],0,.nil,get?_push_size _ rfl⟩
 have kp23:∀b u,s2.heap.get? b=some u->(s2.heap.push { cls:=.type "list",dict:=none,data:=.seq ([]:List Value).toArray }).get? b=some u:=λb u e=>get?_push_of_some _ e;obtain⟨W,⟨m0,w0⟩,turn⟩:=hG J H2 h2 s2.heap.objs.size hD;dsimp only at hns₁ hsb₁ ⊢;generalize hD0:s2.heap.objs.size=D at *;generalize hp3:s2.heap.push { cls:=.type "list",dict:=none,data:=.seq ([]:List Value).toArray }=p3 at *;generalize hH3:upd H2 D (.lst [])=H3 at *;have fpD:∀b∈fp,b≠D:=λb hb=>by
  obtain⟨o,e,_⟩:=T.obj 0 s2.heap st2 b hb;rw[<-hD0];exact ne_of_lt (lt_size e)
 have fp3:∀b∈fp,ni X pins H3 b:=λb hb=>⟨by rw[<-hH3,cH (fpD b hb)];exact(f2 b hb).1,(f2 b hb).2⟩;have st3:tn 0 p3:=T.keep 0 s2.heap p3 st2 λb _ o e=>kp23 b o e;have fplt:∀b∈fp,b < p3.objs.size:=λb hb=>by
  obtain⟨o,e,_⟩:=T.obj 0 p3 st3 b hb;exact lt_size e
 have old:∀b u,p3.get? b=some u->h₁.get? b=some u:=λb u e=>hsb₁.extBut b u (ne_of_lt (lt_size e)) (get?_push_of_some _ e);generalize hC:p3.objs.size=C at *;have hfree:∀b∈fp,H3 b=none:=λb hb=>(fp3 b hb).1;have okX:(dD X (xs++ns) scope cl fp { s2 with heap:=p3 } H3 C).Ok:=by
  refine⟨I.ok.mod,L.kind,I.ok.glob,I.ok.blt,le_of_eq hC,λy z c e1 e2=>I.ok.inj y z c (cl1 y c e1) (cl1 z c e2),λy hy=>?_,λ_ _ z=>(by cases z),I.ok.hd,I.ok.frames,.inl rfl,λb hb=>⟨ne_of_lt (fplt b hb),λy c e=>(fp3 b hb).2.2.2.2.1 y c (cl1 y c e)⟩,I3.bs,le_trans I3.ok.bsz I3.sz,λb o e hb=>?_,λb hb z=>?_,I3.stack,I3.kC⟩
  ·have hm:(y,NameKind.free)∈scope.names:=by
    rcases hy with hy|hy
    ·exact kN hy (.inl rfl) L.nocell
    ·exact kN hy (.inr rfl) L.nocell
   obtain⟨c,hc'⟩:=I.ok.has y (.inl (L.free _ hm rfl));exact⟨c,(cl2 _ hm rfl).trans hc'⟩
  ·rcases (fp3 b hb).2.2.2.1 with z|z
   ·exact I.ok.noex b o e z
   ·exact absurd (lt_of_lt_of_le (lt_size e) (le_trans I.ok.bsz z)) (lt_irrefl _)
  ·exact(mem_cons.mp (I3.wz b z)).elim (fp3 b hb).2.1 (fp3 b hb).2.2.1
 have hlen:(d9 is σ).length=ns.length:=by
  have:=congrArg List.length L.cap;rw[length_map,length_map]at this;rw[d9,length_map];exact this.symm
 have rl:(List.replicate xs.length (none:Option V)).length=xs.length:=List.length_replicate ..;have I4:Inv (dD X (xs++ns) scope cl fp { s2 with heap:=p3 } H3 C) [] (List.replicate xs.length none++d9 is σ) H3 { s2 with heap:=h₁,toks:=s2.toks+0 }:=by
  refine⟨okX,rfl,I3.bare,Un.kept old,⟨_,hns₁,λi y v e1 e2 e3=>?_⟩,λy c e=>?_,?_,λy c e=>I3.freeC y c (cl1 y c e),λp hp=>absurd (show p∈([]:List (Addr×Obj)) from hp) (by simp),I3.hok.kept old,by show(List.replicate xs.length none++d9 is σ).length=(xs++ns).length;rw[length_append,length_append,hlen,rl]⟩
  ·have e1:(xs++ns)[i]? =some y:=e1
   by_cases hi:i < xs.length
   ·rw[getElem?_append_left (by rw[rl];exact hi),List.getElem?_replicate,if_pos hi]at e2
    cases e2
   ·rw[getElem?_append_right (by rw[rl];omega),rl]at e2
    rw[getElem?_append_right (by omega)]at e1;generalize i - xs.length=j at e1 e2;have e1':ns[j]? =some y:=e1;have e2':(d9 is σ)[j]? =some (some v):=e2;have hy:=L.capf y (mem_of_getElem? e1');have hcap:(ns.map some)[j]? =(is.map λi=>X.N[i]?)[j]? :=by rw[L.cap]
    rw[getElem?_map,getElem?_map,e1']at hcap;rw[d9,getElem?_map]at e2';cases hk:is[j]? with
    |none=>rw[hk]at e2';cases e2'
    |some k=>
     rw[hk]at hcap e2';have hN:X.N[k]? =some y:=(Option.some.inj hcap).symm;have hσ:σ[k]? =some (some v):=by
      have q:(σ[k]?).join=some v:=Option.some.inj e2';cases z:σ[k]? with
      |none=>rw[z]at q;cases q
      |some o=>rw[z]at q;exact congrArg some q
     obtain⟨m,hn,hl⟩:=I3.loc;obtain⟨u,r,l⟩:=hl k y v hN hσ (.inr (.inl hy.2));refine⟨u,r,?_⟩;rcases l with ⟨hk',_⟩|⟨hk',c,ec,o,ho,hd⟩
     ·have hk2:X.env.scope.names.lookup y=some .local:=hk'
      rw[hy.2]at hk2;cases hk2
     ·exact .inr ⟨.inl (lp I.ok.kind hy.1 hy.2),c,(cl2 _ (PySem.mem_of_lookup hy.1) rfl).trans ec,o,old c o ho,hd⟩
  ·obtain⟨v,o,ho,hd⟩:=I3.cell y c (cl1 y c e)
   exact⟨v,o,old c o ho,hd⟩
  ·show H3 C=none
   rw[<-hC];exact I3.hok.fresh (le_refl _)
 have st4:tn 0 h₁:=T.keep 0 p3 h₁ st3 λb _ o e=>old b o e;have stat:∀{H':Hp},(∀b∈fp,H' b=none)->∀b∈fp,ni (dD X (xs++ns) scope cl fp { s2 with heap:=p3 } H3 C) [] H' b:=λ{H'} hn b hb=>
  ⟨hn b hb,ne_of_lt (fplt b hb),okX.exfs b hb,.inl hb,λy c e=>(fp3 b hb).2.2.2.2.1 y c (cl1 y c e),λp hp=>absurd (show p∈([]:List (Addr×Obj)) from hp) (by simp)⟩
 have loop:codeAny (model X.prog X.w) X.A (.compLoop (.ListComp elt [⟨tg,iter,cts,0⟩] scope pos) 0 (.ref it) (.ref D) (compEnvC scope cl C X.env))
   (compPost (model X.prog X.w) X.A X.xe use Qv (.ref D) C) { s2 with heap:=h₁,toks:=s2.toks+0 }:=by
  refine oh (λn s'=>∃i os ys H',os.length=xs.length/\Inv (dD X (xs++ns) scope cl fp { s2 with heap:=p3 } H3 C) [] (os++d9 is σ) H' s'/\tn i s'.heap/\(∀b∈fp,H' b=none)/\W i n ys H') ?_ m0 ⟨0,List.replicate xs.length none,[],H3,rl,I4,st4,hfree,w0⟩;rintro n s5 ⟨i,os,ys,H5,hos,I5,st5,fr5,w5⟩;obtain⟨hD5,⟨stop,q⟩|⟨go,step⟩⟩:=turn i n ys H5 w5
  ·refine di (T.done (dD X (xs++ns) scope cl fp { s2 with heap:=p3 } H3 C) rfl rfl rfl hc i [] s5 _ H5 _ I5 (stat fr5) st5 stop) λr s6 ⟨hr,I6⟩=>?_
   subst hr;obtain⟨m,hn,_⟩:=id I6.loc;have neC:∀b o,p3.get? b=some o->b≠C:=λb o e=>by rw[<-hC];exact ne_of_lt (lt_size e)
   have fC:H5 C=none:=I6.free;have I6X:Inv X pins σ H5 s6:=by
    refine I3.tF (s':=s6) (ch:=fp) I6.os ⟨λb o e nn hb hx=>?_,λb o e nn hb hx=>?_,I6.base.free,λb o e hx=>?_,I6.base.tups,I6.base.frzs,I6.base.tbls⟩ (λb ob e=>I6.hok b ob e) I6.bare λb hb=>⟨(fp3 b hb).2.2.2.1,(fp3 b hb).2.1,(fp3 b hb).2.2.2.2.1,(fp3 b hb).2.2.2.2.2⟩
    ·exact I6.base.keep b o e nn hb hx
    ·exact I6.base.slot b o e nn hb hx
    ·exact I6.base.there b o e hx
   exact fin D C H5 s6 m q I6X (I3.yy (le_of_eq hC) fC) hn
  ·refine di (T.item (dD X (xs++ns) scope cl fp { s2 with heap:=p3 } H3 C) rfl rfl rfl hc i [] s5 _ H5 _ I5 (stat fr5) st5 go) λr s6 ⟨u,hr,h6⟩=>?_
   subst hr;refine di h6 λ_ s7 hpat=>?_;obtain⟨v,H7,I7,r7,y7,st7,fr7⟩:=hpat;have I7':=I7.pinned (stat fr7) (T.obj _ _ st7);refine wpAny_mono (hg cl fp { s2 with heap:=p3 } H3 C _ s7 (os++d9 is σ) H7 v u _ I7' r7 (step os v H7 hos y7)) (λ_ s8 ⟨σ8,H8,I8,⟨os',hos',e8⟩,q8⟩=>?_) λ_ _ z=>False.elim z;subst e8;refine wpAny_mono (hct cl fp { s2 with heap:=p3 } H3 C _ s8 _ H8 _ I8 q8) (λbb sb ⟨Hb,Ib,qb⟩=>?_) λ_ _ z=>False.elim z;cases bb with
   |false=>
    rw[if_neg Bool.false_ne_true]at qb;rw[if_neg Bool.false_ne_true];obtain⟨m',hm',w9⟩:=qb;refine⟨m',hm',i+1,os',ys,_,hos',Ib.gR,T.keep _ _ _ st7 λb hb o e=>(Ib.pin (b,o) (mem_append_right _ (mem_append_right _ (eI hb e)))).1,λb hb=>?_,w9⟩;obtain⟨o',e,d⟩:=T.obj _ _ st7 b hb;exact(Ib.pin (b,o') (mem_append_right _ (mem_append_right _ (eI hb e)))).2.1
   |true=>
    rw[if_pos rfl]at qb;rw[if_pos rfl];refine wpAny_mono (he cl fp { s2 with heap:=p3 } H3 C _ sb _ Hb _ Ib qb) (λuy s9 ⟨y,H9,I9,r9,hD9,hl9,m',hm',w9⟩=>?_) λ_ _ z=>False.elim z;refine wpAny_mono (qG (X:=dD X (xs++ns) scope cl fp { s2 with heap:=p3 } H3 C) _ s9 _ H9 (.ref D) [y] (.ref D) [uy] (λ_ H'=>H'=upd H9 D (.lst (ys++[y]))) I9 rfl (.cons r9 .nil) ⟨D,ys,y,rfl,rfl,hD9,hl9,rfl⟩) (λ_ s10 ⟨_,H10,I10,_,e10⟩=>?_) λ_ _ z=>False.elim z;subst e10;refine⟨m',hm',i+1,os',ys++[y],_,hos',I10.gR,T.keep _ _ _ st7 λb hb o e=>(I10.pin (b,o) (mem_append_right _ (mem_append_right _ (eI hb e)))).1,λb hb=>?_,w9⟩;obtain⟨o',e,d⟩:=T.obj _ _ st7 b hb;exact(I10.pin (b,o') (mem_append_right _ (mem_append_right _ (eI hb e)))).2.1
 exact codeAny_compStart_list loop (T.self X.A 0 _ _ _ st4 loop)
theorem qD{pins:List (Addr×Obj)}{σ:St}{Q:VK}:zW X pins σ Q none (EP X pins σ Q):=by
 intro D C H5 s6 m q I6 fC hn;refine⟨m,hn,λh' sb=>⟨.ref D,H5,I6.mQ (t':=s6.toks) (fp:=[C]) (λb hb=>?_) (λb u nb e=>(sb.2 b (λz=>nb (mem_singleton.mpr z))).trans e),rfl,q⟩⟩;rw[mem_singleton]at hb;subst hb;exact fC
theorem yE{pins:List (Addr×Obj)}{σ:St}{Dn:Ends}{y:Str}{py:Pos}{iy:Nat}(hnd:X.N.Nodup)(hiy:X.N[iy]? =some y)(hly:Loc X.env.scope y)(hfy:X.fn y=true\/X.env.scope.names.lookup y=some .local):
  zW X pins σ (λv H'=>Dn.nx (σ.set iy (some v)) H') (some (assign (.Name y py) X.env)) (λ_ s'=>SP X pins Dn .next s'):=by
 intro D C H5 s6 m q I6X fC hn;have fpC:∀b∈[C],ni X pins H5 b:=λb hb=>by
  rw[mem_singleton]at hb;subst hb;exact fC
 obtain⟨oC,esC,epC,hoC,rC⟩:=id hn;have obC:∀b∈[C],∃o,s6.heap.get? b=some o/\∀v,o.data≠.cell v:=λb hb=>by
  rw[mem_singleton]at hb;subst hb;exact⟨oC,hoC,λv z=>by rw[z]at rC;exact absurd rC.1 (λw=>nomatch w)⟩
 have IP:=I6X.pinned fpC obC;have hgy:PG X (.Name y py) (eQ iy):=n6 hnd hiy hly hfy;show wpAny _ _ (assign (.Name y py) X.env (.ref D)) _ _ s6;refine di (hgy _ s6 σ H5 (.ref D) (.ref D) (λσ' H'=>σ'=σ.set iy (some (.ref D))/\H'=H5) IP rfl ⟨rfl,rfl⟩) λ_ s7 hpat=>?_;obtain⟨σ7,H7,I7,e1,e2⟩:=hpat;subst e1;subst e2;have hC7:s7.heap.get? C=some oC:=(I7.pin (C,oC) (mem_append_right _ (mem_append_right _ (eI (mem_singleton.mpr rfl) hoC)))).1;exact⟨m,⟨oC,esC,epC,hC7,rC⟩,λh' sb=>⟨_,H7,I7.gR.mQ (t':=s7.toks) (fp:=[C]) fpC (λb u nb e=>(sb.2 b (λz=>nb (mem_singleton.mpr z))).trans e),q⟩⟩
theorem Fy{sc:Scope}{N:List Str}(hc:X.calm=true)(hi:PI X tg iter wi)(L:tK sc N xs scope is ns)(hg:∀cl fp s3 H3 C,PG (dD X (xs++ns) scope cl fp s3 H3 C) tg g)(hct:∀cl fp s3 H3 C,Hl (dD X (xs++ns) scope cl fp s3 H3 C) cts tc)(he:∀cl fp s3 H3 C,PE (dD X (xs++ns) scope cl fp s3 H3 C) elt te)
  (hsc:X.env.scope=sc)(hN:X.N=N)(hs:∀x,foldedSetIterable iter X.env x=pure x):PE X (.ListComp elt [⟨tg,iter,cts,0⟩] scope pos) (C9 wi xs.length is g tc te):=by
 intro pins s σ H Q I h;rw[eval_ListComp];exact mB I h (λ_ _ z=>z) qD hc hi L hg hct he hsc hN hs
theorem ze{sc:Scope}{N:List Str}{y:Str}{py spos:Pos}{iy:Nat}(hnd:X.N.Nodup)(hiy:X.N[iy]? =some y)(hly:Loc X.env.scope y)(hfy:X.fn y=true\/X.env.scope.names.lookup y=some .local)(hsw:swapsWith (.ListComp elt [⟨tg,iter,cts,0⟩] scope pos) (some (.Name y py)) spos.line X.env=pure true)
  (hc:X.calm=true)(hi:PI X tg iter wi)(L:tK sc N xs scope is ns)(hg:∀cl fp s3 H3 C,PG (dD X (xs++ns) scope cl fp s3 H3 C) tg g)(hct:∀cl fp s3 H3 C,Hl (dD X (xs++ns) scope cl fp s3 H3 C) cts tc)(he:∀cl fp s3 H3 C,PE (dD X (xs++ns) scope cl fp s3 H3 C) elt te)
  (hsc:X.env.scope=sc)(hN:X.N=N)(hs:∀x,foldedSetIterable iter X.env x=pure x):PS X (.Assign [.Name y py] (.ListComp elt [⟨tg,iter,cts,0⟩] scope pos) spos) (uj (C9 wi xs.length is g tc te) (eQ iy)):=by
 intro pins s σ H Dn I h;rw[exec_Assign_Name_used _ _ _ _ hsw];refine wpAny_bind (wpAny_standAt (wpAny_bind ?_));show wpAny _ X.A (do let _ <-comprehension (.ListComp elt [⟨tg,iter,cts,0⟩] scope pos) scope X.env _ (newList []) false (eval iter X.env) (some (assign (.Name y py) X.env))) _ _ s;exact wpAny_bind (di (Q:=λ_ s'=>SP X pins Dn .next s') (mB I h (λ_ _ z=>z) (yE hnd hiy hly hfy) hc hi L hg hct he hsc hN hs) λ_ s' hq=>wpAny_pure (wpAny_pure hq))
theorem Jb{J:It}{te:TE}{is:List Nat}{σ:St}{H1:Hp}{Q:VK}(h:iM J is te σ H1 Q):eX J 1 is (eQ 0) tQ te σ H1 Q:=by
 intro D hD;obtain⟨W,w0,k⟩:=h D hD;refine⟨W,w0,λi m ys H2 w=>?_⟩;obtain⟨e,z|⟨go,nx⟩⟩:=k i m ys H2 w
 ·exact⟨e,.inl z⟩
 ·refine⟨e,.inr ⟨go,λos v H3 hos y=>?_⟩⟩
  obtain⟨o,rfl⟩:=osA hos
  exact⟨⟨[some v],rfl,rfl⟩,dq (B:=∃m',m' < m/\W (i+1) m' ys H3) (nx v H3 y)⟩
theorem Bz{sc:Scope}{N:List Str}{x:Str}{px:Pos}(hc:X.calm=true)(hi:PI X (.Name x px) iter wi)(L:HU sc N x scope is ns)(he:∀cl fp s3 H3 C,PE (dD X (x::ns) scope cl fp s3 H3 C) elt te)
  (hsc:X.env.scope=sc:=by rfl)(hN:X.N=N:=by rfl)(hs:∀x,foldedSetIterable iter X.env x=pure x:=by intro _;rfl):PE X (.ListComp elt [⟨.Name x px,iter,[],0⟩] scope pos) (Lu wi is te):=by
 intro pins s σ H Q I h;rw[eval_ListComp];exact mB (xs:=[x]) (g:=eQ 0) (tc:=tQ) I h (λ_ _ z=>Jb z) qD hc hi ⟨L.kind,L.nocell,L.names,L.free,L.cap,L.capf⟩ (λ_ _ _ _ _=>n6 (i:=0) L.nd rfl (.inl (lookup_relabel_local L.hx)) (.inr (lookup_relabel_local L.hx))) (λ_ _ _ _ _=>xB) he hsc hN hs
end
section
variable {K:PySem.W.Frag}{n:Nat}{is:List Nat}{g:TG}{tc:TT}{te:TE}{σ:St}{H:Hp}{Q:VK}
theorem gx(p:Nat->Bool)(f:Nat->V)(i:Nat):((List.range (i+1)).filter p).map f=((List.range i).filter p).map f++if p i=true then [f i] else []:=by
 rw[range_succ,filter_append,map_append];cases h:p i<;>simp[List.filter,h]
theorem v5{J:It}{N:Nat}(p:Nat->Bool)(f:Nat->V)(hz:N<=sizeLine)(hgo:∀i H2,cF H H2->i < N->J.go i H2)(hstop:∀H2,cF H H2->J.stop N H2)
  (he:∀(i:Nat)(os:St) v H2 H3 (K1:VK)(K2:Hp->Prop),i < N->os.length=n->cF H H2->J.yld i H2 v H3->(p i=true->∀H6,cF H2 H6->K1 (f i) H6)->(p i=false->∀H5,cF H2 H5->K2 H5)->
   g v (os++d9 is σ) H3 λσ' H4=>(∃os':St,os'.length=n/\σ'=os'++d9 is σ)/\tc σ' H4 λb H5=>if b=true then te σ' H5 K1 else K2 H5)
  (q:∀D H',H D=none->cF H H'->H' D=some (.lst (((List.range N).filter p).map f))->Q (.ref D) H'):eX J n is g tc te σ H Q:=by
 intro D hDn;refine⟨λi m ys H2=>m=N - i/\i<=N/\cF H H2/\H2 D=some (.lst ys)/\ys=((List.range i).filter p).map f,⟨_,rfl,zero_le _,cF.upd hDn,cD,rfl⟩,?_⟩;rintro i m ys H2 ⟨rfl,hi,sm,hd,rfl⟩;refine⟨hd,?_⟩;by_cases hlt:i < N
 ·refine .inr ⟨hgo i H2 sm hlt,λos v H3 hos y=>?_⟩
  have hl:(((List.range i).filter p).map f).length<=i:=by
   rw[length_map];have:=length_filter_le p (List.range i);rw[length_range]at this;exact this
  refine he i os v H2 H3 _ _ hlt hos sm y (λhp H6 s6=>⟨s6 _ _ hd,by omega,N - (i+1),by omega,rfl,hlt,λb o e=>?_,cD,?_⟩) (λhp H5 s5=>⟨N - (i+1),by omega,rfl,hlt,sm.trans s5,s5 _ _ hd,?_⟩)
  ·rw[cH (cE e hDn)]
   exact s6 _ _ (sm _ _ e)
  ·rw[gx,if_pos hp]
  ·rw[gx,if_neg (by rw[hp];exact Bool.false_ne_true),append_nil]
 ·have e:i=N:=by omega
  subst e;exact .inl ⟨hstop H2 sm,q D H2 hDn sm hd⟩
theorem dj{a:Addr}{xs:List V}(p:Nat->Bool)(f:Nat->V)(hq:cL K H a xs)(hz:xs.length<=sizeLine)
  (he:∀(i:Nat)(os:St) v H2 (K1:VK)(K2:Hp->Prop),xs[i]? =some v->os.length=n->cF H H2->(p i=true->∀H6,cF H2 H6->K1 (f i) H6)->(p i=false->∀H5,cF H2 H5->K2 H5)->
   g v (os++d9 is σ) H2 λσ' H4=>(∃os':St,os'.length=n/\σ'=os'++d9 is σ)/\tc σ' H4 λb H5=>if b=true then te σ' H5 K1 else K2 H5)
  (q:∀D H',H D=none->cF H H'->H' D=some (.lst (((List.range xs.length).filter p).map f))->Q (.ref D) H'):eX (BU K a) n is g tc te σ H Q:=
 v5 p f hz (λi H2 sm hi=>⟨xs,xs[i],sm.seq hq,by simp[hi]⟩) (λH2 sm=>⟨xs,sm.seq hq,le_refl _⟩) (λi os v H2 H3 K1 K2 hi hos sm y k1 k2=>by
  obtain⟨rfl,y⟩:=y;exact he i os v _ K1 K2 (y xs (sm.seq hq)) hos sm k1 k2) q
theorem yo{lo:Int}{N:Nat}(p:Nat->Bool)(f:Nat->V)(hz:N<=sizeLine)
  (he:∀(i:Nat)(os:St) H2 (K1:VK)(K2:Hp->Prop),i < N->os.length=n->cF H H2->(p i=true->∀H6,cF H2 H6->K1 (f i) H6)->(p i=false->∀H5,cF H2 H5->K2 H5)->
   g (.int (lo+i)) (os++d9 is σ) H2 λσ' H4=>(∃os':St,os'.length=n/\σ'=os'++d9 is σ)/\tc σ' H4 λb H5=>if b=true then te σ' H5 K1 else K2 H5)
  (q:∀D H',H D=none->cF H H'->H' D=some (.lst (((List.range N).filter p).map f))->Q (.ref D) H'):eX (Dz lo N) n is g tc te σ H Q:=
 v5 p f hz (λi H2 _ hi=>hi) (λH2 _=>le_refl N) (λi os v H2 H3 K1 K2 hi hos sm y k1 k2=>by
  obtain⟨rfl,rfl⟩:=y;exact he i os _ K1 K2 hi hos sm k1 k2) q
theorem tE{a:Addr}{xs:List V}(p:Nat->Bool)(f:Nat->V)(hq:cL K H a xs)(hz:xs.length<=sizeLine)
  (he:∀(i:Nat)(os:St) v (t:Addr) H2 (K1:VK)(K2:Hp->Prop),xs[i]? =some v->os.length=n->cF H H2->H2 t=none->(p i=true->∀H6,cF H2 H6->K1 (f i) H6)->(p i=false->∀H5,cF H2 H5->K2 H5)->
   g (.ref t) (os++d9 is σ) (upd H2 t (.tup [.int i,v])) λσ' H4=>(∃os':St,os'.length=n/\σ'=os'++d9 is σ)/\tc σ' H4 λb H5=>if b=true then te σ' H5 K1 else K2 H5)
  (q:∀D H',H D=none->cF H H'->H' D=some (.lst (((List.range xs.length).filter p).map f))->Q (.ref D) H'):eX (Hg K a) n is g tc te σ H Q:=
 v5 p f hz (λi H2 sm hi=>⟨xs,xs[i],sm.seq hq,by simp[hi]⟩) (λH2 sm=>⟨xs,sm.seq hq,rfl⟩) (λi os v H2 H3 K1 K2 hi hos sm y k1 k2=>by
  obtain⟨t,x,ht,rfl,rfl,y⟩:=y;exact he i os x t _ K1 K2 (y xs (sm.seq hq)) hos sm ht k1 k2) q
end
section
variable {X:Cx}
theorem uw:∀bs:List Bool,((List.range bs.length).any λi=>bs.getD i false)=bs.any id
 |[]=>rfl
 |b::r=>by
  rw[length_cons,List.range_succ_eq_map,any_cons,any_map,any_cons,<-uw r];rfl
theorem ig(hc:X.calm=true):eR X (.builtin "any") (λxs H Q=>∃(p:Addr) (bs:List Bool),xs=[.ref p]/\cL X.K H p (bs.map V.bl)/\Q (.bl (bs.any id)) H):=by
 intro pins s σ H xs us Q I r h;obtain⟨p,bs,rfl,hq,q⟩:=h;obtain⟨u,rfl,rx⟩:=vals1 r;cases rx;obtain⟨its,rv,pl,hz⟩:=I.list hq;have hl:=rv.length;rw[length_map]at hl;have hlt:p < s.heap.objs.size:=by obtain⟨o,n,e,_⟩:=pl;exact lt_size e
 refine call_any_walk (wpAny_pyIter_list pl.isList ?_);refine⟨s.heap.objs.size,[s.heap.objs.size,p],[s.heap.objs.size],its.toArray.size,_,_,λi=>bs.getD i false,rfl,Walks.list (show X.A.in1.handled=none from I.ok.hd hc) s.heap.objs.size p (ne_of_lt hlt) its.toArray,
  ⟨⟨_,get?_push_size _ rfl,rfl,rfl⟩,?_⟩,λi v s' Q' E' hv hQ=>?_,λh' tk kk=>?_⟩
 ·obtain⟨o,e,r⟩:=pl.isList
  exact⟨o,get?_push_of_some _ e,r⟩
 ·have hi:i < bs.length:=by
   have:i < its.length:=by
    have:=(Array.getElem?_eq_some_iff.mp hv).1
    simpa using this
   omega
  have hb:(bs.map V.bl)[i]? =some (V.bl bs[i]):=by simp[hi]
  obtain⟨u,hu,ru⟩:=rv.get hb;have hv':its[i]? =some v:=by simpa using hv
  rw[hu]at hv';cases hv';obtain rfl:v=Value.bool bs[i]:=ru;refine wpAny_truthy_bool ?_;have e:bs.getD i false=bs[i]:=by simp[List.getD,hi]
  rw[<-e];exact hQ
 ·refine⟨.bl (bs.any id),H,?_,?_,q⟩
  ·have I1:Inv X pins σ H { s with heap:=s.heap.push { cls:=.type "list_iterator",data:=.fields #[.ref p,.int 0 0] } }:=I.kept (t':=s.toks) λb o e=>get?_push_of_some _ e
   have I2:Inv X pins σ H { s with heap:=h',toks:=tk }:=I.kept (t':=tk) λb o e=>kk b o (by
    intro z;have z':b=s.heap.objs.size:=by simpa using z
    exact absurd (lt_size e) (by rw[z'];exact lt_irrefl _)) (get?_push_of_some _ e)
   exact I2
  ·show Value.bool _=Value.bool _
   congr 1
   rw[size_toArray,<-hl];exact uw bs
end
end L2
namespace J
open PySem PySem.Spec PyProof.Rows
open L2 (Cx V Hp St VK TE TT TA TS TG pS TI TO cL)
structure J6(X:Cx)(cts:List Expr)(t:TT):Prop where
 out:L2.Hl X cts t
section
variable {X:Cx}{x y:Str}{xs ns:List Str}{scope:Scope}{cl:List (Str×Addr)}{fp:List Addr}{s3:Shared}{H3:Hp}{C:Addr}{p pos spos py:Pos}{ct tg it elt:Expr}{cts:List Expr}{tc:TT}{te:TE}{wi:TI}{g:TG}{is:List Nat}{sc:Scope}{N:List Str}{iy:Nat}
theorem _root_.bY{x:Str}{px:Pos}(hc:X.calm=true)(hi:JI X (.Name x px) it wi)(L:L2.HU sc N x scope is ns)(he:∀cl fp s3 H3 C,JE (L2.dD X (x::ns) scope cl fp s3 H3 C) elt te)(hsc:X.env.scope=sc)(hN:X.N=N)(hs:∀x,foldedSetIterable it X.env x=pure x:=by intro _;rfl):
  JE X (.ListComp elt [⟨.Name x px,it,[],0⟩] scope pos) (L2.Lu wi is te):=⟨L2.Bz hc hi.out L (λcl fp s3 H3 C=>(he cl fp s3 H3 C).out) hsc hN hs⟩
theorem _root_.bV:J6 X [] L2.tQ:=⟨L2.xB⟩
theorem _root_.bz(h:JT X ct tc):J6 X [ct] tc:=⟨L2.B7 h.out⟩
theorem _root_.aK {i:Nat}(h:scope.names.lookup y=some .local) (hi:xs[i]? =some y) (db:(y == ("__debug__" :Str))=false) (cd:(y == ("__classdict__" :Str))=false):JE (L2.dD X xs scope cl fp s3 H3 C) (.Name y p) (L2.iV i):=
 ⟨L2.mS (i:=i) hi (.inl (PySem.lookup_relabel_local h)) db cd⟩
theorem _root_.aY {i:Nat}(h:scope.names.lookup y=some .free) (hi:xs[i]? =some y) (db:(y == ("__debug__" :Str))=false) (cd:(y == ("__classdict__" :Str))=false):JE (L2.dD X xs scope cl fp s3 H3 C) (.Name y p) (L2.iV i):=
 ⟨L2.mS (i:=i) hi (.inr (L2.jr h)) db cd⟩
theorem _root_.aR{i:Nat}(nd:xs.Nodup)(h:scope.names.lookup y=some .local)(hi:xs[i]? =some y):JG (L2.dD X xs scope cl fp s3 H3 C) (.Name y p) (L2.eQ i):=
 ⟨L2.n6 (i:=i) nd hi (.inl (PySem.lookup_relabel_local h)) (.inr (PySem.lookup_relabel_local h))⟩
theorem _root_.bK(hc:X.calm=true)(hi:JI X tg it wi)(L:L2.tK sc N xs scope is ns)(hg:∀cl fp s3 H3 C,JG (L2.dD X (xs++ns) scope cl fp s3 H3 C) tg g)(hct:∀cl fp s3 H3 C,J6 (L2.dD X (xs++ns) scope cl fp s3 H3 C) cts tc)(he:∀cl fp s3 H3 C,JE (L2.dD X (xs++ns) scope cl fp s3 H3 C) elt te)
  (hsc:X.env.scope=sc)(hN:X.N=N)(hs:∀x,foldedSetIterable it X.env x=pure x:=by intro _;rfl):JE X (.ListComp elt [⟨tg,it,cts,0⟩] scope pos) (L2.C9 wi xs.length is g tc te):=
 ⟨L2.Fy hc hi.out L (λcl fp s3 H3 C=>(hg cl fp s3 H3 C).out) (λcl fp s3 H3 C=>(hct cl fp s3 H3 C).out) (λcl fp s3 H3 C=>(he cl fp s3 H3 C).out) hsc hN hs⟩
theorem _root_.bL(S:L2.Slot X iy y)(hnd:X.N.Nodup)(hc:X.calm=true)(hi:JI X tg it wi)(L:L2.tK sc N xs scope is ns)(hg:∀cl fp s3 H3 C,JG (L2.dD X (xs++ns) scope cl fp s3 H3 C) tg g)(hct:∀cl fp s3 H3 C,J6 (L2.dD X (xs++ns) scope cl fp s3 H3 C) cts tc)(he:∀cl fp s3 H3 C,JE (L2.dD X (xs++ns) scope cl fp s3 H3 C) elt te)
  (hsc:X.env.scope=sc)(hN:X.N=N)
  (hw:((if sc.kind.isAnnotationScope then ScopeKind.function else sc.kind) == .function && sc.names.lookup y == some .local && py.line == pos.line && !(scope.names.any λ(n,k)=>n == y && (k == .local || k == .cell)))=true)
  (hs:∀x,foldedSetIterable it X.env x=pure x:=by intro _;rfl):
  JS X (.Assign [.Name y py] (.ListComp elt [⟨tg,it,cts,0⟩] scope pos) spos) (L2.uj (L2.C9 wi xs.length is g tc te) (L2.eQ iy)):=
 ⟨L2.ze hnd S.hN S.lc S.fn (L2.yD hsc hw) hc hi.out L (λcl fp s3 H3 C=>(hg cl fp s3 H3 C).out) (λcl fp s3 H3 C=>(hct cl fp s3 H3 C).out) (λcl fp s3 H3 C=>(he cl fp s3 H3 C).out) hsc hN hs⟩
theorem ig(hc:X.calm=true):JF X (.builtin "any") (λxs H Q=>∃(p:Addr) (bs:List Bool),xs=[.ref p]/\cL X.K H p (bs.map V.bl)/\Q (.bl (bs.any id)) H):=⟨L2.ig hc⟩
end
end J
namespace L2
open PySem PySem.Spec PyProof.Rows
section
variable {κ:Type} [DecidableEq κ]
def dz(kvs:List (κ×V))(k:κ):Option V:=(kvs.find? λkv=>decide (kv.1=k)).map (·.2)
def putK(kvs:List (κ×V))(k:κ)(v:V):List (κ×V):=
 if(kvs.any λkv=>decide (kv.1=k))=true then kvs.map (λkv=>if kv.1=k then(kv.1,v) else kv) else kvs++[(k,v)]
def Bi(kvs:List (κ×V))(k:κ):List (κ×V):=kvs.filter λkv=>decide (kv.1≠k)
theorem dZ{p:κ×V}{r:List (κ×V)}{k:κ}(e:p.1=k):dz (p::r) k=some p.2:=by simp[dz,find?_cons,e]
theorem d6{p:κ×V}{r:List (κ×V)}{k:κ}(e:¬p.1=k):dz (p::r) k=dz r k:=by simp[dz,find?_cons,e]
theorem gq(k:κ):∀kvs:List (κ×V),(kvs.any λkv=>decide (kv.1=k))=(dz kvs k).isSome
 |[]=>rfl
 |p::r=>by
  rw[any_cons];by_cases e:p.1=k
  ·simp only[dZ e,decide_eq_true e,Bool.true_or,Option.isSome_some]
  ·rw[d6 e,decide_eq_false e,Bool.false_or];exact gq k r
theorem uL(k j:κ)(y:V):∀kvs:List (κ×V),dz (kvs.map λkv=>if kv.1=k then(kv.1,y) else kv) j=(dz kvs j).map λx=>if j=k then y else x
 |[]=>rfl
 |p::r=>by
  have ih:=uL k j y r;rw[map_cons];by_cases h:p.1=k
  ·rw[if_pos h]
   by_cases e:p.1=j
   ·rw[dZ (p:=(p.1,y)) e,dZ e,map_some,if_pos (e.symm.trans h)]
   ·rw[d6 (p:=(p.1,y)) e,d6 e,ih]
  ·rw[if_neg h]
   by_cases e:p.1=j
   ·rw[dZ (p:=p) e,dZ e,map_some,if_neg (λz=>h (e.trans z))]
   ·rw[d6 (p:=p) e,d6 e,ih]
theorem qM(k j:κ)(y:V):∀kvs:List (κ×V),dz kvs k=none->dz (kvs++[(k,y)]) j=if j=k then some y else dz kvs j
 |[],_=>by
  by_cases e:k=j
  ·rw[if_pos e.symm];exact dZ (p:=(k,y)) e
  ·rw[if_neg (λz=>e z.symm)];exact d6 (p:=(k,y)) e
 |p::r,hn=>by
  rw[List.cons_append];have hk:¬p.1=k:=λz=>by rw[dZ z]at hn;cases hn
  rw[d6 hk]at hn;have ih:=qM k j y r hn;by_cases e:p.1=j
  ·rw[dZ e,dZ e,if_neg (λz=>hk (e.trans z))]
  ·rw[d6 e,d6 e,ih]
theorem gd(kvs:List (κ×V))(k j:κ)(y:V):dz (putK kvs k y) j=if j=k then some y else dz kvs j:=by
 unfold putK;by_cases a:(kvs.any λkv=>decide (kv.1=k))=true
 ·rw[if_pos a,uL]
  rw[gq]at a;by_cases e:j=k
  ·obtain⟨x,hx⟩:=isSome_iff_exists.mp a
   rw[if_pos e,e,hx,map_some,if_pos rfl]
  ·rw[if_neg e]
   cases dz kvs j with
   |none=>rfl
   |some x=>rw[map_some,if_neg e]
 ·rw[if_neg a]
  refine qM k j y kvs ?_;rw[gq]at a;cases q:dz kvs k with
  |none=>rfl
  |some x=>rw[q]at a;exact(a rfl).elim
theorem gz(kvs:List (κ×V))(k:κ)(v:V):(putK kvs k v).length<=kvs.length+1:=by
 unfold putK;split
 ·rw[length_map];omega
 ·rw[length_append,length_cons,List.length_nil];omega
theorem iX.hV{o:Option V}{u:Option Value}(r:iX o u):o.isSome=u.isSome:=by
 cases o with
 |none=>cases u with
  |none=>rfl
  |some _=>exact(show False from r).elim
 |some _=>cases u with
  |none=>exact(show False from r).elim
  |some _=>rfl
theorem iX.getD{o:Option V}{u:Option Value}{d:V}{d':Value}(r:iX o u)(rd:RelV d d'):RelV (o.getD d) (u.getD d'):=by
 cases o with
 |none=>cases u with
  |none=>exact rd
  |some _=>exact(show False from r).elim
 |some _=>cases u with
  |none=>exact(show False from r).elim
  |some _=>exact r
theorem KV.val{kvs:List (κ×V)}{vs:List (κ×Value)}(r:KV kvs vs)(k:κ):iX (dz kvs k) (valueAt vs k):=by
 unfold KV at r
 induction r with
 |nil=>exact True.intro
 | @cons p q ps qs h t ih=>
  obtain⟨h1,h2⟩:=h;by_cases e:p.1=k
  ·have e':q.1=k:=h1.symm.trans e
   have b:valueAt (q::qs) k=some q.2:=by simp[valueAt,find?_cons,e']
   rw[dZ e,b];exact h2
  ·have e':¬q.1=k:=λz=>e (h1.trans z)
   have b:valueAt (q::qs) k=valueAt qs k:=by simp[valueAt,find?_cons,e']
   rw[d6 e,b];exact ih
theorem KV.any{kvs:List (κ×V)}{vs:List (κ×Value)}(r:KV kvs vs)(k:κ):(kvs.any λkv=>decide (kv.1=k))=vs.any λkv=>decide (kv.1=k):=by
 unfold KV at r
 induction r with
 |nil=>rfl
 |cons h t ih=>rw[any_cons,any_cons,ih,h.1]
theorem KV.Fd{kvs:List (κ×V)}{vs:List (κ×Value)}(r:KV kvs vs)(k:κ){y:V}{u:Value}(ry:RelV y u):
  KV (kvs.map λkv=>if kv.1=k then(kv.1,y) else kv) (vs.map λkv=>if kv.1=k then(kv.1,u) else kv):=by
 unfold KV at r ⊢
 induction r with
 |nil=>exact .nil
 | @cons p q ps qs h t ih=>
  rw[map_cons,map_cons];refine .cons ?_ ih;obtain⟨h1,h2⟩:=h;by_cases e:p.1=k
  ·rw[if_pos e,if_pos (h1.symm.trans e)];exact⟨h1,ry⟩
  ·rw[if_neg e,if_neg (λz=>e (h1.trans z))];exact⟨h1,h2⟩
theorem KV.put{kvs:List (κ×V)}{vs:List (κ×Value)}(r:KV kvs vs)(k:κ){y:V}{u:Value}(ry:RelV y u):KV (putK kvs k y) (stored vs k u):=by
 unfold putK stored;rw[r.any k];by_cases e:(vs.any λkv=>decide (kv.1=k))=true
 ·rw[if_pos e,if_pos e];exact r.Fd k ry
 ·rw[if_neg e,if_neg e];exact Paired.snoc r ⟨rfl,ry⟩
theorem KV.keys{kvs:List (κ×V)}{vs:List (κ×Value)}(r:KV kvs vs):kvs.map (·.1)=vs.map (·.1):=by
 unfold KV at r
 induction r with
 |nil=>rfl
 |cons h t ih=>rw[map_cons,map_cons,ih,h.1]
theorem KV.length{kvs:List (κ×V)}{vs:List (κ×Value)}(r:KV kvs vs):kvs.length=vs.length:=Paired.length r
end
theorem pC{P:Program}{w:World}{k:Key}{u:Value}(r:RelV (kV k) u):(cN P w).is k u=true:=by
 cases k with
 |inl i=>obtain⟨t,e⟩:=(show ∃t,u=Value.int i t from r);subst e;exact uE P w i t
 |inr x=>obtain⟨t,e⟩:=(show ∃t,u=Value.str x t from r);subst e;exact tS P w x t
theorem qI{P:Program}{w:World}:∀{ks:List Key}{us:List Value},Vals (ks.map kV) us->ItemsAre (cN P w) ks us
 |[],_,r=>by rw[map_nil]at r;cases r;exact .nil
 |k::ks,_,r=>by
  rw[map_cons]at r;cases r with
  |cons h t=>exact .cons (pC h) (qI t)
abbrev KT(H:Hp):List (List Key×V)->List (List Key×Addr×Value)->Prop:=Paired λp q=>p.1=q.1/\H q.2.1=some (.tup (p.1.map kV))/\RelV p.2 q.2.2
theorem KT.val{H:Hp}{kvs:List (List Key×V)}{xs:List (List Key×Addr×Value)}(r:KT H kvs xs)(k:List Key):iX (dz kvs k) ((atKey xs k).map (·.2)):=by
 induction r with
 |nil=>exact True.intro
 | @cons p q ps qs h t ih=>
  obtain⟨h1,_,h2⟩:=h;by_cases e:p.1=k
  ·have e':q.1=k:=h1.symm.trans e
   have b:atKey (q::qs) k=some q.2:=by simp[atKey,find?_cons,e']
   rw[dZ e,b];exact h2
  ·have e':¬q.1=k:=λz=>e (h1.trans z)
   have b:atKey (q::qs) k=atKey qs k:=by simp[atKey,find?_cons,e']
   rw[d6 e,b];exact ih
theorem KT.Fd{H:Hp}{kvs:List (List Key×V)}{xs:List (List Key×Addr×Value)}(r:KT H kvs xs)(k:List Key){y:V}{u:Value}(ry:RelV y u):
  KT H (kvs.map λkv=>if kv.1=k then(kv.1,y) else kv) (xs.map (putAt k u)):=by
 induction r with
 |nil=>exact .nil
 | @cons p q ps qs h t ih=>
  rw[map_cons,map_cons];refine .cons ?_ ih;obtain⟨h1,h2,h3⟩:=h;unfold putAt;by_cases e:p.1=k
  ·rw[if_pos e,if_pos (h1.symm.trans e)];exact⟨h1,h2,ry⟩
  ·rw[if_neg e,if_neg (λz=>e (h1.trans z))];exact⟨h1,h2,h3⟩
theorem KT.put{H:Hp}{kvs:List (List Key×V)}{xs:List (List Key×Addr×Value)}(r:KT H kvs xs)(k:List Key){b:Addr}{y:V}{u:Value}(hb:H b=some (.tup (k.map kV)))(ry:RelV y u):
  KT H (putK kvs k y) (storedH xs k b u):=by
 have e:(kvs.any λkv=>decide (kv.1=k))=(atKey xs k).isSome:=by
  rw[gq,(r.val k).hV,isSome_map]
 unfold putK storedH;rw[e];by_cases q:(atKey xs k).isSome=true
 ·rw[if_pos q,if_pos q];exact r.Fd k ry
 ·rw[if_neg q,if_neg q];exact Paired.snoc r ⟨rfl,hb,ry⟩
theorem KT.keeps{H H':Hp}{kvs:List (List Key×V)}{xs:List (List Key×Addr×Value)}(r:KT H kvs xs)(ht:∀b ys,H b=some (.tup ys)->H' b=some (.tup ys)):KT H' kvs xs:=
 Paired.GA r λ_ _ z=>⟨z.1,ht _ _ z.2.1,z.2.2⟩
section
variable {P:Program}{w:World}{H:Hp}{h:Heap}{a:Addr}
theorem DX{u:HO}(ok:gw P w H h)(e:Rd H a u):dk P w H h a u:=e.ok ok
theorem mW{kvs:List (Key×V)}(ok:gw P w H h)(e:Rd H a (.dK kvs)):kvs.length<=sizeLine/\(a == sysModules)=false/\∃vs,KV kvs vs/\h.DictOf (cN P w) a vs:=
 show dk P w H h a (.dK kvs) from DX ok e
theorem En{kvs:List (Key×V)}(ok:gw P w H h)(e:H a=some (.dK kvs)):kvs.length<=sizeLine/\(a == sysModules)=false/\∃vs,KV kvs vs/\h.DictOf (cN P w) a vs:=mW ok (.inl e)
theorem jV{ks:List Key}(ok:gw P w H h)(e:H a=some (.tup (ks.map kV))):(tupleKind (cN P w)).is h ks a:=by
 obtain⟨_,its,r,o,h1,h2,n,h3⟩:=(show dk P w H h a (.tup (ks.map kV)) from ok a _ e);exact⟨o,its.toArray,n,h1,h2,h3,by simpa using qI r⟩
theorem mU{kvs:List (List Key×V)}(ok:gw P w H h)(e:Rd H a (.dT kvs)):kvs.length<=sizeLine/\(a == sysModules)=false/\
  ∃xs,KT H kvs xs/\h.DictOfH (tupleKind (cN P w)) a xs:=by
 obtain⟨z,y,xs,r,o,es,ep,h1,h2,h3,h4,h5⟩:=(show dk P w H h a (.dT kvs) from DX ok e);refine⟨z,y,xs,r,o,es,ep,h1,h2,h3,h4,λx hx=>?_,h5⟩;have all:∀{l:List (List Key×V)}{m:List (List Key×Addr×Value)},KT H l m->∀x∈m,(tupleKind (cN P w)).is h x.1 x.2.1:=by
  intro l m q
  induction q with
  |nil=>intro x hx;exact nomatch hx
  | @cons p q ps qs hq t ih=>
   intro x hx;rcases mem_cons.mp hx with e|hx
   ·subst e
    exact jV ok (by rw[<-hq.1];exact hq.2.1)
   ·exact ih x hx
 exact all r x hx
theorem JN{kvs:List (List Key×V)}(ok:gw P w H h)(e:H a=some (.dT kvs)):kvs.length<=sizeLine/\(a == sysModules)=false/\
  ∃xs,KT H kvs xs/\h.DictOfH (tupleKind (cN P w)) a xs:=mU ok (.inl e)
end
def eT(H:Hp)(a:Addr)(y:V)(r:Option V):Prop:=
 (∃kvs k,Rd H a (.dK kvs)/\y=kV k/\r=dz kvs k)\/∃kvs k b,Rd H a (.dT kvs)/\y=.ref b/\H b=some (.tup (k.map kV))/\r=dz kvs k
def l6(H:Hp)(a:Addr)(y v:V)(H':Hp):Prop:=
 (∃kvs k,H a=some (.dK kvs)/\y=kV k/\kvs.length < sizeLine/\H'=upd H a (.dK (putK kvs k v)))\/
 ∃kvs k b,H a=some (.dT kvs)/\y=.ref b/\H b=some (.tup (k.map kV))/\kvs.length < sizeLine/\H'=upd H a (.dT (putK kvs k v))
theorem eT.k{H:Hp}{a:Addr}{kvs:List (Key×V)}{k:Key}(e:H a=some (.dK kvs)):eT H a (kV k) (dz kvs k):=.inl ⟨kvs,k,.inl e,rfl,rfl⟩
theorem l6.k{H:Hp}{a:Addr}{kvs:List (Key×V)}{k:Key}{v:V}(e:H a=some (.dK kvs))(hl:kvs.length < sizeLine):l6 H a (kV k) v (upd H a (.dK (putK kvs k v))):=.inl ⟨kvs,k,e,rfl,hl,rfl⟩
section
variable {X:Cx}{pins:List (Addr×Obj)}{σ:St}{H:Hp}{s:Shared}{a:Addr}{y v:V}{u r:Value}{o:Option V}{A:Around}{E:Value->Shared->Prop}
theorem zc{Q:Value->Shared->Prop}(hu:A.units+1 < cLine)(I:Inv X pins σ H s)(g:eT H a y (some v))(ry:RelV y u)(h:∀w' s',Inv X pins σ H s'->RelV v w'->Q w' s'):
  wpAny (model X.prog X.w) A (getItem (.ref a) u) Q E s:=by
 rcases g with ⟨kvs,k,e,ey,l⟩|⟨kvs,k,b,e,ey,eb,l⟩
 ·subst ey
  obtain⟨z,hd,vs,rel,dd⟩:=mW I.hok e;obtain⟨w',hw,rw'⟩:=iX.some_of (v:=v) (o:=valueAt vs k) (by rw[l];exact rel.val k);exact wpAny_getItem_of (pC ry) dd.mapOf hw (h w' _ (I.tok _) rw')
 ·subst ey
  cases (show u=Value.ref b from ry);obtain⟨z,hd,xs,rel,dd⟩:=mU I.hok e;obtain⟨w',hw,rw'⟩:=iX.some_of (v:=v) (o:=(atKey xs k).map (·.2)) (by rw[l];exact rel.val k);obtain⟨p,hp,hp2⟩:=map_eq_some_iff.mp hw;refine wpAny_getItem_heap (tupleKind_room_in1 hu) (jV I.hok eb) dd hp ?_;rw[hp2];exact h w' _ (I.tok _) rw'
theorem Lh{Q:Value->Shared->Prop}(hu:A.units+1 < cLine)(I:Inv X pins σ H s)(g:eT H a y o)(ry:RelV y u)(h:∀s',Inv X pins σ H s'->Q (.bool o.isSome) s'):
  wpAny (model X.prog X.w) A (compareOp .In u (.ref a)) Q E s:=by
 rcases g with ⟨kvs,k,e,ey,l⟩|⟨kvs,k,b,e,ey,eb,l⟩
 ·subst ey
  obtain⟨z,hd,vs,rel,dd⟩:=mW I.hok e;refine wpAny_in_of (pC ry) hd dd.mapOf ?_;rw[<-(rel.val k).hV,<-l];exact h _ (I.tok _)
 ·subst ey
  cases (show u=Value.ref b from ry);obtain⟨z,hd,xs,rel,dd⟩:=mU I.hok e;refine wpAny_in_heap (tupleKind_room_in1 hu) (jV I.hok eb) hd dd ?_;have q:=(rel.val k).hV;rw[isSome_map]at q;rw[<-q,<-l];exact h _ (I.tok _)
theorem B0{Q:Value->Shared->Prop}(hu:A.units+1 < cLine)(I:Inv X pins σ H s)(g:eT H a y o)(ry:RelV y u)(h:∀s',Inv X pins σ H s'->Q (.bool (!o.isSome)) s'):
  wpAny (model X.prog X.w) A (compareOp .NotIn u (.ref a)) Q E s:=by
 rcases g with ⟨kvs,k,e,ey,l⟩|⟨kvs,k,b,e,ey,eb,l⟩
 ·subst ey
  obtain⟨z,hd,vs,rel,dd⟩:=mW I.hok e;refine wpAny_notIn_of (pC ry) hd dd.mapOf ?_;rw[<-(rel.val k).hV,<-l];exact h _ (I.tok _)
 ·subst ey
  cases (show u=Value.ref b from ry);obtain⟨z,hd,xs,rel,dd⟩:=mU I.hok e;refine wpAny_notIn_heap (tupleKind_room_in1 hu) (jV I.hok eb) hd dd ?_;have q:=(rel.val k).hV;rw[isSome_map]at q;rw[<-q,<-l];exact h _ (I.tok _)
theorem wL{h':Heap}{t':Nat}{ob:HO}(I:Inv X pins σ H s)(mu:Ip (H a))(hs:Heap.SameBut a s.heap h')(he:∃q,h'.get? a=some q)(new:dk X.prog X.w (upd H a ob) h' a ob):
  Inv X pins σ (upd H a ob) { s with heap:=h',toks:=t' }:=
 I.write (x:=a) (e:=a) mu (.inl rfl) (λb q hb z=>(hs.2 b hb).trans z) he new
theorem Gn{P:Program}{w:World}{H':Hp}{h':Heap}{kvs:List (Key×V)}{vs:List (Key×Value)}(z:kvs.length<=sizeLine)(hd:(a == sysModules)=false)(rel:KV kvs vs)(dd:h'.DictOf (cN P w) a vs):
  dk P w H' h' a (.dK kvs):=⟨z,hd,vs,rel,dd⟩
theorem yh{H':Hp}{Q:Unit->Shared->Prop}(hu:A.units+1 < cLine)(I:Inv X pins σ H s)(g:l6 H a y v H')(ry:RelV y u)(rv:RelV v r)(h:∀s',Inv X pins σ H' s'->Q () s'):
  wpAny (model X.prog X.w) A (setItem (.ref a) u r) Q E s:=by
 rcases g with ⟨kvs,k,e,ey,l,eH⟩|⟨kvs,k,b,e,ey,eb,l,eH⟩
 ·subst ey eH
  obtain⟨z,hd,vs,rel,dd⟩:=En I.hok e;have hz:vs.length<=sizeLine:=by rw[<-rel.length];exact z
  have hl:(putK kvs k v).length<=sizeLine:=by have:=gz kvs k v;omega
  refine wpAny_setItem_pairs (hsz:=hz) (pC ry) dd λh' dd' hs=>h _ ?_;have he:∃q,h'.get? a=some q:=let ⟨q,_,_,hq,_⟩:=dd';⟨q,hq⟩;exact wL I (by rw[e];exact True.intro) hs he (Gn hl hd (rel.put k rv) dd')
 ·subst ey eH
  cases (show u=Value.ref b from ry);obtain⟨z,hd,xs,rel,dd⟩:=JN I.hok e;have hz:xs.length<=sizeLine:=by rw[<-Paired.length rel];exact z
  have hl:(putK kvs k v).length<=sizeLine:=by have:=gz kvs k v;omega
  refine wpAny_setItem_heap (hsz:=hz) (tupleKind_room_in1 hu) (jV I.hok eb) dd λh' dd' hs=>h _ ?_;obtain⟨q,es,ep,hq,h2,h3,h4,_,h5⟩:=dd';refine wL I (by rw[e];exact True.intro) hs ⟨q,hq⟩ ⟨hl,hd,_,(rel.put k eb rv).keeps λc ys ec=>?_,q,es,ep,hq,h2,h3,h4,h5⟩;rw[cH (jK ec e (λz=>nomatch z))];exact ec
end
section
variable {X:Cx}{pins:List (Addr×Obj)}{σ:St}{H:Hp}{s:Shared}{a:Addr}{kvs:List (Key×V)}{k:Key}{u:Value}{A:Around}{E:Value->Shared->Prop}
end
def IK(i:Expr):Prop:=∀ov iv,subscripted i false ov iv=operate [ov,iv] (getItem ov iv)
theorem Dx{prog:Program}{w:World}{A:Around}{E:Value->Shared->Prop}{s:Shared}{env:Env}{value slice:Expr}{pos:Pos}{T id:String}{Q:Value->Shared->Prop}
  (hl:typeLookup (.type T) "__getitem__" =pure (some (.builtin id))) (hs:IK slice)
  (h:wpAny (model prog w) A (eval value env) (λo s₁=>wpAny (model prog w) A (eval slice env) (λi s₂=>s₂.TypeIs o T/\wpAny (model prog w) A (getItem o i) Q E s₂) E s₁) E s):
  wpAny (model prog w) A (eval (.Subscript value slice pos) env) Q E s:=by
 refine Subscript_ (wpAny_mono h (λo s₁ h₁=>wpAny_mono h₁ (λi s₂ h₂=>?_) λ_ _ x=>x) λ_ _ x=>x);obtain⟨hT,h₂⟩:=h₂;unfold subscriptTail;refine wpAny_bind ?_;rw[getitemInPython_of_ne hT.not_modules];refine wpAny_bind (wpAny_specialOf hT hl ?_);have fin:wpAny (model prog w) A (subscripted slice false o i) (λr s₃=>wpAny (model prog w) A (letTemporaryGo value o r >>= λ_=>pure r) Q E s₃) E s₂:=by
  rw[hs o i];exact wpAny_operating (wpAny_mono h₂ (λr s₃ h₃=>wpAny_bind (wpAny_letTemporaryGo (wpAny_pure h₃))) λ_ _ x=>x)
 first
  |exact wpAny_pure (wpAny_bind fin)
  |exact wpAny_bind (wpAny_pure (wpAny_bind fin))
  |exact wpAny_bind fin
theorem uB{X:Cx}{pins:List (Addr×Obj)}{σ:St}{H:Hp}{s:Shared}{a:Addr}{y:V}{o:Option V}(I:Inv X pins σ H s)(g:eT H a y o):s.TypeIs (.ref a) "dict" :=by
 rcases g with ⟨kvs,k,e,_,_⟩|⟨kvs,k,b,e,_,_,_⟩
 ·obtain⟨_,_,vs,_,dd⟩:=mW I.hok e
  exact dd.typeIs
 ·obtain⟨_,_,xs,_,dd⟩:=mU I.hok e
  exact dd.typeIs
def Ee(td ty:TE):TE:=λσ H Q=>td σ H λx H1=>ty σ H1 λy H2=>∃a v,x=.ref a/\eT H2 a y (some v)/\Q v H2
def Ci(ty td:TE):TE:=λσ H Q=>ty σ H λy H1=>td σ H1 λx H2=>∃a o,x=.ref a/\eT H2 a y o/\Q (.bl o.isSome) H2
def n5(ty td:TE):TE:=λσ H Q=>ty σ H λy H1=>td σ H1 λx H2=>∃a o,x=.ref a/\eT H2 a y o/\Q (.bl (!o.isSome)) H2
def Ez(td ty tv:TE):TS:=λD σ H=>tv σ H λv H1=>td σ H1 λx H2=>ty σ H2 λy H3=>∃a H4,x=.ref a/\l6 H3 a y v H4/\D.nx σ H4
def LO(td ty tv:TE)(rd:V->V->Hp->VK->Prop):TS:=λD σ H=>td σ H λx H1=>ty σ H1 λy H2=>∃a v,x=.ref a/\eT H2 a y (some v)/\
 tv σ H2 λy2 H3=>rd v y2 H3 λz H4=>∃H5,l6 H4 a y z H5/\D.nx σ H5
def Ls(td ty:TE):TS:=λD σ H=>td σ H λx H1=>ty σ H1 λy H2=>∃a kvs k,x=.ref a/\H2 a=some (.dK kvs)/\y=kV k/\(dz kvs k).isSome=true/\D.nx σ (upd H2 a (.dK (Bi kvs k)))
section
variable {X:Cx}{o i e value:Expr}{pos pos' tpos:Pos}{td ty tv:TE}
theorem Cn(hu:X.A.units+1 < cLine)(ho:PE X o td)(hi:PE X i ty)(hs:IK i):PE X (.Subscript o i pos) (Ee td ty):=by
 intro pins s σ H Q I h;refine Dx PySem.F.slot_dict_getitem.lookup hs (di (ho pins s σ H _ I h) λu s1 ⟨x,H1,I1,rx,q1⟩=>di (hi pins s1 σ H1 _ I1 q1) λiv s2 hpat=>?_);obtain⟨y,H2,I2,ry,a,v,ex,g,q2⟩:=hpat;subst ex;obtain rfl:u=Value.ref a:=rx;exact⟨uB I2 g,zc hu I2 g ry λw' s3 I3 rw'=>⟨v,H2,I3,rw',q2⟩⟩
theorem zB(hu:X.A.units+1 < cLine)(hi:PE X i ty)(ho:PE X o td):PC X .In i o (Ci ty td):=by
 intro pins s σ H Q I h;refine di (hi pins s σ H _ I h) λiv s1 ⟨y,H1,I1,ry,q1⟩=>di (ho pins s1 σ H1 _ I1 q1) λu s2 hpat=>?_;obtain⟨x,H2,I2,rx,a,ov,ex,g,q2⟩:=hpat;subst ex;obtain rfl:u=Value.ref a:=rx;exact Lh hu I2 g ry λs3 I3=>⟨.bl ov.isSome,H2,I3,rfl,q2⟩
theorem qF(hu:X.A.units+1 < cLine)(hi:PE X i ty)(ho:PE X o td):PC X .NotIn i o (n5 ty td):=by
 intro pins s σ H Q I h;refine di (hi pins s σ H _ I h) λiv s1 ⟨y,H1,I1,ry,q1⟩=>di (ho pins s1 σ H1 _ I1 q1) λu s2 hpat=>?_;obtain⟨x,H2,I2,rx,a,ov,ex,g,q2⟩:=hpat;subst ex;obtain rfl:u=Value.ref a:=rx;exact B0 hu I2 g ry λs3 I3=>⟨.bl (!ov.isSome),H2,I3,rfl,q2⟩
theorem DD(hu:X.A.units+1 < cLine)(ho:PE X o td)(hi:PE X i ty)(hv:PE X value tv)(hs:swapsWith value (some (.Subscript o i pos')) pos.line X.env=pure false):
  PS X (.Assign [.Subscript o i pos'] value pos) (Ez td ty tv):=by
 intro pins s σ H D I h;refine wpAny_Assign_Subscript (di (hv pins s σ H _ I h) λr s1 ⟨v,H1,I1,rv,q1⟩=>di (ho pins s1 σ H1 _ I1 q1) λu s2 ⟨x,H2,I2,rx,q2⟩=>di (hi pins s2 σ H2 _ I2 q2) λiv s3 hpat=>?_) hs;obtain⟨y,H3,I3,ry,a,H4,ex,g,q3⟩:=hpat;subst ex;obtain rfl:u=Value.ref a:=rx;exact yh hu I3 g ry rv λs4 I4=>⟨σ,H4,I4,q3⟩
end
def Kg:TE:=λ_ H Q=>∀p,H p=none->Q (.ref p) (upd H p (.dK []))
def Kr:TE:=λ_ H Q=>∀p,H p=none->Q (.ref p) (upd H p (.dT []))
section
variable {X:Cx}{pos:Pos}
end
def vt:List (TE×TE)->St->Hp->(List (V×V)->Hp->Prop)->Prop
 |[],_,H,Q=>Q [] H
 | (tk,tv)::r,σ,H,Q=>tk σ H λx H1=>tv σ H1 λy H2=>vt r σ H2 λps H3=>Q ((x,y)::ps) H3
abbrev VV:List (V×V)->List (Value×Value)->Prop:=Paired λp q=>RelV p.1 q.1/\RelV p.2 q.2
def Np(X:Cx)(pos:Pos)(keys:List (Option Expr))(values:List Expr)(trs:List (TE×TE)):Prop:=
 ∀(pins:List (Addr×Obj)) (s:Shared) (σ:St) (H:Hp) (Q:List (V×V)->Hp->Prop),Inv X pins σ H s->vt trs σ H Q->
  wpAny (model X.prog X.w) X.A (evalPairs (pairTrees keys values X.env pos)) (λvs s'=>∃ps H',Inv X pins σ H' s'/\VV ps vs/\Q ps H') X.xe s
def zv(kvs more:List (Key×V)):List (Key×V):=more.foldl (λacc kv=>putK acc kv.1 kv.2) kvs
def LA(trs:List (TE×TE)):TE:=λσ H Q=>∀p,H p=none->vt trs σ (upd H p (.dK [])) λps H2=>H2 p=some (.dK [])/\∃kvs:List (Key×V),ps=kvs.map (λkv=>(kV kv.1,kv.2))/\kvs.length<=15/\Q (.ref p) (upd H2 p (.dK (zv [] kvs)))
structure M1(X:Cx)(o:Expr)(m:Str)(apos:Pos)(e:Expr)(cpos:Pos):Prop where
 base:attributeBase o m X.env (eval o X.env)=eval o X.env
 Hj:((backTo cpos (starEach [e] X.env)).all (λx=> !x.1) && (backToKw cpos (keywordEach [] X.env)).all (λx=>x.1.isSome)
  && decide (([e]:List Expr).length+([]:List Keyword).length+(if([]:List Keyword).isEmpty then 0 else 1) < 30))=true
 line:(apos.endLine == cpos.line)=true
 trees:backTo cpos (starEach [e] X.env)=[(false,eval e X.env)]
structure M2(X:Cx)(o:Expr)(m:Str)(apos:Pos)(e f:Expr)(cpos:Pos):Prop where
 base:attributeBase o m X.env (eval o X.env)=eval o X.env
 Hj:((backTo cpos (starEach [e,f] X.env)).all (λx=> !x.1) && (backToKw cpos (keywordEach [] X.env)).all (λx=>x.1.isSome)
  && decide (([e,f]:List Expr).length+([]:List Keyword).length+(if([]:List Keyword).isEmpty then 0 else 1) < 30))=true
 line:(apos.endLine == cpos.line)=true
 trees:backTo cpos (starEach [e,f] X.env)=[(false,eval e X.env),(false,eval f X.env)]
def Jt(H:Hp)(a:Addr):Prop:=(∃kvs,Rd H a (.dK kvs))\/∃kvs,Rd H a (.dT kvs)
theorem Ag{X:Cx}{pins:List (Addr×Obj)}{σ:St}{H:Hp}{s:Shared}{a:Addr}(I:Inv X pins σ H s)(d:Jt H a):
  s.TypeIs (.ref a) "dict" /\(∀b,Value.ref a=.ref b->∃ob,s.heap.get? b=some ob/\ob.dict=none)/\(a == sysModules)=false:=by
 rcases d with ⟨kvs,e⟩|⟨kvs,e⟩
 ·obtain⟨_,hd,vs,_,dd⟩:=mW I.hok e
  refine⟨dd.typeIs,λb q=>?_,hd⟩;cases q;obtain⟨ob,_,_,h1,h2,_⟩:=dd;exact⟨ob,h1,h2.2.1⟩
 ·obtain⟨_,hd,xs,_,dd⟩:=mU I.hok e
  refine⟨dd.typeIs,λb q=>?_,hd⟩;cases q;obtain⟨ob,_,_,h1,h2,_⟩:=dd;exact⟨ob,h1,h2.2.1⟩
section
variable {X:Cx}{pins:List (Addr×Obj)}{σ:St}{H:Hp}{s:Shared}{a:Addr}{y d:V}{u r:Value}{o:Option V}{A:Around}{E:Value->Shared->Prop}
theorem F7{Q:Value->Shared->Prop}(hu:A.units+1 < cLine)(I:Inv X pins σ H s)(g:eT H a y o)(ry:RelV y u)(h:∀w' s',Inv X pins σ H s'->RelV (o.getD .non) w'->Q w' s'):
  wpAny (model X.prog X.w) A (call (.builtin "dict.get") [.ref a,u]) Q E s:=by
 rcases g with ⟨kvs,k,e,ey,l⟩|⟨kvs,k,b,e,ey,eb,l⟩
 ·subst ey
  obtain⟨z,hd,vs,rel,dd⟩:=mW I.hok e;refine call_meetsIn slot_dict_get dd.typeIs entry_dict_get (PySem.F.args_dict_get_2 _ _) (meets_dict_get (cN X.prog X.w) a (pC ry) hd) ⟨_,dd.mapOf,h _ _ (I.tok _) ?_⟩;rw[l];exact(rel.val k).getD rfl
 ·subst ey
  cases (show u=Value.ref b from ry);obtain⟨z,hd,xs,rel,dd⟩:=mU I.hok e;refine call_meetsIn slot_dict_get dd.typeIs entry_dict_get (PySem.F.args_dict_get_2 _ _) (meetsH_dict_get (tupleKind (cN X.prog X.w)) a b hd) ⟨tupleKind_room_in1 hu,k,xs,jV I.hok eb,dd,h _ _ (I.tok _) ?_⟩;rw[l];exact(rel.val k).getD rfl
theorem FQ{Q:Value->Shared->Prop}(hu:A.units+1 < cLine)(I:Inv X pins σ H s)(g:eT H a y o)(ry:RelV y u)(rd:RelV d r)(h:∀w' s',Inv X pins σ H s'->RelV (o.getD d) w'->Q w' s'):
  wpAny (model X.prog X.w) A (call (.builtin "dict.get") [.ref a,u,r]) Q E s:=by
 rcases g with ⟨kvs,k,e,ey,l⟩|⟨kvs,k,b,e,ey,eb,l⟩
 ·subst ey
  obtain⟨z,hd,vs,rel,dd⟩:=mW I.hok e;refine call_meetsIn slot_dict_get dd.typeIs entry_dict_get (PySem.F.args_dict_get_3 _ _ _) (meets_dict_get_default (cN X.prog X.w) a (pC ry) hd r) ⟨_,dd.mapOf,h _ _ (I.tok _) ?_⟩;rw[l];exact(rel.val k).getD rd
 ·subst ey
  cases (show u=Value.ref b from ry);obtain⟨z,hd,xs,rel,dd⟩:=mU I.hok e;refine call_meetsIn slot_dict_get dd.typeIs entry_dict_get (PySem.F.args_dict_get_3 _ _ _) (meetsH_dict_get_default (tupleKind (cN X.prog X.w)) a b hd r) ⟨tupleKind_room_in1 hu,k,xs,jV I.hok eb,dd,h _ _ (I.tok _) ?_⟩;rw[l];exact(rel.val k).getD rd
end
def BR(td ty:TE):TE:=λσ H Q=>td σ H λx H1=>∃a,x=.ref a/\Jt H1 a/\ty σ H1 λy H2=>∃o,eT H2 a y o/\Q (o.getD .non) H2
def BI(td ty tx:TE):TE:=λσ H Q=>td σ H λx H1=>∃a,x=.ref a/\Jt H1 a/\ty σ H1 λy H2=>tx σ H2 λz H3=>∃o,eT H3 a y o/\Q (o.getD z) H3
def Kx(td ty:TE):TE:=λσ H Q=>td σ H λx H1=>∃a,x=.ref a/\Jt H1 a/\ty σ H1 λy H2=>∃kvs k v,H2 a=some (.dK kvs)/\y=kV k/\dz kvs k=some v/\Q v (upd H2 a (.dK (Bi kvs k)))
def KY(td ty tx:TE):TE:=λσ H Q=>td σ H λx H1=>∃a,x=.ref a/\Jt H1 a/\ty σ H1 λy H2=>tx σ H2 λz H3=>∃kvs k,H3 a=some (.dK kvs)/\y=kV k/\
 (∀v,dz kvs k=some v->Q v (upd H3 a (.dK (Bi kvs k))))/\(dz kvs k=none->Q z H3)
section
variable {X:Cx}{o e f:Expr}{apos cpos:Pos}{td ty tx:TE}
theorem zQ (hu:X.A.units+1 < cLine) (ho:PE X o td) (he:PE X e ty) (m:M1 X o "get" apos e cpos):PE X (.Call (.Attribute o "get" apos) [e] [] cpos) (BR td ty):=by
 intro pins s σ H Q I h;refine wpAny_Call_method m.base m.Hj m.line PySem.F.plainAttrs_dict slot_dict_get PySem.F.type_dict_get (di (ho pins s σ H _ I h) λu s1 hpat=>?_);obtain⟨x,H1,I1,rx,a,ex,d,q1⟩:=hpat;subst ex;obtain rfl:u=Value.ref a:=rx;obtain⟨t1,t2,_⟩:=Ag I1 d;refine⟨t1,t2,?_⟩;rw[m.trees];refine Calls.callWith_builtin rfl (Calls.evalArgs_plain (Calls.spliced_cons (di (he pins s1 σ H1 _ I1 q1) λiv s2 ⟨y,H2,I2,ry,ov,g,q2⟩=>Calls.spliced_nil ?_)));exact F7 hu I2 g ry λw' s3 I3 rw'=>⟨_,H2,I3,rw',q2⟩
theorem zS (hu:X.A.units+1 < cLine) (ho:PE X o td) (he:PE X e ty) (hf:PE X f tx) (m:M2 X o "get" apos e f cpos):PE X (.Call (.Attribute o "get" apos) [e,f] [] cpos) (BI td ty tx):=by
 intro pins s σ H Q I h;refine wpAny_Call_method m.base m.Hj m.line PySem.F.plainAttrs_dict slot_dict_get PySem.F.type_dict_get (di (ho pins s σ H _ I h) λu s1 hpat=>?_);obtain⟨x,H1,I1,rx,a,ex,d,q1⟩:=hpat;subst ex;obtain rfl:u=Value.ref a:=rx;obtain⟨t1,t2,_⟩:=Ag I1 d;refine⟨t1,t2,?_⟩;rw[m.trees];refine Calls.callWith_builtin rfl (Calls.evalArgs_plain (Calls.spliced_cons (di (he pins s1 σ H1 _ I1 q1) λiv s2 ⟨y,H2,I2,ry,q2⟩=>
  Calls.spliced_cons (di (hf pins s2 σ H2 _ I2 q2) λfv s3 ⟨z,H3,I3,rz,ov,g,q3⟩=>Calls.spliced_nil ?_))))
 exact FQ hu I3 g ry rz λw' s4 I4 rw'=>⟨_,H3,I4,rw',q3⟩
end
section
variable {X:Cx}{pins:List (Addr×Obj)}{σ:St}{H:Hp}{s:Shared}{a:Addr}{kvs:List (Key×V)}{A:Around}{E:Value->Shared->Prop}
end
section
variable {X:Cx}{pins:List (Addr×Obj)}{σ:St}{H:Hp}{s:Shared}{a:Addr}{y:V}{u:Value}{A:Around}{E:Value->Shared->Prop}
end
end L2
namespace L2
open PySem PySem.Spec PyProof.Rows
theorem vJ:bootBuiltins "any" =some (.builtin "any"):=by decide+kernel
section
variable {X:Cx}{y m:Str}{N':List Str}{scope:Scope}{cl:List (Str×Addr)}{fp:List Addr}{s3:Shared}{H3:Hp}{C D:Addr}{sp:Sp}
theorem yK.lg(B:yK X y sp)(h:scope.names.lookup y=some .globalImplicit):GQ (dD X N' scope cl fp s3 H3 C) y sp:=⟨B.ex,fQ (by decide) h,B.db⟩
theorem Hk.lg(B:Hk X y)(h:scope.names.lookup y=some .globalImplicit):Bt (dD X N' scope cl fp s3 H3 C) y:=⟨fQ (by decide) h,B.nm,B.hn,B.db⟩
end
def uT(zs xs:List V):Bool:=(List.range (min zs.length xs.length)).all (λi=>uv (zs.getD i .non) (xs.getD i .non)) && zs.length == xs.length
def Hh(H:Hp)(xs:List V)(v:V):Bool:=match v with
 |.ref c=>match H c with
  |some (.tup zs)=>uT zs xs
  |_=>false
 |_=>false
theorem Bj{x:V}(f:df x=true):uv x x=true:=by
 cases x with
 |non=>rfl
 |bl b=>exact beq_self_eq_true b
 |int i=>exact beq_self_eq_true i
 |str z=>exact beq_self_eq_true z
 |_=>exact absurd (show false=true from f) Bool.false_ne_true
theorem y6{xs:List V}(f:xs.all df=true)(i:Nat):df (xs.getD i .non)=true:=by
 rw[getD_eq_getElem?_getD];cases h:xs[i]? with
 |none=>rfl
 |some v=>exact all_eq_true.mp f v (mem_of_getElem? h)
theorem Ab{xs:List V}(f:xs.all df=true):uT xs xs=true:=by
 unfold uT;rw[beq_self_eq_true,Bool.and_true,all_eq_true];exact λi _=>Bj (y6 f i)
inductive HC(K:PySem.W.Frag)(x y:V)(H:Hp)(Q:VK):Prop
 |mk(a b:Addr)(xs ys:List V)(hx:x=.ref a)(hy:y=.ref b)(s:H a=some (.tup xs))(t:cL K H b ys)(f:xs.all df=true)(g:∀v∈ys,∃c zs,v=.ref c/\H c=some (.tup zs)/\zs.all df=true)(q:Q (.bl (ys.any (Hh H xs))) H)
def Cr(H:Hp)(xs:List V)(u:Value):Bool:=match u with
 |.ref c=>Hh H xs (.ref c)
 |_=>false
theorem rB{H:Hp}{xs:List V}:∀{ys:List V}{us:List Value},Vals ys us->(∀v∈ys,∃c zs,v=.ref c/\H c=some (.tup zs)/\zs.all df=true)->us.any (Cr H xs)=ys.any (Hh H xs)
 |_,_,.nil,_=>rfl
 |y::_,u::_,.cons r t,g=>by
  obtain⟨c,zs,rfl,_⟩:=g y (mem_cons_self ..);cases r;rw[any_cons,any_cons,rB t λv hv=>g v (mem_cons_of_mem _ hv)];rfl
theorem oQ:∀{ys:List V}{us:List Value}{u:Value},Vals ys us->u∈us->∃y∈ys,RelV y u
 |_,_,_,.nil,h=>by cases h
 |y::_,_::_,u,.cons r t,h=>by
  rcases mem_cons.mp h with rfl|h
  ·exact⟨y,mem_cons_self ..,r⟩
  ·obtain⟨z,hz,q⟩:=oQ t h
   exact⟨z,mem_cons_of_mem _ hz,q⟩
theorem qH{X:Cx}{pins:List (Addr×Obj)}{σ:St}{H:Hp}{s:Shared}{A:Around}{c a:Addr}{zs xs:List V}(I:Inv X pins σ H s)(hu:A.units < cLine)(hc:H c=some (.tup zs))(ha:H a=some (.tup xs))(fz:zs.all df=true)(fx:xs.all df=true):SeqAt.EqAt A s (.ref c) (.ref a) (uT zs xs):=by
 by_cases e:c=a
 ·subst e
  rw[hc]at ha;cases ha;rw[Ab fx];exact SeqAt.EqAt.same _
 ·obtain⟨its,r,pl,_⟩:=I.tuple (cW.of (K:=X.K) hc)
  obtain⟨its2,r2,pl2,_⟩:=I.tuple (cW.of (K:=X.K) ha);have m1:=r.length;have m2:=r2.length;have:=SeqAt.RcAt.tuples (A:=A) (e:=λi=>uv (zs.getD i .non) (xs.getD i .non)) pl pl2 hu (λj h1 h2=>by
   simp only[size_toArray]at h1 h2;obtain⟨x1,e1,r1⟩:=c9 r h1;obtain⟨x2,e2,r2'⟩:=c9 r2 h2;simp only[getElem_toArray];rw[getD_eq_getElem?_getD,getD_eq_getElem?_getD,e1,e2];exact rN r1 r2' (all_eq_true.mp fz _ (mem_of_getElem? e1)) (all_eq_true.mp fx _ (mem_of_getElem? e2)))
  refine SeqAt.EqAt.of_refs e ?_;simp only[size_toArray]at this;rw[<-m1,<-m2]at this;exact this
theorem jX{X:Cx}(hu:X.A.units+1 < cLine):gX X (compareOp .In) (λx y H Q=>HC X.K x y H Q):=by
 intro pins s σ H x y v u Q I rx ry h;obtain⟨a,b,xs,ys,rfl,rfl,ha,hb,fx,g,q⟩:=h;cases rx;cases ry;obtain⟨its,r,pl,_⟩:=I.list hb;refine SeqAt.in_listAt (Cr H xs) pl.isList (λw hw=>?_) ⟨.bl _,H,I,rfl,?_⟩
 ·obtain⟨z,hz,rz⟩:=oQ r (by simpa using hw)
  obtain⟨c,zs,rfl,hc,fz⟩:=g z hz;cases rz;have e:Cr H xs (.ref c)=uT zs xs:=by
   show(match H c with|some (.tup zs)=>uT zs xs|_=>false)=_;rw[hc]
  rw[e];exact qH I hu hc ha fz fx
 ·rw[show its.toArray.any (Cr H xs)=its.any (Cr H xs) by simp,rB r g]
  exact q
end L2
namespace J
open PySem PySem.Spec PyProof.Rows
open L2 (Cx V Hp St VK TE TT TA TS TG pS TI TO cL cW)
section
variable {X:Cx}{N':List Str}{scope:Scope}{cl:List (Str×Addr)}{fp:List Addr}{s3:Shared}{H3:Hp}{C:Addr}{o i e value:Expr}{es:List Expr}{pos pos':Pos}{td ty tv:TE}
theorem _root_.bX:JX (L2.dD X N' scope cl fp s3 H3 C) (L2.Cm X.K):=⟨L2.wX⟩
theorem _root_.bf:JX (L2.dD X N' scope cl fp s3 H3 C) (L2.Cu X.K):=⟨L2.Bu⟩
theorem pX:JF (L2.dD X N' scope cl fp s3 H3 C) (.builtin "len") (λxs H Q=>L2.ES X.K xs H Q):=⟨L2.kO⟩
theorem _root_.b4{k n:Nat}{u:pS}(hc:X.calm=true)(h:HK (L2.dD X N' scope cl fp s3 H3 C) es u)(hn:(assignEach es (L2.dD X N' scope cl fp s3 H3 C).env).length=n:=by rfl)(hst:(assignEach es (L2.dD X N' scope cl fp s3 H3 C).env).findIdx? (·.1)=none:=by rfl):
  JG (L2.dD X N' scope cl fp s3 H3 C) (.Tuple es k pos) (L2.EZ X.K n u):=⟨L2.Bp (X:=L2.dD X N' scope cl fp s3 H3 C) hc h.out hn hst⟩
theorem jX(hu:X.A.units+1 < cLine):JC X .In (λx y H Q=>L2.HC X.K x y H Q):=⟨L2.jX hu⟩
theorem _root_.bS(hu:X.A.units+1 < cLine)(ho:JE X o td)(hi:JE X i ty)(hs:dO i):JE X (.Subscript o i pos) (L2.Ee td ty):=⟨L2.Cn hu ho.out hi.out (λov iv=>hs.out ov iv)⟩
theorem EJ(hu:X.A.units+1 < cLine)(hi:JE X i ty)(ho:JE X o td)(hm:behindInMarks .In o=false:=by rfl):JT X (.Compare i [.In] [o] pos) (L2.tB (L2.Ci ty td)):=⟨L2.BB (L2.zB hu hi.out ho.out) hm⟩
theorem qu(hu:X.A.units+1 < cLine)(hi:JE X i ty)(ho:JE X o td)(hm:behindInMarks .NotIn o=false:=by rfl):JT X (.Compare i [.NotIn] [o] pos) (L2.tB (L2.n5 ty td)):=⟨L2.BB (L2.qF hu hi.out ho.out) hm⟩
theorem _root_.bZ(hu:X.A.units+1 < cLine)(ho:JE X o td)(hi:JE X i ty)(hv:JE X value tv)(h:L2.jQ value=false:=by rfl):JS X (.Assign [.Subscript o i pos'] value pos) (L2.Ez td ty tv):=⟨L2.DD hu ho.out hi.out hv.out (L2.ja h)⟩
end
end J
namespace L2
open PySem PySem.Spec PyProof.Rows
section
variable {X:Cx}
inductive D0(x y:V)(H:Hp)(Q:VK):Prop
 |mk(a b:Addr)(xs ys:List V)(hx:x=.ref a)(hy:y=.ref b)(s:H a=some (.tup xs))(t:H b=some (.tup ys))(f:xs.all df=true)(g:ys.all df=true)(q:Q (.bl (uT xs ys)) H)
theorem nQ(hu:X.A.units+1 < cLine):gX X (compareOp .Eq) (λx y H Q=>D0 x y H Q):=by
 intro pins s σ H x y v u Q I rx ry h;obtain⟨a,b,xs,ys,rfl,rfl,ha,hb,fx,fy,q⟩:=h;cases rx;cases ry;obtain⟨its,r,pl,_⟩:=I.tuple (cW.of (K:=X.K) ha);obtain⟨its2,r2,pl2,_⟩:=I.tuple (cW.of (K:=X.K) hb);have m1:=r.length;have m2:=r2.length;refine SeqAt.eq_tupleAt (e:=λi=>uv (xs.getD i .non) (ys.getD i .non)) pl pl2 (by omega) (λj h1 h2=>?_) ?_
 ·simp only[size_toArray]at h1 h2
  obtain⟨x1,e1,r1⟩:=c9 r h1;obtain⟨x2,e2,r2'⟩:=c9 r2 h2;simp only[getElem_toArray];rw[getD_eq_getElem?_getD,getD_eq_getElem?_getD,e1,e2];exact rN r1 r2' (all_eq_true.mp fx _ (mem_of_getElem? e1)) (all_eq_true.mp fy _ (mem_of_getElem? e2))
 ·simp only[size_toArray]
  rw[<-m1,<-m2];exact⟨.bl _,H,I,rfl,q⟩
inductive Eu(x y:V)(H:Hp)(Q:VK):Prop
 |mk(z:Str)(n:Int)(hx:x=.str z)(hy:y=.int n)(n01:n=0\/n=1)(q:Q (.str (Txt.mul z n)) H)
theorem rP:gX X (binaryOp .Mult) (λx y H Q=>Eu x y H Q):=by
 intro pins s σ H x y v u Q I rx ry h;obtain⟨z,n,rfl,rfl,n01,q⟩:=h;obtain⟨t,rfl⟩:=rx;obtain⟨t',rfl⟩:=ry;refine SB.mul ?_ λtk k=>⟨.str _,H,I.tok k,⟨_,rfl⟩,q⟩;rcases n01 with rfl|rfl
 ·exact⟨by decide,λh=>absurd (by decide) h,λh=>absurd (by decide) h⟩
 ·exact⟨by decide,λ_ h=>absurd h (by simp),λ_ h=>absurd h (by simp)⟩
end
end L2
namespace J
open PySem PySem.Spec PyProof.Rows
open L2 (Cx V Hp St VK TE TT TA TS TG pS TI TO)
section
variable {X:Cx}{o e f c:Expr}{body:List Stmt}{apos cpos pos:Pos}{td ty tx:TE}{tc:TT}{tb:TS}
theorem nQ(hu:X.A.units+1 < cLine):JC X .Eq (λx y H Q=>L2.D0 x y H Q):=⟨L2.nQ hu⟩
theorem rP:JB X .Mult (λx y H Q=>L2.Eu x y H Q):=⟨L2.rP⟩
theorem HL{env:Env}(h1:L2.notStar e=true)(h2:L2.notStar f=true):backTo cpos (starEach [e,f] env)=[(false,eval e env),(false,eval f env)]:=by
 rw[L2.cR h1,L2.cR h2];rfl
theorem KC(hp:PassesOwn (model X.prog X.w) X.A X.env X.xe)(hc:JT X c tc)(hb:tP X body tb):JS X (.While c body [] pos) (L2.Ba tc tb):=⟨L2.AK hp hc.out hb.out⟩
end
end J
namespace L2
open PySem PySem.Spec PyProof.Rows
section
variable {X:Cx}
theorem qp:∀{us:List Value}{zs:List Str},StrsAre us zs->Vals (zs.map V.str) us
 |_,_,.nil=>.nil
 |_,_,.cons _ _ r=>.cons ⟨_,rfl⟩ (qp r)
inductive MY(K:PySem.W.Frag)(xs:List V)(H:Hp)(Q:VK):Prop
 |mk(p:Addr)(zs:List Str)(e:xs=[.ref p])(s:cL K H p (zs.map V.str))(l:zs.length < 64)(q:∀l zs',H l=none->zs'.Perm zs->sortedS zs'=true->Q (.ref l) (upd H l (.lst (zs'.map V.str))))
theorem yi{a b:List Nat}(h1:ltCps a b=false)(h2:ltCps b a=false):a=b:=by
 rw[ltCps_eq,decide_eq_false_iff_not]at h1 h2;exact List.le_antisymm (not_lt.mp h2) (not_lt.mp h1)
theorem le_trans'{a b c:List Nat}(h1:ltCps b a=false)(h2:ltCps c b=false):ltCps c a=false:=by
 rw[ltCps_eq,decide_eq_false_iff_not]at *;exact not_lt.mpr (List.le_trans (not_lt.mp h1) (not_lt.mp h2))
theorem j5:∀{l:List Str}{p:Str},risingS p l=true->∀y∈l,ltCps y.cps.toList p.cps.toList=false
 |x::r,p,h,y,hy=>by
  have h':(!ltCps x.cps.toList p.cps.toList && risingS x r)=true:=h;rw[and_eq_true,not_eq_true']at h';rcases mem_cons.mp hy with rfl|hy
  ·exact h'.1
  ·exact le_trans' h'.1 (j5 h'.2 y hy)
theorem mY{x:Str}{r:List Str}(h:sortedS (x::r)=true):sortedS r=true:=by
 cases r with
 |nil=>rfl
 |cons y t=>
  have h':(!ltCps y.cps.toList x.cps.toList && risingS y t)=true:=h;rw[and_eq_true]at h';exact h'.2
theorem C6{a b:Str}(h:a.cps.toList=b.cps.toList):a=b:=by
 obtain⟨x⟩:=a;obtain⟨y⟩:=b;have h':x.toList=y.toList:=h;rw[Array.toList_inj.mp h']
theorem jU:∀{l m:List Str},l.Perm m->sortedS l=true->sortedS m=true->l=m
 |[],m,p,_,_=>(List.nil_perm.mp p).symm ▸ rfl
 |x::r,m,p,h1,h2=>by
  cases m with
  |nil=>exact absurd (List.perm_nil.mp p) (by simp)
  |cons y t=>
   have e:x=y:=by
    have mx:x∈y::t:=p.mem_iff.mp mem_cons_self;have my:y∈x::r:=p.mem_iff.mpr mem_cons_self;rcases mem_cons.mp mx with e|mx
    ·exact e
    ·rcases mem_cons.mp my with e|my
     ·exact e.symm
     ·exact C6 (yi (j5 h2 x mx) (j5 h1 y my))
   subst e;rw[jU (List.perm_cons x |>.mp p) (mY h1) (mY h2)]
inductive GC(K:PySem.W.Frag)(x y:V)(H:Hp)(Q:VK):Prop
 |same (a b:Addr)(xs ys:List V)(bs:List Bool)(hx:x=.ref a)(hy:y=.ref b)(s:cL K H a xs)(t:cL K H b ys)(l1:xs.length=bs.length)(l2:ys.length=bs.length)(e:∀(i:Nat) u v c,xs[i]? =some u->ys[i]? =some v->bs[i]? =some c->iU u v=some c)(q:Q (.bl (!(Hn bs))) H)
 |other (a b:Addr)(xs ys:List V)(hx:x=.ref a)(hy:y=.ref b)(s:cL K H a xs)(t:cL K H b ys)(n:xs.length≠ys.length)(q:Q (.bl true) H)
theorem lJ(hu:X.A.units+1 < cLine):gX X (compareOp .NotEq) (λx y H Q=>GC X.K x y H Q):=by
 intro pins s σ H x y v u Q I rx ry h;rcases h with ⟨a,b,xs,ys,bs,rfl,rfl,ha,hb,l1,l2,he,q⟩|⟨a,b,xs,ys,rfl,rfl,ha,hb,n,q⟩
 ·cases rx
  cases ry;obtain⟨its,r,pl,_⟩:=I.list ha;obtain⟨its2,r2,pl2,_⟩:=I.list hb;have m1:=r.length;have m2:=r2.length;have key:SeqAt.RcNeAt X.A s (.ref a) (.ref b) (!((List.range its.toArray.size).all λi=>bs.getD i false)):=by
   refine SeqAt.RcNeAt.lists pl.isList pl2.isList (by simp only[size_toArray];omega) (by omega) λj h1 h2=>?_;simp only[size_toArray]at h1 h2;obtain⟨x1,e1,r1⟩:=c9 r h1;obtain⟨x2,e2,r2'⟩:=c9 r2 h2;have hj:j < bs.length:=by omega
   have e3:bs[j]? =some bs[j]:=getElem?_eq_getElem hj;have e4:bs.getD j false=bs[j]:=by rw[getD_eq_getElem?_getD,e3];rfl
   show SeqAt.EqAt X.A.in1 s its.toArray[j] its2.toArray[j] (bs.getD j false);rw[e4];simp only[getElem_toArray];exact gT r1 r2' (he j x1 x2 _ e1 e2 e3)
  have hz:its.toArray.size=bs.length:=by simp only[size_toArray];omega
  rw[hz]at key;exact key X.prog X.w X.xe _ ⟨.bl _,H,I,rfl,q⟩
 ·cases rx
  cases ry;obtain⟨its,r,pl,_⟩:=I.list ha;obtain⟨its2,r2,pl2,_⟩:=I.list hb;have m1:=r.length;have m2:=r2.length;have key:SeqAt.RcNeAt X.A s (.ref a) (.ref b) true:=SeqAt.RcNeAt.lists_lengths pl.isList pl2.isList (by rw[bne_iff_ne];simp only[size_toArray];omega) (by omega);exact key X.prog X.w X.xe _ ⟨.bl _,H,I,rfl,q⟩
end
section
variable {prog:Program}{w:World}{A:Around}{E:Value->Shared->Prop}{s:Shared}
end
section
variable {prog:Program}{w:World}{A:Around}{R:Result->Shared->Prop}{I:Addr}{fp wr:List Addr}{G:Array GenState->Array GenState->Prop}{n:Nat}{P:Nat->Value->Prop}{St:Nat->Shared->Prop}
end
section
variable {prog:Program}{w:World}{A:Around}{E:Value->Shared->Prop}{s:Shared}
end
section
variable {X:Cx}
inductive MA(K:PySem.W.Frag)(vs:List V)(H:Hp)(Q:VK):Prop
 |mk(p:Addr)(xs:List V)(kvs:List (Key×V))(e:vs=[.ref p])(s:cL K H p xs)(l:xs.length=kvs.length)(t:∀(i:Nat) x kv,xs[i]? =some x->kvs[i]? =some kv->∃a,x=.ref a/\H a=some (.tup [kV kv.1,kv.2]))(q:∀d,H d=none->Q (.ref d) (upd H d (.dK (zv [] kvs))))
end
section
variable {prog:Program}{w:World}{A:Around}{E:Value->Shared->Prop}{s:Shared}
end
section
variable {X:Cx}
inductive IB(K:PySem.W.Frag)(vs:List V)(H:Hp)(Q:VK):Prop
 |mk(p:Addr)(xs:List V)(e:vs=[.ref p])(s:cL K H p xs)(q:∀l,H l=none->Q (.ref l) (upd H l (.lst xs.reverse)))
def L1(K:PySem.W.Frag)(ta:TA):TE:=λσ H Q=>ta σ H λvs H1=>IB K vs H1 Q
theorem jy:bootBuiltins "sorted" =some (.builtin "sorted"):=by decide+kernel
theorem zP:bootBuiltins "sum" =some (.builtin "sum"):=by decide+kernel
end
end L2
namespace J
open PySem PySem.Spec PyProof.Rows
open L2 (Cx V cL cW)
theorem lJ{X:Cx}(hu:X.A.units+1 < cLine):JC X .NotEq (λx y H Q=>L2.GC X.K x y H Q):=⟨L2.lJ hu⟩
end J
namespace L2
open PySem PySem.Spec PyProof.Rows
section
variable {X:Cx}
inductive ID(K:PySem.W.Frag)(x y:V)(H:Hp)(Q:VK):Prop
 |same (a b:Addr)(xs ys:List V)(bs:List Bool)(hx:x=.ref a)(hy:y=.ref b)(s:cL K H a xs)(t:cL K H b ys)(l1:xs.length=bs.length)(l2:ys.length=bs.length)(e:∀(i:Nat) u v c,xs[i]? =some u->ys[i]? =some v->bs[i]? =some c->iU u v=some c)(q:Q (.bl (Hn bs)) H)
 |other (a b:Addr)(xs ys:List V)(hx:x=.ref a)(hy:y=.ref b)(s:cL K H a xs)(t:cL K H b ys)(n:xs.length≠ys.length)(q:Q (.bl false) H)
theorem nN(hu:X.A.units+1 < cLine):gX X (compareOp .Eq) (λx y H Q=>ID X.K x y H Q):=by
 intro pins s σ H x y v u Q I rx ry h;rcases h with ⟨a,b,xs,ys,bs,hx,hy,s1,t1,l1,l2,e,q⟩|⟨a,b,xs,ys,hx,hy,s1,t1,n,q⟩
 ·exact o7 hu pins s σ H x y v u Q I rx ry ⟨a,b,xs,ys,bs,hx,hy,s1,t1,l1,l2,e,q⟩
 ·exact yH hu pins s σ H x y v u Q I rx ry ⟨a,b,xs,ys,hx,hy,s1,t1,n,q⟩
inductive Eg(K:PySem.W.Frag)(x y:V)(H:Hp)(Q:VK):Prop
 |mk(a b:Addr)(xs ys:List V)(hx:x=.ref a)(hy:y=.ref b)(s:H a=some (.tup xs))(t:cL K H b ys)(f:xs.all df=true)(g:∀v∈ys,∃c zs,v=.ref c/\H c=some (.tup zs)/\zs.all df=true)(q:Q (.bl (!(ys.any (Hh H xs)))) H)
theorem gH(hu:X.A.units+1 < cLine):gX X (compareOp .NotIn) (λx y H Q=>Eg X.K x y H Q):=by
 intro pins s σ H x y v u Q I rx ry h;obtain⟨a,b,xs,ys,rfl,rfl,ha,hb,fx,g,q⟩:=h;cases rx;cases ry;obtain⟨its,r,pl,_⟩:=I.list hb;refine SeqAt.notIn_listAt (Cr H xs) pl.isList (λw hw=>?_) ⟨.bl _,H,I,rfl,?_⟩
 ·obtain⟨z,hz,rz⟩:=oQ r (by simpa using hw)
  obtain⟨c,zs,rfl,hc,fz⟩:=g z hz;cases rz;have e:Cr H xs (.ref c)=uT zs xs:=by
   show(match H c with|some (.tup zs)=>uT zs xs|_=>false)=_;rw[hc]
  rw[e];exact qH I hu hc ha fz fx
 ·rw[show its.toArray.any (Cr H xs)=its.any (Cr H xs) by simp,rB r g]
  exact q
inductive Ft(K:PySem.W.Frag)(x:V)(st:Option Int)(H:Hp)(Q:VK):Prop
 |mk(a:Addr)(xs:List V)(hx:x=.ref a)(hst:st=some (-1))(s:cL K H a xs)(q:∀p ys,H p=none->ys.length<=xs.length->(∀v∈ys,v∈xs)->Q (.ref p) (upd H p (.lst ys)))
def Km(K:PySem.W.Frag)(te:TE)(ts:TO):TE:=λσ H Q=>te σ H λx H1=>ts σ H1 λst H2=>Ft K x st H2 Q
theorem pJ{e d:Expr}{ty td:TE}{pos:Pos}(hu:X.A.units+1 < cLine)(hi:PE X e ty)(ho:PE X d td)(hm:behindInMarks .In d=false:=by rfl):PE X (.Compare e [.In] [d] pos) (Ci ty td):=zr (zB hu hi ho) hm
end
section
variable {prog:Program}{w:World}{A:Around}{R:Result->Shared->Prop}{I:Addr}{fp wr:List Addr}{G:Array GenState->Array GenState->Prop}{n:Nat}{P:Nat->Value->Prop}{St:Nat->Shared->Prop}
def J0(xs ps:List (List Key×Addr×Value)):List (List Key×Addr×Value):=ps.foldl (λacc q=>storedH acc q.1 q.2.1 q.2.2) xs
end
section
variable {prog:Program}{w:World}{A:Around}{E:Value->Shared->Prop}{s:Shared}
end
def FZ(kvs more:List (List Key×V)):List (List Key×V):=more.foldl (λacc kv=>putK acc kv.1 kv.2) kvs
section
variable {X:Cx}
inductive L0(K:PySem.W.Frag)(vs:List V)(H:Hp)(Q:VK):Prop
 |mk(p:Addr)(xs:List V)(kvs:List (List Key×V))(e:vs=[.ref p])(s:cL K H p xs)(l:xs.length=kvs.length)(t:∀(i:Nat) x kv,xs[i]? =some x->kvs[i]? =some kv->∃a b,x=.ref a/\H a=some (.tup [.ref b,kv.2])/\H b=some (.tup (kv.1.map kV)))(q:∀d,H d=none->Q (.ref d) (upd H d (.dT (FZ [] kvs))))
end
end L2
namespace J
open PySem PySem.Spec PyProof.Rows
open L2 (Cx V Hp St VK TE TT TA TS TG pS TI TO cL cW)
section
variable {X:Cx}{e d st:Expr}{ty td te:TE}{ts:TO}{pos p2:Pos}
theorem Iv{o f:Expr}{apos cpos:Pos}{tx:TE}(hu:X.A.units+1 < cLine)(ho:JE X o td)(he:JE X e ty)(hf:JE X f tx)(h:se o=true:=by rfl)(h1:L2.notStar e=true:=by rfl)(h2:L2.notStar f=true:=by rfl)(hline:(apos.endLine == cpos.line)=true:=by rfl):JE X (.Call (.Attribute o "get" apos) [e,f] [] cpos) (L2.BI td ty tx):=
 ⟨L2.zS hu ho.out he.out hf.out ⟨jm h,by rw[HL h1 h2];rfl,hline,HL h1 h2⟩⟩
theorem nN(hu:X.A.units+1 < cLine):JC X .Eq (λx y H Q=>L2.ID X.K x y H Q):=⟨L2.nN hu⟩
theorem gH(hu:X.A.units+1 < cLine):JC X .NotIn (λx y H Q=>L2.Eg X.K x y H Q):=⟨L2.gH hu⟩
theorem pJ(hu:X.A.units+1 < cLine)(hi:JE X e ty)(ho:JE X d td)(hm:behindInMarks .In d=false:=by rfl):JE X (.Compare e [.In] [d] pos) (L2.Ci ty td):=⟨L2.pJ hu hi.out ho.out hm⟩
end
end J
namespace TS
open PySem PyProof.Rows
def nL:Bool->Keyed->Array Keyed->Nat->Nat->Nat->StateT SortSt Sem (Option Nat):=sortPriv% PySem.Builtin.gallop
def key(κ:KeyKind)(p:Keyed):κ.α:=(κ.keyOf p.1).getD κ.dflt
def ir(κ:KeyKind)(p:Keyed):Prop:=∃a,κ.keyOf p.1=some a
def kG(prog:Program)(w:World)(A:Around)(E:Value->Shared->Prop)(s:Shared)(κ:KeyKind)(kd:SortKind):Prop:=
 ∀(x y:Keyed) (st:SortSt) (Q:Option Bool->SortSt->Prop),kindOf st=kd->ir κ x->ir κ y->Q (some (κ.blt (key κ x) (key κ y))) st->wpS (model prog w) A E s (lt' x y) Q st
section
variable {prog:Program}{w:World}{A:Around}{E:Value->Shared->Prop}{s:Shared}{κ:KeyKind}{kd:SortKind}
theorem cS{arr:Array Keyed}{i:Nat}{x:Keyed}{st:SortSt}{Q:Keyed->SortSt->Prop}(h:arr[i]? =some x)(q:Q x st):wpS (model prog w) A E s (elem' arr i) Q st:=by
 rw[elem'_eq,h];exact wpS_pure q
def FU(κ:KeyKind)(left:Bool)(k x:Keyed):Bool:=if left then κ.blt (key κ x) (key κ k) else !(κ.blt (key κ k) (key κ x))
theorem B6(hL:kG prog w A E s κ kd){left:Bool}{k x:Keyed}{arr:Array Keyed}{i:Nat}{st:SortSt}{Q:Option Bool->SortSt->Prop}(hk:kindOf st=kd)(kk:ir κ k)(hx:arr[i]? =some x)(kx:ir κ x)(q:Q (some (FU κ left k x)) st):
  wpS (model prog w) A E s (elem' arr i >>= λx=>if left=true then lt' x k else lt' k x >>= λr=>pure (Option.map (λy=> !y) r)) Q st:=by
 refine wpS_bind (cS hx ?_);cases left with
 |true=>
  rw[if_pos rfl];exact hL x k st Q hk kx kk q
 |false=>
  rw[if_neg Bool.false_ne_true];exact wpS_bind (hL k x st _ hk kk kx (wpS_pure q))
theorem vU(hL:kG prog w A E s κ kd){left:Bool}{k:Keyed}{arr:Array Keyed}{base n hint:Nat}{st:SortSt}{Q:Option Nat->SortSt->Prop}(hk:kindOf st=kd)(kk:ir κ k)(f:Nat->Bool)(hf:∀i,i < n->∃x,arr[base+i]? =some x/\ir κ x/\FU κ left k x=f i)(mono:∀i j,i<=j->j < n->f j=true->f i=true)(hh:hint < n)
  (q:∀m,m<=n->(∀i,i < m->f i=true)->(∀i,m<=i->i < n->f i=false)->Q (some m) st):wpS (model prog w) A E s (nL left k arr base n hint) Q st:=by
 have beyond:∀{i:Nat}{R:Option Bool->SortSt->Prop},i < n->R (some (f i)) st->wpS (model prog w) A E s (elem' arr (base+i) >>= λx=>if left=true then lt' x k else lt' k x >>= λr=>pure (Option.map (λy=> !y) r)) R st:=λ{i R} hi hR=>by
  obtain⟨x,hx,kx,e⟩:=hf i hi;exact B6 hL hk kk hx kx (e ▸ hR)
 have up:∀i j,i<=j->j < n->f i=false->f j=false:=λi j h1 h2 h3=>by
  cases h:f j with
  |false=>rfl
  |true=>rw[mono i j h1 h2 h]at h3;cases h3
 refine wpS_bind (beyond hh ?_);dsimp only;by_cases hr:f hint=true
 ·rw[if_pos hr]
  refine wpS_bind (wpS_mono (wpS_forRange (I:=λx c st'=>st'=st/\∃la o,c=(none,la,o)/\la < o/\x+1<=o/\hint+la < n/\f (hint+la)=true)
   (Q:=λc st'=>st'=st/\∃la o,c=(none,la,o)/\la < o/\hint+la < n/\f (hint+la)=true/\(n - hint<=o\/(hint+o < n/\f (hint+o)=false))) ?step ?fin ⟨rfl,0,1,rfl,by omega,by omega,by omega,hr⟩) ?post)
  case step=>
   rintro x c st' _ hx ⟨rfl,la,o,rfl,h1,h2,h3,h4⟩;dsimp only;by_cases c1:o ≥ n - hint
   ·rw[if_pos c1]
    exact wpS_pure ⟨rfl,la,o,rfl,h1,h3,h4,.inl c1⟩
   ·rw[if_neg c1]
    refine wpS_bind (beyond (by omega) ?_);dsimp only;cases hm:f (hint+o) with
    |false=>exact wpS_pure ⟨rfl,la,o,rfl,h1,h3,h4,.inr ⟨by omega,hm⟩⟩
    |true=>exact wpS_pure ⟨rfl,o,2 * o+1,rfl,by omega,by omega,by omega,hm⟩
  case fin=>
   rintro c st' ⟨rfl,la,o,rfl,h1,h2,h3,h4⟩;exact⟨rfl,la,o,rfl,h1,h3,h4,.inl (by omega)⟩
  case post=>
   rintro c st' ⟨e0,la,o,rfl,h1,h3,h4,h5⟩;rw[e0];clear e0 st';dsimp only;have d:∀i,hint+min o (n - hint)<=i->i < n->f i=false:=λi i1 i2=>by
    rcases h5 with h5|⟨h5,h6⟩
    ·omega
    ·exact up _ i (by omega) i2 h6
   refine wpS_bind (wpS_mono (wpS_forRange (I:=λx c st''=>st''=st/\∃lo hi,c=(none,lo,hi)/\lo<=hi/\hi<=n/\hi - lo<=n - x/\(∀i,i < lo->f i=true)/\(∀i,hi<=i->i < n->f i=false))
    (Q:=λc st''=>st''=st/\∃hi,c=(none,hi,hi)/\hi<=n/\(∀i,i < hi->f i=true)/\(∀i,hi<=i->i < n->f i=false)) ?sstep ?sfin ⟨rfl,_,_,rfl,(by omega),(by omega),by omega,(λi hi=>mono i _ (by omega) h3 h4),d⟩) ?spost)
   case sstep=>
    rintro x c st'' _ hx ⟨rfl,lo,hi,rfl,g1,g2,g3,g4,g5⟩;dsimp only;by_cases c1:lo ≥ hi
    ·rw[if_pos c1]
     have e:lo=hi:=by omega
     subst e;exact wpS_pure ⟨rfl,lo,rfl,g2,g4,g5⟩
    ·rw[if_neg c1]
     refine wpS_bind (beyond (by omega) ?_);dsimp only;cases hm:f (lo+(hi - lo) / 2) with
     |true=>exact wpS_pure ⟨rfl,_,_,rfl,by omega,by omega,by omega,λi hi'=>mono i _ (by omega) (by omega) hm,g5⟩
     |false=>exact wpS_pure ⟨rfl,_,_,rfl,by omega,by omega,by omega,g4,λi h1 h2=>up _ i h1 h2 hm⟩
   case sfin=>
    rintro c st'' ⟨rfl,lo,hi,rfl,g1,g2,g3,g4,g5⟩;have e:lo=hi:=by omega
    subst e;exact⟨rfl,lo,rfl,g2,g4,g5⟩
   case spost=>
    rintro c st'' ⟨rfl,hi,rfl,g2,g4,g5⟩;exact wpS_pure (q hi g2 g4 g5)
 ·rw[if_neg hr]
  have hr':f hint=false:=eq_false_of_ne_true hr;refine wpS_bind (wpS_mono (wpS_forRange (I:=λx c st'=>st'=st/\∃la o,c=(none,la,o)/\la < o/\x+1<=o/\la<=hint/\f (hint - la)=false)
   (Q:=λc st'=>st'=st/\∃la o,c=(none,la,o)/\la < o/\la<=hint/\f (hint - la)=false/\(hint+1<=o\/(o<=hint/\f (hint - o)=true))) ?step ?fin ⟨rfl,0,1,rfl,by omega,by omega,by omega,hr'⟩) ?post)
  case step=>
   rintro x c st' _ hx ⟨rfl,la,o,rfl,h1,h2,h3,h4⟩;dsimp only;by_cases c1:o ≥ hint+1
   ·rw[if_pos c1]
    exact wpS_pure ⟨rfl,la,o,rfl,h1,h3,h4,.inl c1⟩
   ·rw[if_neg c1]
    refine wpS_bind (beyond (by omega) ?_);dsimp only;cases hm:f (hint - o) with
    |true=>exact wpS_pure ⟨rfl,la,o,rfl,h1,h3,h4,.inr ⟨by omega,hm⟩⟩
    |false=>exact wpS_pure ⟨rfl,o,2 * o+1,rfl,by omega,by omega,by omega,hm⟩
  case fin=>
   rintro c st' ⟨rfl,la,o,rfl,h1,h2,h3,h4⟩;exact⟨rfl,la,o,rfl,h1,h3,h4,.inl (by omega)⟩
  case post=>
   rintro c st' ⟨e0,la,o,rfl,h1,h3,h4,h5⟩;rw[e0];clear e0 st';dsimp only;have d:∀i,i < hint+1 - min o (hint+1)->f i=true:=λi i1=>by
    rcases h5 with h5|⟨h5,h6⟩
    ·omega
    ·exact mono i _ (by omega) (by omega) h6
   refine wpS_bind (wpS_mono (wpS_forRange (I:=λx c st''=>st''=st/\∃lo hi,c=(none,lo,hi)/\lo<=hi/\hi<=n/\hi - lo<=n - x/\(∀i,i < lo->f i=true)/\(∀i,hi<=i->i < n->f i=false))
    (Q:=λc st''=>st''=st/\∃hi,c=(none,hi,hi)/\hi<=n/\(∀i,i < hi->f i=true)/\(∀i,hi<=i->i < n->f i=false)) ?sstep ?sfin ⟨rfl,_,_,rfl,(by omega),(by omega),by omega,d,(λi i1 i2=>up _ i i1 i2 h4)⟩) ?spost)
   case sstep=>
    rintro x c st'' _ hx ⟨rfl,lo,hi,rfl,g1,g2,g3,g4,g5⟩;dsimp only;by_cases c1:lo ≥ hi
    ·rw[if_pos c1]
     have e:lo=hi:=by omega
     subst e;exact wpS_pure ⟨rfl,lo,rfl,g2,g4,g5⟩
    ·rw[if_neg c1]
     refine wpS_bind (beyond (by omega) ?_);dsimp only;cases hm:f (lo+(hi - lo) / 2) with
     |true=>exact wpS_pure ⟨rfl,_,_,rfl,by omega,by omega,by omega,λi hi'=>mono i _ (by omega) (by omega) hm,g5⟩
     |false=>exact wpS_pure ⟨rfl,_,_,rfl,by omega,by omega,by omega,g4,λi h1 h2=>up _ i h1 h2 hm⟩
   case sfin=>
    rintro c st'' ⟨rfl,lo,hi,rfl,g1,g2,g3,g4,g5⟩;have e:lo=hi:=by omega
    subst e;exact⟨rfl,lo,rfl,g2,g4,g5⟩
   case spost=>
    rintro c st'' ⟨rfl,hi,rfl,g2,g4,g5⟩;exact wpS_pure (q hi g2 g4 g5)
end
end TS
namespace TS
open PySem PyProof.Rows
variable {κ:KeyKind}
def dr(κ:KeyKind)(l:List Keyed):Prop:=l.Pairwise λx y=>κ.kle (key κ x) (key κ y)
def HD(κ:KeyKind)(v:κ.α)(p:Keyed):Bool:= !κ.blt (key κ p) v && !κ.blt v (key κ p)
def fk(κ:KeyKind)(v:κ.α)(l:List Keyed):List Keyed:=l.filter (HD κ v)
def Below(κ:KeyKind)(l m:List Keyed):Prop:=∀x∈l,∀y∈m,κ.kle (key κ x) (key κ y)
def Under(κ:KeyKind)(l m:List Keyed):Prop:=∀x∈l,∀y∈m,κ.klt (key κ x) (key κ y)
def cO(κ:KeyKind)(l m:List Keyed):Prop:=∀v,fk κ v l=fk κ v m
theorem Under.below{l m:List Keyed}(h:Under κ l m):Below κ l m:=λx hx y hy=>KeyOrd.kle_of_klt (h x hx y hy)
theorem jx(v:κ.α)(l m:List Keyed):fk κ v (l++m)=fk κ v l++fk κ v m:=filter_append ..
theorem uA(p:Keyed):HD κ (key κ p) p=true:=by
 unfold HD;rw[κ.irrefl];rfl
theorem zk{v:κ.α}{p:Keyed}(h:HD κ v p=true):key κ p=v:=by
 unfold HD at h;rw[and_eq_true,not_eq_true',not_eq_true']at h;exact κ.total _ _ h.1 h.2
theorem cO.refl(l:List Keyed):cO κ l l:=λ_=>rfl
theorem cO.trans{l m n:List Keyed}(h:cO κ l m)(h':cO κ m n):cO κ l n:=λv=>(h v).trans (h' v)
theorem cO.append{l m l' m':List Keyed}(h:cO κ l l')(h':cO κ m m'):cO κ (l++m) (l'++m'):=λv=>by
 rw[jx,jx,h v,h' v]
theorem cO.perm{l m:List Keyed}(h:cO κ l m):l.Perm m:=by
 classical
 refine List.perm_iff_count.mpr λx=>?_;have e:=congrArg (List.count x) (h (key κ x));unfold fk at e
 rwa [List.count_filter (uA x),List.count_filter (uA x)]at e
theorem cO.mem{l m:List Keyed}(h:cO κ l m){x:Keyed}:x∈l↔x∈m:=h.perm.mem_iff
theorem cO.swap{l m:List Keyed}(h:Under κ l m):cO κ (l++m) (m++l):=λv=>by
 rw[jx,jx];by_cases e:fk κ v l=[]
 ·rw[e,append_nil,nil_append]
 ·obtain⟨x,hx⟩:=List.exists_mem_of_ne_nil _ e
  obtain⟨x1,x2⟩:=mem_filter.mp hx;have e2:fk κ v m=[]:=List.eq_nil_iff_forall_not_mem.mpr λy hy=>by
   obtain⟨y1,y2⟩:=mem_filter.mp hy;have:=h x x1 y y1;rw[zk x2,zk y2]at this;unfold KeyOrd.klt at this;rw[κ.irrefl]at this;cases this
  rw[e2,append_nil,nil_append]
theorem dr.append{l m:List Keyed}(h:dr κ l)(h':dr κ m)(b:Below κ l m):dr κ (l++m):=List.pairwise_append.mpr ⟨h,h',b⟩
theorem dr.left{l m:List Keyed}(h:dr κ (l++m)):dr κ l:=(List.pairwise_append.mp h).1
theorem dr.right{l m:List Keyed}(h:dr κ (l++m)):dr κ m:=(List.pairwise_append.mp h).2.1
theorem dr.mid{l m:List Keyed}(h:dr κ (l++m)):Below κ l m:=(List.pairwise_append.mp h).2.2
theorem dr.drop{l:List Keyed}(h:dr κ l)(i:Nat):dr κ (l.drop i):=List.Pairwise.sublist (List.drop_sublist i l) h
theorem Below.append{l m n:List Keyed}(h:Below κ l n)(h':Below κ m n):Below κ (l++m) n:=λx hx=>(mem_append.mp hx).elim (h x) (h' x)
theorem Below.left{l m n:List Keyed}(h:Below κ l (m++n)):Below κ l m:=λx hx y hy=>h x hx y (mem_append_left _ hy)
theorem Below.right{l m n:List Keyed}(h:Below κ l (m++n)):Below κ l n:=λx hx y hy=>h x hx y (mem_append_right _ hy)
theorem Below.nil{l:List Keyed}:Below κ l []:=λ_ _ _ h=>by cases h
theorem o5(l:List Keyed)(i k:Nat):l.drop i=(l.drop i).take k++l.drop (i+k):=by
 rw[<-List.drop_drop,take_append_drop]
structure jF(κ:KeyKind)(al bl out:List Keyed)(ia ib:Nat):Prop where
 so:dr κ out
 oa:Below κ out (al.drop ia)
 ob:Below κ out (bl.drop ib)
 st:cO κ (out++(al.drop ia++bl.drop ib)) (al++bl)
theorem jF.u3{al bl out:List Keyed}{ia ib k:Nat}(sa:dr κ al)(h:jF κ al bl out ia ib)(b:Below κ ((al.drop ia).take k) (bl.drop ib)):jF κ al bl (out++(al.drop ia).take k) (ia+k) ib:=by
 have e:=o5 al ia k;have s:=sa.drop ia;have oa:=h.oa;have st:=h.st;rw[e]at s oa st;refine⟨h.so.append s.left oa.left,oa.right.append s.mid,h.ob.append b,?_⟩;rw[append_assoc,<-append_assoc _ (al.drop (ia+k))];exact st
theorem jF.uZ{al bl out:List Keyed}{ia ib k:Nat}(sb:dr κ bl)(h:jF κ al bl out ia ib)(b:Under κ ((bl.drop ib).take k) (al.drop ia)):jF κ al bl (out++(bl.drop ib).take k) ia (ib+k):=by
 have e:=o5 bl ib k;have s:=sb.drop ib;have ob:=h.ob;have st:=h.st;rw[e]at s ob st;refine⟨h.so.append s.left ob.left,h.oa.append b.below,ob.right.append s.mid,?_⟩;refine cO.trans ?_ st;rw[append_assoc];refine(cO.refl _).append ?_;rw[<-append_assoc,<-append_assoc];exact(cO.swap b).append (cO.refl _)
theorem jF.done{al bl out:List Keyed}{ia ib:Nat}(sa:dr κ al)(sb:dr κ bl)(h:jF κ al bl out ia ib)(e:al.drop ia=[]\/bl.drop ib=[]):dr κ (out++al.drop ia++bl.drop ib)/\cO κ (out++al.drop ia++bl.drop ib) (al++bl):=by
 refine⟨?_,by rw[append_assoc];exact h.st⟩;rcases e with e|e
 ·rw[e,append_nil]
  exact h.so.append (sb.drop ib) h.ob
 ·rw[e,append_nil]
  exact h.so.append (sa.drop ia) h.oa
theorem jF.last{al bl out:List Keyed}{ia ib:Nat}(sa:dr κ al)(sb:dr κ bl)(h:jF κ al bl out ia ib)(u:Under κ (bl.drop ib) (al.drop ia)):dr κ (out++bl.drop ib++al.drop ia)/\cO κ (out++bl.drop ib++al.drop ia) (al++bl):=by
 refine⟨(h.so.append (sb.drop ib) h.ob).append (sa.drop ia) (h.oa.append u.below),cO.trans ?_ h.st⟩;rw[append_assoc];exact(cO.refl _).append (cO.swap u)
def Bx:Array Keyed->Array Keyed->StateT SortSt Sem (Array Keyed):=sortPriv% PySem.Builtin.mergeLo
section
variable {prog:Program}{w:World}{A:Around}{E:Value->Shared->Prop}{s:Shared}{kd:SortKind}
structure Kept(st st':SortSt):Prop where
 kind:kindOf st'=kindOf st
 arr:arrOf st'=arrOf st
 pend:pendingOf st'=pendingOf st
 failed:failedOf st'=failedOf st
theorem Kept.refl(st:SortSt):Kept st st:=⟨rfl,rfl,rfl,rfl⟩
theorem Kept.trans{a b c:SortSt}(h:Kept a b)(h':Kept b c):Kept a c:=⟨h'.kind.trans h.kind,h'.arr.trans h.arr,h'.pend.trans h.pend,h'.failed.trans h.failed⟩
def qh:Nat->StateT SortSt Sem Unit:=sortPriv% PySem.Builtin.setMinGallop
theorem kr{g:Nat}{st:SortSt}{Q:Unit->SortSt->Prop}(q:∀st',Kept st st'->Q () st'):wpS (model prog w) A E s (qh g) Q st:=by
 exact wpS_modify (q _ ⟨rfl,rfl,rfl,rfl⟩)
theorem xH{l:List Keyed}{b m:Nat}{x:Keyed}:x∈(l.drop b).take m↔∃i,i < m/\l[b+i]? =some x:=by
 constructor
 ·intro h
  obtain⟨i,hi⟩:=getElem?_of_mem h;have hl:=(List.getElem?_eq_some_iff.mp hi).1;rw[length_take]at hl;rw[getElem?_take_of_lt (by omega),getElem?_drop]at hi;exact⟨i,by omega,hi⟩
 ·rintro⟨i,h1,h2⟩
  refine mem_of_getElem? (i:=i) ?_;rw[getElem?_take_of_lt h1,getElem?_drop];exact h2
theorem dr.at{l:List Keyed}{b n i j:Nat}{x y:Keyed}(h:dr κ ((l.drop b).take n))(ij:i<=j)(jn:j < n)(hx:l[b+i]? =some x)(hy:l[b+j]? =some y):κ.kle (key κ x) (key κ y):=by
 by_cases e:i=j
 ·subst e
  rw[hx]at hy;cases hy;exact KeyOrd.kle_refl _
 ·have h1:((l.drop b).take n)[i]? =some x:=by rw[getElem?_take_of_lt (by omega),getElem?_drop];exact hx
  have h2:((l.drop b).take n)[j]? =some y:=by rw[getElem?_take_of_lt jn,getElem?_drop];exact hy
  obtain⟨i1,e1⟩:=List.getElem?_eq_some_iff.mp h1;obtain⟨j1,e2⟩:=List.getElem?_eq_some_iff.mp h2;have:=List.pairwise_iff_getElem.mp h i j i1 j1 (by omega)
  rwa [e1,e2]at this
theorem xi(hL:kG prog w A E s κ kd){left:Bool}{k:Keyed}{arr:Array Keyed}{base n hint:Nat}{st:SortSt}{Q:Option Nat->SortSt->Prop}(hk:kindOf st=kd)(kk:ir κ k)(ks:∀x∈arr.toList,ir κ x)(sz:base+n<=arr.size)(ss:dr κ ((arr.toList.drop base).take n))(hh:hint < n)
  (q:∀m,m<=n->(∀x∈(arr.toList.drop base).take m,FU κ left k x=true)->(∀x∈(arr.toList.drop (base+m)).take (n - m),FU κ left k x=false)->Q (some m) st):wpS (model prog w) A E s (nL left k arr base n hint) Q st:=by
 have ex:∀i,i < n->∃x,arr.toList[base+i]? =some x/\ir κ x:=λi hi=>by
  have:base+i < arr.toList.length:=by rw[length_toList];omega
  exact⟨_,getElem?_eq_getElem this,ks _ (getElem_mem this)⟩
 refine vU hL hk kk (λi=>match arr.toList[base+i]? with|some x=>FU κ left k x|none=>false) (λi hi=>?_) (λi j ij jn hj=>?_) hh λm hm m1 m2=>q m hm (λx hx=>?_) (λx hx=>?_)
 ·obtain⟨x,hx,kx⟩:=ex i hi
  exact⟨x,by rw[<-hx,getElem?_toList],kx,by rw[hx]⟩
 ·obtain⟨x,hx,kx⟩:=ex i (by omega)
  obtain⟨y,hy,ky⟩:=ex j jn;have le:=ss.at ij jn hx hy;rw[hy]at hj;rw[hx];dsimp only at hj ⊢;cases left with
  |true=>exact KeyOrd.klt_of_kle_of_klt le (show κ.klt _ _ from hj)
  |false=>
   have hj':κ.blt (key κ k) (key κ y)=false:=by
    have:(!κ.blt (key κ k) (key κ y))=true:=hj
    rwa [not_eq_true']at this
   have:κ.kle (key κ x) (key κ k):=KeyOrd.kle_trans le hj';show(!κ.blt (key κ k) (key κ x))=true;rw[not_eq_true'];exact this
 ·obtain⟨i,hi,hx'⟩:=xH.mp hx
  have:=m1 i hi
  rwa [hx']at this
 ·obtain⟨i,hi,hx'⟩:=xH.mp hx
  rw[Nat.add_assoc]at hx';have:=m2 (m+i) (by omega) (by omega)
  rwa [hx']at this
theorem fq(l:List Keyed)(b:Nat){n:Nat}(h:l.length - b<=n):(l.drop b).take n=l.drop b:=take_of_length_le (by rw[length_drop];exact h)
theorem oA(hL:kG prog w A E s κ kd){k:Keyed}{arr:Array Keyed}{base n hint:Nat}{st:SortSt}{Q:Option Nat->SortSt->Prop}(hk:kindOf st=kd)(kk:ir κ k)(ks:∀x∈arr.toList,ir κ x)(sz:base+n<=arr.size)(ss:dr κ ((arr.toList.drop base).take n))(hh:hint < n)
  (q:∀m,m<=n->Below κ ((arr.toList.drop base).take m) [k]->Under κ [k] ((arr.toList.drop (base+m)).take (n - m))->Q (some m) st):wpS (model prog w) A E s (nL false k arr base n hint) Q st:=
 xi hL hk kk ks sz ss hh λm hm m1 m2=>q m hm (λx hx y hy=>by
  cases mem_singleton.mp hy;have:=m1 x hx;unfold FU at this;rw[if_neg Bool.false_ne_true,not_eq_true']at this;exact this) (λy hy x hx=>by
  cases mem_singleton.mp hy;have:=m2 x hx;unfold FU at this;rw[if_neg Bool.false_ne_true,Bool.not_eq_false']at this;exact this)
theorem pI(hL:kG prog w A E s κ kd){k:Keyed}{arr:Array Keyed}{base n hint:Nat}{st:SortSt}{Q:Option Nat->SortSt->Prop}(hk:kindOf st=kd)(kk:ir κ k)(ks:∀x∈arr.toList,ir κ x)(sz:base+n<=arr.size)(ss:dr κ ((arr.toList.drop base).take n))(hh:hint < n)
  (q:∀m,m<=n->Under κ ((arr.toList.drop base).take m) [k]->Below κ [k] ((arr.toList.drop (base+m)).take (n - m))->Q (some m) st):wpS (model prog w) A E s (nL true k arr base n hint) Q st:=
 xi hL hk kk ks sz ss hh λm hm m1 m2=>q m hm (λx hx y hy=>by
  cases mem_singleton.mp hy;exact m1 x hx) (λy hy x hx=>by
  cases mem_singleton.mp hy;exact m2 x hx)
def jH(κ:KeyKind)(a b r:Array Keyed):Prop:=dr κ r.toList/\cO κ r.toList (a.toList++b.toList)
theorem kq(a:Array Keyed)(i:Nat):(a.extract i a.size).toList=a.toList.drop i:=by
 rw[toList_extract];exact fq _ _ (by rw[length_toList];exact le_refl _)
theorem oi(a:Array Keyed)(i k:Nat):(a.extract i (i+k)).toList=(a.toList.drop i).take k:=by
 rw[toList_extract];show(a.toList.drop i).take (i+k - i)=_;rw[Nat.add_sub_cancel_left]
theorem dR{a:Array Keyed}{i:Nat}{x:Keyed}(h:a[i]? =some x):a.toList.drop i=x::a.toList.drop (i+1):=by
 rw[<-getElem?_toList]at h;obtain⟨h1,h2⟩:=List.getElem?_eq_some_iff.mp h;rw[List.drop_eq_getElem_cons h1,h2]
theorem dr.head{x:Keyed}{l:List Keyed}(h:dr κ (x::l)):Below κ [x] (x::l):=λa ha b hb=>by
 cases mem_singleton.mp ha;rcases mem_cons.mp hb with rfl|hb
 ·exact KeyOrd.kle_refl _
 ·exact(List.pairwise_cons.mp h).1 b hb
theorem Under.over{k:Keyed}{l m:List Keyed}(h:Under κ l [k])(b:Below κ [k] m):Under κ l m:=λx hx y hy=>KeyOrd.klt_of_klt_of_kle (h x hx k (mem_singleton_self _)) (b k (mem_singleton_self _) y hy)
theorem Below.over{k:Keyed}{l m:List Keyed}(h:Below κ l [k])(b:Below κ [k] m):Below κ l m:=λx hx y hy=>KeyOrd.kle_trans (h x hx k (mem_singleton_self _)) (b k (mem_singleton_self _) y hy)
section
variable {a b out:Array Keyed}{ia ib:Nat}(sa:dr κ a.toList)(sb:dr κ b.toList)
include sa sb
theorem jF.pF(h:jF κ a.toList b.toList out.toList ia ib)(e:a.size<=ia\/b.size<=ib):jH κ a b (out++a.extract ia a.size++b.extract ib b.size):=by
 unfold jH;rw[toList_append,toList_append,kq,kq];exact h.done sa sb (e.imp (λe=>List.drop_eq_nil_of_le (by rw[length_toList];exact e)) (λe=>List.drop_eq_nil_of_le (by rw[length_toList];exact e)))
theorem jF.Dp(h:jF κ a.toList b.toList out.toList ia ib)(u:Under κ (b.toList.drop ib) (a.toList.drop ia)):jH κ a b (out++b.extract ib b.size++a.extract ia a.size):=by
 unfold jH;rw[toList_append,toList_append,kq,kq];exact h.last sa sb u
omit sa in
theorem jF.qL{x:Keyed}(h:jF κ a.toList b.toList out.toList ia ib)(hx:b[ib]? =some x)(u:Under κ [x] (a.toList.drop ia)):jF κ a.toList b.toList (out.push x).toList ia (ib+1):=by
 rw[toList_push];have e:(b.toList.drop ib).take 1=[x]:=by rw[dR hx];rfl
 have:=h.uZ (k:=1) sb (by rw[e];exact u)
 rwa [e]at this
omit sb in
theorem jF.qw{x:Keyed}(h:jF κ a.toList b.toList out.toList ia ib)(hx:a[ia]? =some x)(u:Below κ [x] (b.toList.drop ib)):jF κ a.toList b.toList (out.push x).toList (ia+1) ib:=by
 rw[toList_push];have e:(a.toList.drop ia).take 1=[x]:=by rw[dR hx];rfl
 have:=h.u3 (k:=1) sa (by rw[e];exact u)
 rwa [e]at this
end
structure LI(κ:KeyKind)(a b:Array Keyed)(st:SortSt)(out:Array Keyed)(ia ib t:Nat)(st':SortSt):Prop where
 kp:Kept st st'
 m:jF κ a.toList b.toList out.toList ia ib
 la:ia+1 < a.size
 lb:ib < b.size
 t:t<=ia+ib
theorem gP{a:Array Keyed}{i:Nat}(h:i < a.size):∃x,a[i]? =some x/\x∈a.toList:=⟨_,getElem?_pos a i h,by simp⟩
theorem cM{α:Type}{c:Prop} [Decidable c]{m1 m2:StateT SortSt Sem α}{Q:α->SortSt->Prop}{st:SortSt}(h1:c->wpS (model prog w) A E s m1 Q st)(h2:¬c->wpS (model prog w) A E s m2 Q st):wpS (model prog w) A E s (if c then m1 else m2) Q st:=by
 by_cases h:c
 ·rw[if_pos h]
  exact h1 h
 ·rw[if_neg h]
  exact h2 h
theorem jF.GJ{a b out:Array Keyed}{ia ib k:Nat}(sa:dr κ a.toList)(h:jF κ a.toList b.toList out.toList ia ib)(u:Below κ ((a.toList.drop ia).take k) (b.toList.drop ib)):jF κ a.toList b.toList (out++a.extract ia (ia+k)).toList (ia+k) ib:=by
 rw[toList_append,oi];exact h.u3 sa u
theorem jF.Gk{a b out:Array Keyed}{ia ib k:Nat}(sb:dr κ b.toList)(h:jF κ a.toList b.toList out.toList ia ib)(u:Under κ ((b.toList.drop ib).take k) (a.toList.drop ia)):jF κ a.toList b.toList (out++b.extract ib (ib+k)).toList ia (ib+k):=by
 rw[toList_append,oi];exact h.uZ sb u
theorem uG(a:Array Keyed){i m n:Nat}(h:a.size - i<=n)(hm:m<=n):(a.toList.drop (i+m)).take (n - m)=a.toList.drop (i+m):=fq _ _ (by rw[length_toList];omega)
theorem tY(hL:kG prog w A E s κ kd){a b:Array Keyed}{st:SortSt}{Q:Array Keyed->SortSt->Prop}(hk:kindOf st=kd)(ka:∀x∈a.toList,ir κ x)(kb:∀x∈b.toList,ir κ x)(sa:dr κ a.toList)(sb:dr κ b.toList)(a1:1<=a.size)(b1:1<=b.size)(u1:Under κ (b.toList.take 1) a.toList)(u2:Under κ b.toList (a.toList.drop (a.size - 1)))
  (q:∀r st',Kept st st'->jH κ a b r->Q r st'):wpS (model prog w) A E s (Bx a b) Q st:=by
 refine wpS_bind (wpS_lift (wpAny_rule ⟨rfl,?_⟩));obtain⟨b0,hb0,mb0⟩:=gP b1;refine wpS_bind (cS hb0 ?_);have ub:∀ib,Under κ (b.toList.drop ib) (a.toList.drop (a.size - 1)):=λib x hx y hy=>u2 x (List.mem_of_mem_drop hx) y hy;have m0:jF κ a.toList b.toList (#[b0]:Array Keyed).toList 0 1:=by
  have h0:jF κ a.toList b.toList (#[]:Array Keyed).toList 0 0:=⟨List.Pairwise.nil,(λ_ h=>by cases h),(λ_ h=>by cases h),cO.refl _⟩;refine h0.qL sb hb0 ?_;have e:b.toList.take 1=[b0]:=by
   have:=dR hb0;rw[drop_zero]at this;rw[this];rfl
  rw[e]at u1;exact u1
 by_cases c1:(1 == b.size)=true
 ·rw[if_pos c1]
  exact wpS_pure (q _ st (Kept.refl _) (m0.pF sa sb (.inr (by rw[beq_iff_eq]at c1;omega))))
 rw[if_neg c1];by_cases c2:(0+1 == a.size)=true
 ·rw[if_pos c2]
  exact wpS_pure (q _ st (Kept.refl _) (m0.Dp sa sb (by rw[beq_iff_eq]at c2;have:=ub 1;rwa [show a.size - 1=0 by omega]at this)))
 rw[if_neg c2];rw[beq_iff_eq]at c1 c2;refine wpS_bind (wpS_get ?_);refine wpS_bind (wpS_mono (wpS_forRange (I:=λx c st'=>∃out ia ib mg,c=(none,out,ia,ib,mg)/\LI κ a b st out ia ib x st')
  (Q:=λc st'=>∃r c',c=(some r,c')/\Kept st st'/\jH κ a b r) ?step ?fin ⟨_,_,_,_,rfl,Kept.refl _,m0,by omega,by omega,zero_le _⟩) ?post)
 case post=>
  rintro c st' ⟨r,c',rfl,kp,mr⟩;exact wpS_pure (q r st' kp mr)
 case fin=>
  rintro c st' ⟨out,ia,ib,mg,rfl,li⟩;have:=li.t;have:=li.la;have:=li.lb;omega
 case step=>
  rintro x c st1 _ hx ⟨out,ia,ib,mg,rfl,li⟩;dsimp only;refine wpS_bind (wpS_mono (wpS_forRange (I:=λy c st'=>∃out ia ib ac bc,c=(none,out,ia,ib,ac,bc)/\LI κ a b st out ia ib (x+y) st')
   (Q:=λc st'=>(∃r c',c=(some r,c')/\Kept st st'/\jH κ a b r)\/∃out ia ib ac bc,c=(none,out,ia,ib,ac,bc)/\LI κ a b st out ia ib (x+1) st') ?istep ?ifin ⟨_,_,_,_,_,rfl,li⟩) ?ipost)
  case ifin=>
   rintro c st' ⟨out,ia,ib,ac,bc,rfl,li⟩;have:=li.t;have:=li.la;have:=li.lb;omega
  case istep=>
   rintro y c st2 _ hy ⟨out,ia,ib,ac,bc,rfl,li⟩;dsimp only;obtain⟨xb,hxb,mxb⟩:=gP li.lb;obtain⟨xa,hxa,mxa⟩:=gP (show ia < a.size by have:=li.la;omega);refine wpS_bind (cS hxb (wpS_bind (cS hxa (wpS_bind (hL xb xa st2 _ (li.kp.kind.trans hk) (kb xb mxb) (ka xa mxa) ?_)))));dsimp only;have ha':=(sa.drop ia);rw[dR hxa]at ha';have hb':=(sb.drop ib);rw[dR hxb]at hb';have bela:Below κ [xa] (a.toList.drop ia):=by rw[dR hxa];exact ha'.head
   have belb:Below κ [xb] (b.toList.drop ib):=by rw[dR hxb];exact hb'.head
   have lla:=li.la;have llb:=li.lb;have llt:=li.t;cases hc:κ.blt (key κ xb) (key κ xa) with
   |true=>
    rw[if_pos rfl];have m':=li.m.qL sb hxb (Under.over (k:=xa) (λx hx y hy=>by cases mem_singleton.mp hx;cases mem_singleton.mp hy;exact hc) bela);refine wpS_bind (cS hxb ?_);by_cases c3:(ib+1 == b.size)=true
    ·rw[if_pos c3]
     exact wpS_pure (.inl ⟨_,_,rfl,li.kp,m'.pF sa sb (.inr (by rw[beq_iff_eq]at c3;omega))⟩)
    rw[if_neg c3];rw[beq_iff_eq]at c3;by_cases c4:bc+1 ≥ mg
    ·rw[if_pos c4]
     exact wpS_pure (.inr ⟨_,_,_,_,_,rfl,li.kp,m',lla,by omega,by omega⟩)
    ·rw[if_neg c4]
     exact wpS_pure ⟨_,_,_,_,_,rfl,li.kp,m',lla,by omega,by omega⟩
   |false=>
    rw[if_neg Bool.false_ne_true];have m':=li.m.qw sa hxa (Below.over (k:=xb) (λx hx y hy=>by cases mem_singleton.mp hx;cases mem_singleton.mp hy;exact hc) belb);refine wpS_bind (cS hxa ?_);by_cases c3:(ia+1+1 == a.size)=true
    ·rw[if_pos c3]
     exact wpS_pure (.inl ⟨_,_,rfl,li.kp,m'.Dp sa sb (by rw[beq_iff_eq]at c3;have:=ub ib;rwa [show a.size - 1=ia+1 by omega]at this)⟩)
    rw[if_neg c3];rw[beq_iff_eq]at c3;by_cases c4:ac+1 ≥ mg
    ·rw[if_pos c4]
     exact wpS_pure (.inr ⟨_,_,_,_,_,rfl,li.kp,m',by omega,by omega,by omega⟩)
    ·rw[if_neg c4]
     exact wpS_pure ⟨_,_,_,_,_,rfl,li.kp,m',by omega,by omega,by omega⟩
  case ipost=>
   rintro c st2 (⟨r,c',rfl,kp,mr⟩|⟨out,ia,ib,ac,bc,rfl,li⟩)
   ·exact wpS_pure ⟨r,_,rfl,kp,mr⟩
   dsimp only;refine wpS_bind (wpS_lift (wpAny_rule ⟨rfl,?_⟩));refine wpS_bind (wpS_mono (wpS_forRange (I:=λy c st'=>∃out ia ib mg ac bc,c=(none,out,ia,ib,mg,ac,bc)/\LI κ a b st out ia ib (x+1+y) st')
    (Q:=λc st'=>(∃r c',c=(some r,c')/\Kept st st'/\jH κ a b r)\/∃out ia ib mg ac bc,c=(none,out,ia,ib,mg,ac,bc)/\LI κ a b st out ia ib (x+1) st') ?gstep ?gfin ⟨_,_,_,_,_,_,rfl,li⟩) ?gpost)
   case gfin=>
    rintro c st' ⟨out,ia,ib,mg,ac,bc,rfl,li⟩;have:=li.t;have:=li.la;have:=li.lb;omega
   case gpost=>
    rintro c st3 (⟨r,c',rfl,kp,mr⟩|⟨out,ia,ib,mg,ac,bc,rfl,li⟩)
    ·exact wpS_pure ⟨r,_,rfl,kp,mr⟩
    dsimp only;exact wpS_bind (kr λst4 kp4=>wpS_pure ⟨_,_,_,_,rfl,li.kp.trans kp4,li.m,li.la,li.lb,li.t⟩)
   case gstep=>
    rintro y c st3 _ hy ⟨out,ia,ib,mg,ac,bc,rfl,li⟩;dsimp only;obtain⟨xb,hxb,mxb⟩:=gP li.lb;have hb':=(sb.drop ib);rw[dR hxb]at hb';have belb:Below κ [xb] (b.toList.drop ib):=by rw[dR hxb];exact hb'.head
    clear hb';have belA:∀{i:Nat}{x:Keyed},a[i]? =some x->Below κ [x] (a.toList.drop i):=λ{i x} hx=>by
     have h:=sa.drop i;rw[dR hx]at h ⊢;exact h.head
    have ubl:∀{i:Nat}(j:Nat),i+1=a.size->Under κ (b.toList.drop j) (a.toList.drop i):=λ{i} j e=>by
     have:=ub j
     rwa [show a.size - 1=i by omega]at this
    have lla:=li.la;have llb:=li.lb;have llt:=li.t;refine cM (λ_=>?_) (λ_=>?_)
    all_goals
     refine wpS_bind (kr λst4 kp4=>?_);have kp3:=li.kp.trans kp4;refine wpS_bind (cS hxb (wpS_bind (oA hL (kp3.kind.trans hk) (kb xb mxb) ka (by omega) (by rw[fq _ _ (by rw[length_toList];exact le_refl _)];exact sa.drop _) (by omega) λk1 hk1 bl1 un1=>?_)));dsimp only;rw[uG a (le_refl _) hk1]at un1;have m2:=jF.GJ sa li.m (Below.over bl1 belb);refine cM (λc1=>cM (λc2=>?_) (λc2=>cM (λc7=>?_) (λc7=>?_))) (λc1=>?_)
     ·rw[beq_iff_eq]at c2
      exact wpS_pure (.inl ⟨_,_,rfl,kp3,m2.Dp sa sb (ubl _ (by omega))⟩)
     ·rw[beq_iff_eq]at c7
      exact wpS_pure (.inl ⟨_,_,rfl,kp3,m2.pF sa sb (.inl (by omega))⟩)
     rw[beq_iff_eq]at c2 c7;have lt:=show ia+k1 < a.size by omega
     rotate_left
     have e:k1=0:=by omega
     subst e;have m2:=li.m;have lt:=show ia < a.size by omega
     all_goals
      have m3:=jF.qL sb m2 hxb un1;refine wpS_bind (cS hxb ?_);refine cM (λc3=>?_) (λc3=>?_)
      ·rw[beq_iff_eq]at c3
       exact wpS_pure (.inl ⟨_,_,rfl,kp3,m3.pF sa sb (.inr (by omega))⟩)
      rw[beq_iff_eq]at c3;obtain⟨xc,hxc,mxc⟩:=gP lt;have belc:=belA hxc;refine wpS_bind (cS hxc (wpS_bind (pI hL (kp3.kind.trans hk) (ka xc mxc) kb (by omega) (by rw[fq _ _ (by rw[length_toList];omega)];exact sb.drop _) (by omega) λk2 hk2 ul bl=>?_)));dsimp only;rw[uG b (by omega) hk2]at bl;have m4:=jF.Gk sb m3 (Under.over ul belc);refine cM (λc4=>cM (λc6=>?_) (λc6=>?_)) (λc4=>?_)
      ·rw[beq_iff_eq]at c6
       exact wpS_pure (.inl ⟨_,_,rfl,kp3,m4.pF sa sb (.inr (by omega))⟩)
      rw[beq_iff_eq]at c6
      rotate_left
      have e:k2=0:=by omega
      subst e;have m4:=m3
      all_goals
       have m5:=jF.qw sa m4 hxc bl;refine wpS_bind (cS hxc ?_);refine cM (λc5=>?_) (λc5=>?_)
       ·rw[beq_iff_eq]at c5
        exact wpS_pure (.inl ⟨_,_,rfl,kp3,m5.Dp sa sb (ubl _ (by omega))⟩)
       ·rw[beq_iff_eq]at c5
        exact cM (λ_=>wpS_pure (.inr ⟨_,_,_,_,_,_,rfl,kp3,m5,by omega,by omega,by omega⟩)) (λ_=>wpS_pure ⟨_,_,_,_,_,_,rfl,kp3,m5,by omega,by omega,by omega⟩)
end
end TS
namespace TS
open PySem PyProof.Rows
variable {κ:KeyKind}
theorem kh(l:List Keyed){m n:Nat}(h:m<=n):l.take n=l.take m++(l.drop m).take (n - m):=by
 rw[<-List.drop_take];have:=take_append_drop m (l.take n);rw[List.take_take,Nat.min_eq_left h]at this;exact this.symm
theorem dr.take{l:List Keyed}(h:dr κ l)(i:Nat):dr κ (l.take i):=List.Pairwise.sublist (List.take_sublist i l) h
structure jG(κ:KeyKind)(al bl o:List Keyed)(na nb:Nat):Prop where
 so:dr κ o
 oa:Below κ (al.take na) o
 ob:Below κ (bl.take nb) o
 st:cO κ (al.take na++(bl.take nb++o)) (al++bl)
theorem Below.AE{l m n:List Keyed}(h:Below κ l m)(h':Below κ l n):Below κ l (m++n):=λx hx y hy=>(mem_append.mp hy).elim (h x hx y) (h' x hx y)
theorem Below.D3{l m n:List Keyed}(h:Below κ (l++m) n):Below κ l n:=λx hx y hy=>h x (mem_append_left _ hx) y hy
theorem Below.zD{l m n:List Keyed}(h:Below κ (l++m) n):Below κ m n:=λx hx y hy=>h x (mem_append_right _ hx) y hy
theorem jG.u3{al bl o:List Keyed}{na nb m:Nat}(sa:dr κ al)(h:jG κ al bl o na nb)(hm:m<=na)(u:Under κ (bl.take nb) ((al.drop m).take (na - m))):jG κ al bl ((al.drop m).take (na - m)++o) m nb:=by
 have e:=kh al hm;have s:=sa.take na;have oa:=h.oa;have st:=h.st;rw[e]at s oa st;refine⟨s.right.append h.so oa.zD,s.mid.AE oa.D3,u.below.AE h.ob,cO.trans ?_ st⟩;rw[append_assoc];refine(cO.refl _).append ?_;rw[<-append_assoc,<-append_assoc];exact(cO.swap u).append (cO.refl _)
theorem jG.uZ{al bl o:List Keyed}{na nb m:Nat}(sb:dr κ bl)(h:jG κ al bl o na nb)(hm:m<=nb)(u:Below κ (al.take na) ((bl.drop m).take (nb - m))):jG κ al bl ((bl.drop m).take (nb - m)++o) na m:=by
 have e:=kh bl hm;have s:=sb.take nb;have ob:=h.ob;have st:=h.st;rw[e]at s ob st;refine⟨s.right.append h.so ob.zD,u.AE h.oa,s.mid.AE ob.D3,?_⟩;rw[<-append_assoc (bl.take m)];exact st
theorem jG.done{al bl o:List Keyed}{na nb:Nat}(sa:dr κ al)(sb:dr κ bl)(h:jG κ al bl o na nb)(e:na=0\/nb=0):dr κ (al.take na++bl.take nb++o)/\cO κ (al.take na++bl.take nb++o) (al++bl):=by
 refine⟨?_,by rw[append_assoc];exact h.st⟩;rcases e with e|e
 ·rw[e,take_zero,nil_append]
  exact(sb.take nb).append h.so h.ob
 ·rw[e,take_zero,append_nil]
  exact(sa.take na).append h.so h.oa
theorem jG.first{al bl o:List Keyed}{na nb:Nat}(sa:dr κ al)(sb:dr κ bl)(h:jG κ al bl o na nb)(u:Under κ (bl.take nb) (al.take na)):dr κ (bl.take nb++al.take na++o)/\cO κ (bl.take nb++al.take na++o) (al++bl):=by
 refine⟨?_,cO.trans ?_ h.st⟩
 ·rw[append_assoc]
  exact(sb.take nb).append ((sa.take na).append h.so h.oa) (u.below.AE h.ob)
 ·rw[<-append_assoc]
  exact(cO.swap u).append (cO.refl _)
def zM:Array Keyed->Array Keyed->StateT SortSt Sem (Array Keyed):=sortPriv% PySem.Builtin.mergeHi
section
variable {prog:Program}{w:World}{A:Around}{E:Value->Shared->Prop}{s:Shared}{kd:SortKind}
abbrev bk(out:Array Keyed):List Keyed:=out.toList.reverse
section
variable {a b out:Array Keyed}{na nb:Nat}(sa:dr κ a.toList)(sb:dr κ b.toList)
include sa sb
theorem jG.pF(h:jG κ a.toList b.toList (bk out) na nb)(e:na=0\/nb=0):jH κ a b (a.extract 0 na++b.extract 0 nb++out.reverse):=by
 unfold jH;rw[toList_append,toList_append,toList_extract,toList_extract,toList_reverse];exact h.done sa sb e
theorem jG.DP(h:jG κ a.toList b.toList (bk out) na nb)(u:Under κ (b.toList.take nb) (a.toList.take na)):jH κ a b (b.extract 0 nb++a.extract 0 na++out.reverse):=by
 unfold jH;rw[toList_append,toList_append,toList_extract,toList_extract,toList_reverse];exact h.first sa sb u
omit sa in
theorem jG.Gk{m:Nat}(h:jG κ a.toList b.toList (bk out) na nb)(hm:m<=nb)(u:Below κ (a.toList.take na) ((b.toList.drop m).take (nb - m))):jG κ a.toList b.toList (bk (out++(b.extract m nb).reverse)) na m:=by
 have e:bk (out++(b.extract m nb).reverse)=(b.toList.drop m).take (nb - m)++bk out:=by
  show(out++(b.extract m nb).reverse).toList.reverse=_;rw[toList_append,toList_reverse,toList_extract,reverse_append,reverse_reverse]
 rw[e];exact h.uZ sb hm u
omit sb in
theorem jG.GJ{m:Nat}(h:jG κ a.toList b.toList (bk out) na nb)(hm:m<=na)(u:Under κ (b.toList.take nb) ((a.toList.drop m).take (na - m))):jG κ a.toList b.toList (bk (out++(a.extract m na).reverse)) m nb:=by
 have e:bk (out++(a.extract m na).reverse)=(a.toList.drop m).take (na - m)++bk out:=by
  show(out++(a.extract m na).reverse).toList.reverse=_;rw[toList_append,toList_reverse,toList_extract,reverse_append,reverse_reverse]
 rw[e];exact h.u3 sa hm u
end
theorem rR{a:Array Keyed}{m n:Nat}{x:Keyed}(hx:a[m]? =some x)(h:n=m+1):(a.toList.drop m).take (n - m)=[x]:=by
 rw[dR hx,show n - m=1 by omega];rfl
theorem xJ(out:Array Keyed)(x:Keyed):bk (out.push x)=[x]++bk out:=by
 show(out.push x).toList.reverse=_;rw[toList_push,reverse_append];rfl
theorem jG.qw{a b out:Array Keyed}{na nb m:Nat}{x:Keyed}(sa:dr κ a.toList)(h:jG κ a.toList b.toList (bk out) na nb)(hx:a[m]? =some x)(hm:na=m+1)(u:Under κ (b.toList.take nb) [x]):jG κ a.toList b.toList (bk (out.push x)) m nb:=by
 have e:=rR hx hm;have:=h.u3 (m:=m) sa (by omega) (by rw[e];exact u);rw[e]at this;rw[xJ];exact this
theorem jG.qL{a b out:Array Keyed}{na nb m:Nat}{x:Keyed}(sb:dr κ b.toList)(h:jG κ a.toList b.toList (bk out) na nb)(hx:b[m]? =some x)(hm:nb=m+1)(u:Below κ (a.toList.take na) [x]):jG κ a.toList b.toList (bk (out.push x)) na m:=by
 have e:=rR hx hm;have:=h.uZ (m:=m) sb (by omega) (by rw[e];exact u);rw[e]at this;rw[xJ];exact this
theorem dr.last{a:Array Keyed}(h:dr κ a.toList){m n:Nat}{x:Keyed}(hx:a[m]? =some x)(hn:n=m+1):Below κ (a.toList.take n) [x]:=by
 have s:=h.take n;have e:=kh a.toList (show m<=n by omega);rw[rR hx hn]at e;rw[e]at s ⊢;exact s.mid.append λy hy z hz=>by
  cases mem_singleton.mp hy;cases mem_singleton.mp hz;exact KeyOrd.kle_refl _
theorem Below.under{k:Keyed}{l m:List Keyed}(h:Below κ l [k])(u:Under κ [k] m):Under κ l m:=λx hx y hy=>KeyOrd.klt_of_kle_of_klt (h x hx k (mem_singleton_self _)) (u k (mem_singleton_self _) y hy)
structure HI(κ:KeyKind)(a b:Array Keyed)(st:SortSt)(out:Array Keyed)(na nb t:Nat)(st':SortSt):Prop where
 kp:Kept st st'
 m:jG κ a.toList b.toList (bk out) na nb
 la:1<=na
 lb:2<=nb
 ha:na<=a.size
 hb:nb<=b.size
 t:na+nb+t<=a.size+b.size
theorem ui(hL:kG prog w A E s κ kd){a b:Array Keyed}{st:SortSt}{Q:Array Keyed->SortSt->Prop}(hk:kindOf st=kd)(ka:∀x∈a.toList,ir κ x)(kb:∀x∈b.toList,ir κ x)(sa:dr κ a.toList)(sb:dr κ b.toList)(a1:1<=a.size)(b1:1<=b.size)(u1:Under κ (b.toList.take 1) a.toList)(u2:Under κ b.toList (a.toList.drop (a.size - 1)))
  (q:∀r st',Kept st st'->jH κ a b r->Q r st'):wpS (model prog w) A E s (zM a b) Q st:=by
 refine wpS_bind (wpS_lift (wpAny_rule ⟨rfl,?_⟩));obtain⟨a0,ha0,ma0⟩:=gP (show a.size - 1 < a.size by omega);refine wpS_bind (cS ha0 ?_);have ubf:∀{nb:Nat}(na:Nat),nb=1->Under κ (b.toList.take nb) (a.toList.take na):=λ{nb} na e x hx y hy=>by
  subst e;exact u1 x hx y (mem_of_mem_take hy)
 have m0:jG κ a.toList b.toList (bk #[a0]) (a.size - 1) b.size:=by
  have h0:jG κ a.toList b.toList (bk #[]) a.size b.size:=⟨List.Pairwise.nil,Below.nil,Below.nil,by
   rw[take_of_length_le (by rw[length_toList];exact le_refl _),take_of_length_le (by rw[length_toList];exact le_refl _)];show cO κ (_++(_++[])) _;rw[append_nil];exact cO.refl _⟩
  refine h0.qw sa ha0 (by omega) λx hx y hy=>u2 x (mem_of_mem_take hx) y ?_;rw[dR ha0];cases mem_singleton.mp hy;exact mem_cons_self
 refine cM (λc1=>?_) (λc1=>?_)
 ·rw[beq_iff_eq]at c1
  exact wpS_pure (q _ st (Kept.refl _) (m0.pF sa sb (.inl c1)))
 refine cM (λc2=>?_) (λc2=>?_)
 ·rw[beq_iff_eq]at c2
  exact wpS_pure (q _ st (Kept.refl _) (m0.DP sa sb (ubf _ c2)))
 rw[beq_iff_eq]at c1 c2;refine wpS_bind (wpS_get ?_);refine wpS_bind (wpS_mono (wpS_forRange (I:=λx c st'=>∃na nb out mg,c=(none,na,nb,out,mg)/\HI κ a b st out na nb x st')
  (Q:=λc st'=>∃r c',c=(some r,c')/\Kept st st'/\jH κ a b r) ?step ?fin ⟨_,_,_,_,rfl,Kept.refl _,m0,by omega,by omega,by omega,by omega,by omega⟩) ?post)
 case post=>
  rintro c st' ⟨r,c',rfl,kp,mr⟩;exact wpS_pure (q r st' kp mr)
 case fin=>
  rintro c st' ⟨na,nb,out,mg,rfl,li⟩;have:=li.t;have:=li.la;have:=li.lb;omega
 case step=>
  rintro x c st1 _ hx ⟨na,nb,out,mg,rfl,li⟩;dsimp only;refine wpS_bind (wpS_mono (wpS_forRange (I:=λy c st'=>∃na nb out ac bc,c=(none,na,nb,out,ac,bc)/\HI κ a b st out na nb (x+y) st')
   (Q:=λc st'=>(∃r c',c=(some r,c')/\Kept st st'/\jH κ a b r)\/∃na nb out ac bc,c=(none,na,nb,out,ac,bc)/\HI κ a b st out na nb (x+1) st') ?istep ?ifin ⟨_,_,_,_,_,rfl,li⟩) ?ipost)
  case ifin=>
   rintro c st' ⟨na,nb,out,ac,bc,rfl,li⟩;have:=li.t;have:=li.la;have:=li.lb;omega
  case istep=>
   rintro y c st2 _ hy ⟨na,nb,out,ac,bc,rfl,li⟩;dsimp only;have lla:=li.la;have llb:=li.lb;have lha:=li.ha;have lhb:=li.hb;have llt:=li.t;obtain⟨xb,hxb,mxb⟩:=gP (show nb - 1 < b.size by omega);obtain⟨xa,hxa,mxa⟩:=gP (show na - 1 < a.size by omega);have belb:=sb.last hxb (show nb=_ by omega);have bela:=sa.last hxa (show na=_ by omega);refine wpS_bind (cS hxb (wpS_bind (cS hxa (wpS_bind (hL xb xa st2 _ (li.kp.kind.trans hk) (kb xb mxb) (ka xa mxa) ?_)))));dsimp only;cases hc:κ.blt (key κ xb) (key κ xa) with
   |true=>
    rw[if_pos rfl];have m':=li.m.qw sa hxa (by omega) (Below.under (k:=xb) belb (λx hx y hy=>by cases mem_singleton.mp hx;cases mem_singleton.mp hy;exact hc));refine wpS_bind (cS hxa ?_);refine cM (λc3=>?_) (λc3=>?_)
    ·rw[beq_iff_eq]at c3
     exact wpS_pure (.inl ⟨_,_,rfl,li.kp,m'.pF sa sb (.inl c3)⟩)
    rw[beq_iff_eq]at c3;exact cM (λ_=>wpS_pure (.inr ⟨_,_,_,_,_,rfl,li.kp,m',by omega,by omega,by omega,by omega,by omega⟩)) (λ_=>wpS_pure ⟨_,_,_,_,_,rfl,li.kp,m',by omega,by omega,by omega,by omega,by omega⟩)
   |false=>
    rw[if_neg Bool.false_ne_true];have m':=li.m.qL sb hxb (by omega) (Below.over (k:=xa) bela (λx hx y hy=>by cases mem_singleton.mp hx;cases mem_singleton.mp hy;exact hc));refine wpS_bind (cS hxb ?_);refine cM (λc3=>?_) (λc3=>?_)
    ·rw[beq_iff_eq]at c3
     exact wpS_pure (.inl ⟨_,_,rfl,li.kp,m'.DP sa sb (ubf _ c3)⟩)
    rw[beq_iff_eq]at c3;exact cM (λ_=>wpS_pure (.inr ⟨_,_,_,_,_,rfl,li.kp,m',by omega,by omega,by omega,by omega,by omega⟩)) (λ_=>wpS_pure ⟨_,_,_,_,_,rfl,li.kp,m',by omega,by omega,by omega,by omega,by omega⟩)
  case ipost=>
   rintro c st2 (⟨r,c',rfl,kp,mr⟩|⟨na,nb,out,ac,bc,rfl,li⟩)
   ·exact wpS_pure ⟨r,_,rfl,kp,mr⟩
   dsimp only;refine wpS_bind (wpS_lift (wpAny_rule ⟨rfl,?_⟩));refine wpS_bind (wpS_mono (wpS_forRange (I:=λy c st'=>∃na nb out mg ac bc,c=(none,na,nb,out,mg,ac,bc)/\HI κ a b st out na nb (x+1+y) st')
    (Q:=λc st'=>(∃r c',c=(some r,c')/\Kept st st'/\jH κ a b r)\/∃na nb out mg ac bc,c=(none,na,nb,out,mg,ac,bc)/\HI κ a b st out na nb (x+1) st') ?gstep ?gfin ⟨_,_,_,_,_,_,rfl,li⟩) ?gpost)
   case gfin=>
    rintro c st' ⟨na,nb,out,mg,ac,bc,rfl,li⟩;have:=li.t;have:=li.la;have:=li.lb;omega
   case gpost=>
    rintro c st3 (⟨r,c',rfl,kp,mr⟩|⟨na,nb,out,mg,ac,bc,rfl,li⟩)
    ·exact wpS_pure ⟨r,_,rfl,kp,mr⟩
    dsimp only;exact wpS_bind (kr λst4 kp4=>wpS_pure ⟨_,_,_,_,rfl,li.kp.trans kp4,li.m,li.la,li.lb,li.ha,li.hb,li.t⟩)
   case gstep=>
    rintro y c st3 _ hy ⟨na,nb,out,mg,ac,bc,rfl,li⟩;dsimp only;have lla:=li.la;have llb:=li.lb;have lha:=li.ha;have lhb:=li.hb;have llt:=li.t;obtain⟨xb,hxb,mxb⟩:=gP (show nb - 1 < b.size by omega);have belb:=sb.last hxb (show nb=_ by omega);refine cM (λ_=>?_) (λ_=>?_)
    all_goals
     refine wpS_bind (kr λst4 kp4=>?_);have kp3:=li.kp.trans kp4;refine wpS_bind (cS hxb (wpS_bind (oA hL (kp3.kind.trans hk) (kb xb mxb) ka (by omega) (by rw[drop_zero];exact sa.take _) (by omega) λk1 hk1 bl1 un1=>?_)));dsimp only;rw[drop_zero]at bl1;rw[zero_add]at un1;have m2:=jG.GJ sa li.m hk1 (Below.under belb un1);refine cM (λc1=>cM (λc2=>?_) (λc2=>?_)) (λc1=>?_)
     ·rw[beq_iff_eq]at c2
      exact wpS_pure (.inl ⟨_,_,rfl,kp3,m2.pF sa sb (.inl (by omega))⟩)
     rw[beq_iff_eq]at c2
     rotate_left
     have e:k1=na:=by omega
     subst e;have m2:=li.m
     all_goals
      have m3:=jG.qL sb m2 hxb (by omega) bl1;refine wpS_bind (cS hxb ?_);refine cM (λc3=>?_) (λc3=>?_)
      ·rw[beq_iff_eq]at c3
       exact wpS_pure (.inl ⟨_,_,rfl,kp3,m3.DP sa sb (ubf _ (by omega))⟩)
      rw[beq_iff_eq]at c3;obtain⟨xc,hxc,mxc⟩:=gP (show k1 - 1 < a.size by omega);have belc:=sa.last hxc (show k1=_ by omega);refine wpS_bind (cS hxc (wpS_bind (pI hL (kp3.kind.trans hk) (ka xc mxc) kb (by omega) (by rw[drop_zero];exact sb.take _) (by omega) λk2 hk2 ul bl=>?_)));dsimp only;rw[drop_zero]at ul;rw[zero_add]at bl;have m4:=jG.Gk sb m3 hk2 (Below.over belc bl);refine cM (λc4=>cM (λc6=>?_) (λc6=>cM (λc7=>?_) (λc7=>?_))) (λc4=>?_)
      ·rw[beq_iff_eq]at c6
       exact wpS_pure (.inl ⟨_,_,rfl,kp3,m4.DP sa sb (ubf _ (by omega))⟩)
      ·rw[beq_iff_eq]at c7
       exact wpS_pure (.inl ⟨_,_,rfl,kp3,m4.pF sa sb (.inr (by omega))⟩)
      rw[beq_iff_eq]at c6 c7
      rotate_left
      have e:k2=nb - 1:=by omega
      subst e;have m4:=m3
      all_goals
       have m5:=jG.qw sa m4 hxc (by omega) ul;refine wpS_bind (cS hxc ?_);refine cM (λc5=>?_) (λc5=>?_)
       ·rw[beq_iff_eq]at c5
        exact wpS_pure (.inl ⟨_,_,rfl,kp3,m5.pF sa sb (.inl (by omega))⟩)
       ·rw[beq_iff_eq]at c5
        exact cM (λ_=>wpS_pure (.inr ⟨_,_,_,_,_,_,rfl,kp3,m5,by omega,by omega,by omega,by omega,by omega⟩)) (λ_=>wpS_pure ⟨_,_,_,_,_,_,rfl,kp3,m5,by omega,by omega,by omega,by omega,by omega⟩)
end
end TS
namespace TS
open PySem PyProof.Rows
variable {κ:KeyKind}
def vY:Nat->Nat->StateT SortSt Sem (Option Nat):=sortPriv% PySem.Builtin.countRun
def rH:Nat->Nat->Nat->StateT SortSt Sem Bool:=sortPriv% PySem.Builtin.binarySort
theorem tI{xs:Array Keyed}{P G R:List Keyed}(e:xs.toList=P++(G++R)){i j:Nat}(hi:i=P.length)(hj:j=i+G.length):(mirror xs i j ((j - i) / 2)).toList=P++(G.reverse++R):=by
 have hs:xs.size=P.length+(G.length+R.length):=by rw[<-length_toList,e,length_append,length_append]
 apply List.ext_getElem?;intro k;rw[getElem?_toList,getElem?_mirror_all (by omega),<-getElem?_toList,<-getElem?_toList,e];by_cases h:i<=k/\k < j
 ·rw[if_pos h,getElem?_append_right (by omega),getElem?_append_left (by omega),getElem?_append_right (by omega),getElem?_append_left (by rw[length_reverse];omega),List.getElem?_reverse (by omega)]
  congr 1
  omega
 ·rw[if_neg h]
  by_cases h1:k < i
  ·rw[getElem?_append_left (by omega),getElem?_append_left (by omega)]
  ·rw[getElem?_append_right (by omega),getElem?_append_right (by omega),getElem?_append_right (by omega),getElem?_append_right (by rw[length_reverse];omega),length_reverse]
theorem uO{xs:Array Keyed}{P T R:List Keyed}{x:Keyed}(e:xs.toList=P++(T++x::R)){src d:Nat}(hi:src=P.length+T.length)(hd:d=T.length):(bubble xs src d).toList=P++(x::T++R):=by
 have hs:xs.size=P.length+(T.length+(R.length+1)):=by rw[<-length_toList,e,length_append,length_append];rfl
 apply List.ext_getElem?;intro k;rw[getElem?_toList,getElem?_bubble (by omega) d (by omega),<-getElem?_toList,<-getElem?_toList,<-getElem?_toList,e];by_cases h:k=src - d
 ·rw[if_pos h,getElem?_append_right (by omega),getElem?_append_right (by omega),getElem?_append_right (by omega),show src - P.length - T.length=0 by omega,show k - P.length=0 by omega]
  rfl
 ·rw[if_neg h]
  by_cases h1:src - d < k/\k<=src
  ·rw[if_pos h1,getElem?_append_right (by omega),getElem?_append_left (by omega),getElem?_append_right (by omega),getElem?_append_left (by show _ < T.length+1;omega),show k - P.length=(k - 1 - P.length)+1 by omega,List.getElem?_cons_succ]
  ·rw[if_neg h1]
   by_cases h2:k < P.length
   ·rw[getElem?_append_left h2,getElem?_append_left h2]
   ·rw[getElem?_append_right (by omega),getElem?_append_right (by omega),getElem?_append_right (by omega),getElem?_append_right (by show T.length+1<=_;omega),show k - P.length - T.length=(k - P.length - (T.length+1))+1 by omega,List.getElem?_cons_succ]
    rfl
theorem j7:∀(m:List Keyed) (j off:Nat) (xs:Array Keyed) (P Y R:List Keyed),xs.toList=P++(Y++R)->m.length=Y.length->off+j=P.length->
  ((m.zipIdx j).foldl (λ(a:Array Keyed) (x:Keyed×Nat)=>a.setIfInBounds (off+x.2) x.1) xs).toList=P++(m++R)
 |[],j,off,xs,P,Y,R,e,l,_=>by
  rw[List.zipIdx_nil,List.foldl_nil,e,eq_nil_of_length_eq_zero l.symm]
 |x::m,j,off,xs,P,[],R,e,l,_=>by cases l
 |x::m,j,off,xs,P,y::Y,R,e,l,h=>by
  rw[List.zipIdx_cons,foldl_cons];have ih:=j7 m (j+1) off (xs.setIfInBounds (off+j) x) (P++[x]) Y R (by
   rw[Array.toList_setIfInBounds,e,h,List.set_append_right _ _ (le_refl _),sub_self,append_assoc];rfl) (Nat.succ.inj l) (by rw[length_append,<-h];rfl)
  rw[ih,append_assoc];rfl
structure uU(st st':SortSt):Prop where
 kind:kindOf st'=kindOf st
 pend:pendingOf st'=pendingOf st
 failed:failedOf st'=failedOf st
theorem uU.refl(st:SortSt):uU st st:=⟨rfl,rfl,rfl⟩
theorem uU.trans{a b c:SortSt}(h:uU a b)(h':uU b c):uU a c:=⟨h'.kind.trans h.kind,h'.pend.trans h.pend,h'.failed.trans h.failed⟩
section
variable {prog:Program}{w:World}{A:Around}{E:Value->Shared->Prop}{s:Shared}{kd:SortKind}
theorem lD{st:SortSt}{P G R:List Keyed}(e:(arrOf st).toList=P++(G++R)){i j:Nat}(hi:i=P.length)(hj:j=i+G.length){Q:Unit->SortSt->Prop}(q:∀st',uU st st'->(arrOf st').toList=P++(G.reverse++R)->Q () st'):wpS (model prog w) A E s (reverseSlice' i j) Q st:=by
 rw[reverseSlice'_eq];exact wpS_modify (q _ ⟨rfl,rfl,rfl⟩ (tI e hi hj))
theorem AN{st:SortSt}{P T R:List Keyed}{x:Keyed}(e:(arrOf st).toList=P++(T++x::R)){src dst:Nat}(hi:src=P.length+T.length)(hd:dst=P.length){Q:Unit->SortSt->Prop}(q:∀st',uU st st'->(arrOf st').toList=P++(x::T++R)->Q () st'):wpS (model prog w) A E s (moveDown' src dst) Q st:=by
 rw[moveDown'_eq];exact wpS_modify (q _ ⟨rfl,rfl,rfl⟩ (uO e hi (by omega)))
theorem gS(hL:kG prog w A E s κ kd){st:SortSt}{i j:Nat}{x y:Keyed}{Q:Option Bool->SortSt->Prop}(hk:kindOf st=kd)(hx:(arrOf st).toList[i]? =some x)(hy:(arrOf st).toList[j]? =some y)(kx:ir κ x)(ky:ir κ y)(q:Q (some (κ.blt (key κ x) (key κ y))) st):wpS (model prog w) A E s (ltAt' i j) Q st:=by
 rw[ltAt'_eq];refine wpS_bind (wpS_get ?_);rw[getElem?_toList]at hx hy;exact wpS_bind (cS hx (wpS_bind (cS hy (hL x y st Q hk kx ky q))))
theorem nO{P R:List Keyed}{x:Keyed}{i:Nat}(h:i=P.length):(P++x::R)[i]? =some x:=by
 rw[getElem?_append_right (by omega),h,sub_self];rfl
theorem kA{P C R:List Keyed}{x:Keyed}{i:Nat}(h:i=P.length+C.length):(P++((C++[x])++R))[i]? =some x:=by
 rw[append_assoc,<-append_assoc P];exact nO (by rw[length_append];exact h)
theorem n9{P C R:List Keyed}{x:Keyed}{i:Nat}(h:i=P.length+C.length):(P++(C++x::R))[i]? =some x:=by
 rw[<-append_assoc];exact nO (by rw[length_append];exact h)
theorem dr.snoc{l:List Keyed}{x:Keyed}(h:dr κ l)(b:Below κ l [x]):dr κ (l++[x]):=h.append (List.pairwise_singleton _ _) b
theorem lE{l:List Keyed}(h:1<=l.length):∃c x,l=c++[x]:=⟨l.dropLast,l.getLast (by intro e;rw[e]at h;cases h),(List.dropLast_concat_getLast _).symm⟩
theorem dr.By{c:List Keyed}{x y:Keyed}(h:dr κ (c++[x]))(b:κ.kle (key κ x) (key κ y)):Below κ (c++[x]) [y]:=λu hu v hv=>by
 cases mem_singleton.mp hv;rcases mem_append.mp hu with hu|hu
 ·exact KeyOrd.kle_trans (h.mid u hu x (mem_singleton_self _)) b
 ·cases mem_singleton.mp hu
  exact b
structure v3(κ:KeyKind)(st0:SortSt)(P S:List Keyed)(n:Nat)(M O R:List Keyed)(st:SortSt):Prop where
 e:(arrOf st).toList=P++(M++R)
 s:S=O++R
 m:M.length=n
 o:O.length=n
 sm:dr κ M
 tm:cO κ M O
 cg:uU st0 st
structure Aj(κ:KeyKind)(st0:SortSt)(P S:List Keyed)(n neq:Nat)(C G O R:List Keyed)(st:SortSt):Prop where
 e:(arrOf st).toList=P++((C++G)++R)
 s:S=O++R
 o:O.length=n
 m:C.length+G.length=n
 g:G.length=neq+1
 sc:dr κ C.reverse
 un:Under κ G C
 gg:Below κ G G
 t:cO κ (C.reverse++G) O
 cg:uU st0 st
theorem qV{P C G R:List Keyed}:P++((C++G)++R)=(P++C)++(G++R):=by rw[append_assoc,append_assoc]
theorem o4{G:List Keyed}(h:Below κ G G):dr κ G:=List.pairwise_iff_forall_sublist.mpr λ{a b} hs=>h a (hs.subset mem_cons_self) b (hs.subset (mem_cons_of_mem _ (mem_singleton_self _)))
theorem Under.rev{G C:List Keyed}(h:Under κ G C):Under κ G C.reverse:=λx hx y hy=>h x hx y (mem_reverse.mp hy)
theorem Aj.up{st0:SortSt}{P S C G O R:List Keyed}{n neq:Nat}{st st':SortSt}(d:Aj κ st0 P S n neq C G O R st)(cg:uU st st')(e:(arrOf st').toList=P++((G++C.reverse)++R)):v3 κ st0 P S n (G++C.reverse) O R st':=
 ⟨e,d.s,by have:=d.m;rw[length_append,length_reverse];omega,d.o,(o4 d.gg).append d.sc d.un.rev.below,(cO.swap d.un.rev).trans d.t,d.cg.trans cg⟩
theorem Aj.less{st0:SortSt}{P S C G O R:List Keyed}{n neq:Nat}{st st':SortSt}{y:Keyed}(d:Aj κ st0 P S n neq C G O (y::R) st)(u:Under κ [y] G)(g1:1<=G.length)(cg:uU st st')(e:(arrOf st').toList=(P++C)++(G.reverse++y::R)):Aj κ st0 P S (n+1) 0 (C++G.reverse) [y] (O++[y]) R st':=by
 have m:=d.m;have r:(C++G.reverse).reverse=G++C.reverse:=by rw[reverse_append,reverse_reverse]
 refine⟨by rw[e,append_assoc,append_assoc,append_assoc];rfl,by rw[d.s,append_assoc];rfl,by rw[length_append,d.o];rfl,by rw[length_append,length_reverse];show _+1=_;omega,rfl,?_,?_,?_,?_,d.cg.trans cg⟩
 ·rw[r]
  exact(o4 d.gg).append d.sc d.un.rev.below
 ·intro x hx z hz
  rcases mem_append.mp hz with hz|hz
  ·obtain⟨g,hg⟩:=List.exists_mem_of_length_pos g1
   exact KeyOrd.klt_of_klt_of_kle (u x hx g hg) (d.un.below g hg z hz)
  ·exact u x hx z (mem_reverse.mp hz)
 ·intro x hx z hz
  cases mem_singleton.mp hx;cases mem_singleton.mp hz;exact KeyOrd.kle_refl _
 ·rw[r]
  exact((cO.swap d.un.rev).trans d.t).append (cO.refl _)
theorem Aj.same{st0:SortSt}{P S C G O R:List Keyed}{n neq:Nat}{st:SortSt}{y z:Keyed}(d:Aj κ st0 P S n neq C G O (y::R) st)(hz:z∈G)(h1:κ.kle (key κ z) (key κ y))(h2:κ.kle (key κ y) (key κ z)):Aj κ st0 P S (n+1) (neq+1) C (G++[y]) (O++[y]) R st:=by
 have m:=d.m;have g:=d.g;refine⟨by rw[d.e,<-append_assoc C,append_assoc _ [y]];rfl,by rw[d.s,append_assoc];rfl,by rw[length_append,d.o];rfl,by rw[length_append];show _+(_+1)=_;omega,by rw[length_append,g];rfl,d.sc,?_,?_,?_,d.cg⟩
 ·intro u hu v hv
  rcases mem_append.mp hu with hu|hu
  ·exact d.un u hu v hv
  ·cases mem_singleton.mp hu
   exact KeyOrd.klt_of_kle_of_klt h2 (d.un z hz v hv)
 ·intro u hu v hv
  have a1:κ.kle (key κ u) (key κ z):=by
   rcases mem_append.mp hu with hu|hu
   ·exact d.gg u hu z hz
   ·cases mem_singleton.mp hu
    exact h2
  refine KeyOrd.kle_trans a1 ?_;rcases mem_append.mp hv with hv|hv
  ·exact d.gg z hz v hv
  ·cases mem_singleton.mp hv
   exact h1
 ·rw[<-append_assoc]
  exact d.t.append (cO.refl _)
theorem oJ(hL:kG prog w A E s κ kd){lo nrem:Nat}{st:SortSt}{Q:Option Nat->SortSt->Prop}{P S:List Keyed}(hk:kindOf st=kd)(ks:∀x∈S,ir κ x)(he0:(arrOf st).toList=P++S)(hlo:lo=P.length)(hn:S.length=nrem)(h1:1<=nrem)
  (q:∀n st' M O R,1<=n->n<=nrem->v3 κ st P S n M O R st'->Q (some n) st'):wpS (model prog w) A E s (vY lo nrem) Q st:=by
 have a0:∃M O R,v3 κ st P S 1 M O R st:=by
  cases S with
  |nil=>rw[<-hn]at h1;cases h1
  |cons x R=>exact⟨[x],[x],R,he0,rfl,rfl,rfl,List.pairwise_singleton _ _,cO.refl _,uU.refl _⟩
 refine wpS_bind (wpS_mono (wpS_forRange (I:=λx c st'=>c=(none,x)/\∃M O R,v3 κ st P S x M O R st')
  (Q:=λc st'=>∃n,c=(none,n)/\(1<=n/\n<=nrem)/\∃M O R,v3 κ st P S n M O R st'/\(R=[]\/∃c z y R',M=c++[z]/\R=y::R'/\κ.klt (key κ y) (key κ z))) ?step ?fin ⟨rfl,a0⟩) ?post)
 case step=>
  rintro x c st' hx0 hx ⟨rfl,M,O,R,he,hS,hM,hO,sM,tM,cg⟩;dsimp only;cases R with
  |nil=>rw[hS,append_nil,hO]at hn;omega
  |cons y R=>
  obtain⟨c,z,rfl⟩:=lE (show 1<=M.length by omega);have kM:ir κ z:=ks z (by rw[hS];exact mem_append_left _ (tM.mem.mp (mem_append_right _ (mem_singleton_self _))));have ky:ir κ y:=ks y (by rw[hS];exact mem_append_right _ mem_cons_self);rw[length_append]at hM;have hM':c.length+1=x:=hM;refine wpS_bind (gS hL (cg.kind.trans hk) (by rw[he];exact n9 (by rw[length_append];show _=_+(c.length+1);omega)) (by rw[he];exact kA (by omega)) ky kM ?_);dsimp only;cases hb:κ.blt (key κ y) (key κ z) with
  |true=>exact wpS_pure ⟨x,rfl,⟨by omega,by omega⟩,c++[z],O,y::R,⟨he,hS,by rw[length_append];exact hM,hO,sM,tM,cg⟩,.inr ⟨c,z,y,R,rfl,rfl,hb⟩⟩
  |false=>exact wpS_pure ⟨rfl,(c++[z])++[y],O++[y],R,by rw[he,append_assoc _ [y]];rfl,by rw[hS,append_assoc];rfl,by rw[length_append,length_append];show c.length+1+1=_;omega,by rw[length_append];show O.length+1=_;omega,sM.snoc (sM.By hb),tM.append (cO.refl _),cg⟩
 case fin=>
  rintro c st' ⟨rfl,M,O,R,h⟩;have hR:R=[]:=by
   have h3:=h.s;rw[h3,length_append,h.o]at hn;exact eq_nil_of_length_eq_zero (by omega)
  exact⟨_,rfl,⟨by omega,by omega⟩,M,O,R,h,.inl hR⟩
 case post=>
  rintro c st1 ⟨n,rfl,nn,M,O,R,h,hR⟩;dsimp only;refine cM (λc1=>wpS_pure (q n st1 M O R nn.1 nn.2 h)) (λc1=>?_);rw[beq_iff_eq]at c1;rcases hR with rfl|⟨c,z,y,R,rfl,rfl,lt⟩
  ·exfalso
   rw[h.s,append_nil,h.o]at hn;exact c1 hn
  have nn1:=nn.1;have nn2:=nn.2;have hm:=h.m;rw[length_append]at hm;have hm':c.length+1=n:=hm;have hz:z∈c++[z]:=mem_append_right _ (mem_singleton_self _);have kof:∀u∈c++[z],ir κ u:=λu hu=>ks u (by rw[h.s];exact mem_append_left _ (h.tm.mem.mp hu));have start:∀{C:List Keyed}{st2:SortSt},uU st st2->(arrOf st2).toList=P++(C++y::R)->C.reverse=c++[z]->(∀u∈c++[z],κ.kle (key κ z) (key κ u))->Aj κ st P S (n+1) 0 C [y] (O++[y]) R st2:=λ{C st2} cg e r al=>by
   have cl:C.length=n:=by rw[<-length_reverse,r,length_append];exact hm'
   refine⟨by rw[e,append_assoc];rfl,by rw[h.s,append_assoc];rfl,by rw[length_append,h.o];rfl,by rw[cl];rfl,rfl,by rw[r];exact h.sm,λa ha b hb=>?_,λa ha b hb=>?_,by rw[r];exact h.tm.append (cO.refl _),cg⟩
   ·cases mem_singleton.mp ha
    exact KeyOrd.klt_of_klt_of_kle lt (al b (by rw[<-r];exact mem_reverse.mpr hb))
   ·cases mem_singleton.mp ha
    cases mem_singleton.mp hb;exact KeyOrd.kle_refl _
  refine cM (λc2=>?_) (λc2=>?_);obtain⟨f,c',rfl⟩:∃f c',c=f::c':=by
   cases c with
   |nil=>have:0+1=n:=hm';omega
   |cons f c'=>exact⟨f,c',rfl⟩
  refine wpS_bind (gS hL (h.cg.kind.trans hk) (x:=f) (y:=z) (by rw[h.e];exact nO hlo) (by rw[h.e];exact kA (by omega)) (kof f mem_cons_self) (kof z hz) ?_);dsimp only;refine cM (λhb=>wpS_pure (q n st1 _ _ _ nn1 nn2 h)) (λhb=>?_);refine wpS_bind (lD h.e hlo (by rw[length_append];show _=_+(_+1);omega) λst2 cg2 e2=>?_);have d0:=start (h.cg.trans cg2) e2 (reverse_reverse _) λu hu=>KeyOrd.kle_trans (show κ.kle (key κ z) (key κ f) from eq_false_iff.mpr hb) (dr.head (x:=f) (l:=c'++[z]) h.sm f (mem_singleton_self _) u hu)
  rotate_left
  have c0:c=[]:=eq_nil_of_length_eq_zero (by omega);subst c0;have d0:=start (C:=[z]) h.cg h.e rfl λu hu=>by
   cases mem_singleton.mp hu;exact KeyOrd.kle_refl _
  all_goals
   refine wpS_bind (wpS_lift (wpAny_rule ⟨rfl,?_⟩));refine wpS_bind (wpS_mono (wpS_forRange (I:=λx c st'=>∃neq,c=(none,x,neq)/\∃C G O R,Aj κ st P S x neq C G O R st')
    (Q:=λc st'=>∃m neq,c=(none,m,neq)/\(1<=m/\m<=nrem)/\∃C G O R,Aj κ st P S m neq C G O R st') ?_ ?_ ⟨0,rfl,_,_,_,_,d0⟩) ?_)
   ·rintro x c st' hx0 hx ⟨neq,rfl,C,G,O,R,d⟩
    dsimp only;cases R with
    |nil=>rw[d.s,append_nil,d.o]at hn;omega
    |cons y R=>
    have dg:=d.g;have dm:=d.m;obtain⟨g,z,rfl⟩:=lE (show 1<=G.length by omega);have hz:z∈g++[z]:=mem_append_right _ (mem_singleton_self _);have kz:ir κ z:=ks z (by rw[d.s];exact mem_append_left _ (d.t.mem.mp (mem_append_right _ hz)));have ky:ir κ y:=ks y (by rw[d.s];exact mem_append_right _ mem_cons_self);rw[length_append]at dg dm;have dg':g.length+1=neq+1:=dg;have dm':C.length+(g.length+1)=x:=dm;have py:(arrOf st').toList[lo+x]? =some y:=by rw[d.e];exact n9 (by rw[length_append,length_append];show _=_+(C.length+(g.length+1));omega)
    have pz:(arrOf st').toList[lo+x - 1]? =some z:=by rw[d.e,<-append_assoc C];exact kA (by rw[length_append];omega)
    refine wpS_bind (gS hL (d.cg.kind.trans hk) py pz ky kz ?_);dsimp only;cases hb:κ.blt (key κ y) (key κ z) with
    |true=>
     have u:Under κ [y] (g++[z]):=λa ha b hb'=>by
      cases mem_singleton.mp ha;exact KeyOrd.klt_of_klt_of_kle (show κ.klt _ _ from hb) (d.gg z hz b hb')
     rw[if_pos rfl];refine cM (λc2=>?_) (λc2=>?_)
     ·refine wpS_bind (lD (P:=P++C) (G:=g++[z]) (R:=y::R) (d.e.trans qV) (by rw[length_append];omega) (by rw[length_append];show _=_+(g.length+1);omega) λst3 cg3 e3=>?_)
      exact wpS_pure ⟨0,rfl,_,_,_,_,d.less u (by rw[length_append];show 1<=_+1;omega) cg3 e3⟩
     ·have g0:g=[]:=eq_nil_of_length_eq_zero (by omega)
      subst g0;exact wpS_pure ⟨0,rfl,_,_,_,_,d.less u (le_refl 1) (uU.refl _) (d.e.trans qV)⟩
    |false=>
     rw[if_neg Bool.false_ne_true];refine wpS_bind (gS hL (d.cg.kind.trans hk) pz py kz ky ?_);dsimp only;cases hb2:κ.blt (key κ z) (key κ y) with
     |true=>exact wpS_pure ⟨x,neq,rfl,⟨by omega,by omega⟩,C,g++[z],O,y::R,d⟩
     |false=>exact wpS_pure ⟨neq+1,rfl,_,_,_,_,d.same hz hb hb2⟩
   ·rintro c st' ⟨neq,rfl,C,G,O,R,d⟩
    have:=d.s;have:=d.o;exact⟨_,neq,rfl,⟨by omega,by rw[d.s,length_append,d.o]at hn;omega⟩,C,G,O,R,d⟩
   ·rintro c st3 ⟨m,neq,rfl,mm,C,G,O,R,d⟩
    dsimp only;have dg:=d.g;have dm:=d.m;have hm1:=mm.1;have hm2:=mm.2;refine cM (λc2=>?_) (λc2=>?_);refine wpS_bind (lD (P:=P++C) (G:=G) (R:=R) (d.e.trans qV) (by rw[length_append];omega) (by omega) λst4 cg4 e4=>?_);refine wpS_bind (lD (P:=P) (G:=C++G.reverse) (R:=R) (e4.trans qV.symm) hlo (by rw[length_append,length_reverse];omega) λst5 cg5 e5=>?_);have up:=d.up (cg4.trans cg5) (by rw[e5,reverse_append,reverse_reverse])
    rotate_left
    refine wpS_bind (lD (P:=P) (G:=C++G) (R:=R) d.e hlo (by rw[length_append];omega) λst5 cg5 e5=>?_);have G1:G.reverse=G:=by
     obtain⟨g,z,rfl⟩:=lE (show 1<=G.length by omega);rw[length_append]at dg;rw[eq_nil_of_length_eq_zero (show g.length=0 by have:g.length+1=neq+1:=dg;omega)];rfl
    have up:=d.up cg5 (by rw[e5,reverse_append,G1])
    all_goals
     refine wpS_bind (wpS_mono (wpS_forRange (I:=λx c st'=>c=(none,x)/\∃M O R,v3 κ st P S x M O R st')
      (Q:=λc st'=>∃n,c=(none,n)/\(1<=n/\n<=nrem)/\∃M O R,v3 κ st P S n M O R st'/\(R=[]\/∃c z y R',M=c++[z]/\R=y::R'/\κ.klt (key κ y) (key κ z))) ?_ ?_ ⟨rfl,_,_,_,up⟩) ?_)
     ·rintro x c st' hx0 hx ⟨rfl,M,O,R,he,hS,hM,hO,sM,tM,cg⟩
      dsimp only;cases R with
      |nil=>rw[hS,append_nil,hO]at hn;omega
      |cons y R=>
      obtain⟨c,z,rfl⟩:=lE (show 1<=M.length by omega);have kM:ir κ z:=ks z (by rw[hS];exact mem_append_left _ (tM.mem.mp (mem_append_right _ (mem_singleton_self _))));have ky:ir κ y:=ks y (by rw[hS];exact mem_append_right _ mem_cons_self);rw[length_append]at hM;have hM':c.length+1=x:=hM;refine wpS_bind (gS hL (cg.kind.trans hk) (by rw[he];exact n9 (by rw[length_append];show _=_+(c.length+1);omega)) (by rw[he];exact kA (by omega)) ky kM ?_);dsimp only;cases hb:κ.blt (key κ y) (key κ z) with
      |true=>exact wpS_pure ⟨x,rfl,⟨by omega,by omega⟩,c++[z],O,y::R,⟨he,hS,by rw[length_append];exact hM,hO,sM,tM,cg⟩,.inr ⟨c,z,y,R,rfl,rfl,hb⟩⟩
      |false=>exact wpS_pure ⟨rfl,(c++[z])++[y],O++[y],R,by rw[he,append_assoc _ [y]];rfl,by rw[hS,append_assoc];rfl,by rw[length_append,length_append];show c.length+1+1=_;omega,by rw[length_append];show O.length+1=_;omega,sM.snoc (sM.By hb),tM.append (cO.refl _),cg⟩
     ·rintro c st' ⟨rfl,M,O,R,h⟩
      have hR:R=[]:=by
       have h3:=h.s;rw[h3,length_append,h.o]at hn;exact eq_nil_of_length_eq_zero (by omega)
      exact⟨_,rfl,⟨by omega,by omega⟩,M,O,R,h,.inl hR⟩
     ·rintro c st' ⟨n,rfl,nn,M,O,R,h,_⟩
      exact wpS_pure (q n st' M O R nn.1 nn.2 h)
end
end TS
namespace TS
open PySem PyProof.Rows
variable {κ:KeyKind}
def qE:Nat->StateT SortSt Sem Bool:=sortPriv% PySem.Builtin.mergeAt
section
variable {prog:Program}{w:World}{A:Around}{E:Value->Shared->Prop}{s:Shared}{kd:SortKind}
theorem dr.get{l:List Keyed}(h:dr κ l){i j:Nat}{x y:Keyed}(ij:i<=j)(hx:l[i]? =some x)(hy:l[j]? =some y):κ.kle (key κ x) (key κ y):=by
 have:=dr.at (κ:=κ) (l:=l) (b:=0) (n:=l.length) (i:=i) (j:=j) (x:=x) (y:=y) (by rw[drop_zero,take_length];exact h) ij (List.getElem?_eq_some_iff.mp hy).1 (by rw[zero_add];exact hx) (by rw[zero_add];exact hy);exact this
theorem v3.ins{st0:SortSt}{P S M O R:List Keyed}{k l:Nat}{st st':SortSt}{y:Keyed}(h:v3 κ st0 P S k M O (y::R) st)(b:Below κ (M.take l) [y])(u:Under κ [y] (M.drop l))(cg:uU st st')(e:(arrOf st').toList=(P++M.take l)++(y::M.drop l++R)):v3 κ st0 P S (k+1) (M.take l++(y::M.drop l)) (O++[y]) R st':=by
 have ml:=h.m;have sp:M.take l++M.drop l=M:=take_append_drop l M;have sm:=h.sm;rw[<-sp]at sm;refine⟨by rw[e,<-qV],by rw[h.s,append_assoc];rfl,?_,by rw[length_append,h.o];rfl,?_,?_,h.cg.trans cg⟩
 ·have:=congrArg List.length sp
  rw[length_append]at this ⊢;show _+(_+1)=_;omega
 ·refine sm.left.append (List.pairwise_cons.mpr ⟨λz hz=>KeyOrd.kle_of_klt (u y (mem_singleton_self _) z hz),sm.right⟩) λa ha c hc=>?_
  rcases mem_cons.mp hc with rfl|hc
  ·exact b a ha c (mem_singleton_self _)
  ·exact sm.mid a ha c hc
 ·have t:cO κ (M.take l++(y::M.drop l)) (M++[y]):=by
   have:cO κ (M.take l++([y]++M.drop l)) (M.take l++(M.drop l++[y])):=(cO.refl _).append (cO.swap u);rw[<-append_assoc (M.take l) (M.drop l),sp]at this;exact this
  exact t.trans (h.tm.append (cO.refl _))
theorem lU(hL:kG prog w A E s κ kd){lo n ok:Nat}{st0 st:SortSt}{Q:Bool->SortSt->Prop}{P S M O R:List Keyed}(hk:kindOf st0=kd)(ks:∀x∈S,ir κ x)(hlo:lo=P.length)(hn:n<=S.length)(h1:1<=ok)(hok:ok<=n)(h:v3 κ st0 P S ok M O R st)
  (q:∀st' M O R,v3 κ st0 P S n M O R st'->Q true st'):wpS (model prog w) A E s (rH lo n ok) Q st:=by
 refine wpS_bind (wpS_mono (wpS_forRange (I:=λk c st'=>c=(none,())/\∃M O R,v3 κ st0 P S k M O R st')
  (Q:=λc st'=>c=(none,())/\∃M O R,v3 κ st0 P S n M O R st') ?step ?fin ⟨rfl,M,O,R,by rw[show max ok 1=ok by omega];exact h⟩) ?post)
 case post=>
  rintro c st' ⟨rfl,M,O,R,h⟩;exact wpS_pure (q st' M O R h)
 case fin=>
  rintro c st' ⟨rfl,M,O,R,h⟩;rw[show max (max ok 1) n=n by omega]at h;exact⟨rfl,M,O,R,h⟩
 case step=>
  rintro k c st1 hk0 hkn ⟨rfl,M,O,R,h⟩;cases R with
  |nil=>have e:=h.s;rw[append_nil]at e;rw[e,h.o]at hn;omega
  |cons y R=>
  have hM:=h.m;have ky:ir κ y:=ks y (by rw[h.s];exact mem_append_right _ mem_cons_self);refine wpS_bind (wpS_mono (wpS_forRange (I:=λx c st'=>st'=st1/\∃l r,c=(none,l,r)/\l<=r/\r<=k/\r - l<=k - x/\(∀i u,i < l->M[i]? =some u->κ.kle (key κ u) (key κ y))/\(∀i u,r<=i->M[i]? =some u->κ.klt (key κ y) (key κ u)))
   (Q:=λc st'=>st'=st1/\∃l,c=(none,l,l)/\l<=k/\(∀i u,i < l->M[i]? =some u->κ.kle (key κ u) (key κ y))/\(∀i u,l<=i->M[i]? =some u->κ.klt (key κ y) (key κ u))) ?istep ?ifin ⟨rfl,0,k,rfl,by omega,by omega,by omega,λi u hi=>by omega,λi u hi hu=>by have:=(List.getElem?_eq_some_iff.mp hu).1;omega⟩) ?ipost)
  case ifin=>
   rintro c st' ⟨rfl,l,r,rfl,lr,rk,rl,g1,g2⟩;have e:l=r:=by omega
   subst e;exact⟨rfl,l,rfl,rk,g1,g2⟩
  case istep=>
   rintro x c st' _ hx ⟨rfl,l,r,rfl,lr,rk,rl,g1,g2⟩;dsimp only;refine cM (λc1=>?_) (λc1=>?_)
   ·have e:l=r:=by omega
    subst e;exact wpS_pure ⟨rfl,l,rfl,rk,g1,g2⟩
   obtain⟨z,hz⟩:∃z,M[(l+r) / 2]? =some z:=⟨_,getElem?_eq_getElem (by omega)⟩;have kz:ir κ z:=ks z (by rw[h.s];exact mem_append_left _ (h.tm.mem.mp (mem_of_getElem? hz)));refine wpS_bind (gS hL (h.cg.kind.trans hk) (x:=y) (y:=z) (by rw[h.e];exact n9 (by omega)) (by rw[h.e,getElem?_append_right (by omega),getElem?_append_left (by omega),<-hz];congr 1;omega) ky kz ?_);dsimp only;cases hb:κ.blt (key κ y) (key κ z) with
   |true=>exact wpS_pure ⟨rfl,l,(l+r) / 2,rfl,by omega,by omega,by omega,g1,λi u hi hu=>KeyOrd.klt_of_klt_of_kle (show κ.klt _ _ from hb) (h.sm.get hi hz hu)⟩
   |false=>exact wpS_pure ⟨rfl,(l+r) / 2+1,r,rfl,by omega,by omega,by omega,λi u hi hu=>KeyOrd.kle_trans (h.sm.get (by omega) hu hz) (show κ.kle _ _ from hb),g2⟩
  case ipost=>
   rintro c st' ⟨rfl,l,rfl,lk,g1,g2⟩;dsimp only;have e1:(arrOf st').toList=(P++M.take l)++(M.drop l++y::R):=by rw[h.e,<-qV,take_append_drop]
   have tl:(M.take l).length=l:=by rw[length_take];omega
   have dl:(M.drop l).length=k - l:=by rw[length_drop];omega
   refine wpS_bind (AN e1 (by rw[length_append];omega) (by rw[length_append];omega) λst2 cg2 e2=>wpS_pure ⟨rfl,_,_,_,h.ins (l:=l) (λa ha b hb=>?_) (λb hb a ha=>?_) cg2 e2⟩)
   ·cases mem_singleton.mp hb
    obtain⟨i,hi⟩:=getElem?_of_mem ha;have il:=(List.getElem?_eq_some_iff.mp hi).1;rw[getElem?_take_of_lt (by omega)]at hi;exact g1 i a (by omega) hi
   ·cases mem_singleton.mp hb
    obtain⟨i,hi⟩:=getElem?_of_mem ha;rw[getElem?_drop]at hi;exact g2 (l+i) a (by omega) hi
theorem yq{L P X Y:List Keyed}(e:L=P++(X++Y)){i m:Nat}(hi:i=P.length)(hm:m<=X.length):(L.drop i).take m=X.take m:=by
 rw[e,hi,List.drop_left,List.take_append_of_le_length hm]
theorem FE{L P X Y:List Keyed}(e:L=P++(X++Y)){i k n:Nat}(hi:i=P.length)(hn:n=X.length)(hk:k<=n):(L.drop (i+k)).take (n - k)=X.drop k:=by
 have:L=(P++X.take k)++(X.drop k++Y):=by rw[e,<-qV,take_append_drop]
 rw[yq this (by rw[length_append,length_take];omega) (by rw[length_drop];omega)];exact take_of_length_le (by rw[length_drop];omega)
theorem qJ{A1 A2 B1 B2 M:List Keyed}(sa:dr κ (A1++A2))(sb:dr κ (B1++B2))(b1:Below κ A1 (B1++B2))(b2:Below κ (A1++A2) B2)(sm:dr κ M)(tm:cO κ M (A2++B1)):dr κ (A1++(M++B2))/\cO κ (A1++(M++B2)) ((A1++A2)++(B1++B2)):=by
 have mm:∀x∈M,x∈A2\/x∈B1:=λx hx=>mem_append.mp (tm.mem.mp hx);refine⟨sa.left.append (sm.append sb.right λx hx y hy=>?_) λx hx y hy=>?_,?_⟩
 ·exact(mm x hx).elim (λh=>b2 x (mem_append_right _ h) y hy) (λh=>sb.mid x h y hy)
 ·rcases mem_append.mp hy with hy|hy
  ·exact(mm y hy).elim (λh=>sa.mid x hx y h) (λh=>b1 x hx y (mem_append_left _ h))
  ·exact b2 x (mem_append_left _ hx) y hy
 ·have:cO κ (A1++(M++B2)) (A1++((A2++B1)++B2)):=(cO.refl _).append (tm.append (cO.refl _))
  rw[append_assoc A1 A2,<-append_assoc A2 B1 B2];exact this
theorem Ct{l:List Keyed}(h:1<=l.length):∃x r,l=x::r:=by
 cases l with
 |nil=>cases h
 |cons x r=>exact⟨x,r,rfl⟩
structure Mg(κ:KeyKind)(st st':SortSt)(P X Y R:List Keyed)(pend:Array (Nat×Nat×Nat)):Prop where
 kind:kindOf st'=kindOf st
 failed:failedOf st'=failedOf st
 pend:pendingOf st'=pend
 ex:∃M,(arrOf st').toList=P++(M++R)/\dr κ M/\cO κ M (X++Y)
theorem CB{σ:Type}{M:Model}{A:Around}{E:Value->Shared->Prop}{s:Shared}{st' st:σ}{Q:PUnit->σ->Prop}(h:Q ⟨⟩ st'):wpS M A E s (set st':StateT σ Sem PUnit) Q st:=by
 unfold wpS;rw[StateT.run_set];exact wpAny_pure ⟨rfl,h⟩
theorem p7(hL:kG prog w A E s κ kd){st:SortSt}{Q:Bool->SortSt->Prop}{P X Y R:List Keyed}{i sa na pa sb nb pb:Nat}(hk:kindOf st=kd)(hf:failedOf st=none)(ks:∀x∈(arrOf st).toList,ir κ x)(p1:(pendingOf st)[i]? =some (sa,na,pa))(p2:(pendingOf st)[i+1]? =some (sb,nb,pb))
  (e:(arrOf st).toList=P++(X++(Y++R)))(ha:sa=P.length)(hx:na=X.length)(hb:sb=sa+na)(hy:nb=Y.length)(x1:1<=na)(y1:1<=nb)(sx:dr κ X)(sy:dr κ Y)
  (q:∀st',Mg κ st st' P X Y R (((pendingOf st).setIfInBounds i (sa,na+nb,pa)).eraseIdxIfInBounds (i+1))->Q true st'):wpS (model prog w) A E s (qE i) Q st:=by
 refine wpS_bind (wpS_get ?_);rw[p1,p2];dsimp only;refine wpS_bind (CB ?_);have sz:(arrOf st).size=P.length+(X.length+(Y.length+R.length)):=by rw[<-length_toList,e,length_append,length_append,length_append]
 have e':(arrOf st).toList=(P++X)++(Y++R):=by rw[e,append_assoc]
 obtain⟨y0,Y',hY⟩:=Ct (show 1<=Y.length by omega);obtain⟨c,z,hX⟩:=lE (show 1<=X.length by omega);have cl:c.length+1=na:=by rw[hx,hX,length_append];rfl
 have ey:(arrOf st)[sb]? =some y0:=by
  rw[<-getElem?_toList,e',hY];exact nO (by rw[length_append];omega)
 have ez:∀k,k<=na->0 < na - k->(arrOf st)[sa+k+(na - k) - 1]? =some z:=λk h1 h2=>by
  rw[<-getElem?_toList,e,hX];exact kA (by omega)
 have kX:∀u∈X,ir κ u:=λu hu=>ks u (by rw[e];exact mem_append_right _ (mem_append_left _ hu));have kY:∀u∈Y,ir κ u:=λu hu=>ks u (by rw[e];exact mem_append_right _ (mem_append_right _ (mem_append_left _ hu)));have by0:Below κ [y0] Y:=by rw[hY]at sy ⊢;exact sy.head
 have lastz:Below κ X [z]:=by rw[hX]at sx ⊢;exact sx.By (KeyOrd.kle_refl _)
 refine wpS_bind (cS ey (wpS_bind (oA hL hk (kY y0 (by rw[hY];exact mem_cons_self)) ks (show sa+na<=(arrOf st).size by omega) (by rw[yq e ha (by omega)];exact sx.take _) (by omega) λk hk1 bl un=>?_)));rw[yq e ha (by omega)]at bl;rw[FE e ha hx hk1]at un;dsimp only;refine cM (λc1=>?_) (λc1=>?_)
 ·rw[beq_iff_eq]at c1
  rw[take_of_length_le (by omega)]at bl;exact wpS_pure (q _ ⟨rfl,rfl,rfl,X++Y,by rw[append_assoc];exact e,sx.append sy (Below.over bl by0),cO.refl _⟩)
 rw[beq_iff_eq]at c1;refine wpS_bind (cS (ez k hk1 (by omega)) (wpS_bind (pI hL hk (kX z (by rw[hX];exact mem_append_right _ (mem_singleton_self _))) ks (show sb+nb<=(arrOf st).size by omega) (by rw[yq e' (by rw[length_append];omega) (by omega)];exact sy.take _) (by omega) λm hm ul bl2=>?_)));rw[yq e' (by rw[length_append];omega) (by omega)]at ul;rw[FE e' (by rw[length_append];omega) hy hm]at bl2;dsimp only;refine cM (λc2=>?_) (λc2=>?_)
 ·rw[beq_iff_eq]at c2
  rw[c2,drop_zero]at bl2;exact wpS_pure (q _ ⟨rfl,rfl,rfl,X++Y,by rw[append_assoc];exact e,sx.append sy (Below.over lastz bl2),cO.refl _⟩)
 rw[beq_iff_eq]at c2;have hax:((arrOf st).extract (sa+k) sb).toList=X.drop k:=by
  rw[toList_extract];have:=FE e ha hx hk1;rw[show na - k=sb - (sa+k) by omega]at this;exact this
 have hay:((arrOf st).extract sb (sb+m)).toList=Y.take m:=by
  rw[oi];exact yq e' (by rw[length_append];omega) (by omega)
 have lax:((arrOf st).extract (sa+k) sb).size=na - k:=by rw[<-length_toList,hax,length_drop];omega
 have lay:((arrOf st).extract sb (sb+m)).size=m:=by rw[<-length_toList,hay,length_take];omega
 generalize (arrOf st).extract (sa+k) sb=ax at hax lax;generalize (arrOf st).extract sb (sb+m)=ay at hay lay;have ka:∀u∈ax.toList,ir κ u:=λu hu=>kX u (List.mem_of_mem_drop (by rw[<-hax];exact hu));have kb:∀u∈ay.toList,ir κ u:=λu hu=>kY u (mem_of_mem_take (by rw[<-hay];exact hu));have sax:dr κ ax.toList:=by rw[hax];exact sx.drop k
 have say:dr κ ay.toList:=by rw[hay];exact sy.take m
 have u1:Under κ (ay.toList.take 1) ax.toList:=by
  rw[hay,hax,List.take_take,hY,Nat.min_eq_left (by omega)];exact un
 have u2:Under κ ay.toList (ax.toList.drop (ax.size - 1)):=by
  rw[hay,hax,lax,List.drop_drop,hX,List.drop_left' (by omega)];exact ul
 refine cM (λ_=>?_) (λ_=>?_)
 ·refine wpS_bind (tY hL hk ka kb sax say (by omega) (by omega) u1 u2 ?_)
  intro r st4 kp mr;have rl:r.toList.length=(X.drop k++Y.take m).length:=by rw[<-hax,<-hay];exact mr.2.perm.length_eq
  refine wpS_bind (wpS_modify (wpS_bind (wpS_get (wpS_pure ?_))));show Q (failedOf st4).isNone _;rw[kp.failed.trans hf];have mr2:=mr.2;rw[hax,hay]at mr2;have fin:=qJ (A1:=X.take k) (A2:=X.drop k) (B1:=Y.take m) (B2:=Y.drop m) (by rw[take_append_drop];exact sx) (by rw[take_append_drop];exact sy) (by rw[take_append_drop];exact Below.over bl by0) (by rw[take_append_drop];exact Below.over lastz bl2) mr.1 mr2;rw[take_append_drop,take_append_drop]at fin;refine q _ ⟨kp.kind,kp.failed,kp.pend,_,?_,fin.1,fin.2⟩;refine(j7 r.toList 0 (sa+k) (arrOf st4) (P++X.take k) (X.drop k++Y.take m) (Y.drop m++R) ?_ rl ?_).trans ?_
  ·rw[kp.arr,<-qV,<-append_assoc (X.take k),take_append_drop,append_assoc X,<-append_assoc (Y.take m),take_append_drop]
   exact e
  ·rw[length_append,length_take]
   omega
  ·rw[append_assoc P,append_assoc (X.take k),append_assoc r.toList]
 ·refine wpS_bind (ui hL hk ka kb sax say (by omega) (by omega) u1 u2 ?_)
  intro r st4 kp mr;have rl:r.toList.length=(X.drop k++Y.take m).length:=by rw[<-hax,<-hay];exact mr.2.perm.length_eq
  refine wpS_bind (wpS_modify (wpS_bind (wpS_get (wpS_pure ?_))));show Q (failedOf st4).isNone _;rw[kp.failed.trans hf];have mr2:=mr.2;rw[hax,hay]at mr2;have fin:=qJ (A1:=X.take k) (A2:=X.drop k) (B1:=Y.take m) (B2:=Y.drop m) (by rw[take_append_drop];exact sx) (by rw[take_append_drop];exact sy) (by rw[take_append_drop];exact Below.over bl by0) (by rw[take_append_drop];exact Below.over lastz bl2) mr.1 mr2;rw[take_append_drop,take_append_drop]at fin;refine q _ ⟨kp.kind,kp.failed,kp.pend,_,?_,fin.1,fin.2⟩;refine(j7 r.toList 0 (sa+k) (arrOf st4) (P++X.take k) (X.drop k++Y.take m) (Y.drop m++R) ?_ rl ?_).trans ?_
  ·rw[kp.arr,<-qV,<-append_assoc (X.take k),take_append_drop,append_assoc X,<-append_assoc (Y.take m),take_append_drop]
   exact e
  ·rw[length_append,length_take]
   omega
  ·rw[append_assoc P,append_assoc (X.take k),append_assoc r.toList]
end
end TS
namespace TS
open PySem PyProof.Rows
variable {κ:KeyKind}
def vo:StateT SortSt Sem Unit:=sortPriv% PySem.Builtin.sortRuns
def gL(κ:KeyKind):Nat->List (Nat×Nat×Nat)->List (List Keyed)->Prop
 |_,[],[]=>True
 |off,p::ps,r::rs=>p.1=off/\p.2.1=r.length/\1<=p.2.1/\dr κ r/\gL κ (off+p.2.1) ps rs
 |_,_,_=>False
theorem gL.merge:∀(i off:Nat) (ps:List (Nat×Nat×Nat)) (rs:List (List Keyed)),gL κ off ps rs->i+1 < ps.length->
  ∃rs1 X Y rs2 sa na pa sb nb pb,ps[i]? =some (sa,na,pa)/\ps[i+1]? =some (sb,nb,pb)/\rs=rs1++(X::Y::rs2)/\sa=off+rs1.flatten.length/\na=X.length/\sb=sa+na/\nb=Y.length/\1<=na/\1<=nb/\dr κ X/\dr κ Y/\
   ∀M,dr κ M->M.length=na+nb->gL κ off ((ps.set i (sa,na+nb,pa)).eraseIdx (i+1)) (rs1++(M::rs2))
 |0,off,[],_,_,l=>by cases l
 |0,off,[p],_,_,l=>by have:1 < 1:=l;omega
 |0,off,(sa,na,pa)::(sb,nb,pb)::ps,[],t,_=>t.elim
 |0,off,(sa,na,pa)::(sb,nb,pb)::ps,[X],t,_=>t.2.2.2.2.elim
 |0,off,(sa,na,pa)::(sb,nb,pb)::ps,X::Y::rs,⟨h1,h2,h3,h4,h5,h6,h7,h8,h9⟩,_=>by
  dsimp only at h1 h2 h3 h5 h6 h7 h9;subst h1;refine⟨[],X,Y,rs,sa,na,pa,sb,nb,pb,rfl,rfl,rfl,rfl,h2,h5,h6,h3,h7,h4,h8,λM sm ml=>⟨rfl,ml.symm,?_,sm,?_⟩⟩
  ·show 1<=na+nb
   omega
  ·show gL κ (sa+(na+nb)) ps rs
   rw[<-Nat.add_assoc];exact h9
 |i+1,off,[],_,_,l=>by cases l
 |i+1,off,p::ps,[],t,_=>t.elim
 |i+1,off,p::ps,r::rs,⟨h1,h2,h3,h4,h5⟩,l=>by
  obtain⟨rs1,X,Y,rs2,sa,na,pa,sb,nb,pb,g1,g2,g3,g4,g5,g6,g7,g8,g9,g10,g11,g12⟩:=gL.merge i _ ps rs h5 (Nat.lt_of_succ_lt_succ l);refine⟨r::rs1,X,Y,rs2,sa,na,pa,sb,nb,pb,g1,g2,by rw[g3];rfl,?_,g5,g6,g7,g8,g9,g10,g11,λM sm ml=>⟨h1,h2,h3,h4,g12 M sm ml⟩⟩;rw[flatten_cons,length_append,<-h2];omega
theorem gL.push:∀{off:Nat}{ps:List (Nat×Nat×Nat)}{rs:List (List Keyed)}{M:List Keyed}{pw:Nat},gL κ off ps rs->dr κ M->1<=M.length->gL κ off (ps++[(off+rs.flatten.length,M.length,pw)]) (rs++[M])
 |off,[],[],M,pw,_,sm,ml=>⟨by rw[flatten_nil];rfl,rfl,ml,sm,trivial⟩
 |off,[],_::_,M,pw,t,_,_=>t.elim
 |off,_::_,[],M,pw,t,_,_=>t.elim
 |off,p::ps,r::rs,M,pw,⟨h1,h2,h3,h4,h5⟩,sm,ml=>by
  refine⟨h1,h2,h3,h4,?_⟩;have:=gL.push (pw:=pw) h5 sm ml;rw[flatten_cons,length_append,<-h2,<-Nat.add_assoc];exact this
theorem gL.power:∀(i:Nat){off:Nat}{ps:List (Nat×Nat×Nat)}{rs:List (List Keyed)}{pw:Nat},gL κ off ps rs->gL κ off (ps.modify i λp=>(p.1,p.2.1,pw)) rs
 |0,off,[],[],pw,_=>trivial
 |0,off,[],_::_,pw,t=>t.elim
 |0,off,_::_,[],pw,t=>t.elim
 |0,off,p::ps,r::rs,pw,t=>t
 |i+1,off,[],[],pw,_=>trivial
 |i+1,off,[],_::_,pw,t=>t.elim
 |i+1,off,_::_,[],pw,t=>t.elim
 |i+1,off,p::ps,r::rs,pw,⟨h1,h2,h3,h4,h5⟩=>⟨h1,h2,h3,h4,gL.power i h5⟩
theorem gL.len:∀{off:Nat}{ps:List (Nat×Nat×Nat)}{rs:List (List Keyed)},gL κ off ps rs->ps.length<=rs.flatten.length
 |off,[],[],_=>zero_le _
 |off,[],_::_,t=>t.elim
 |off,_::_,[],t=>t.elim
 |off,p::ps,r::rs,⟨h1,h2,h3,h4,h5⟩=>by
  have:=gL.len h5;rw[flatten_cons,length_append,<-h2];show ps.length+1<=_;omega
theorem gL.one{ps:List (Nat×Nat×Nat)}{rs:List (List Keyed)}{off:Nat}(t:gL κ off ps rs)(h:ps.length<=1):dr κ rs.flatten:=by
 cases ps with
 |nil=>
  cases rs with
  |nil=>exact List.Pairwise.nil
  |cons r rs=>exact t.elim
 |cons p ps=>
  cases ps with
  |cons p' ps=>have:ps.length+1+1<=1:=h;omega
  |nil=>
   cases rs with
   |nil=>exact t.elim
   |cons r rs=>
    cases rs with
    |nil=>rw[flatten_cons,flatten_nil,append_nil];exact t.2.2.2.1
    |cons r' rs=>exact t.2.2.2.2.elim
section
variable {prog:Program}{w:World}{A:Around}{E:Value->Shared->Prop}{s:Shared}{kd:SortKind}
theorem Fl{c:Prop} [Decidable c]{n:Nat}(h:1 < n):(if c then n - 2 - 1 else n - 2)+1 < n:=by
 split<;>omega
structure RI(κ:KeyKind)(kd:SortKind)(a₀:List Keyed)(lo:Nat)(S:List Keyed)(st:SortSt):Prop where
 kind:kindOf st=kd
 failed:failedOf st=none
 stb:cO κ (arrOf st).toList a₀
 ex:∃Rs,gL κ 0 (pendingOf st).toList Rs/\(arrOf st).toList=Rs.flatten++S/\Rs.flatten.length=lo
theorem RI.keys{a₀ S:List Keyed}{lo:Nat}{st:SortSt}(h:RI κ kd a₀ lo S st)(ks:∀x∈a₀,ir κ x):∀x∈(arrOf st).toList,ir κ x:=λx hx=>ks x (h.stb.mem.mp hx)
theorem jI(hL:kG prog w A E s κ kd){a₀ S:List Keyed}{lo i:Nat}{st:SortSt}{Q:Bool->SortSt->Prop}(ks:∀x∈a₀,ir κ x)(h:RI κ kd a₀ lo S st)(hi:i+1 < (pendingOf st).size)
  (q:∀st',RI κ kd a₀ lo S st'->(pendingOf st').size+1=(pendingOf st).size->Q true st'):wpS (model prog w) A E s (qE i) Q st:=by
 obtain⟨Rs,t,e,l⟩:=h.ex;obtain⟨rs1,X,Y,rs2,sa,na,pa,sb,nb,pb,g1,g2,rfl,g4,g5,g6,g7,g8,g9,g10,g11,g12⟩:=t.merge i 0 _ _ (by rw[length_toList];exact hi);rw[zero_add]at g4;have e':(arrOf st).toList=rs1.flatten++(X++(Y++(rs2.flatten++S))):=by
  rw[e,flatten_append,flatten_cons,flatten_cons,append_assoc,append_assoc,append_assoc]
 refine p7 hL h.kind h.failed (h.keys ks) (by rw[<-getElem?_toList];exact g1) (by rw[<-getElem?_toList];exact g2) e' g4 g5 g6 g7 g8 g9 g10 g11 λst' mg=>?_;obtain⟨M,eM,sM,tM⟩:=mg.ex;have ml:M.length=na+nb:=by rw[tM.perm.length_eq,length_append,g5,g7]
 have hpl:(pendingOf st').toList=((pendingOf st).toList.set i (sa,na+nb,pa)).eraseIdx (i+1):=by
  rw[mg.pend,Array.toList_eraseIdxIfInBounds,Array.toList_setIfInBounds]
 refine q st' ⟨mg.kind.trans h.kind,mg.failed.trans h.failed,cO.trans ?_ h.stb,rs1++(M::rs2),by rw[hpl];exact g12 M sM ml,?_,?_⟩ ?_
 ·rw[eM,e',<-append_assoc X]
  exact(cO.refl _).append (tM.append (cO.refl _))
 ·rw[eM,flatten_append,flatten_cons,append_assoc,append_assoc]
 ·rw[<-l,flatten_append,flatten_append,flatten_cons,flatten_cons,flatten_cons,length_append,length_append,length_append,length_append,length_append]
  omega
 ·rw[<-length_toList,hpl,List.length_eraseIdx,if_pos (by rw[length_set,length_toList];exact hi),length_set,length_toList]
  omega
theorem RI.push{a₀ M R:List Keyed}{lo n:Nat}{st st':SortSt}(h:RI κ kd a₀ lo (M++R) st)(sM:dr κ M)(ml:M.length=n)(n1:1<=n)(k:kindOf st'=kindOf st)(f:failedOf st'=failedOf st)(ar:arrOf st'=arrOf st)(pd:pendingOf st'=(pendingOf st).push (lo,n,0)):RI κ kd a₀ (lo+n) R st':=by
 obtain⟨Rs,t,e,l⟩:=h.ex;refine⟨k.trans h.kind,f.trans h.failed,by rw[ar];exact h.stb,Rs++[M],?_,?_,?_⟩
 ·rw[pd,toList_push]
  have:=t.push (pw:=0) sM (by omega);rw[zero_add,l,ml]at this;exact this
 ·rw[ar,e,flatten_append,flatten_cons,flatten_nil,append_nil,append_assoc]
 ·rw[flatten_append,flatten_cons,flatten_nil,append_nil,length_append,l,ml]
theorem RI.power{a₀ S:List Keyed}{lo i pw:Nat}{st st':SortSt}(h:RI κ kd a₀ lo S st)(k:kindOf st'=kindOf st)(f:failedOf st'=failedOf st)(ar:arrOf st'=arrOf st)(pd:pendingOf st'=(pendingOf st).modify i λp=>(p.1,p.2.1,pw)):RI κ kd a₀ lo S st':=by
 obtain⟨Rs,t,e,l⟩:=h.ex;exact⟨k.trans h.kind,f.trans h.failed,by rw[ar];exact h.stb,Rs,by rw[pd,Array.toList_modify];exact t.power i,by rw[ar];exact e,l⟩
theorem RI.C8{a₀ M R:List Keyed}{lo n i pw:Nat}{st st':SortSt}(h:RI κ kd a₀ lo (M++R) st)(sM:dr κ M)(ml:M.length=n)(n1:1<=n)(k:kindOf st'=kindOf st)(f:failedOf st'=failedOf st)(ar:arrOf st'=arrOf st)(pd:pendingOf st'=((pendingOf st).modify i λp=>(p.1,p.2.1,pw)).push (lo,n,0)):RI κ kd a₀ (lo+n) R st':=
 RI.push (st:=setPending st ((pendingOf st).modify i λp=>(p.1,p.2.1,pw))) (h.power rfl rfl rfl rfl) sM ml n1 k f ar pd
theorem RI.asc{a₀ S M O R:List Keyed}{lo n:Nat}{st st':SortSt}{Rs:List (List Keyed)}(h:RI κ kd a₀ lo S st)(t:gL κ 0 (pendingOf st).toList Rs)(e:(arrOf st).toList=Rs.flatten++S)(l:Rs.flatten.length=lo)(as:v3 κ st Rs.flatten S n M O R st'):RI κ kd a₀ lo (M++R) st':=by
 refine⟨as.cg.kind.trans h.kind,as.cg.failed.trans h.failed,cO.trans ?_ h.stb,Rs,by rw[as.cg.pend];exact t,as.e,l⟩;rw[as.e,e,as.s];exact(cO.refl _).append (as.tm.append (cO.refl _))
theorem pM(hL:kG prog w A E s κ kd){st:SortSt}{Q:Unit->SortSt->Prop}(hk:kindOf st=kd)(hf:failedOf st=none)(hp:pendingOf st= #[])(ks0:∀x∈(arrOf st).toList,ir κ x)
  (q:∀st',failedOf st'=none->dr κ (arrOf st').toList->cO κ (arrOf st').toList (arrOf st).toList->Q () st'):wpS (model prog w) A E s vo Q st:=by
 refine wpS_bind (wpS_get ?_);obtain⟨a₀,ha₀⟩:∃a₀,a₀=(arrOf st).toList:=⟨_,rfl⟩;rw[<-ha₀]at ks0 q;have ks:=ks0;have r0:RI κ kd a₀ 0 (arrOf st).toList st:=⟨hk,hf,by rw[ha₀];exact cO.refl _,[],by rw[hp];trivial,rfl,rfl⟩;have hN:(arrOf st).size=a₀.length:=by rw[ha₀,length_toList]
 have r0':∃lo S,((none:Option Unit),0)=((none:Option Unit),lo)/\RI κ kd a₀ lo S st/\0<=lo:=⟨0,_,rfl,r0,le_refl 0⟩;have lens:∀{lo S st'},RI κ kd a₀ lo S st'->lo+S.length=(arrOf st).size:=λ{lo S st'} h=>by
  obtain⟨Rs,t,e,l⟩:=h.ex;rw[hN,<-h.stb.perm.length_eq,e,length_append,l]
 refine wpS_bind (wpS_mono (wpS_forRange (I:=λx c st'=>∃lo S,c=(none,lo)/\RI κ kd a₀ lo S st'/\x<=lo)
  (Q:=λc st'=>c.1=none/\∃lo,RI κ kd a₀ lo [] st') ?step ?fin r0') ?post)
 case fin=>
  rintro c st' ⟨lo,S,rfl,ri,hx⟩;have:=lens ri;have hx':max 0 (arrOf st).size<=lo:=hx;have hS:S=[]:=eq_nil_of_length_eq_zero (by omega);subst hS;exact⟨rfl,lo,ri⟩
 case step=>
  rintro x c st1 _ hx ⟨lo,S,rfl,ri,hxl⟩;dsimp only;have hl:=lens ri;refine cM (λc1=>?_) (λc1=>?_)
  ·have hS:S=[]:=eq_nil_of_length_eq_zero (by have:(arrOf st).size<=lo:=c1;omega)
   subst hS;exact wpS_pure ⟨rfl,lo,ri⟩
  have c1':lo < (arrOf st).size:=Nat.lt_of_not_le c1;obtain⟨Rs,t,e,l⟩:=ri.ex;have kS:∀u∈S,ir κ u:=λu hu=>ri.keys ks u (by rw[e];exact mem_append_right _ hu);refine wpS_bind (oJ hL ri.kind kS e l.symm (by show S.length=(arrOf st).size - lo;omega) (by show 1<=(arrOf st).size - lo;omega) λn st2 M O R n1 nn as=>?_);dsimp only;refine cM (λc2=>?_) (λc2=>?_);refine wpS_bind (wpS_lift (wpAny_rule ⟨rfl,?_⟩));have hmn:n<=min ((arrOf st).size - lo) _:=Nat.le_min.mpr ⟨nn,le_of_lt c2⟩;refine wpS_bind (lU hL ri.kind kS l.symm (le_trans (Nat.min_le_left _ _) (by show(arrOf st).size - lo<=S.length;omega)) n1 hmn as λstx M O R as=>?_);have n1:=le_trans n1 hmn;clear nn hmn c2;have ri':=ri.asc t e l as;have sM:=as.sm;have ml:=as.m;simp only[Bool.not_true,false_eq_true,if_false]
  rotate_left
  clear c2;obtain⟨stx,hstx⟩:∃stx,stx=st2:=⟨_,rfl⟩;subst hstx;have ri':=ri.asc t e l as;have sM:=as.sm;have ml:=as.m
  all_goals
   refine wpS_bind (wpS_get ?_);cases hbk:(pendingOf stx).back? with
   |none=>
    dsimp only;exact wpS_bind (wpS_modify (wpS_pure ⟨_,R,rfl,ri'.push sM ml n1 rfl rfl rfl rfl,by omega⟩))
   |some bk=>
    obtain⟨s1,n1',pw'⟩:=bk;dsimp only;refine wpS_bind (wpS_mono (wpS_forRange (I:=λx c st'=>c=(none,())/\RI κ kd a₀ lo (M++R) st') (Q:=λc st'=>c=(none,())/\RI κ kd a₀ lo (M++R) st') ?cstep (λ_ _ h=>h) ⟨rfl,ri'⟩) ?cpost)
    case cpost=>
     rintro c st5 ⟨rfl,ri5⟩;exact wpS_bind (wpS_modify (wpS_bind (wpS_modify (wpS_pure ⟨_,R,rfl,ri5.C8 sM ml n1 rfl rfl rfl rfl,by omega⟩))))
    case cstep=>
     rintro x' c st5 _ _ ⟨rfl,ri5⟩;refine wpS_bind (wpS_get ?_);by_cases c5:(pendingOf st5).size > 1
     ·rw[if_pos c5,getElem?_pos (pendingOf st5) ((pendingOf st5).size - 2) (by omega)]
      generalize (pendingOf st5)[(pendingOf st5).size - 2]=pp;obtain⟨f1,f2,older⟩:=pp;dsimp only;refine cM (λ_=>wpS_pure ⟨rfl,ri5⟩) (λ_=>?_);exact wpS_bind (jI hL ks ri5 (show(pendingOf st5).size - 2+1 < (pendingOf st5).size by omega) λst6 ri6 _=>wpS_pure ⟨rfl,ri6⟩)
     ·rw[if_neg c5]
      exact wpS_pure ⟨rfl,ri5⟩
 case post=>
  rintro c st1 ⟨hc,lo,ri⟩;rw[hc];dsimp only;have hl:=lens ri;have hl':lo=(arrOf st).size:=hl;obtain⟨Rs,t,e,l⟩:=ri.ex;have pl:(pendingOf st1).size<=(arrOf st).size:=by
   rw[<-hl',<-l,<-length_toList];exact t.len
  refine wpS_bind (wpS_mono (wpS_forRange (I:=λx c st'=>c=(none,())/\RI κ kd a₀ lo [] st'/\(pendingOf st').size+x<=(arrOf st).size) (Q:=λc st'=>c=(none,())/\RI κ kd a₀ lo [] st'/\(pendingOf st').size<=1) ?fstep ?ffin ⟨rfl,ri,pl⟩) ?fpost)
  case ffin=>
   rintro c st' ⟨rfl,ri,h⟩;exact⟨rfl,ri,by have h':(pendingOf st').size+max 0 (arrOf st).size<=(arrOf st).size:=h;omega⟩
  case fpost=>
   rintro c st' ⟨rfl,ri,h⟩;obtain⟨Rs,t,e,l⟩:=ri.ex;rw[append_nil]at e;exact wpS_pure (q st' ri.failed (by rw[e];exact t.one (by rw[length_toList];exact h)) ri.stb)
  case fstep=>
   rintro x c st2 _ hx ⟨rfl,ri,h⟩;refine wpS_bind (wpS_get ?_);refine cM (λc3=>wpS_pure ⟨rfl,ri,c3⟩) (λc3=>?_);have c3':1 < (pendingOf st2).size:=Nat.lt_of_not_le c3;refine wpS_bind (jI hL ks ri (Fl c3') λst3 ri3 h3=>?_);exact wpS_pure ⟨rfl,ri3,by omega⟩
end
end TS
namespace TS
open PySem PyProof.Rows
def intKind:KeyKind where
 α:=Int
 blt a b:=decide (a < b)
 irrefl a:=by simp
 trans a b c h1 h2:=by
  rw[decide_eq_true_iff]at *;omega
 negTrans a b c h:=by
  rw[decide_eq_true_iff]at *;rw[decide_eq_true_iff];omega
 total a b h1 h2:=by
  rw[decide_eq_false_iff_not]at *;omega
 keyOf v:=match v with
  |.int n _=>some n
  |_=>none
 dflt:=0
section
variable {prog:Program}{w:World}{A:Around}{E:Value->Shared->Prop}{s:Shared}
theorem AR:kG prog w A E s intKind oneType':=by
 rintro⟨x,p⟩ ⟨y,q⟩ st Q hk ⟨a,ha⟩ ⟨b,hb⟩ h;cases x<;>cases ha;cases y<;>cases hb;rw[lt'_eq];refine wpS_bind (wpS_get ?_);rw[hk,keyLt'_oneType];exact wpS_bind (wpS_lift (wpAny_attempt (oneLt_int ⟨rfl,wpS_pure h⟩)))
theorem wpAny_forIn_list{M:Model}{α β:Type}{f:α->β->Sem (ForInStep β)}(I:List α->β->Shared->Prop){Q:β->Shared->Prop}(hstep:∀x r b s,I (x::r) b s->wpAny M A (f x b) (λz s'=>∃b',z=.yield b'/\I r b' s') E s)(hend:∀b s,I [] b s->Q b s):∀(l:List α) (b:β) (s:Shared),I l b s->wpAny M A (forIn l b f) Q E s
 |[],b,s,h=>by
  rw[forIn_nil];exact wpAny_pure (hend b s h)
 |x::r,b,s,h=>by
  rw[forIn_cons];refine wpAny_bind (wpAny_mono (hstep x r b s h) (λz s' h'=>?_) λ_ _ e=>e);obtain⟨b',rfl,h'⟩:=h';exact wpAny_forIn_list I hstep hend r b' s' h'
inductive KeysAre(R:Value->Int->Prop):List Value->List Value->Prop
 |nil:KeysAre R [] []
 |snoc {vs ks:List Value}{v:Value}{i:Int}{t:Tok}(h:KeysAre R vs ks)(r:R v i):KeysAre R (vs++[v]) (ks++[.int i t])
theorem KeysAre.ints{R:Value->Int->Prop}{vs ks:List Value}(h:KeysAre R vs ks):∀k∈ks,∃n t,k=.int n t:=by
 induction h with
 |nil=>intro k hk;cases hk
 |snoc h r ih=>
  intro k hk;rcases mem_append.mp hk with hk|hk
  ·exact ih k hk
  ·exact⟨_,_,mem_singleton.mp hk⟩
theorem KeysAre.len{R:Value->Int->Prop}{vs ks:List Value}(h:KeysAre R vs ks):ks.length=vs.length:=by
 induction h with
 |nil=>rfl
 |snoc h r ih=>rw[length_append,length_append,ih];rfl
def yc:Array Value->Sem SortKind:=sortPriv% PySem.Builtin.keyKind
theorem vy{vs:List Value}(h:¬vs.length < 2):∃v₁ v₂ rest,vs=v₁::v₂::rest:=by
 match vs,h with
 |[],h=>exact absurd (show 0 < 2 by decide) h
 |[_],h=>exact absurd (show 1 < 2 by decide) h
 |v₁::v₂::rest,_=>exact⟨v₁,v₂,rest,rfl⟩
end
end TS
namespace TS
open PySem PyProof.Rows
def pQ(rv:Bool)(f:Addr):List (Str×Value):=(Str.ofString "key",.ref f)::if rv=true then [(Str.ofString "reverse",.bool true)] else []
section
variable {prog:Program}{w:World}{A:Around}{E:Value->Shared->Prop}{s:Shared}
theorem Fz {rv:Bool}{f:Addr}{b:Str×Value->PUnit->Sem (ForInStep PUnit)}{Q:PUnit->Shared->Prop}(h:∀p,p.1=Str.ofString "key" \/p.1=Str.ofString "reverse" ->b p ⟨⟩=pure (.yield ⟨⟩)) (q:Q ⟨⟩ s):wpAny (model prog w) A (forIn (pQ rv f) PUnit.unit b) Q E s:=by
 unfold pQ;rw[forIn_cons,h _ (.inl rfl)];refine wpAny_bind (wpAny_pure ?_);dsimp only;cases rv
 ·rw[if_neg Bool.false_ne_true,forIn_nil]
  exact wpAny_pure q
 ·rw[if_pos rfl,forIn_cons,h _ (.inr rfl)]
  refine wpAny_bind (wpAny_pure ?_);dsimp only;rw[forIn_nil];exact wpAny_pure q
theorem GX{rv:Bool}{f:Addr}{jp:Bool->Sem PySem.Fin}{Q:PySem.Fin->Shared->Prop}(q:wpAny (model prog w) A (jp rv) Q E s):wpAny (model prog w) A (match List.lookup (Str.ofString "reverse") (pQ rv f) with
  |some r=>do
   let reverse <-truthy r
   jp reverse
  |none=>do
   let reverse <-pure false
   jp reverse) Q E s:=by
 have e:(Str.ofString "reverse" == Str.ofString "key")=false:=by decide+kernel
 unfold pQ;rw[lookup_cons,e];cases rv
 ·rw[if_neg Bool.false_ne_true]
  exact wpAny_bind (wpAny_pure q)
 ·rw[if_pos rfl,lookup_cons,beq_self_eq_true]
  exact wpAny_bind (wpAny_of_eq rfl q)
theorem Bf{rv:Bool}{jp:PUnit->Sem PySem.Fin}{Q:PySem.Fin->Shared->Prop}(q:wpAny (model prog w) A (jp ⟨⟩) Q E s):wpAny (model prog w) A (if rv=true then do
   let r <-rule "list.sort.reverse"
   jp r
  else jp ⟨⟩) Q E s:=by
 cases rv with
 |false=>
  rw[if_neg Bool.false_ne_true];exact q
 |true=>
  rw[if_pos rfl];exact wpAny_bind (wpAny_rule q)
theorem srtS{α:Type}{R:α->α->Prop}{l:List α}(h:l.length < 2):l.Pairwise R:=by
 cases l with
 |nil=>exact .nil
 |cons a r=>
  cases r with
  |nil=>exact List.pairwise_singleton _ _
  |cons b t=>exact absurd h (Nat.not_lt.mpr (Nat.le_add_left 2 _))
theorem r6 {rv:Bool}{G:Shared->Prop}{R:Value->Int->Prop}{f a:Addr}{vs:List Value}{n:Nat}{P:Fin->Shared->Prop}(ho:s.heap.get? a=some (seqObj "list" vs.toArray n)) (vl:vs.length<=sizeLine)
  (g0:G { s with heap:=((s.heap.update a (Obj.mapSeq λ_=> #[])).push (seqObj "tuple" vs.toArray 0)).push (seqObj "list" #[] 0) })
  (gu:∀s' g,G s'->G { s' with heap:=s'.heap.update (s.heap.objs.size+1) (Obj.mapSeq g) })
  (gc:∀x∈vs,∀s',G s'->wpAny (model prog w) A (call (.ref f) [x]) (λk s''=>(∃i t,k=.int i t/\R x i)/\G s''/\(∀b o,(b=a\/b=s.heap.objs.size+1)->s'.heap.get? b=some o->s''.heap.get? b=some o)) (λ_ _=>False) s')
  (fin:∀s' (ks:List Value) (arr:Array Keyed),G s'->(∃e,s'.heap.get? a=some (seqObj "list" #[] e))->KeysAre R vs ks->dr intKind arr.toList->cO intKind arr.toList (if rv=true then(ks.zip vs).reverse else ks.zip vs)->P (.done (.ret .none)) { s' with heap:=(s'.heap.update (s.heap.objs.size+1) (Obj.mapSeq λ_=> #[])).update a (Obj.mapSeq λ_=>if rv=true then(arr.map (·.2)).reverse else arr.map (·.2)) }):
  wpAny (model prog w) A (Builtin.«list.sort» ⟨[.ref a],pQ rv f⟩) P E s:=by
 unfold Builtin.«list.sort»;dsimp only[length_cons,List.length_nil];have l0:¬(0+(pQ rv f).length > 2):=by
  cases rv
  ·show ¬(0+1 > 2);decide
  ·show ¬(0+2 > 2);decide
 have l1:List.lookup (Str.ofString "key") (pQ rv f)=some (.ref f):=by
  unfold pQ;rw[lookup_cons];simp
 have l3:(Value.ref f != Value.none)=true:=rfl;rw[if_neg l0,if_neg (by decide),l1];dsimp only[Option.getD];simp only[l3,if_true];have ha:a < s.heap.objs.size:=lt_size ho;refine wpAny_bind (Fz (λp hp=>?_) ?_)
 ·have hk:(p.1 != Str.ofString "key" && p.1 != Str.ofString "reverse")=false:=by
   rcases hp with e|e
   ·rw[e]
    decide+kernel
   ·rw[e]
    decide+kernel
  exact if_neg (by rw[hk];exact Bool.false_ne_true)
 refine GX ?_;refine wpAny_bind (listItems_at ho rfl ?_);refine wpAny_bind (listUpdate_at ho rfl ?_);obtain⟨e1,ho1⟩:∃e1,(s.heap.update a (Obj.mapSeq λ_=> #[])).get? a=some (seqObj "list" #[] e1):=⟨_,get?_update_seq ho (λ_=> #[])⟩;refine wpAny_bind (seqEpoch_at ho1 rfl ?_);refine wpAny_bind (wpAny_newTuple ?_);refine wpAny_bind (wpAny_newList ?_);refine wpAny_holding ?_;have hN:(s.heap.update a (Obj.mapSeq λ_=> #[])).objs.size=s.heap.objs.size:=size_update _ _ _;have hks:((s.heap.update a (Obj.mapSeq λ_=> #[])).push (seqObj "tuple" vs.toArray 0)).objs.size=s.heap.objs.size+1:=by rw[size_push',hN]
 have ho6:(((s.heap.update a (Obj.mapSeq λ_=> #[])).push (seqObj "tuple" vs.toArray 0)).push (seqObj "list" #[] 0)).get? a=some (seqObj "list" #[] e1):=by
  rw[get?_push_ne _ _ _ (by rw[hks];exact ne_of_lt (lt_succ_of_lt ha)),get?_push_ne _ _ _ (by rw[hN];exact ne_of_lt ha)];exact ho1
 have hk6:(((s.heap.update a (Obj.mapSeq λ_=> #[])).push (seqObj "tuple" vs.toArray 0)).push (seqObj "list" #[] 0)).get? (s.heap.objs.size+1)=some (seqObj "list" #[] 0):=by
  rw[<-hks];exact get?_push_size _ rfl
 show wpAny (model prog w) A _ P E { s with heap:=((s.heap.update a (Obj.mapSeq λ_=> #[])).push (seqObj "tuple" vs.toArray 0)).push (seqObj "list" #[] 0) };simp only[hks];generalize hh1:((s.heap.update a (Obj.mapSeq λ_=> #[])).push (seqObj "tuple" vs.toArray 0)).push (seqObj "list" #[] 0)=h1 at g0 ho6 hk6;have hne:s.heap.objs.size+1≠a:=ne_of_gt (lt_succ_of_lt ha);have hsz:vs.toArray.size=vs.length:=size_toArray;refine wpAny_bind (wpAny_rule ?_);rw[List.forIn_toArray];refine wpAny_bind (wpAny_mono (wpAny_forIn_list (I:=λrest _ s'=>∃dn ks e2,vs=dn++rest/\KeysAre R dn ks/\G s'/\s'.heap.get? a=some (seqObj "list" #[] e1)/\s'.heap.get? (s.heap.objs.size+1)=some (seqObj "list" ks.toArray e2))
  (Q:=λ_ s'=>∃ks e2,KeysAre R vs ks/\G s'/\s'.heap.get? a=some (seqObj "list" #[] e1)/\s'.heap.get? (s.heap.objs.size+1)=some (seqObj "list" ks.toArray e2)) ?step ?fin' vs _ _ ⟨[],[],0,rfl,.nil,g0,ho6,hk6⟩) ?post λ_ _ e=>e)
 case fin'=>
  rintro b s' ⟨dn,ks,e2,e,k,g,h1,h2⟩;rw[append_nil]at e;subst e;exact⟨ks,e2,k,g,h1,h2⟩
 case step=>
  rintro x r b s' ⟨dn,ks,e2,e,k,g,h1,h2⟩;have mx:x∈vs:=by rw[e];exact mem_append_right _ mem_cons_self
  have kl:ks.length+1<=vs.length:=by rw[k.len,e,length_append];show _<=_+(_+1);omega
  refine wpAny_bind (wpAny_attempt (wpAny_mono (gc x mx s' g) (λkv s2 h=>?_) λ_ _ h=>False.elim h));obtain⟨⟨i,t,rfl,ri⟩,g2,kp⟩:=h;dsimp only;have hk2:=kp _ _ (.inr rfl) h2;refine wpAny_bind (listUpdate_at hk2 rfl ?_ (by rw[size_toArray];omega) (by rw[Array.size_push,size_toArray];omega));have hk3:=get?_update_seq hk2 (λx=>x.push (.int i t));simp only[List.push_toArray]at hk3;refine wpAny_pure ⟨_,rfl,dn++[x],ks++[.int i t],_,by rw[e,append_assoc];rfl,k.snoc ri,gu _ _ g2,?_,hk3⟩;exact(get?_update_ne _ _ _ _ hne.symm).trans (kp _ _ (.inl rfl) h1)
 case post=>
  rintro _ s' ⟨ks,e2,k,g,h1,h2⟩;have kl:=k.len;refine wpAny_bind (listItems_at h2 rfl ?_);refine Bf ?_;have k2:ks.toArray.size=ks.length:=size_toArray;have zl:(if rv=true then(ks.toArray.zip vs.toArray).reverse else ks.toArray.zip vs.toArray).toList=if rv=true then(ks.zip vs).reverse else ks.zip vs:=by
   cases rv
   ·exact Array.toList_zip
   ·exact(toList_reverse).trans (congrArg List.reverse Array.toList_zip)
  have zn:(if rv=true then(ks.zip vs).reverse else ks.zip vs).length=vs.length:=by
   have e:(ks.zip vs).length=vs.length:=by rw[length_zip,kl,min_self]
   cases rv
   ·exact e
   ·exact length_reverse.trans e
  have al:∀{st':SortSt},cO intKind (arrOf st').toList (if rv=true then(ks.zip vs).reverse else ks.zip vs)->(arrOf st').size=vs.length:=λ{st'} h=>by
   rw[<-length_toList,h.perm.length_eq,zn]
  have sr:∀X:Array Value,(if rv=true then X.reverse else X).size=X.size:=λX=>by
   cases rv
   ·rfl
   ·exact Array.size_reverse
  by_cases c2:vs.toArray.size < 2
  ·rw[if_pos c2]
   refine wpAny_bind (wpAny_pure ?_);rw[if_pos c2,StateT.run_pure];refine wpAny_bind (wpAny_pure ?_);dsimp only;have fz:=fin s' ks (if rv=true then(ks.toArray.zip vs.toArray).reverse else ks.toArray.zip vs.toArray) g ⟨e1,h1⟩ k (by
    rw[zl];have l2':(if rv=true then(ks.zip vs).reverse else ks.zip vs).length < 2:=by rw[zn,<-hsz];exact c2
    exact srtS l2') (by rw[zl];exact cO.refl _)
   refine wpAny_bind (listUpdate_at h2 rfl ?_ (by rw[size_toArray];omega) (by show 0<=_;omega));refine wpAny_bind (wpAny_letGo ?_);have ha2:(s'.heap.update (s.heap.objs.size+1) (Obj.mapSeq λ_=> #[])).get? a=some (seqObj "list" #[] e1):=(get?_update_ne _ _ _ _ hne.symm).trans h1;refine wpAny_bind (seqEpoch_at ha2 rfl ?_);refine wpAny_bind (listUpdate_at ha2 rfl ?_ (by show 0<=_;omega) (by rw[sr,Array.size_map,<-length_toList,zl,zn];omega));simp only[bne_self_eq_false,false_eq_true,if_false];exact wpAny_pure fz
  ·rw[if_neg c2]
   have hkk:yc ks.toArray=pure oneType':=by
    obtain⟨v₁,v₂,rest,e⟩:=vy (vs:=ks) (by rw[kl,<-hsz];exact c2);have:=intsAre_map ks k.ints;rw[e]at this ⊢;exact keyKind_ints this
   refine wpAny_bind (wpAny_of_eq hkk ?_);rw[if_neg c2];refine wpAny_bind (wpAny_mono (pM (κ:=intKind) AR (st:=SortSt.mk' oneType' (if rv=true then(ks.toArray.zip vs.toArray).reverse else ks.toArray.zip vs.toArray) #[] 7 none)
    (Q:=λ_ st'=>failedOf st'=none/\dr intKind (arrOf st').toList/\cO intKind (arrOf st').toList (if rv=true then(ks.zip vs).reverse else ks.zip vs)) rfl rfl rfl (λp hp=>?_) λst' f1 f2 f3=>⟨f1,f2,by rw[<-zl];exact f3⟩) ?_ λ_ _ e=>e)
   ·have hp':p∈ks.zip vs:=by
     have h:p∈(if rv=true then(ks.zip vs).reverse else ks.zip vs):=by rw[<-zl];exact hp
     cases rv
     ·exact h
     ·exact mem_reverse.mp h
    obtain⟨n',t',e'⟩:=k.ints p.1 (of_mem_zip (show(p.1,p.2)∈ks.zip vs from hp')).1;exact⟨n',by rw[e'];rfl⟩
   ·rintro⟨⟨⟩,st'⟩ s2 ⟨rfl,f1,f2,f3⟩
    dsimp only;have fz:=fin s2 ks (arrOf st') g ⟨e1,h1⟩ k f2 f3;refine wpAny_bind (listUpdate_at h2 rfl ?_ (by rw[size_toArray];omega) (by show 0<=_;omega));refine wpAny_bind (wpAny_letGo ?_);have ha2:(s2.heap.update (s.heap.objs.size+1) (Obj.mapSeq λ_=> #[])).get? a=some (seqObj "list" #[] e1):=(get?_update_ne _ _ _ _ hne.symm).trans h1;refine wpAny_bind (seqEpoch_at ha2 rfl ?_);refine wpAny_bind (listUpdate_at ha2 rfl ?_ (by show 0<=_;omega) (by rw[sr];refine le_trans (le_of_eq ((Array.size_map ..).trans (al f3))) ?_;omega));have f1':(sortPriv% PySem.Builtin.SortState.failed) st'=none:=f1;rw[f1'];simp only[bne_self_eq_false,false_eq_true,if_false];exact wpAny_pure fz
end
end TS
namespace TS
open PySem PyProof.Rows
open PySem.SeqAt (EqAt RcAt)
def KN(A:Around)(s:Shared)(x y:Value)(b:Bool):Prop:=
 ∀(prog:Program) (w:World) (E:Value->Shared->Prop) (Q:Value->Shared->Prop),Q (.bool b) s->wpAny (model prog w) A (richCompare .Lt x y) Q E s
def KI(e l:Nat->Bool)(fin:Bool):List Nat->Bool
 |[]=>fin
 |j::r=>if e j=true then KI e l fin r else l j
open AutoSeq1 (wpAny_loadPart')
open MeetsSeq MeetsSeq2 MeetsSeq3 SeqRoads2
def Ai(O P:KeyOrd):KeyOrd where
 α:=O.α×P.α
 blt a b:=O.blt a.1 b.1 || (!O.blt b.1 a.1 && P.blt a.2 b.2)
 irrefl a:=by simp[O.irrefl,P.irrefl]
 trans a b c h1 h2:=by
  simp only[Bool.or_eq_true,and_eq_true,not_eq_true']at *;rcases h1 with h1|⟨h1,h1'⟩<;>rcases h2 with h2|⟨h2,h2'⟩
  ·exact .inl (O.trans _ _ _ h1 h2)
  ·rcases O.negTrans _ c.1 _ h1 with x|x
   ·exact .inl x
   ·rw[h2]at x;cases x
  ·rcases O.negTrans _ a.1 _ h2 with x|x
   ·rw[h1]at x;cases x
   ·exact .inl x
  ·refine .inr ⟨?_,P.trans _ _ _ h1' h2'⟩
   cases hc:O.blt c.1 a.1 with
   |false=>rfl
   |true=>
    rcases O.negTrans _ b.1 _ hc with x|x
    ·rw[h2]at x;cases x
    ·rw[h1]at x;cases x
 negTrans a b c h:=by
  simp only[Bool.or_eq_true,and_eq_true,not_eq_true']at *;rcases h with h|⟨h,h'⟩
  ·rcases O.negTrans _ b.1 _ h with x|x
   ·exact .inl (.inl x)
   ·exact .inr (.inl x)
  ·cases h1:O.blt b.1 a.1 with
   |true=>
    rcases O.negTrans _ c.1 _ h1 with x|x
    ·exact .inr (.inl x)
    ·rw[h]at x;cases x
   |false=>
    cases h2:O.blt c.1 b.1 with
    |true=>
     rcases O.negTrans _ a.1 _ h2 with x|x
     ·rw[h]at x;cases x
     ·exact .inl (.inl x)
    |false=>
     rcases P.negTrans _ b.2 _ h' with x|x
     ·exact .inl (.inr ⟨rfl,x⟩)
     ·exact .inr (.inr ⟨rfl,x⟩)
 total a b h1 h2:=by
  simp only[Bool.or_eq_false_iff,Bool.and_eq_false_iff,Bool.not_eq_false']at *;obtain⟨h1,h1'⟩:=h1;obtain⟨h2,h2'⟩:=h2;have e:=O.total _ _ h1 h2;have e2:=P.total a.2 b.2 (h1'.resolve_left (by rw[h2];exact Bool.false_ne_true)) (h2'.resolve_left (by rw[h1];exact Bool.false_ne_true));exact Prod.ext e e2
def Ad:KeyOrd:=Ai strKind.toKeyOrd (Ai intKind.toKeyOrd strKind.toKeyOrd)
def GG:KeyOrd:=Ai intKind.toKeyOrd (Ai intKind.toKeyOrd (Ai strKind.toKeyOrd Ad))
def cps(x:Str):List Nat:=x.cps.toList
inductive AM(h:Heap)(p:Addr):Ad.α->Prop
 |saw (k:Int) (t u:Tok) (i:h.IsTuple p #[.str "saw" t,.int k u]):AM h p (cps "saw",k,[])
 |heard (k:Int) (z:Str) (t u v:Tok) (i:h.IsTuple p #[.str "heard" t,.int k u,.str z v]):AM h p (cps "heard",k,cps z)
inductive Ik(h:Heap)(p:Addr):GG.α->Prop
 |mk(i j:Int)(z:Str)(q:Addr)(w:Ad.α)(t u v:Tok)(r:h.IsTuple p #[.int i t,.int j u,.str z v,.ref q])(hw:AM h q w):Ik h p (i,j,cps z,w)
section
variable {prog:Program}{w:World}{A:Around}{E:Value->Shared->Prop}{s:Shared}
inductive Li(A:Around)(s:Shared)(p q:Addr)(x y:Ad.α):Prop
 |same (e:EqAt A s (.ref p) (.ref q) true)(h:x=y)
 |other (e:EqAt A s (.ref p) (.ref q) false)(h:x≠y)(l:KN A s (.ref p) (.ref q) (Ad.blt x y))
def JZ(as:List Addr)(g:Addr->GG.α):KeyKind where
 toKeyOrd:=GG
 keyOf v:=match v with
  |.ref a=>if a∈as then some (g a) else none
  |_=>none
 dflt:=((0:Int),(0:Int),([]:List Nat),([]:List Nat),(0:Int),([]:List Nat))
def dv:Value->Addr
 |.ref a=>a
 |_=>0
end
end TS
namespace L2
open PySem PySem.Spec PyProof.Rows
section
variable {X:Cx}
theorem Un.over{fs ex:List Addr}{H H1:Hp}{h h1 h2:Heap}(u:Un fs ex H H1 h h1)(k:∀b,b < h.objs.size->h2.get? b=h1.get? b):Un fs ex H H1 h h2 where
 keep:=λb o q n hb hx=>(k b (lt_size q)).trans (u.keep b o q n hb hx)
 slot:=λb o q n hb hx=>by
  obtain⟨sl,e⟩:=u.slot b o q n hb hx;exact⟨sl,(k b (lt_size q)).trans e⟩
 free:=u.free
 there:=λb o q hx=>by
  obtain⟨o',e⟩:=u.there b o q hx;exact⟨o',(k b (lt_size q)).trans e⟩
 tups:=u.tups
 frzs:=u.frzs
 tbls:=u.tbls
theorem Un.wY{fs ex:List Addr}{H:Hp}{h h1:Heap}{a:Addr}{o:HO}(u:Un fs ex H H h h1)(ha:h.objs.size<=a)(hn:H a=none):Un fs ex H (upd H a o) h h1 where
 keep:=u.keep
 slot:=u.slot
 free:=λb ob q n hx=>by rw[cH (ne_of_lt (lt_of_lt_of_le (lt_size q) ha))];exact n
 there:=u.there
 tups:=λb xs q=>by rw[cH (cE q hn)];exact q
 frzs:=λb ob xs q=>by rw[cH (cE q hn)];exact q
 tbls:=λb ps q=>⟨#[],by rw[cH (cE q hn),q];simp⟩
theorem gw.over{P:Program}{w:World}{H:Hp}{h0 h h':Heap}(x0:gw P w H h0)(x:gw P w H h)(k:∀b,b < h0.objs.size->h'.get? b=h.get? b):gw P w H h':=λa o e=>
 (x a o e).fN (λb u hb q=>(k b (hb.elim (λz=>z ▸ x0.lt e) (λz=>x0.lt z))).trans q) (λ_ q=>q) λ_ _ q=>q
theorem gw.wY{P:Program}{w:World}{H:Hp}{h:Heap}{a:Addr}{o:HO}(x:gw P w H h)(hn:H a=none)(new:dk P w (upd H a o) h a o):gw P w (upd H a o) h:=λb u e=>by
 by_cases hb:b=a
 ·subst hb
  rw[cD]at e;cases e;exact new
 ·rw[cH hb]at e
  exact(x b u e).fN (λc v _ q=>q) (λc q=>by rw[cH (cE q hn)];exact q) λc xs q=>by rw[cH (cE q hn)];exact q
def dv:Value->Addr
 |.ref a=>a
 |_=>0
def zt(g:Addr->Int)(v:Value)(i:Int):Prop:=∃a,v=.ref a/\g a=i
theorem yn{g:Addr->Int}{vs ks:List Value}(h:TS.KeysAre (zt g) vs ks):∀p∈ks.zip vs,TS.key TS.intKind p=g (dv p.2)/\p.2=.ref (dv p.2):=by
 induction h with
 |nil=>intro p hp;cases hp
 |snoc h r ih=>
  intro p hp;rw[List.zip_append h.len]at hp;rcases mem_append.mp hp with hp|hp
  ·exact ih p hp
  ·cases mem_singleton.mp hp
   obtain⟨a,rfl,e⟩:=r;exact⟨e.symm,rfl⟩
theorem xw:∀{as:List Addr}{its:List Value},Vals (as.map V.ref) its->its=as.map Value.ref
 |[],[],_=>rfl
 |[],_::_,h=>by cases h
 |_::_,[],h=>by cases h
 |a::as,v::its,h=>by
  cases h with
  |cons r t=>
   cases r;rw[map_cons,xw t]
theorem ql:∀(as:List Addr),Vals (as.map V.ref) (as.map Value.ref)
 |[]=>.nil
 |a::as=>.cons rfl (ql as)
inductive FA(K:PySem.W.Frag)(sp:Sp)(xs:List V)(H:Hp)(Q:VK):Prop
 |mk(p:Addr)(as:List Addr)(g:Addr->Int)(e:xs=[.ref p])(s:cL K H p (as.map V.ref))(hs:∀a∈as,∀Q':VK,Q' (.int (g a)) H->sp [.ref a] H Q' E0)
   (q:∀(l:Addr)(zs:List Addr),H l=none->zs.Perm as->zs.Pairwise (λa b=>g a<=g b)->(∀i,zs.filter (λa=>decide (g a=i))=as.filter (λa=>decide (g a=i)))->Q (.ref l) (upd H l (.lst (zs.map V.ref))))
structure zC(X:Cx)(x:Str)(sp:Sp):Prop where
 ex:∃(k:Nat) (f:Addr) (fd:FuncData) (ps:List Str),eC X.prog X.w X.K X.mg X.base m9 k f fd ps sp/\dF (k+2) X.A/\X.mg x=some (.ref f)/\Binds X.K fd ps []
 gl:Gl X x
 db:(x == ("__debug__" :Str))=false
theorem Here.Jh {P:Program}{w:World}{K:PySem.W.Frag}{mg:Str->Option Value}{base:Heap}{sc:Scope}{N:List Str}{k j:Nat}{x:Str}{sp:Sp}(h:Here X P w K mg base sc N k) (G:Gd P w K mg base j x sp) (hg:sc.names.lookup x=some .globalImplicit) (hj:j+2<=k) (db:(x == ("__debug__" :Str))=false):zC X x sp:=by
 obtain⟨f,fd,ps,h1,h2,h3,h4⟩:=G.ex;obtain⟨rfl,rfl,rfl,rfl,rfl⟩:=And.intro h.pr (And.intro h.wd (And.intro h.fK (And.intro h.gm h.bs)));exact⟨⟨j,f,fd,ps,h1,h.room.mono hj,h2,h4⟩,h.gl hg,db⟩
end
end L2
namespace J
open PySem PySem.Spec PyProof.Rows
open L2 (Cx V cL cW)
theorem JJ{X:Cx}{c a b:Expr}{pos:Pos}{tA:L2.TT}{ta tb:L2.TE}(hc:JT X c tA)(ha:JE X a ta)(hb:JE X b tb):JE X (.IfExp c a b pos) (L2.LS tA ta tb):=⟨L2.zh hc.out ha.out hb.out⟩
end J
namespace L2
open PySem PySem.Spec PyProof.Rows
section
variable {X:Cx}
inductive Jw(K:PySem.W.Frag)(x y:V)(H:Hp)(Q:Prop):Prop
 |mk(a b:Addr)(xs ys:List V)(hx:x=.ref a)(hy:y=.ref b)(s:cL K H a xs)(t:cL K H b ys)(l:xs.length=ys.length)
   (he:∀(i:Nat) u v,xs[i]? =some u->ys[i]? =some v->∃p q zs,u=.ref p/\v=.ref q/\cW K H p zs/\cW K H q zs/\∀z∈zs,iU z z=some true)(q:Q)
theorem GI{pins:List (Addr×Obj)}{σ:St}{H:Hp}{s:Shared}{A:Around}(hu:A.units+1 < cLine)(I:Inv X pins σ H s){p q:Addr}{zs:List V}(hp:cW X.K H p zs)(hq:cW X.K H q zs)(hz:∀z∈zs,iU z z=some true):SeqAt.EqAt A s (.ref p) (.ref q) true:=by
 by_cases e:p=q
 ·rw[e]
  exact SeqAt.EqAt.same _
 obtain⟨jts,rj,plj,_⟩:=I.tuple hp;obtain⟨jts2,rj2,plj2,_⟩:=I.tuple hq;have m1:=rj.length;have m2:=rj2.length;have inner:=SeqAt.RcAt.tuples (A:=A) (e:=λ_=>true) (show s.heap.IsTuple p jts.toArray from plj) (show s.heap.IsTuple q jts2.toArray from plj2) (by omega) λi k1 k2=>by
  simp only[size_toArray]at k1 k2;obtain⟨x1,f1,r1⟩:=c9 rj k1;obtain⟨x2,f2,r2⟩:=c9 rj2 k2;rw[f1]at f2;cases f2;simp only[getElem_toArray];exact gT r1 r2 (hz _ (mem_of_getElem? f1))
 have sz:jts.toArray.size=jts2.toArray.size:=by simp only[size_toArray];omega
 rw[eS,sz,beq_self_eq_true]at inner;exact SeqAt.EqAt.of_refs e inner
end
end L2
namespace J
open PySem PySem.Spec PyProof.Rows
open L2 (Cx V cL cW)
end J
namespace L2
open PySem PySem.Spec PyProof.Rows
section
variable {X:Cx}
theorem C5{P:Program}{w:World}{z:Str}{v:Value}(h:(cN P w).is (Sum.inr z) v=true):∃t,v=.str z t:=by
 cases v with
 |str x t=>
  have e:x=z:=by simpa [cN,jf,Value.isStrOf] using h
  exact⟨t,by rw[e]⟩
 |_=>simp[cN,jf,Value.isStrOf]at h
theorem wQ:∀{us:List Value}{zs:List Str},us.length=zs.length->(∀(i:Nat) u z,us[i]? =some u->zs[i]? =some z->∃t,u=.str z t)->StrsAre us zs
 |[],[],_,_=>.nil
 |[],_::_,l,_=>by cases l
 |_::_,[],l,_=>by cases l
 |u::us,z::zs,l,h=>by
  obtain⟨t,rfl⟩:=h 0 u z rfl rfl;exact .cons _ _ (wQ (Nat.succ.inj l) λi u z h1 h2=>h (i+1) u z h1 h2)
inductive HV(xs:List V)(H:Hp)(Q:VK):Prop
 |mk(p:Addr)(kvs:List (Key×V))(zs:List Str)(e:xs=[.ref p])(s:H p=some (.dK kvs))(k:kvs.map (·.1)=zs.map Sum.inr)(l:zs.length < 64)(q:∀l zs',H l=none->zs.Nodup->zs'.Perm zs->sortedS zs'=true->Q (.ref l) (upd H l (.lst (zs'.map V.str))))
theorem fP(hc:X.calm=true):eR X (.builtin "sorted") (λxs H Q=>HV xs H Q):=by
 intro pins s σ H xs us Q I r h;obtain⟨p,kvs,zs,rfl,hp,hk,l64,q⟩:=h;obtain⟨u,rfl,rx⟩:=vals1 r;cases rx;obtain⟨kz,hsm,vs,kv,o,es,ep,ho,ed,hdat,kof,prs,nd⟩:=En I.hok hp;have kl:vs.length=zs.length:=by
  have:=congrArg List.length hk;rw[length_map,length_map,kv.length]at this;exact this
 have hsz:sizeLine=16777216:=sizeLine_eq;have zat:∀{j:Nat}{k:Key}{x:Value},vs[j]? =some (k,x)->∃z,zs[j]? =some z/\k=Sum.inr z:=λ{j k x} e=>by
  have e1:(vs.map (·.1))[j]? =some k:=by rw[getElem?_map,e];rfl
  rw[<-kv.keys,hk,getElem?_map]at e1;obtain⟨z,h1,h2⟩:=map_eq_some_iff.mp e1;exact⟨z,h1,h2.symm⟩
 have znd:zs.Nodup:=by
  rw[<-kv.keys,hk]at nd;exact(List.pairwise_map.mp nd).imp λh e=>h (by rw[e])
 refine call_function_entry_kw kind_sorted plain_sorted entry_sorted (args_sorted1 _) ?_;unfold Builtin.«sorted»;refine wpAny_bind (m:=checkCount "sorted" 1 1 _) (wpAny_pure ?_);refine wpAny_bind (PySem.W.kdu_collect (PySem.W.kdl_dict (knd:=cN X.prog X.w) (kvs:=vs) (ep:=ep) hsm) (I.ok.hd hc) ⟨o,es,ho,ed,hdat,kof,prs,nd⟩ (by omega) λh' tk acc kp it=>?_);obtain⟨al,ai⟩:=it;have sa:StrsAre acc.toList zs:=wQ (by rw[length_toList];omega) λi u z h1 h2=>by
  rw[getElem?_toList]at h1;obtain⟨k,x,e1,e2⟩:=ai i u h1;obtain⟨z',e3,rfl⟩:=zat e1;rw[h2]at e3;cases e3;exact C5 e2
 have al':acc.toList.length=zs.length:=by rw[length_toList];omega
 have pl:(h'.push (seqObj "list" acc.toList.toArray 0)).get? h'.objs.size=some (seqObj "list" acc.toList.toArray 0):=get?_push_size _ rfl;refine wpAny_bind (wpAny_newList ?_ (by omega));refine wpAny_bind (wpAny_holding (wpAny_call_entry slot_list_sort ⟨_,pl,rfl⟩ entry_list_sort (list_sort_treeK strKind_oneLt pl sa.keysOf (λv₁ v₂ rest e=>keyKind_strs (e ▸ sa)) (by omega) λst' a1 a2=>?_) (args_list_sort _)));obtain⟨ss',b1,b2,b3⟩:=sorted_out_str sa a1 a2;obtain⟨e,he⟩:=sortedHeap_at (out:=(arrOf st').map (·.2)) pl;have I':Inv X pins σ H { s with heap:=h',toks:=tk }:=I.un (t':=tk) (Un.kept kp) (I.hok.kept kp);refine⟨_,rfl,wpAny_pure ⟨_,rfl,.ref h'.objs.size,_,I'.laid (t':=tk) (o:=.lst (ss'.map V.str)) (λb u hb=>?_) (le_refl _) ⟨by rw[length_map,b2.length_eq];omega,_,e,qp b1,he⟩,rfl,q _ _ (I'.hok.fresh (le_refl _)) znd b2 b3⟩⟩;have lt:=lt_size hb;exact(sortedHeap_old (ne_of_lt lt) (by rw[size_push'];exact lt_succ_of_lt lt)).trans ((get?_push_ne _ _ _ (ne_of_lt lt)).trans hb)
inductive EC(K:PySem.W.Frag)(H:Hp)(z y:V):Prop
 |flat (e:z=y)(f:iU z z=some true)
 |tup (w v:Addr)(ws:List V)(hz:z=.ref w)(hy:y=.ref v)(s:cW K H w ws)(t:cW K H v ws)(f:∀x∈ws,iU x x=some true)
inductive vA(K:PySem.W.Frag)(x y:V)(H:Hp)(Q:Prop):Prop
 |mk(a b:Addr)(xs ys:List V)(hx:x=.ref a)(hy:y=.ref b)(s:cL K H a xs)(t:cL K H b ys)(l:xs.length=ys.length)
   (he:∀(i:Nat) u v,xs[i]? =some u->ys[i]? =some v->∃p q zs ws,u=.ref p/\v=.ref q/\cW K H p zs/\cW K H q ws/\zs.length=ws.length/\∀(j:Nat) z y,zs[j]? =some z->ws[j]? =some y->EC K H z y)(q:Q)
theorem DN{pins:List (Addr×Obj)}{σ:St}{H:Hp}{s:Shared}{A:Around}(hu:A.units+2 < cLine)(I:Inv X pins σ H s){p q:Addr}{zs ws:List V}(hp:cW X.K H p zs)(hq:cW X.K H q ws)(hl:zs.length=ws.length)(hz:∀(j:Nat) z y,zs[j]? =some z->ws[j]? =some y->EC X.K H z y):SeqAt.EqAt A s (.ref p) (.ref q) true:=by
 by_cases e:p=q
 ·rw[e]
  exact SeqAt.EqAt.same _
 obtain⟨jts,rj,plj,_⟩:=I.tuple hp;obtain⟨jts2,rj2,plj2,_⟩:=I.tuple hq;have m1:=rj.length;have m2:=rj2.length;have inner:=SeqAt.RcAt.tuples (A:=A) (e:=λ_=>true) (show s.heap.IsTuple p jts.toArray from plj) (show s.heap.IsTuple q jts2.toArray from plj2) (by omega) λi k1 k2=>by
  simp only[size_toArray]at k1 k2;obtain⟨x1,f1,r1⟩:=c9 rj k1;obtain⟨x2,f2,r2⟩:=c9 rj2 k2;simp only[getElem_toArray];cases hz i x1 x2 f1 f2 with
  |flat e f=>
   subst e;exact gT r1 r2 f
  |tup w v us e1 e2 s1 s2 f=>
   subst e1;subst e2;rw[show jts[i]=.ref w from r1,show jts2[i]=.ref v from r2];exact GI (by show A.units+1+1 < cLine;omega) I s1 s2 f
 have sz:jts.toArray.size=jts2.toArray.size:=by simp only[size_toArray];omega
 rw[eS,sz,beq_self_eq_true]at inner;exact SeqAt.EqAt.of_refs e inner
end
end L2
namespace J
open PySem PySem.Spec PyProof.Rows
open L2 (Cx V cL cW)
theorem fP{X:Cx}(hc:X.calm=true):JF X (.builtin "sorted") (λxs H Q=>L2.HV xs H Q):=⟨L2.fP hc⟩
theorem yR{X:Cx}{N':List Str}{scope:Scope}{cl:List (Str×Addr)}{fp:List Addr}{s3:Shared}{H3:L2.Hp}{C:Addr}:JF (L2.dD X N' scope cl fp s3 H3 C) (.builtin "isinstance") (λxs H Q=>L2.GY X.K xs H Q):=⟨L2.jt⟩
end J
namespace L2
open PySem PySem.Spec PyProof.Rows
section
variable {X:Cx}
inductive Jr(K:PySem.W.Frag)(H:Hp)(z y:V):Prop
 |flat (e:z=y)(f:iU z z=some true)
 |rows (h:Jw K z y H True)
inductive LV(K:PySem.W.Frag)(x y:V)(H:Hp)(Q:VK):Prop
 |same (a b:Addr)(zs ws:List V)(hx:x=.ref a)(hy:y=.ref b)(s:cW K H a zs)(t:cW K H b ws)(l:zs.length=ws.length)(e:∀(j:Nat) z y,zs[j]? =some z->ws[j]? =some y->Jr K H z y)(q:Q (.bl false) H)
end
theorem lS{X:Cx}{e d:Expr}{ty td:TE}{pos:Pos}(hu:X.A.units+1 < cLine)(hi:PE X e ty)(ho:PE X d td)(hm:behindInMarks .NotIn d=false:=by rfl):PE X (.Compare e [.NotIn] [d] pos) (n5 ty td):=zr (qF hu hi ho) hm
end L2
namespace J
open PySem PySem.Spec PyProof.Rows
open L2 (Cx V cL cW TE)
theorem lS{X:Cx}{e d:Expr}{ty td:TE}{pos:Pos}(hu:X.A.units+1 < cLine)(hi:JE X e ty)(ho:JE X d td)(hm:behindInMarks .NotIn d=false:=by rfl):JE X (.Compare e [.NotIn] [d] pos) (L2.n5 ty td):=⟨L2.lS hu hi.out ho.out hm⟩
end J
namespace L2
open PySem PySem.Spec PyProof.Rows
section
variable {X:Cx}
theorem pN(rv:Bool)(a:Value)(f:Addr):argsOk "sorted" ⟨[a],TS.pQ rv f⟩:=by cases rv<;>(unfold argsOk;kernel_rfl)
theorem p6(rv:Bool)(a:Value)(f:Addr):argsOk "list.sort" ⟨[a],TS.pQ rv f⟩:=by cases rv<;>(unfold argsOk;kernel_rfl)
inductive Dq(K:PySem.W.Frag)(rv:Bool)(sp:Sp)(xs:List V)(H:Hp)(Q:VK):Prop
 |mk(p:Addr)(as:List Addr)(g:Addr->Int)(e:xs=[.ref p])(s:cL K H p (as.map V.ref))(hs:∀a∈as,∀Q':VK,Q' (.int (g a)) H->sp [.ref a] H Q' E0)
   (q:∀(l:Addr)(ys:List Addr),H l=none->ys.Perm as->ys.Pairwise (λa b=>g a<=g b)->(∀i,ys.filter (λa=>decide (g a=i))=(if rv=true then as.reverse else as).filter (λa=>decide (g a=i)))->Q (.ref l) (upd H l (.lst ((if rv=true then ys.reverse else ys).map V.ref))))
theorem oE{rv:Bool}{k:Nat}{f:Addr}{fd:FuncData}{ps:List Str}{sp:Sp}(F:eC X.prog X.w X.K X.mg X.base m9 k f fd ps sp)(hr:dF (k+2) X.A)(hb:Binds X.K fd ps []){pins:List (Addr×Obj)}{s:Shared}{σ:St}{H:Hp}{xs:List V}{us:List Value}{Q:VK}
  (I:Inv X pins σ H s)(r:Vals xs us)(h:Dq X.K rv sp xs H Q):wpAny (model X.prog X.w) X.A (call (.builtin "sorted") us (TS.pQ rv f)) (EP X pins σ Q) X.xe s:=by
 obtain⟨p,as,g,rfl,hq,hs,q⟩:=h;obtain⟨u,rfl,rx⟩:=vals1 r;cases rx;obtain⟨its,rvl,pl,hz⟩:=I.list hq;obtain rfl:=xw rvl;rw[length_map]at hz;refine call_function_entry_kw kind_sorted plain_sorted entry_sorted (pN _ _ _) ?_;unfold Builtin.«sorted»;refine wpAny_bind (m:=checkCount "sorted" 1 1 _) (wpAny_pure ?_);refine wpAny_bind (collect_list pl.isList ?_);refine wpAny_bind (wpAny_newList ?_);have hsz:((s.heap.push (seqObj "list" #[] 0)).update s.heap.objs.size (Obj.mapSeq (· ++(as.map Value.ref).toArray))).objs.size=s.heap.objs.size+1:=by
  rw[size_update,size_push']
 have hoL:(((s.heap.push (seqObj "list" #[] 0)).update s.heap.objs.size (Obj.mapSeq (· ++(as.map Value.ref).toArray))).push (seqObj "list" (as.map Value.ref).toArray 0)).get? (s.heap.objs.size+1)=some (seqObj "list" (as.map Value.ref).toArray 0):=by
  rw[<-hsz];exact get?_push_size _ rfl
 show wpAny _ _ _ _ _ { s with heap:=((s.heap.push (seqObj "list" #[] 0)).update s.heap.objs.size (Obj.mapSeq (· ++(as.map Value.ref).toArray))).push (seqObj "list" (as.map Value.ref).toArray 0) };rw[hsz];have hold:∀b,b < s.heap.objs.size->(((s.heap.push (seqObj "list" #[] 0)).update s.heap.objs.size (Obj.mapSeq (· ++(as.map Value.ref).toArray))).push (seqObj "list" (as.map Value.ref).toArray 0)).get? b=s.heap.get? b:=λb hb=>by
  rw[get?_push_ne _ _ _ (by rw[hsz];exact ne_of_lt (lt_succ_of_lt hb)),get?_update_ne _ _ _ _ (ne_of_lt hb),get?_push_ne _ _ _ (ne_of_lt hb)]
 have hs2:(((s.heap.push (seqObj "list" #[] 0)).update s.heap.objs.size (Obj.mapSeq (· ++(as.map Value.ref).toArray))).push (seqObj "list" (as.map Value.ref).toArray 0)).objs.size=s.heap.objs.size+2:=by rw[size_push',hsz]
 generalize ((s.heap.push (seqObj "list" #[] 0)).update s.heap.objs.size (Obj.mapSeq (· ++(as.map Value.ref).toArray))).push (seqObj "list" (as.map Value.ref).toArray 0)=h2 at hoL hold hs2;have na:H (s.heap.objs.size+1)=none:=I.hok.fresh (le_succ _);have nk:H (h2.objs.size+1)=none:=I.hok.fresh (by rw[hs2];omega);have nfr:∀b,s.heap.objs.size<=b->b ∉ i5 X.stack:=λb hb hm=>by
  obtain⟨_,o,e,_⟩:=I.stack.mem hm;exact absurd (lt_size e) (Nat.not_lt.mpr hb)
 refine wpAny_bind (wpAny_holding (wpAny_call_entry_kw slot_list_sort ⟨_,hoL,rfl⟩ entry_list_sort (TS.r6 (rv:=rv) (R:=zt g)
  (G:=λs'=>s'.os=s.os/\AllBare s'.gens/\Un (i5 X.stack) [] H H s.heap s'.heap/\gw X.prog X.w H s'.heap) hoL (by rw[length_map];exact hz) ?g0 ?gu ?gc ?fin) (p6 _ _ _)))
 case g0=>
  have k:∀b,b < s.heap.objs.size->(((h2.update (s.heap.objs.size+1) (Obj.mapSeq λ_=> #[])).push (seqObj "tuple" (as.map Value.ref).toArray 0)).push (seqObj "list" #[] 0)).get? b=s.heap.get? b:=λb hb=>by
   rw[get?_push_ne _ _ _ (ne_of_lt (by rw[size_push',size_update,hs2];omega)),get?_push_ne _ _ _ (ne_of_lt (by rw[size_update,hs2];omega)),get?_update_ne _ _ _ _ (ne_of_lt (by omega)),hold b hb]
  exact⟨rfl,I.bare,Un.refl.over k,gw.over I.hok I.hok k⟩
 case gu=>
  rintro s' gg ⟨os,bare,un,hok⟩;have k:∀b,b < s.heap.objs.size->(s'.heap.update (h2.objs.size+1) (Obj.mapSeq gg)).get? b=s'.heap.get? b:=λb hb=>get?_update_ne _ _ _ _ (ne_of_lt (by rw[hs2];omega));exact⟨os,bare,un.over k,gw.over I.hok hok k⟩
 case gc=>
  rintro v hv s' ⟨os,bare,un,hok⟩;obtain⟨a,ha,rfl⟩:=mem_map.mp hv;have I':Inv X pins σ H s':=I.tF (ch:=[]) os un hok bare (λb z=>by cases z);have hq':=hs a ha (λv H'=>v=.int (g a)/\H'=H) ⟨rfl,rfl⟩;have hl:([Value.ref a]++([]:List Value)).length=ps.length:=F.len _ _ _ _ hq';refine wpAny_call (codeAny_mono (F.run X.A.in1.in1 X.stack s' H ⟨[.ref a],[]⟩ [.ref a] [.ref a] _ E0 hr.in1.in1 I'.Du.in1.in1 (hb s' [.ref a] I'.iw hl) (.cons rfl .nil) hq') λrr s2 hh=>?_);cases rr with
  |error e=>exact False.elim hh
  |ok fl=>
   cases fl with
   |next=>exact False.elim hh
   |brk=>exact False.elim hh
   |cont=>exact False.elim hh
   |ret u=>
    obtain⟨v,H',os2,bare2,un2,hok2,rv2,rfl,rfl⟩:=hh;obtain⟨t,rfl⟩:=rv2;refine⟨⟨_,t,rfl,a,rfl,rfl⟩,⟨os2.trans os,bare2,un.trans un2,hok2⟩,λb o hb hg=>?_⟩;rcases hb with rfl|rfl
    ·exact un2.keep _ _ hg na (nfr _ (le_succ _)) (λz=>by cases z)
    ·exact un2.keep _ _ hg nk (nfr _ (by rw[hs2];omega)) (λz=>by cases z)
 case fin=>
  rintro s' ks arr ⟨os,bare,un,hok⟩ ⟨e1,hae⟩ kk BW stb;refine⟨_,rfl,wpAny_pure ⟨_,rfl,?_⟩⟩;have km:=yn kk;have mz:∀p:Keyed,p∈(if rv=true then(ks.zip (as.map Value.ref)).reverse else ks.zip (as.map Value.ref))->p∈ks.zip (as.map Value.ref):=λp hp=>by
   cases rv
   ·exact hp
   ·exact mem_reverse.mp hp
  have am:∀p∈arr.toList,TS.key TS.intKind p=g (dv p.2)/\p.2=.ref (dv p.2):=λp hp=>km p (mz p (stb.mem.mp hp));have zs0:(ks.zip (as.map Value.ref)).map (λp=>dv p.2)=as:=by
   have e1:(λp:Keyed=>dv p.2)=dv ∘ Prod.snd:=rfl;rw[e1,<-map_map,List.map_snd_zip (by rw[kk.len];exact le_refl _),map_map];exact List.map_id _
  have zsnd:(if rv=true then(ks.zip (as.map Value.ref)).reverse else ks.zip (as.map Value.ref)).map (λp=>dv p.2)=if rv=true then as.reverse else as:=by
   cases rv
   ·exact zs0
   ·exact List.map_reverse.trans (congrArg List.reverse zs0)
  have hzs:(if rv=true then(arr.map (·.2)).reverse else arr.map (·.2)).toList=(if rv=true then(arr.toList.map λp=>dv p.2).reverse else arr.toList.map λp=>dv p.2).map Value.ref:=by
   have e:(arr.map (·.2)).toList=(arr.toList.map λp=>dv p.2).map Value.ref:=by
    rw[Array.toList_map,map_map];exact map_congr_left λp hp=>(am p hp).2
   cases rv
   ·exact e
   ·exact toList_reverse.trans ((congrArg List.reverse e).trans List.map_reverse.symm)
  have perm:(arr.toList.map λp=>dv p.2).Perm as:=by
   have:=stb.perm.map (λp:Keyed=>dv p.2);rw[zsnd]at this;cases rv
   ·exact this
   ·exact this.trans (List.reverse_perm as)
  have pw:(arr.toList.map λp=>dv p.2).Pairwise (λa b=>g a<=g b):=by
   rw[List.pairwise_map];refine List.Pairwise.imp_of_mem (λ{x y} hx hy hxy=>?_) BW;have h':TS.intKind.blt (TS.key TS.intKind y) (TS.key TS.intKind x)=false:=hxy;rw[(am x hx).1,(am y hy).1]at h';have h2':decide (g (dv y.2) < g (dv x.2))=false:=h';rw[decide_eq_false_iff_not]at h2';omega
  have flt:∀(l:List Keyed),(∀p∈l,TS.key TS.intKind p=g (dv p.2))->∀i:Int,(l.map λp=>dv p.2).filter (λa=>decide (g a=i))=(TS.fk TS.intKind i l).map λp=>dv p.2:=λl hl i=>by
   rw[filter_map]
   congr 1
   refine List.filter_congr λp hp=>?_;show decide (g (dv p.2)=i)=(!TS.intKind.blt (TS.key TS.intKind p) i && !TS.intKind.blt i (TS.key TS.intKind p));rw[hl p hp];show decide (g (dv p.2)=i)=(!decide (g (dv p.2) < i) && !decide (i < g (dv p.2)));rw[Bool.eq_iff_iff,and_eq_true,not_eq_true',not_eq_true',decide_eq_true_iff,decide_eq_false_iff_not,decide_eq_false_iff_not];omega
  have fl:∀i:Int,(arr.toList.map λp=>dv p.2).filter (λa=>decide (g a=i))=(if rv=true then as.reverse else as).filter (λa=>decide (g a=i)):=λi=>by
   have e2:=flt _ (λp hp=>(km p (mz p hp)).1) i;rw[zsnd]at e2;rw[flt arr.toList (λp hp=>(am p hp).1) i,e2,stb i]
  have hkne:s.heap.objs.size+1≠h2.objs.size+1:=ne_of_lt (by rw[hs2];omega);have hae2:(s'.heap.update (h2.objs.size+1) (Obj.mapSeq λ_=> #[])).get? (s.heap.objs.size+1)=some (seqObj "list" #[] e1):=(get?_update_ne _ _ _ _ hkne).trans hae;have hend:=get?_update_seq hae2 (λ_=>if rv=true then(arr.map (·.2)).reverse else arr.map (·.2));have k:∀b,b < s.heap.objs.size->((s'.heap.update (h2.objs.size+1) (Obj.mapSeq λ_=> #[])).update (s.heap.objs.size+1) (Obj.mapSeq λ_=>if rv=true then(arr.map (·.2)).reverse else arr.map (·.2))).get? b=s'.heap.get? b:=λb hb=>by
   rw[get?_update_ne _ _ _ _ (ne_of_lt (by omega)),get?_update_ne _ _ _ _ (ne_of_lt (by rw[hs2];omega))]
  refine⟨.ref (s.heap.objs.size+1),_,I.tF (ch:=[]) os ((un.over k).wY (le_succ _) na) ((gw.over I.hok hok k).wY na ?_) bare (λb z=>by cases z),rfl,q _ _ na perm pw fl⟩;have pl':=perm.length_eq;have pl2:(if rv=true then(arr.toList.map λp=>dv p.2).reverse else arr.toList.map λp=>dv p.2).length=as.length:=by
   cases rv
   ·exact pl'
   ·exact length_reverse.trans pl'
  have hz2:(if rv=true then(arr.map (·.2)).reverse else arr.map (·.2))=((if rv=true then(arr.toList.map λp=>dv p.2).reverse else arr.toList.map λp=>dv p.2).map Value.ref).toArray:=by rw[<-hzs]
  obtain⟨e3,he3⟩:∃e3,((s'.heap.update (h2.objs.size+1) (Obj.mapSeq λ_=> #[])).update (s.heap.objs.size+1) (Obj.mapSeq λ_=>if rv=true then(arr.map (·.2)).reverse else arr.map (·.2))).get? (s.heap.objs.size+1)=some (seqObj "list" (if rv=true then(arr.map (·.2)).reverse else arr.map (·.2)) e3):=⟨_,hend⟩;refine⟨by rw[length_map,pl2];exact hz,_,e3,ql _,he3.trans ?_⟩;rw[hz2]
theorem BO {x:Str}{sp:Sp}{e:Expr}{t:TA}{j:Nat}{p p2 p3 kpos kpos2 pos:Pos}(B:Bt X "sorted") (C:zC X x sp) (ha:PA X [e] t) (he:starEach [e] X.env=[(false,eval e X.env)]):
  PE X (.Call (.Name "sorted" p) [e] [⟨some "key",.Name x p2,kpos⟩,⟨some "reverse",.Constant (.bool true) j p3,kpos2⟩] pos) (λσ H Q=>t σ H λxs H1=>Dq X.K true sp xs H1 Q):=by
 intro pins s σ H Q I h;obtain⟨k,f,fd,ps,F,hr,nm,hb⟩:=C.ex;refine wpAny_Call_Name_kw (j4 I B.gl B.nm jy ?_ B.hn B.db);refine callWith_kw (di (ha pos pins s σ H _ I h) λus s1 hpat=>?_) (by rw[he];rfl) (by rw[he];rfl);obtain⟨vs,H1,I1,r,q⟩:=hpat;refine kws_cons (iI I1 C.gl nm (kws_cons (di (Af (b:=true) pins s1 σ H1 (λv H'=>v=.bl true/\H'=H1) I1 ⟨rfl,rfl⟩) λu s2 hp2=>?_)) C.db);obtain⟨v,H',I2,rv,rfl,rfl⟩:=hp2;cases rv;exact kws_nil (oE (rv:=true) F hr hb I2 r q)
theorem Gz{K:PySem.W.Frag}{sp:Sp}{xs:List V}{H:Hp}{Q:VK}(h:FA K sp xs H Q):Dq K false sp xs H Q:=by
 obtain⟨p,as,g,e,s,hs,q⟩:=h;exact⟨p,as,g,e,s,hs,λl ys h1 h2 h3 h4=>q l ys h1 h2 h3 h4⟩
theorem zw {x:Str}{sp:Sp}{e:Expr}{t:TA}{p p2 kpos pos:Pos}(B:Bt X "sorted") (C:zC X x sp) (ha:PA X [e] t) (he:starEach [e] X.env=[(false,eval e X.env)]):
  PE X (.Call (.Name "sorted" p) [e] [⟨some "key",.Name x p2,kpos⟩] pos) (λσ H Q=>t σ H λxs H1=>FA X.K sp xs H1 Q):=by
 intro pins s σ H Q I h;obtain⟨k,f,fd,ps,F,hr,nm,hb⟩:=C.ex;refine wpAny_Call_Name_kw (j4 I B.gl B.nm jy ?_ B.hn B.db);refine callWith_kw (di (ha pos pins s σ H _ I h) λus s1 hpat=>?_) (by rw[he];rfl) (by rw[he];rfl);obtain⟨vs,H1,I1,r,q⟩:=hpat;exact kws_cons (iI I1 C.gl nm (kws_nil (oE (rv:=false) F hr hb I1 r (Gz q))) C.db)
end
end L2
namespace J
open PySem PySem.Spec PyProof.Rows
open L2 (Cx V cL cW)
theorem Jy {X:Cx}{x:Str}{sp:L2.Sp}{e:Expr}{t:L2.TA}{j:Nat}{p p2 p3 kpos kpos2 pos:Pos}(B:L2.Bt X "sorted") (C:L2.zC X x sp) (ha:JA X [e] t) (h:L2.notStar e=true:=by rfl):
  JE X (.Call (.Name "sorted" p) [e] [⟨some "key",.Name x p2,kpos⟩,⟨some "reverse",.Constant (.bool true) j p3,kpos2⟩] pos) (λσ H Q=>t σ H λxs H1=>L2.Dq X.K true sp xs H1 Q):=⟨L2.BO B C ha.out (L2.cR h)⟩
theorem HA {X:Cx}{o e:Expr}{apos cpos:Pos}{td ty:L2.TE}(hu:X.A.units+1 < cLine) (ho:JE X o td) (he:JE X e ty) (h:∀v,attributeBase o "get" X.env v=v:=by intro _;rfl) (h1:L2.notStar e=true:=by rfl) (hline:(apos.endLine == cpos.line)=true:=by rfl):JE X (.Call (.Attribute o "get" apos) [e] [] cpos) (L2.BR td ty):=
 ⟨L2.zQ hu ho.out he.out ⟨h _,Hj h1,hline,by rw[L2.cR h1];rfl⟩⟩
theorem IM {X:Cx}{x:Str}{sp:L2.Sp}{e:Expr}{t:L2.TA}{p p2 kpos pos:Pos}(B:L2.Bt X "sorted") (C:L2.zC X x sp) (ha:JA X [e] t) (h:L2.notStar e=true:=by rfl):
  JE X (.Call (.Name "sorted" p) [e] [⟨some "key",.Name x p2,kpos⟩] pos) (λσ H Q=>t σ H λxs H1=>L2.FA X.K sp xs H1 Q):=⟨L2.zw B C ha.out (L2.cR h)⟩
end J
namespace L2
open PySem PySem.Spec PyProof.Rows
def Mn(d:Addr)(o:Obj)(kvs:List (Key×V)):It:=⟨λi H=>H d=some (.frz o (.dK kvs))/\i < kvs.length,λi H x H'=>H'=H/\∃z y,kvs[i]? =some (Sum.inr z,y)/\x=.str z,λi H=>H d=some (.frz o (.dK kvs))/\kvs.length<=i⟩
inductive Hz(x:V)(H:Hp)(R:It->Hp->Prop):Prop
 |mk(d:Addr)(kvs:List (Key×V))(e:x=.ref d)(r:Rd H d (.dK kvs))(sk:∀kv∈kvs,∃z,kv.1=Sum.inr z)(q:∀(o:Obj)(H':Hp),(∀b,b≠d->H' b=H b)->H' d=some (.frz o (.dK kvs))->R (Mn d o kvs) H')
def Mh(tl:TE):TI:=λσ H R=>tl σ H λx H1=>Hz x H1 R
section
variable {X:Cx}{tg:Expr}
end
end L2
namespace J
open PySem PySem.Spec PyProof.Rows L2
section
variable {X:Cx}{tg e:Expr}{te:TE}
end
end J
namespace L2
open PySem PySem.Spec PyProof.Rows
section
variable {X:Cx}
inductive Me(K:PySem.W.Frag)(H:Hp)(q:Addr):Prop
 |saw (k:Int) (s:cW K H q [.str "saw",.int k])
 |heard (k:Int) (z:Str) (s:cW K H q [.str "heard",.int k,.str z])
inductive Mo(K:PySem.W.Frag)(H:Hp)(a:Addr):Prop
 |mk(i j:Int)(z:Str)(q:Addr)(s:cW K H a [.int i,.int j,.str z,.ref q])(w:Me K H q)
inductive MH(K:PySem.W.Frag)(xs:List V)(H:Hp)(Q:VK):Prop
 |mk(p:Addr)(as:List Addr)(e:xs=[.ref p])(s:cL K H p (as.map V.ref))(hs:∀a∈as,Mo K H a)
   (q:∀(l:Addr)(ys:List Addr),H l=none->ys.Perm as->Q (.ref l) (upd H l (.lst (ys.map V.ref))))
end
end L2
namespace J
open PySem L2
end J
namespace L2
open PySem PySem.Spec PyProof.Rows
structure EA(P:Program)(w:World)(outer:List Env)(H H':Hp)(s:Shared)(ea:Addr)(cls:Value)(B:Heap)(s':Shared):Prop where
 os:s'.os=s.os
 bare:AllBare s'.gens
 un:Un (i5 outer) [] H H' s.heap s'.heap
 hok:gw P w H' s'.heap
 tr:∀b o,H' b≠none->s'.heap.get? b=some o->B.get? b=some o
 kp:∀b o,s.heap.get? b=some o->H b=none->b ∉ i5 outer->B.get? b=some o
 th:∀b o,s.heap.get? b=some o->b ∉ i5 outer->∃o',B.get? b=some o'
 fl:∃a0,Heap.FlyingW B outer ea cls a0 s'.heap
def D1(P:Program)(w:World):zf:=λouter H s E e s'=>∃ea cls B H',e=.ref ea/\EA P w outer H H' s ea cls B s'/\E cls none H'
section
variable {P:Program}{w:World}{outer:List Env}{H H':Hp}{s s':Shared}{ea:Addr}{cls:Value}{B:Heap}
theorem EA.on(F:EA P w outer H H' s ea cls B s'){h':Heap}(st:B.StaysIn h')(up:s'.heap.UpToSlots h')(fr:∀b o,s.heap.get? b=some o->b∈i5 outer->H b=none->∀vs,o.data≠.fields vs)(frH:∀b∈i5 outer,H b=none):Un (i5 outer) [] H H' s.heap h'/\gw P w H' h':=by
 have slot:∀b o,s.heap.get? b=some o->H b=none->b∈i5 outer->∃sl,h'.get? b=some { o with slots:=sl }:=λb o e n m=>by
  obtain⟨sl,h1⟩:=F.un.slot b o e n m (by simp);obtain⟨sl2,h2⟩:=up b _ h1 (fr b o e m n);exact⟨sl2,h2⟩
 refine⟨⟨λb o e n m _=>st _ _ (F.kp b o e n m),λb o e n m _=>slot b o e n m,F.un.free,λb o e _=>?_,F.un.tups,F.un.frzs,F.un.tbls⟩,λa o e=>?_⟩
 ·by_cases m:b∈i5 outer
  ·obtain⟨sl,h⟩:=slot b o e (frH b m) m
   exact⟨_,h⟩
  ·obtain⟨o',h⟩:=F.th b o e m
   exact⟨o',st _ _ h⟩
 ·refine(F.hok a o e).fN (λb u hb q=>st _ _ (F.tr b u ?_ q)) (λ_ q=>q) λ_ _ q=>q
  rcases hb with rfl|hb
  ·rw[e];exact λz=>by cases z
  ·rw[hb];exact λz=>by cases z
theorem EA.new(F:EA P w outer H H' s ea cls B s'):H' ea=none:=by
 cases q:H' ea with
 |none=>rfl
 |some o=>
  obtain⟨a0,_,n,_,T⟩:=F.fl;exfalso;obtain⟨oe,_,_,_,_,he,_⟩:=T;have:=F.tr ea oe (by rw[q];exact λz=>by cases z) he;rw[n]at this;cases this
end
theorem dk.there{P:Program}{w:World}{H:Hp}{h:Heap}{a:Addr}{o:HO}(x:dk P w H h a o):∃ob,h.get? a=some ob:=by
 cases o with
 |lst xs=>obtain⟨_,_,_,_,e⟩:=x;exact⟨_,e⟩
 |tup xs=>obtain⟨_,_,_,ob,e,_⟩:=x;exact⟨_,e⟩
 |dK kvs=>obtain⟨_,_,_,_,o,_,_,e,_⟩:=x;exact⟨_,e⟩
 |dT kvs=>obtain⟨_,_,_,_,o,_,_,e,_⟩:=x;exact⟨_,e⟩
 |set S n=>obtain⟨o,_,_,_,e,_⟩:=x;exact⟨_,e⟩
 |ins C dx fs=>obtain⟨_,_,_,e,_⟩:=x;exact⟨_,e⟩
 |own y=>exact x
 |xd fs=>obtain⟨_,⟨_,_,_,e,_⟩,_⟩:=x;exact⟨_,e⟩
 |rng lo hi=>obtain⟨_,_,_,e⟩:=x;exact⟨_,e⟩
 |frz ob u=>exact⟨_,x.1⟩
 |tbl ps=>exact⟨_,(show h.get? a=some _ from x)⟩
 |met f y=>exact⟨_,(show h.get? a=some _ from x)⟩
 |ext φ=>exact x.2.1
theorem vQ{P:Program}{w:World}{K:PySem.W.Frag}{mg:Str->Option Value}{base:Heap}{N:List Str}{qual:Str}{scope:Scope}{f:Addr}{cd:Value}{A:Around}{outer:List Env}{s s1:Shared}{H H1:Hp}{E:XK}{pins:List (Addr×Obj)}{σ:St}{ea:Addr}{cls:Value}{args:List Value}{h':Heap}
  (I:Inv (nj (D1 P w) P w K mg base N qual scope f cd A outer s H E) pins σ H1 s1)(hx:Heap.MadeExcOf s1.heap h' ea cls args)(hE:E cls none H1):(nj (D1 P w) P w K mg base N qual scope f cd A outer s H E).xe (.ref ea) { s1 with heap:=h' }:=by
 have stk:=I.stack;have sfr:=I.kC;have Lt:∀b o,s.heap.get? b=some o->b≠s.heap.objs.size:=λb o e z=>by
  have:=lt_size e;rw[z]at this;exact lt_irrefl _ this
 have inS:∀b o,s.heap.get? b=some o->b ∉ i5 outer->b ∉ i5 (envOfC qual scope s.heap.objs.size f cd::outer):=λb o e n m=>by
  rcases mem_filterMap.mp m with ⟨env,he,hf⟩
  rcases mem_cons.mp he with rfl|he
  ·exact Lt b o e (Option.some.inj hf).symm
  ·exact n (mem_filterMap.mpr ⟨env,he,hf⟩)
 have upS:∀b,b∈i5 outer->b∈i5 (envOfC qual scope s.heap.objs.size f cd::outer):=λb m=>by
  obtain⟨env,he,hf⟩:=mem_filterMap.mp m;exact mem_filterMap.mpr ⟨env,.tail _ he,hf⟩
 refine wpAny_leaves_madeW (s:={ s1 with heap:=h' }) (base:=hideAll s1.heap (i5 (envOfC qual scope s.heap.objs.size f cd::outer))) (h:=s1.heap) I.ok.frames rfl (λb o e=>of_hideAll _ e) (PySem.W.funFrames_hide stk λenv he a hf=>mem_filterMap.mpr ⟨env,he,hf⟩) hx λh2 t x1 x2 x3 x4=>?_;have hid:∀b o,s1.heap.get? b=some o->b ∉ i5 (envOfC qual scope s.heap.objs.size f cd::outer)->(hideAll s1.heap (i5 (envOfC qual scope s.heap.objs.size f cd::outer))).get? b=some o:=λb o e n=>PySem.W.hideAll_get _ e n;generalize hideAll s1.heap (i5 (envOfC qual scope s.heap.objs.size f cd::outer))=B at x1 x3 hid;have st:B.StaysIn h2:=x1.1;have b0:Un (i5 outer) [] H H1 s.heap s1.heap:=I.base;have slot:∀b o,s.heap.get? b=some o->H b=none->b∈i5 outer->∃sl,h2.get? b=some { o with slots:=sl }:=λb o e n m=>by
  obtain⟨sl,h1⟩:=b0.slot b o e n m (by simp);obtain⟨_,of,hof,hd⟩:=stk.mem (upS b m);rw[h1]at hof;cases hof;obtain⟨sl2,h3⟩:=x4 b _ (hx.keeps _ _ h1) hd;exact⟨sl2,h3⟩
 have kp:∀b o,s.heap.get? b=some o->H b=none->b ∉ i5 outer->B.get? b=some o:=λb o e n m=>hid b o (b0.keep b o e n m (by simp)) (inS b o e m);have th:∀b o,s.heap.get? b=some o->b ∉ i5 outer->∃o',B.get? b=some o':=λb o e m=>by
  obtain⟨o',h1⟩:=b0.there b o e (by simp);exact⟨o',hid b o' h1 (inS b o e m)⟩
 have trB:∀b o,H1 b≠none->s1.heap.get? b=some o->B.get? b=some o:=λb o n e=>hid b o e λm=>n (sfr b m);have exi:∀b,H1 b≠none->∃o,s1.heap.get? b=some o:=λb n=>by
  cases q:H1 b with
  |none=>exact absurd q n
  |some u=>exact(I.hok b u q).there
 have frz:∀b,b∈i5 outer->∀o,s.heap.get? b=some o->H b=none:=λb m o e=>I.ok.frf b m;refine⟨ea,cls,B,H1,rfl,⟨I.os,I.bare,⟨λb o e n m _=>st _ _ (kp b o e n m),λb o e n m _=>slot b o e n m,b0.free,λb o e _=>?_,b0.tups,b0.frzs,b0.tbls⟩,λa o e=>?_,λb o n e=>?_,kp,th,⟨_,x1⟩⟩,hE⟩
 ·by_cases m:b∈i5 outer
  ·obtain⟨sl,h⟩:=slot b o e (frz b m o e) m
   exact⟨_,h⟩
  ·obtain⟨o',h⟩:=th b o e m
   exact⟨o',st _ _ h⟩
 ·refine(I.hok a o e).fN (λb u hb q=>st _ _ (trB b u ?_ q)) (λ_ q=>q) λ_ _ q=>q
  rcases hb with rfl|hb
  ·rw[e];exact λz=>by cases z
  ·rw[hb];exact λz=>by cases z
 ·obtain⟨o1,h1⟩:=exi b n
  have h2':=st _ _ (trB b o1 n h1);have e':h2.get? b=some o:=e;rw[h2']at e';cases e';exact trB b _ n h1
def qN:List Str:=["__init__", "__getattribute__", "__getattr__", "__class__"]
def q0:List Value:=[.type "ValueError",.type "Exception",.type "BaseException",.type "object"]
structure iZ(K:PySem.W.Frag)(C:Addr)(bm:List Value):Prop where
 ex:∃(nm q:Str) (N:Addr) (bs:List Value) (hdct:Bool) (sn:List Str) (sub:List Value) (ab:Bool) (col:Option Bool) (dd:Option Addr) (k0 k1 k2 k3 k5:Option Value),
  K.lookup C=some (excClassObj nm q C N bs bm hdct sn sub ab col dd k0 k1 k2 k3 k5 "ValueError.__new__")/\nsOkIn K N=true/\(∀n∈qN,nsIn K N n=some none)/\tailIn K q0 bm=true
theorem CN{K:PySem.W.Frag}{h h':Heap}{N:Addr}{m:Str->Option Value}(X:K.In h)(X':K.In h')(ok:nsOkIn K N=true)(n:h.Ns N m):h'.Ns N m:=by
 unfold nsOkIn at ok;split at ok
 ·rename_i ho
  obtain⟨o,es,ep,e,r⟩:=n;have:=X _ _ ho;rw[e]at this;cases this;exact⟨_,es,ep,X' _ _ ho,r⟩
 ·cases ok
section
variable {X:Cx}
theorem Ar{x:Str}{C:Addr}{bm:List Value}{e₀:Expr}{rest:List Expr}{t:TA}{np cpos pos:Pos}(hx:PE X (.Name x np) (tC (.ref C)))(O:iZ X.K C bm)(hc:X.calm=true)(ha:PA X (e₀::rest) t)(E':Hp->Prop)
  (xe:∀pins σ H s,Inv X pins σ H s->E' H->∀h' ea args,Heap.MadeExcOf s.heap h' ea (.ref C) args->X.xe (.ref ea) { s with heap:=h' })
  (he:starEach (e₀::rest) X.env=(false,eval e₀ X.env)::starEach rest X.env:=by rfl)(hplain:(backTo cpos (starEach rest X.env)).any (·.1)=false:=by rfl):
  PS X (.Raise (some (.Call (.Name x np) (e₀::rest) [] cpos)) none pos) (λ_ σ H=>t σ H λvs H1=>vs.length<=sizeLine/\E' H1):=by
 intro pins s σ H D I h;obtain⟨nm,q,N,bs,hdct,sn,sub,ab,col,dd,k0,k1,k2,k3,k5,lk,hok,hni,ht⟩:=O.ex;have T:=tail_of_in I.iw ht;have ns0:s.heap.Ns N (s.heap.nsMap N):=.of_isNs (isNs_of_in I.iw hok);refine wpAny_Raise_call_subT (C:=C) (nm:=nm) (q:=q) (N:=N) (bs:=bs) (bm:=bm) (hdct:=hdct) (sn:=sn) (sub:=sub) (ab:=ab) (col:=col) (dd:=dd) (k0:=k0) (k1:=k1) (k2:=k2) (k3:=k3) (k5:=k5)
  excBase_ValueError (mN:=s.heap.nsMap N) (T.hasType excBase_ValueError.hasBase) (I.ok.hd hc) (by rw[he];show(false || (backTo cpos (starEach rest X.env)).any (·.1))=false;rw[hplain];rfl) (nsMap_none_of_in I.iw hok (hni _ (.head _)))
  (di (hx pins s σ H (λv H1=>v=.ref C/\H1=H) I ⟨rfl,rfl⟩) λu s1 ⟨v,H1,I1,r,hv,hH⟩=>?_)
 subst hv hH;cases r;refine⟨rfl,?_⟩;have h2:=ha cpos pins s1 σ H1 _ I1 h;rw[he]at h2 ⊢;exact Calls.evalArgs_plain (wpAny_mono h2 (λus s2 ⟨vs,H2,I2,r2,l2,e2⟩=>⟨rfl,by rw[<-r2.length];exact l2,I2.iw _ _ lk,CN I.iw I2.iw hok ns0,tail_of_in I2.iw ht,λh' ea hm=>xe pins σ H2 s2 I2 e2 h' ea _ hm⟩) λ_ _ y=>y)
end
theorem yU{X:Cx}{pins:List (Addr×Obj)}{σ:List (Option V)}{H:Hp}{s:Shared}{M:Model}{A:Around}{E:Value->Shared->Prop}{i:Nat}{x:Str}{v:V}{Q:Unit->Shared->Prop}(I:Inv X pins σ H s)(hN:X.N.Nodup)(hi:X.N[i]? =some x)(hk:X.env.kindOf x=some .local)(hv:σ[i]? =some (some v))
  (h:∀s',Inv X pins (σ.set i none) H s'->Q () s'):wpAny M A (unbindName X.env x) Q E s:=by
 obtain⟨m,hn,hl⟩:=id I.loc;have hcls:(X.env.scope.kind == .class || (X.env.scope.kind == .module && X.env.locals != X.env.globals))=false:=by rw[I.ok.kind];rfl
 have hiσ:i < σ.length:=by rw[I.len];exact(List.getElem?_eq_some_iff.mp hi).1
 have Bn:=I.Bn;have tracked:∀{a:Addr}{h':Heap},(∃o,s.heap.get? a=some o/\H a=none)->Heap.SameBut a s.heap h'->gw X.prog X.w H h':=λ{a h'} ha hs b ob e=>by
  obtain⟨_,_,hfree⟩:=ha;refine(I.hok b ob e).fN (λc w' hc q=>(hs.2 c ?_).trans q) (λ_ q=>q) λ_ _ q=>q;rintro rfl;rcases hc with rfl|hc
  ·rw[hfree]at e;cases e
  ·rw[hfree]at hc;cases hc
 obtain⟨u,r,q⟩:=hl i x v hi hv (.inl hk);obtain⟨mv,hmv⟩:∃mv,m x=some mv:=by
  rcases q with ⟨_,e⟩|⟨k,_⟩
  ·exact⟨_,e⟩
  ·rw[hk]at k
   rcases k with k|k<;>cases k
 refine wpAny_unbindName_local hk hn hmv hcls λh' u' hn' hs=>?_;obtain⟨oL,_,_,hoL,_⟩:=id hn;refine h _ ⟨I.ok,I.os,I.bare,⟨λb o e n hb hx=>?_,λb o e n hb hx=>?_,I.base.free,λb o e hx=>?_,I.base.tups,I.base.frzs,I.base.tbls⟩,⟨_,hn',λj y v' e1 e2 e3=>?_⟩,λy c e=>?_,I.free,I.freeC,λp hp=>?_,tracked ⟨oL,hoL,I.free⟩ hs,by simpa using I.len⟩
 ·exact(hs.2 b (ne_of_lt (lt_of_lt_of_le (lt_size e) I.ok.above))).trans (I.base.keep b o e n hb hx)
 ·obtain⟨sl,e1⟩:=I.base.slot b o e n hb hx
  exact⟨sl,(hs.2 b (ne_of_lt (lt_of_lt_of_le (lt_size e) I.ok.above))).trans e1⟩
 ·obtain⟨o',e1⟩:=I.base.there b o e hx
  exact⟨o',(hs.2 b (ne_of_lt (lt_of_lt_of_le (lt_size e) I.ok.above))).trans e1⟩
 ·by_cases hj:j=i
  ·subst hj
   rw[getElem?_set_self hiσ]at e2;cases e2
  ·rw[List.getElem?_set_ne (Ne.symm hj)]at e2
   obtain⟨u',r',q⟩:=hl j y v' e1 e2 e3;refine⟨u',r',?_⟩;rcases q with ⟨k,e⟩|⟨k,c,e,z⟩
   ·refine .inl ⟨k,?_⟩
    have:y≠x:=λe=>hj (o9 hN e1 (e ▸ hi));simp[this,e]
   ·exact .inr ⟨k,c,e,z.sameBut hs (Bn y c e)⟩
 ·obtain⟨w',z⟩:=I.cell y c e
  exact⟨w',z.sameBut hs (Bn y c e)⟩
 ·obtain⟨e,n,ne,nf,d⟩:=I.pin p hp
  exact⟨(hs.2 p.1 ne).trans e,n,ne,nf,d⟩
theorem za{M:Model}{A:Around}{E:Value->Shared->Prop}{h:Heap}{g:Array GenState}{d:Drawn}{t:Nat}{os:OsState}{e C D:Addr}{oe:Obj}{Q:Bool->Shared->Prop}
  {nm q:Str}{N:Addr}{bs bm:List Value}{hdct:Bool}{sn:List Str}{sub:List Value}{ab:Bool}{col:Option Bool}{dd:Option Addr}{k0 k1 k2 k3 k5:Option Value}{newId:String}
  {nm' q':Str}{N':Addr}{bs' bm':List Value}{hdct':Bool}{sn':List Str}{sub':List Value}{ab':Bool}{col':Option Bool}{dd':Option Addr}{k0' k1' k2' k3' k5':Option Value}{newId':String}
  (hC:h.get? C=some (excClassObj nm q C N bs bm hdct sn sub ab col dd k0 k1 k2 k3 k5 newId)) (hD:h.get? D=some (excClassObj nm' q' D N' bs' bm' hdct' sn' sub' ab' col' dd' k0' k1' k2' k3' k5' newId')) (he:h.get? e=some oe) (hcls:oe.cls=.ref C)
  (hbase:(Value.ref D::bm').contains (.type "BaseException")=true) (hsub:(Value.ref C::bm).contains (.ref D)=true) (hq:Q true ⟨h,g,d,t,os⟩):wpAny M A (excMatches (.ref e) (.ref D)) Q E ⟨h,g,d,t,os⟩:=by
 have f:=tc_notTuple;unfold excMatches
 repeat (first| (with_reducible refine wpAny_loadPart_at he ?_;rw[hcls])|with_reducible refine wpAny_loadPart_at hD ?_|with_reducible refine wpAny_loadPart_at hC ?_| (with_reducible refine wpAny_isSubtype_exc hD ?_;rw[hbase])| (with_reducible refine wpAny_isSubtype_exc hC ?_;rw[hsub])|wp_step)
 exact hq
theorem PS.qU{X:Cx}{st:Stmt}{t:TS}(h:PS X.qU st t):PS X st t:=λpins s σ H D I hw=>
 wpAny_mono (h pins s σ H D (I.kJ _) hw) (λ_ _ q=>q.fE) λ_ _ z=>False.elim z
theorem PA.qU{X:Cx}{es:List Expr}{t:TA}(h:PA X.qU es t):PA X es t:=λpos pins s σ H Q I hw=>
 wpAny_mono (h pos pins s σ H Q (I.kJ _) hw) (λ_ _ ⟨v,H',I',r,q⟩=>⟨v,H',I'.fE,r,q⟩) λ_ _ z=>False.elim z
structure Fh(P:Program)(w:World)(K:PySem.W.Frag)(mg:Str->Option Value)(base:Heap)(k:Nat)(x:Str)(sp:Sp):Prop where
 ex:∃(f:Addr) (fd:FuncData) (ps:List Str),eC P w K mg base (D1 P w) k f fd ps sp/\mg x=some (.ref f)/\keepIn K (.ref f)=true/\Binds K fd ps []
def D6(ea C:Addr):Heap->Prop:=λh=>∃ob,h.get? ea=some ob/\ob.cls=.ref C
inductive XP(X:Cx)(pins:List (Addr×Obj))(σ:St)(E:XK)(e:Value)(s':Shared):Prop
 |mk(H H':Hp)(s:Shared)(ea:Addr)(cls:Value)(B:Heap)(I:Inv X pins σ H s)(he:e=.ref ea)(F:EA X.prog X.w X.stack H H' s ea cls B s')(q:E cls none H')
def Kz(X:Cx)(st:List Stmt)(t:XK->TS):Prop:=∀(pins:List (Addr×Obj)) (s:Shared) (σ:St) (H:Hp) (D:Ends) (E:XK),Inv X pins σ H s->t E D σ H->wpAny (model X.prog X.w) X.A (execs st X.env) (SP X pins D) (XP X pins σ E) s
section
variable {X:Cx}
theorem Aa{st:Stmt}{Q:Flow->Shared->Prop}{M:Model}{A:Around}{E:Value->Shared->Prop}{s:Shared}{env:Env}(h:wpAny M A (exec st env) Q E s):wpAny M A (execs [st] env) Q E s:=by
 refine wpAny_execs_cons (di h λf s1 q=>?_);cases f with
 |next=>exact wpAny_execs_nil q
 |ret v=>exact q
 |brk=>exact q
 |cont=>exact q
theorem Aq{k:Nat}{f:Addr}{fd:FuncData}{ps:List Str}{sp:Sp}{x:Str}{e:Expr}{es:List Expr}{t:TA}{p pos epos:Pos}(F:eC X.prog X.w X.K X.mg X.base (D1 X.prog X.w) k f fd ps sp)(hr:dF k X.A)(hg:Gl X x)(hm:X.mg x=some (.ref f))(hk:keepIn X.K (.ref f)=true)(hb:Binds X.K fd ps [])
  (ha:PA X.qU (e::es) t) (hdb:(x == ("__debug__" :Str))=false:=by decide) (he:starEach (e::es) X.env=(false,eval e X.env)::starEach es X.env:=by rfl) (hpl:(backTo pos (starEach es X.env)).any (·.1)=false:=by rfl):
  Kz X [.Expr (.Call (.Name x p) (e::es) [] pos) epos] (λE=>qz (o6 sp [] E t)):=by
 intro pins s σ H D E I h;refine Aa (wpAny_Expr_any (di (Q:=EP X pins σ λ_ H1=>D.nx σ H1) ?_ λv s1 ⟨x,H1,I1,r1,q1⟩=>⟨σ,H1,I1,q1⟩) I.quiet (ja rfl));refine wpAny_Call_Name_kw (iI I hg hm ?_ hdb);refine callWith_K (h₀:=X.base) I.ok.mod.kin hk (wpAny_mono (ha pos pins s σ H _ (I.kJ _) h) (λus s1 ⟨vs,H1,I1,r,q⟩=>⟨I1.iw,?_⟩) λ_ _ z=>False.elim z) he hpl;have r2:Vals (vs++[]) (us++[]):=r.append .nil;have hl:(us++[]).length=ps.length:=by rw[<-r2.length];exact F.len _ _ _ _ q
 have I1':=I1.fE;refine wpAny_call (codeAny_mono (F.run X.A X.stack s1 H1 ⟨us,[]⟩ (us++[]) (vs++[]) _ E hr I1'.Du (hb s1 us I1'.iw hl) r2 q) λr s' hq=>?_);cases r with
 |error e=>
  obtain⟨ea,cls,B,H',rfl,fl,hE⟩:=hq;exact⟨H1,H',s1,ea,cls,B,I1',rfl,fl,hE⟩
 |ok fl=>
  cases fl with
  |ret u=>exact I1'.after hq
  |next=>exact False.elim hq
  |brk=>exact False.elim hq
  |cont=>exact False.elim hq
abbrev Cx.mk'(X:Cx)(e:Value):Cx:={ X with A:=X.A.mark (some e),calm:=false,xe:=λ_ _=>False }
theorem Inv.mark{pins:List (Addr×Obj)}{σ:St}{H:Hp}{s:Shared}(I:Inv X pins σ H s)(e:Value):Inv (X.mk' e) pins σ H s:=
 ⟨⟨I.ok.mod,I.ok.kind,I.ok.glob,I.ok.blt,I.ok.above,I.ok.inj,I.ok.has,I.ok.cab,(λz=>nomatch z),I.ok.frames,I.ok.stk,I.ok.exf,I.ok.bs,I.ok.bsz,I.ok.noex,I.ok.exfs,I.ok.lA,I.ok.frf⟩,I.os,I.bare,I.base,I.loc,I.cell,I.free,I.freeC,I.pin,I.hok,I.len⟩
theorem Inv.unmark{pins:List (Addr×Obj)}{σ:St}{H:Hp}{s:Shared}{e:Value}(I:Inv (X.mk' e) pins σ H s)(ok:X.Ok):Inv X pins σ H s:=⟨ok,I.os,I.bare,I.base,I.loc,I.cell,I.free,I.freeC,I.pin,I.hok,I.len⟩
end
section
variable {X:Cx}
theorem EA.Bv{pins:List (Addr×Obj)}{σ:St}{H H':Hp}{s s':Shared}{ea C:Addr}{B:Heap}(I:Inv X pins σ H s)(F:EA X.prog X.w X.stack H H' s ea (.ref C) B s'){h':Heap}{a0:Value}(fl:Heap.FlyingW B X.stack ea (.ref C) a0 h')(up:s'.heap.UpToSlots h'):
  Inv X pins σ H' { s' with heap:=h' }/\Inv X pins σ (upd H' ea (.ext (D6 ea C))) { s' with heap:=h' }:=by
 obtain⟨un,hok⟩:=F.on fl.1 up (λb o e m n=>by
  obtain⟨_,o',ho,hd⟩:=I.stack.mem m;rw[e]at ho;cases ho;exact hd) I.kC
 have nw:=F.new;have nb:s.heap.get? ea=none:=by
  cases q:s.heap.get? ea with
  |none=>rfl
  |some o=>
   exfalso
   by_cases m:ea∈i5 X.stack
   ·obtain⟨_,o',ho,hd⟩:=I.stack.mem m
    rw[q]at ho;cases ho;obtain⟨sl,h1⟩:=un.slot ea o q (I.kC ea m) m (by simp);obtain⟨oe,ws,_,_,_,he,_,hd',_⟩:=fl.2.2.2;rw[h1]at he;cases he;exact hd _ hd'
   ·obtain⟨o',h1⟩:=F.th ea o q m
    rw[fl.2.1]at h1;cases h1
 obtain⟨ob,hob,hc⟩:=fl.there;refine⟨I.tF (ch:=[]) F.os un hok F.bare (λb z=>by cases z),I.tF (ch:=[]) F.os ⟨un.keep,un.slot,λb o q n hx=>?_,un.there,λb xs q=>?_,λb o u q=>?_,λb ps q=>?_⟩ (gw.wY hok nw ⟨⟨ob,hob,hc⟩,⟨ob,hob⟩,λh1 h2 ⟨o,ho,hc⟩ k=>⟨o,k o ho,hc⟩⟩) F.bare (λb z=>by cases z)⟩
 ·rw[cH (λz=>by rw[z,nb]at q;cases q)]
  exact un.free b o q n hx
 ·have:=un.tups b xs q
  rw[cH (cE this nw)];exact this
 ·have:=un.frzs b o u q
  rw[cH (cE this nw)];exact this
 ·obtain⟨m,this⟩:=un.tbls b ps q
  exact⟨m,by rw[cH (cE this nw)];exact this⟩
end
section
variable {X:Cx}
inductive IS(X:Cx)(Ck:Addr)(i j:Nat)(D:Ends)(σ:St)(cls:Value)(H':Hp):Prop
 |mk(C:Addr)(bm:List Value)(e:cls=.ref C)(O:iZ X.K C bm)(sub:(Value.ref C::bm).contains (.ref Ck)=true)(q:∀ea,H' ea=none->D.nx (((σ.set i (some (.ref ea))).set j (some (.ref ea))).set i none) (upd H' ea (.ext (D6 ea C))))
theorem E2{body:List Stmt}{tb:XK->TS}{xk n er:Str}{Ck:Addr}{bk:List Value}{i j:Nat}{kp ep np apos hpos pos:Pos}(hb:Kz X body tb)(stk:X.stack=X.env::X.outer/\X.env.frame=some X.env.locals)(hg:Gl X xk)(hm:X.mg xk=some (.ref Ck))(O:iZ X.K Ck bk)(nd:X.N.Nodup)
  (Sn:Slot X i n) (Sr:Slot X j er) (ij:i≠j) (hl:X.env.scope.names.lookup n=some .local) (hdb:(xk == ("__debug__" :Str))=false):
  PS X (.Try body [.ExceptHandler (some (.Name xk kp)) (some n) [.Assign [.Name er ep] (.Name n np) apos] hpos] [] [] pos) (λD σ H=>tb (λcls _ H'=>IS X Ck i j D σ cls H') D σ H):=by
 intro pins s σ H D I h;refine wpAny_Try_except (wpAny_mono (hb pins s σ H D _ I h) (λf s1 q=>?_) λe s1 q=>?_)
 ·cases f with
  |next=>exact wpAny_execs_nil q
  |ret v=>exact q
  |brk=>exact q
  |cont=>exact q
 obtain⟨H1,H',s0,ea,cls,B,I0,rfl,F,C,bm,rfl,OC,sub,q⟩:=q;obtain⟨a0,hfl⟩:=F.fl;rw[stk.1]at hfl;refine wpAny_looks_onW (I0.ok.frames.trans (congrArg some stk.1)) stk.2 hfl λh4 held4 up4=>?_;refine wpAny_landsW held4 λh5 fl5 up5=>?_;have up45:=up4.trans up5;rw[<-stk.1]at fl5;obtain⟨I5,_⟩:=F.Bv I0 fl5 up45;obtain⟨nmC,qC,NC,bsC,hdC,snC,subC,abC,colC,ddC,c0,c1,c2,c3,c5,lkC,_⟩:=OC.ex;obtain⟨nmK,qK,NK,bsK,hdK,snK,subK,abK,colK,ddK,d0,d1,d2,d3,d5,lkK,_,_,htK⟩:=O.ex;obtain⟨oe,hoe,hoc⟩:=fl5.there;have hbK:(Value.ref Ck::bk).contains (.type "BaseException")=true:=by
  have:=(tail_of_in I5.iw htK).hasType excBase_ValueError.hasBase;rw[List.contains_cons,this,Bool.or_true]
 refine wpAny_handleBy_cons (codeAny_handlers_test (iI (I5.mark (.ref ea)) hg hm ?_ hdb)) (by intro q;cases q);refine za (I5.iw _ _ lkC) (I5.iw _ _ lkK) hoe hoc hbK sub (codeAny_handlers_suite_as ?_);refine lands_againW (s:={ s1 with heap:=h5 }) fl5 λh6 fl6 up6=>?_;obtain⟨_,I6⟩:=F.Bv I0 fl6 (up45.trans up6);have nw:=F.new;refine lK (X:=X.mk' (.ref ea)) (I6.mark (.ref ea)) nd Sn.hN Sn.lc (v:=.ref ea) rfl (λs7 I7=>?_) Sn.fn;have il:i < σ.length:=by rw[I0.len];exact(List.getElem?_eq_some_iff.mp Sn.hN).1
 have as:=jw (Slot.set (X:=X.mk' (.ref ea)) (pos':=ep) (pos:=apos) ⟨Sr.hN,Sr.lc,Sr.fn,Sr.db,Sr.cd⟩ nd (Slot.rd (X:=X.mk' (.ref ea)) (p:=np) ⟨Sn.hN,Sn.lc,Sn.fn,Sn.db,Sn.cd⟩)) pins s7 _ _ { nx:=λσ' H2=>σ'=(σ.set i (some (.ref ea))).set j (some (.ref ea))/\H2=upd H' ea (.ext (D6 ea C)),rt:=λ_ _=>False } I7 ⟨.ref ea,getElem?_set_self il,rfl,rfl⟩;refine wpAny_mono as (λf s8 h8=>?_) λ_ _ z=>False.elim z;cases f with
 |next=>
  obtain⟨σ',H2,I8,rfl,rfl⟩:=h8;have I8':=I8.unmark I0.ok;refine wpAny_bind (wpAny_bindName (lK I8' nd Sn.hN Sn.lc (v:=.non) rfl (λs9 I9=>?_) Sn.fn));refine wpAny_onRaise (yU I9 nd Sn.hN hl (v:=.non) (by rw[getElem?_set_self (by rw[length_set,length_set];exact il)]) λs10 I10=>?_);refine⟨_,_,I10,?_⟩;have qq:=q ea nw;rw[List.set_set];exact qq
 |ret v=>
  obtain⟨_,_,_,_,_,z⟩:=h8;exact z.elim
 |brk=>
  obtain⟨_,_,_,z⟩:=h8;exact z.elim
 |cont=>
  obtain⟨_,_,_,z⟩:=h8;exact z.elim
end
section
variable {prog:Program}{w:World}{A:Around}{E:Value->Shared->Prop}{h:Heap}{g:Array GenState}{d:Drawn}{t:Nat}{os:OsState}{a:Addr}{o:Obj}{vs:Array Value}
structure ER(h:Heap)(C Kc:Addr):Prop where
 ex:∃(nm q:Str) (N:Addr) (bs:List Value) (hdct:Bool) (sn:List Str) (sub:List Value) (ab:Bool) (col:Option Bool) (dd:Option Addr) (k0 k1 k2 k3 k5:Option Value) (newId:String) (mN:Str->Option Value),
  h.get? C=some (excClassObj nm q C N bs (.ref Kc::q0) hdct sn sub ab col dd k0 k1 k2 k3 k5 newId)/\h.Ns N mN/\∀n∈qN,mN n=none
 ek:∃(nm q:Str) (N:Addr) (bs:List Value) (hdct:Bool) (sn:List Str) (sub:List Value) (ab:Bool) (col:Option Bool) (dd:Option Addr) (k0 k1 k2 k3 k5:Option Value) (newId:String) (mN:Str->Option Value),
  h.get? Kc=some (excClassObj nm q Kc N bs q0 hdct sn sub ab col dd k0 k1 k2 k3 k5 newId)/\h.Ns N mN/\∀n∈qN,mN n=none
theorem jM {M:Model}{C Kc:Addr}{n:Str}{y:Option Value}{Q:Option Value->Shared->Prop}(T:ER h C Kc) (hn:n∈qN) (hB:typeLookup (.type "ValueError") n=pure y) (hq:Q y ⟨h,g,d,t,os⟩):wpAny M A (typeLookup (.ref C) n) Q E ⟨h,g,d,t,os⟩:=by
 obtain⟨nm,q,N,bs,hdct,sn,sub,ab,col,dd,k0,k1,k2,k3,k5,newId,mN,hC,hN,hz⟩:=T.ex;obtain⟨nm',q',N',bs',hdct',sn',sub',ab',col',dd',k0',k1',k2',k3',k5',newId',mN',hC',hN',hz'⟩:=T.ek;have hrest:lookupAlong q0 n=pure y:=by
  have hB':=hB;rw[typeLookup_eq,excBase_ValueError.mroIs]at hB';exact hB'
 rw[typeLookup_eq];refine wpAny_bind (wpAny_mroOf_exc hC ?_);rw[lookupAlong_cons];refine wpAny_bind (wpAny_classOwn_exc hC hN ?_);rw[hz n hn];dsimp only;rw[lookupAlong_cons];refine wpAny_bind (wpAny_classOwn_exc hC' hN' ?_);rw[hz' n hn];dsimp only;rw[hrest];exact wpAny_pure hq
end
section
open PySem.F
variable {prog:Program}{w:World}{A:Around}{E:Value->Shared->Prop}{h:Heap}{g:Array GenState}{d:Drawn}{t:Nat}{os:OsState}{a C Kc:Addr}{o:Obj}
theorem uq:typeLookup (.type "ValueError") "__class__" =pure (some (.builtin "object.__class__")):=by rw[typeLookup_type,builtinLookup_eq_fast];kernel_rfl
theorem Fe{R:Result->Shared->Prop}(T:ER h C Kc)(hx:h.get? a=some o)(hc:o.cls=.ref C)(hq:R (.ok (.ret (.ref C))) ⟨h,g,d,t,os⟩):
  codeAny (model prog w) A (.call (.builtin "getset_descriptor.__get__") ⟨[.builtin "object.__class__",.ref a,.ref C],[]⟩) R ⟨h,g,d,t,os⟩:=by
 obtain⟨nm,q,N,bs,hdct,sn,sub,ab,col,dd,k0,k1,k2,k3,k5,newId,mN,hC,hN,hz⟩:=T.ex;have hT5:(⟨h,g,d,t,os⟩:Shared).TypeIs (.builtin "object.__class__") "getset_descriptor" :=typeOf_object_class;have hcB:(Value.ref C::Value.ref Kc::q0).contains (.type (".".intercalate ("object.__class__".cutAt '.').dropLast))=true:=by
  rw[owner_object_class];unfold q0;simp
 refine codeAny_call_builtin slot_gs_get.plain entry_gs_get (slot_gs_get.check _ _ _ _ _ _ _ _ hT5 (args_gs_get _ _ _) ?_)
 repeat (any_goals (first|assumption| (with_reducible refine wpAny_loadPart_at hx ?_;rw[hc])| (with_reducible refine wpAny_isSubtype_exc hC ?_;rw[hcB])|wp_step))
 refine⟨Code.quiet_builtin _ (by decide+kernel),codeAny_builtin entry_object_class ?_⟩;unfold Builtin.«object.__class__»
 repeat (any_goals (first|assumption| (with_reducible refine wpAny_loadPart_at hx ?_;rw[hc])|wp_step))
theorem AJ{tk:Tok}{Q:Fin->Shared->Prop}(T:ER h C Kc)(hx:h.get? a=some o)(hc:o.cls=.ref C)(hq:Q (.done (.ret (.ref C))) ⟨h,g,d,t,os⟩):
  wpAny (model prog w) A (Builtin.«object.__getattribute__» ⟨[.ref a,.str "__class__" tk],[]⟩) Q E ⟨h,g,d,t,os⟩:=by
 have hT5:(⟨h,g,d,t,os⟩:Shared).TypeIs (.builtin "object.__class__") "getset_descriptor" :=typeOf_object_class;have f5:=typeOf_object_class;have f6:=slot_gs_get.lookup;have f7:=slot_gs_set.lookup;have hmA:("__class__" :Str)∈qN:=.tail _ (.tail _ (.tail _ (.head _)))
 repeat (any_goals (first|assumption| (with_reducible refine wpAny_loadPart_at hx ?_;rw[hc])|with_reducible refine jM T hmA uq ?_|wp_step))
 refine Fe T hx hc ?_
 repeat (any_goals (first|assumption|wp_step))
theorem Ah{M:Model}{oI:Value}{Q:Unit->Shared->Prop}(T:ER h C Kc)(hx:h.get? a=some o)(hc:o.cls=.ref C)(hq:Q () ⟨h,g,d,t,os⟩):wpAny M A (checkBuiltinCall "BaseException.__getattribute__" ⟨[.ref a,oI],[]⟩) Q E ⟨h,g,d,t,os⟩:=by
 obtain⟨nm,q,N,bs,hdct,sn,sub,ab,col,dd,k0,k1,k2,k3,k5,newId,mN,hC,hN,hz⟩:=T.ex;have hk:builtinKind "BaseException.__getattribute__" =some .slot:=by decide+kernel
 have hsplit:splitId "BaseException.__getattribute__" =some ("BaseException", "__getattribute__"):=by decide+kernel
 have hcB:(Value.ref C::Value.ref Kc::q0).contains (.type "BaseException")=true:=by
  unfold q0;simp
 have ha:=args_bexc_ga (.ref a) oI;simp only[checkBuiltinCall,hk,hsplit];refine wpAny_bind ?_
 ·unfold isInstance
  repeat (first| (with_reducible refine wpAny_loadPart_at hx ?_;rw[hc])| (with_reducible refine wpAny_isSubtype_exc hC ?_;rw[hcB])|wp_step)
  exact hq
theorem Ie{tk:Tok}{Q:Value->Shared->Prop}(T:ER h C Kc)(hx:h.get? a=some o)(hc:o.cls=.ref C)(hq:Q (.ref C) ⟨h,g,d,t,os⟩):
  wpAny (model prog w) A (getAttrBy (.ref a) (.str "__class__" tk) false) Q E ⟨h,g,d,t,os⟩:=by
 have f3:=attrBase_ValueError.ga.bind (.ref a);have hx2:(Value.builtin "BaseException.__getattribute__" == Value.builtin "object.__getattribute__")=false:=by decide+kernel
 have hx1:(onTheHeap (Value.ref C) && Value.builtin "BaseException.__getattribute__" == Value.builtin "object.__getattribute__")=false:=by rw[hx2];rfl
 have hm1:("__getattribute__" :Str)∈qN:=.tail _ (.head _);have hm2:("__getattr__" :Str)∈qN:=.tail _ (.tail _ (.head _))
 repeat (any_goals (first|assumption| (with_reducible refine wpAny_loadPart_at hx ?_;rw[hc])|with_reducible refine jM T hm1 attrBase_ValueError.ga.lookup ?_|with_reducible refine jM T hm2 attrBase_ValueError.noGetattr ?_|wp_step))
 refine codeAny_call_builtin attrBase_ValueError.ga.plain entry_bexc_ga (Ah T hx hc (AJ T hx hc ?_))
 repeat (any_goals (first|assumption|wp_step))
theorem DI{Q:Option Value->Shared->Prop}(T:ER h C Kc)(hx:h.get? a=some o)(hc:o.cls=.ref C)(hq:Q (some (.ref C)) ⟨h,g,d,t+1,os⟩):wpAny (model prog w) A (getAttr? (.ref a) "__class__") Q E ⟨h,g,d,t,os⟩:=by
 unfold getAttr? getAttrBy?
 repeat (any_goals (first|assumption|with_reducible apply Ie T hx hc|wp_step))
end
theorem vy{K:PySem.W.Frag}{h:Heap}{C Kc:Addr}(X:K.In h)(OC:iZ K C (.ref Kc::q0))(OK:iZ K Kc q0):ER h C Kc:=by
 obtain⟨nm,q,N,bs,hdct,sn,sub,ab,col,dd,k0,k1,k2,k3,k5,lk,hok,hni,ht⟩:=OC.ex;obtain⟨nm',q',N',bs',hdct',sn',sub',ab',col',dd',k0',k1',k2',k3',k5',lk',hok',hni',ht'⟩:=OK.ex;exact⟨⟨nm,q,N,bs,hdct,sn,sub,ab,col,dd,k0,k1,k2,k3,k5,_,h.nsMap N,X _ _ lk,.of_isNs (isNs_of_in X hok),λn hn=>nsMap_none_of_in X hok (hni n hn)⟩,
  ⟨nm',q',N',bs',hdct',sn',sub',ab',col',dd',k0',k1',k2',k3',k5',_,h.nsMap N',X _ _ lk',.of_isNs (isNs_of_in X hok'),λn hn=>nsMap_none_of_in X hok' (hni' n hn)⟩⟩
theorem tG{K:PySem.W.Frag}{ea C Kc:Addr}(OC:iZ K C (.ref Kc::q0))(OK:iZ K Kc q0):PySem.W.KitX K (.ref ea) (.ref C) (D6 ea C) where
 ty:=λM h _ ⟨ob,ho,hc⟩=>by
  rw[<-hc];exact(show Looks M h (typeOf (.ref ea)) ob.cls from (Looks.ld ho).andThen .now)
 it:=λM h X _=>by
  obtain⟨nm,q,N,bs,hdct,sn,sub,ab,col,dd,k0,k1,k2,k3,k5,lk,_⟩:=OC.ex;intro A' Q' E' s' k q;unfold isType loadHead;exact wpAny_bind (wpAny_loadPart (k _ _ (X _ _ lk)) (wpAny_pure q))
 ne:=λh tp dd its n sl X htp=>by
  obtain⟨nm,q,N,bs,hdct,sn,sub,ab,col,dd',k0,k1,k2,k3,k5,lk,_⟩:=OC.ex;refine eq_false_iff.mpr λq=>?_;have e:C=tp:=Value.ref.inj (beq_iff_eq.mp q);subst e;have z:=Option.some.inj ((X _ _ lk).symm.trans htp);have z2:=congrArg Obj.data z;cases z2
 ca:=λ{prog w A E Q s} X ⟨ob,ho,hc⟩ k=>by
  obtain⟨hp,g,d,t,os⟩:=s;exact DI (vy X OC OK) ho hc k
inductive Ij(K:PySem.W.Frag)(xs:List V)(H:Hp)(Q:VK):Prop
 |own (ea C Kc D:Addr)(b:Bool)(e:xs=[.ref ea,.ref D])(h:H ea=some (.ext (D6 ea C)))(OC:iZ K C (.ref Kc::q0))(OK:iZ K Kc q0)(k:kitOne K (.ref C) (.ref D)=some b)(q:Q (.bl b) H)
 |ty (ea C Kc:Addr)(n:String)(b:Bool)(e:xs=[.ref ea,.ty n])(h:H ea=some (.ext (D6 ea C)))(OC:iZ K C (.ref Kc::q0))(OK:iZ K Kc q0)(k:kitOne K (.ref C) (.type n)=some b)(q:Q (.bl b) H)
theorem Az{X:Cx}:eR X (.builtin "isinstance") (λxs H Q=>Ij X.K xs H Q):=by
 intro pins s σ H xs us Q I r h;cases h with
 |own ea C Kc D b e h OC OK k q=>
  subst e;obtain⟨u,c,rfl,rx,rc⟩:=vals2 r;cases rx;cases rc;exact kia_one (tG OC OK) I.iw (I.hok _ _ h).1 k (λz=>nomatch z) λtk=>⟨.bl b,H,I.tok _,rfl,q⟩
 |ty ea C Kc n b e h OC OK k q=>
  subst e;obtain⟨u,c,rfl,rx,rc⟩:=vals2 r;cases rx;obtain rfl:c=Value.type n:=rc;exact kia_one (tG OC OK) I.iw (I.hok _ _ h).1 k (λz=>nomatch z) λtk=>⟨.bl b,H,I.tok _,rfl,q⟩
section
variable {X:Cx}
inductive He(K:PySem.W.Frag)(H:Hp)(z y:V):Prop
 |flat (e:z=y)(f:iU z z=some true)
 |rows (h:vA K z y H True)
inductive Bl(K:PySem.W.Frag)(x y:V)(H:Hp)(Q:VK):Prop
 |same (a b:Addr)(zs ws:List V)(hx:x=.ref a)(hy:y=.ref b)(s:cW K H a zs)(t:cW K H b ws)(l:zs.length=ws.length)(e:∀(j:Nat) z y,zs[j]? =some z->ws[j]? =some y->He K H z y)(q:Q (.bl false) H)
theorem Ac{pins:List (Addr×Obj)}{σ:St}{H:Hp}{s:Shared}{A:Around}(hu:A.units+3 < cLine)(I:Inv X pins σ H s){a b:Addr}(h:vA X.K (.ref a) (.ref b) H True):SeqAt.EqAt A s (.ref a) (.ref b) true:=by
 obtain⟨a',b',xs,ys,hx,hy,ha,hb,l,he,_⟩:=h;cases hx;cases hy;by_cases e:a=b
 ·rw[e]
  exact SeqAt.EqAt.same _
 obtain⟨its,r,pl,_⟩:=I.list ha;obtain⟨its2,r2,pl2,_⟩:=I.list hb;have m1:=r.length;have m2:=r2.length;have inner:=SeqAt.RcAt.lists (A:=A) (e:=λ_=>true) pl.isList pl2.isList (by simp only[size_toArray];omega) (by omega) λj h1 h2=>by
  simp only[size_toArray]at h1 h2;obtain⟨x1,e1,r1⟩:=c9 r h1;obtain⟨x2,e2,r2'⟩:=c9 r2 h2;obtain⟨p,q',zs,ws,rfl,rfl,hp,hq,hl,hz⟩:=he j x1 x2 e1 e2;simp only[getElem_toArray];rw[show its[j]=.ref p from r1,show its2[j]=.ref q' from r2'];exact DN (by show A.units+1+2 < cLine;omega) I hp hq hl hz
 rw[eS]at inner;exact SeqAt.EqAt.of_refs e inner
theorem pP(hu:X.A.units+4 < cLine):gX X (compareOp .NotEq) (λx y H Q=>Bl X.K x y H Q):=by
 intro pins s σ H x y v u Q I rx ry h;obtain⟨a,b,zs,ws,rfl,rfl,ha,hb,l,he,q⟩:=h;cases rx;cases ry;obtain⟨its,r,pl,_⟩:=I.tuple ha;obtain⟨its2,r2,pl2,_⟩:=I.tuple hb;have m1:=r.length;have m2:=r2.length;have sz:its.toArray.size=its2.toArray.size:=by simp only[size_toArray];omega
 have key:=SeqAt.RcNeAt.tuples (A:=X.A) (e:=λ_=>true) (show s.heap.IsTuple a its.toArray from pl) (show s.heap.IsTuple b its2.toArray from pl2) (by omega) λj h1 h2=>by
  simp only[size_toArray]at h1 h2;obtain⟨x1,e1,r1⟩:=c9 r h1;obtain⟨x2,e2,r2'⟩:=c9 r2 h2;simp only[getElem_toArray];cases he j x1 x2 e1 e2 with
  |flat e f=>
   subst e;exact gT r1 r2' f
  |rows h=>
   obtain⟨a',b',xs,ys,hx,hy,ha',hb',l',he',q'⟩:=h;subst hx;subst hy;rw[show its[j]=.ref a' from r1,show its2[j]=.ref b' from r2'];exact Ac (by show X.A.units+1+3 < cLine;omega) I ⟨a',b',xs,ys,rfl,rfl,ha',hb',l',he',q'⟩
 rw[eS,sz,beq_self_eq_true]at key;exact key X.prog X.w X.xe _ ⟨.bl false,H,I,rfl,q⟩
theorem EM{A:Around}{k:Nat}(hr:dF k A):A.units+4 < cLine:=Nat.lt_of_le_of_lt (Nat.add_le_add_left (by decide:4<=64) _) hr.units
end
end L2
namespace J
open PySem PySem.Spec PyProof.Rows
open L2 (Cx V Hp St VK TE TT TA TS TG pS TI TO R2 Sp XK E0 m9 eC dF Gl Binds RelV Vals cL cW dU pT cI Here Fh D1 iZ)
section
variable {P:Program}{w:World}{K:PySem.W.Frag}{mg:Str->Option Value}{base:Heap}{x qual m:Str}{st:Stmt}{f C:Addr}{fd:FuncData}{N ps:List Str}{k:Nat}{sp:Sp}{xr:Str}{bM:List Value}
theorem B8 (D:L2.Df K mg x st ps f fd) (S:cI N ps (L2.cG st)) (O:iZ K C bM) (hg:mg xr=some (.ref C)) (hgl:(L2.cG st).names.lookup xr=some .globalImplicit) (hdb:(xr == ("__debug__" :Str))=false) (len:∀vs H Q E,sp vs H Q E->vs.length=ps.length)
  (hbody:∀(X Y:Cx)(H:Hp)(vs:List V)(Q:VK)(E:XK),Here X P w K mg base (L2.cG st) N k->(∀{st t},JS X st t->JS Y st t)->(∀{e t},JT X e t->JT Y e t)->
   (∀{e₀:Expr}{t:TA}{np cpos pos:Pos},JA X [e₀] t->L2.notStar e₀=true->JS Y (.Raise (some (.Call (.Name xr np) [e₀] [] cpos)) none pos) (λ_ σ H=>t σ H λvs H1=>vs.length<=sizeLine/\E (.ref C) none H1))->
   sp vs H Q E->∃t,tP Y (L2.cX st) t/\t { nx:=λ_ H'=>Q .non H',rt:=Q } (L2.start N vs) H):Fh P w K mg base (k+1) x sp:=by
 refine⟨f,fd,ps,?_,D.nm,D.fn.kp,D.bi⟩;obtain⟨oc,od,kV,doc,pm,an,cdv,ct,osl,rfl,lk,hcd⟩:=D.fn.ex;refine L2.El lk hcd S len λA outer s H vs Q E hr hsp=>?_;obtain⟨t,h,q⟩:=hbody (L2.nj (D1 P w) P w K mg base N x (L2.cG st) f cdv A outer s H E).qU (L2.nj (D1 P w) P w K mg base N x (L2.cG st) f cdv A outer s H E) H vs Q E ⟨rfl,rfl,rfl,rfl,rfl,rfl,PassesOwn.never,rfl,rfl,S.nd,hr,λ_=>rfl⟩ (λh=>⟨h.out.qU⟩) (λh=>⟨h.out.qU⟩) (λ{e₀ t np cpos pos} ha hs=>⟨L2.Ar (x:=xr) (L2.kD (X:=L2.nj (D1 P w) P w K mg base N x (L2.cG st) f cdv A outer s H E) hgl hg rfl hdb) O rfl ha.out.qU _ (λpins σ H1 s1 I hE h' ea args hm=>L2.vQ I hm hE) (L2.cR hs) rfl⟩) hsp;exact⟨t,h.out,q⟩
end
theorem _root_.bT{X:Cx}:JF X (.builtin "isinstance") (λxs H Q=>L2.Ij X.K xs H Q):=⟨L2.Az⟩
section
variable {P:Program}{w:World}{K:PySem.W.Frag}{mg:Str->Option Value}{base:Heap}{x qual m:Str}{st:Stmt}{f C:Addr}{fd:FuncData}{N ps:List Str}{k j:Nat}{sp:Sp}
theorem Cc(G:Fh P w K mg base k x sp):L2.Gd P w K mg base k x (λvs H Q _=>sp vs H Q E0):=by
 obtain⟨f,fd,ps,F,h2,h3,h4⟩:=G.ex;refine⟨f,fd,ps,⟨λvs H Q E h=>F.len vs H Q E0 h,λA outer s H args us vs Q E hr e0 hb r h=>?_⟩,h2,h3,h4⟩;refine codeAny_mono (F.run A outer s H args us vs Q E0 hr e0 hb r h) λrr s' hq=>?_;cases rr with
 |ok fl=>cases fl<;>exact hq
 |error e=>
  obtain⟨_,_,_,_,_,_,z⟩:=hq;exact z.elim
theorem CA(D:L2.Df K mg x st ps f fd)(S:cI N ps (L2.cG st))(len:∀vs H Q E,sp vs H Q E->vs.length=ps.length)
  (hbody:∀(X:Cx)(H:Hp)(vs:List V)(Q:VK)(E:XK),Here X P w K mg base (L2.cG st) N k->(X.stack=X.env::X.outer/\X.env.frame=some X.env.locals)->(∀{es t},JA X es t->L2.PA X.qU es t)->(∀{e t},JT X e t->L2.PT X.qU e t)->sp vs H Q E->∃t,tP X (L2.cX st) t/\t { nx:=λ_ H'=>Q .non H',rt:=Q } (L2.start N vs) H):L2.Gd P w K mg base (k+1) x sp:=by
 refine⟨f,fd,ps,J.Eb D.fn S len λX cdv A outer s H vs Q E hX hr h=>?_,D.nm,D.fn.kp,D.bi⟩;subst hX;exact hbody _ H vs Q E ⟨rfl,rfl,rfl,rfl,rfl,rfl,PassesOwn.never,rfl,rfl,S.nd,hr,λ_=>rfl⟩ ⟨rfl,rfl⟩ (λh=>h.out) (λh=>h.out) h
structure LK(X:Cx)(st:List Stmt)(t:XK->TS):Prop where
 out:L2.Kz X st t
theorem F8 {X:Cx}{sc:Scope}{e:Expr}{es:List Expr}{t:TA}{p pos epos:Pos}(hh:Here X P w K mg base sc N k) (G:Fh P w K mg base j x sp) (ha:L2.PA X.qU (e::es) t) (hg:sc.names.lookup x=some .globalImplicit) (hj:j<=k) (hdb:(x == ("__debug__" :Str))=false) (h1:L2.notStar e=true:=by rfl) (h2:es.all L2.notStar=true:=by rfl):
  LK X [.Expr (.Call (.Name x p) (e::es) [] pos) epos] (λE=>L2.qz (L2.o6 sp [] E t)):=by
 obtain⟨f,fd,ps,F,e2,e3,e4⟩:=G.ex;obtain⟨rfl,rfl,rfl,rfl,rfl⟩:=And.intro hh.pr (And.intro hh.wd (And.intro hh.fK (And.intro hh.gm hh.bs)));exact⟨L2.Aq F (hh.room.mono hj) (hh.gl hg) e2 e3 e4 ha hdb (L2.cR h1) (L2.fg h2)⟩
theorem MJ{X:Cx}{sc:Scope}{body:List Stmt}{tb:XK->TS}{xk n er:Str}{Ck:Addr}{bk:List Value}{i jj:Nat}{kp ep np apos hpos pos:Pos}(hh:Here X P w K mg base sc N k)(stk:X.stack=X.env::X.outer/\X.env.frame=some X.env.locals)(hb:LK X body tb)(O:iZ K Ck bk)(hm:mg xk=some (.ref Ck))
  (Sn:L2.Slot X i n) (Sr:L2.Slot X jj er) (hg:sc.names.lookup xk=some .globalImplicit) (ij:i≠jj) (hl:sc.names.lookup n=some .local) (hdb:(xk == ("__debug__" :Str))=false):
  JS X (.Try body [.ExceptHandler (some (.Name xk kp)) (some n) [.Assign [.Name er ep] (.Name n np) apos] hpos] [] [] pos) (λD σ H=>tb (λcls _ H'=>L2.IS X Ck i jj D σ cls H') D σ H):=by
 have hg':=hh.gl hg;have hsc:=hh.hsc;obtain⟨rfl,rfl,rfl,rfl,rfl⟩:=And.intro hh.pr (And.intro hh.wd (And.intro hh.fK (And.intro hh.gm hh.bs)));exact⟨L2.E2 hb.out stk hg' hm O hh.nd Sn Sr ij (by rw[hsc];exact hl) hdb⟩
end
theorem pP{X:Cx}(hu:X.A.units+4 < cLine):JC X .NotEq (λx y H Q=>L2.Bl X.K x y H Q):=⟨L2.pP hu⟩
theorem vO{X:Cx}:JB X .Mult L2.HZ:=⟨L2.vO⟩
theorem IJ{e:Expr}{op:UnaryOp}{p:Pos}:dO (.UnaryOp op e p):=⟨λ_ _=>rfl⟩
end J
namespace L2
open PySem
theorem wW:0<=sizeLine:=by decide
theorem Hq:1<=sizeLine:=by decide
theorem DV:2<=sizeLine:=by decide
theorem m8:3<=sizeLine:=by decide
theorem K6:4<=sizeLine:=by decide
theorem kI {K:PySem.W.Frag}{T n:String}(hT:T∈tys:=by decide) (hn:n∈["int", "bool", "str", "list", "tuple"]:=by decide):kitOne K (.type T) (.type n)=some (xW T n):=dB hT hn
theorem iP{c A B:Prop} [Decidable c] (h:A)(hc:c:=by decide+kernel):if c then A else B:=eZ hc h
theorem iN{c A B:Prop} [Decidable c] (h:B)(hc:¬c:=by decide+kernel):if c then A else B:=hZ hc h
end L2
namespace K31
open PySem L2
variable {P:Program}{w:World}{K:PySem.W.Frag}{mg:Str->Option Value}{base:Heap}{kw C:Addr}{f:Addr}{fd:FuncData}
def kept:List Str:=["person", "talk", "saw", "knew", "heard", "told", "not", "nobody", "never", "by", "from", "to"]
def tZ:V->Bool
 |.int i=>decide (0<=i) && decide (i<=10 ^ Int.toNat 18)
 |_=>false
def ji:V->Bool
 |.str w=> !decide (w.cps.toList < ("a" :Str).cps.toList) && !decide (("z" :Str).cps.toList < w.cps.toList)
 |_=>false
def dN(z:Str):Bool:=decide (1<=(z.length:Int)) && (decide ((z.length:Int)<=12) && (((signs z).map ji).all id && !Am (.str z) (kept.map V.str)))
def oI:V->Bool
 |.str z=>dN z
 |_=>false
def xg(K:PySem.W.Frag):Sp:=λvs H Q _=>∃x T,vs=[x]/\dU K H x (.type T)/\T∈tys/\Q (.bl (T == "int")) H
def mH(K:PySem.W.Frag):Sp:=λvs H Q _=>∃x T,vs=[x]/\dU K H x (.type T)/\T∈tys/\Q (.bl (tZ x)) H
def oM(K:PySem.W.Frag):Sp:=λvs H Q _=>∃x T,vs=[x]/\dU K H x (.type T)/\T∈tys/\(∀z,x=.str z->z.length<=sizeLine)/\∀H',cF H H'->Q (.bl (oI x)) H'
def lets:Str:= "bcdfghijklmnpqrstuvwxz"
def vC(z:Str):Prop:=∀c∈z.cps.toList,c∈lets.cps.toList
theorem yF:∀c∈lets.cps.toList,ji (.str ⟨#[c]⟩)=true:=by decide+kernel
theorem zV:∀w∈kept,(w.cps.toList.any λc=> !lets.cps.toList.contains c)=true:=by decide+kernel
theorem nI(a b:Str):(a++b).cps.toList=a.cps.toList++b.cps.toList:=by
 show(a.cps++b.cps).toList=_;rw[toList_append]
theorem DU(a b:Str):(a++b).length=a.length+b.length:=Array.size_append
theorem lu(a:Str):a.cps.toList.length=a.length:=length_toList
theorem AA{z:Str}(h:vC z)(h1:1<=z.length)(h2:z.length<=12):dN z=true:=by
 unfold dN;rw[decide_eq_true (by omega),decide_eq_true (by omega),Bool.true_and,Bool.true_and,and_eq_true];refine⟨?_,?_⟩
 ·rw[all_map,all_eq_true]
  intro v hv;obtain⟨c,hc,rfl⟩:=mem_map.mp hv;exact yF c (h c hc)
 ·cases e:Am (.str z) (kept.map V.str) with
  |false=>rfl
  |true=>
   have e':(kept.map V.str).any (λy=>uv y (.str z))=true:=e;rw[any_map,any_eq_true]at e';obtain⟨w,hw,e2⟩:=e';have e3:(w == z)=true:=e2;have e4:w=z:=eq_of_beq e3;have ko:=zV w hw;rw[any_eq_true]at ko;obtain⟨c,hc,nc⟩:=ko;rw[e4]at hc;have:=h c hc;rw[<-List.contains_iff_mem]at this;rw[this]at nc;cases nc
def putIn(z:Str)(k:Int)(c:Nat):Str:=(Fi z none (some k)++(⟨#[c]⟩:Str))++Fi z (some k) none
theorem BX{a b:Str}(ha:vC a)(hb:vC b):vC (a++b):=by
 intro c hc;rw[nI,mem_append]at hc;exact hc.elim (ha c) (hb c)
def K9(f:Nat->Str)(more:Str):Nat->List Str
 |0=>[]
 |i+1=>K9 f more i++[f i,f i++more]
structure Ke(us:List Str):Prop where
 len:us.length=24
 nd:us.Nodup
 nm:∀z∈us,dN z=true
def LX(i:Int):Nat:=lets.cps.toList.getD i.toNat 0
def cT(h:Int):Prop:=0<=h/\h<=10 ^ Int.toNat 18
theorem gU{h:Int}(k:cT h):tZ (.int h)=true:=by
 show(decide (0<=h) && decide (h<=10 ^ Int.toNat 18))=true;rw[decide_eq_true k.1,decide_eq_true k.2];rfl
theorem zE{z:Str}(h:dN z=true):z.length<=12:=by
 unfold dN at h;rw[and_eq_true,and_eq_true,decide_eq_true_iff,decide_eq_true_iff]at h;have:=h.2.1;omega
theorem yL{z:Str}(h:dN z=true):z.length<=sizeLine:=by
 have h1:=zE h;have:sizeLine=16777216:=sizeLine_eq;omega
theorem ma{z:Str}(h:dN z=true):∀y,V.str z=V.str y->y.length<=sizeLine:=λy e=>by
 cases e;exact yL h
structure fH(ps:List Str):Prop where
 lo:1<=ps.length
 hi:ps.length<=24
 nd:ps.Nodup
 nm:∀z∈ps,dN z=true
inductive d7  (ps:List Str)(H:Hp)(v:V):Prop
 |mk(a:Addr)(z:Str)(h:Int)(ta:Addr)(ws:List Str)(h0:v=.ref a)(h1:H a=some (.tup [.str z,.int h,.ref ta]))(h2:z∈ps)(h3:cT h)(h4:H ta=some (.tup (ws.map V.str)))(h5:1<=ws.length)(h6:ws.length<=6)(h7:∀x∈ws,dN x=true)
inductive fh  (ps:List Str)(H:Hp)(v:V):Prop
 |mk (a:Addr) (h:Int) (p q w:Str) (h0:v=.ref a) (h1:H a=some (.tup [.int h,.str p,.str q,.str w])) (h2:cT h) (h3:p∈ps) (h4:q∈ps) (h5:p≠q) (h6:(w= "both" \/w= "one"))
inductive eY  (ps:List Str)(H:Hp)(v:V):Prop
 |mk (a:Addr) (h0:v=.ref a) (h1:((∃(p:Str) (h:Int),H a=some (.tup [.str "knew",.str p,.int h])/\p∈ps/\cT h)\/    (∃(p:Str) (b:V),H a=some (.tup [.str "unheard",.str p,b])/\p∈ps/\(b=.non\/∃h:Int,b=.int h/\cT h))\/    (∃(p:Str) (h k:Int),H a=some (.tup [.str "silent",.str p,.int h,.int k])/\p∈ps/\cT h/\cT k/\h<=k)\/    (∃p q:Str,H a=some (.tup [.str "barred",.str p,.str q])/\p∈ps/\q∈ps/\p≠q)))
def Tk(H H':Hp):Prop:=∀b xs,H b=some (.tup xs)->H' b=some (.tup xs)
theorem Tk.of{H H':Hp}(s:cF H H'):Tk H H':=λb _ e=>s b _ e
theorem Tk.trans{H H1 H2:Hp}(a:Tk H H1)(b:Tk H1 H2):Tk H H2:=λc xs e=>b c xs (a c xs e)
theorem Tk.upd{H:Hp}{l:Addr}{xs ys:List V}(h:H l=some (.lst xs)):Tk H (upd H l (.lst ys)):=λb zs e=>by
 rw[cH (jK e h (by intro z;cases z))];exact e
theorem d7.mono{ps:List Str}{H H':Hp}{v:V}(s:Tk H H')(h:d7 ps H v):d7 ps H' v:=by
 obtain⟨a,z,h,ta,ws,e,ha,hz,hh,ht,r1,r2,r3⟩:=h;exact⟨a,z,h,ta,ws,e,s _ _ ha,hz,hh,s _ _ ht,r1,r2,r3⟩
theorem fh.mono{ps:List Str}{H H':Hp}{v:V}(s:Tk H H')(h:fh ps H v):fh ps H' v:=by
 obtain⟨a,h,p,q,w,e,ha,r1,r2,r3,r4,r5⟩:=h;exact⟨a,h,p,q,w,e,s _ _ ha,r1,r2,r3,r4,r5⟩
theorem eY.mono{ps:List Str}{H H':Hp}{v:V}(s:Tk H H')(h:eY ps H v):eY ps H' v:=by
 obtain⟨a,e,h⟩:=h;refine⟨a,e,?_⟩;rcases h with ⟨p,h,ha,r⟩|⟨p,b,ha,r⟩|⟨p,h,k,ha,r⟩|⟨p,q,ha,r⟩
 ·exact .inl ⟨p,h,s _ _ ha,r⟩
 ·exact .inr (.inl ⟨p,b,s _ _ ha,r⟩)
 ·exact .inr (.inr (.inl ⟨p,h,k,s _ _ ha,r⟩))
 ·exact .inr (.inr (.inr ⟨p,q,s _ _ ha,r⟩))
theorem zK{z:Str}{ps:List Str}(h:z∈ps):Am (.str z) (ps.map V.str)=true:=by
 show(ps.map V.str).any (λy=>uv y (.str z))=true;rw[any_map,any_eq_true];exact⟨z,h,by show(z == z)=true;exact beq_self_eq_true z⟩
theorem yB(ps:List Str):(ps.map V.str).all df=true:=by
 rw[all_map,all_eq_true];intro z _;rfl
theorem all_true{α:Type}{f:α->Bool}{xs:List α}(h:∀x∈xs,f x=true):(xs.map f).all id=true:=by
 rw[all_map,all_eq_true];exact λx hx=>h x hx
theorem jW{xs:List V}{n:Nat}{m:Int}(h:xs.length=n)(hm:(n:Int)≠m):¬decide (V.int (xs.length:Nat)=V.int m)=true:=by
 rw[decide_eq_true_iff,h];intro e;injection e with e
 exact hm e
theorem rF{xs:List V}{n:Nat}{m:Int}(h:xs.length=n)(hm:(n:Int)=m):decide (V.int (xs.length:Nat)=V.int m)=true:=by
 rw[decide_eq_true_iff,h,hm]
inductive yr  (vs:List V)(H:Hp)(Q:VK):Prop
 |mk(p:Addr)(xs:List V)(m:Int)(h0:vs=[.ref p,.int m])(h1:H p=some (.lst xs))(h2:(xs.length:Int)<=m)(h3:Q (.bl true) H)
def ie  :Sp:=λvs H Q _=>yr  vs H Q
inductive Br  (vs:List V)(H:Hp)(Q:VK):Prop
 |mk(p:Addr)(xs:List V)(m:Int)(h0:vs=[.ref p,.int m])(h1:H p=some (.tup xs))(h2:(xs.length:Int)=m)(h3:Q (.bl true) H)
def nX  :Sp:=λvs H Q _=>Br  vs H Q
inductive yO  (vs:List V)(H:Hp)(Q:VK):Prop
 |mk(p:Addr)(ps:List Str)(z:Str)(h0:vs=[.ref p,.str z])(h1:H p=some (.lst (ps.map V.str)))(h2:fH ps)(h3:z∈ps)(h4:∀H',cF H H'->Q (.bl true) H')
def ic  :Sp:=λvs H Q _=>yO  vs H Q
inductive yj  (vs:List V)(H:Hp)(Q:VK):Prop
 |mk(p:Addr)(ps:List Str)(y z:Str)(h0:vs=[.ref p,.str y,.str z])(h1:H p=some (.lst (ps.map V.str)))(h2:fH ps)(h3:y∈ps)(h4:z∈ps)(h5:y≠z)(h6:∀H',cF H H'->Q (.bl true) H')
def kQ  :Sp:=λvs H Q _=>yj  vs H Q
inductive Cj  (vs:List V)(H:Hp)(Q:VK):Prop
 |mk(t:Addr)(ws:List Str)(h0:vs=[.ref t])(h1:H t=some (.tup (ws.map V.str)))(h2:1<=ws.length)(h3:ws.length<=6)(h4:(∀x∈ws,dN x=true))(h5:∀H',cF H H'->Q (.bl true) H')
def vd  :Sp:=λvs H Q _=>Cj  vs H Q
inductive zA  (vs:List V)(H:Hp)(Q:VK):Prop
 |mk(p:Addr)(ps:List Str)(v:V)(h0:vs=[.ref p,v])(h1:H p=some (.lst (ps.map V.str)))(h2:fH ps)(h3:d7 ps H v)(h4:∀H',cF H H'->Q (.bl true) H')
def qZ  :Sp:=λvs H Q _=>zA  vs H Q
inductive Fb  (vs:List V)(H:Hp)(Q:VK):Prop
 |mk (w:Str) (h0:vs=[.str w]) (h1:(w= "both" \/w= "one")) (h2:∀H',cF H H'->Q (.bl true) H')
def zL  :Sp:=λvs H Q _=>Fb  vs H Q
inductive CC  (vs:List V)(H:Hp)(Q:VK):Prop
 |mk(p:Addr)(ps:List Str)(v:V)(h0:vs=[.ref p,v])(h1:H p=some (.lst (ps.map V.str)))(h2:fH ps)(h3:fh ps H v)(h4:∀H',cF H H'->Q (.bl true) H')
def u7  :Sp:=λvs H Q _=>CC  vs H Q
inductive Cy  (vs:List V)(H:Hp)(Q:VK):Prop
 |mk(h k:Int)(h0:vs=[.int h,.int k])(h1:cT h)(h2:cT k)(h3:h<=k)(h4:Q (.bl true) H)
def wA  :Sp:=λvs H Q _=>Cy  vs H Q
inductive Bb  (vs:List V)(H:Hp)(Q:VK):Prop
 |mk (p:Addr) (ps:List Str) (kd y:Str) (b:V) (h0:vs=[.ref p,.str kd,.str y,b]) (h1:H p=some (.lst (ps.map V.str))) (h2:fH ps) (h3:y∈ps) (h4:((kd= "barred" /\∃z,b=.str z/\z∈ps/\y≠z)\/(kd= "unheard" /\(b=.non\/∃h:Int,b=.int h/\cT h))\/(kd= "knew" /\∃h:Int,b=.int h/\cT h))) (h5:∀H',cF H H'->Q (.bl true) H')
def rn  :Sp:=λvs H Q _=>Bb  vs H Q
inductive yw  (vs:List V)(H:Hp)(Q:VK):Prop
 |mk(p:Addr)(ps:List Str)(v:V)(h0:vs=[.ref p,v])(h1:H p=some (.lst (ps.map V.str)))(h2:fH ps)(h3:eY ps H v)(h4:∀H',cF H H'->Q (.bl true) H')
def oy  :Sp:=λvs H Q _=>yw  vs H Q
inductive v7  (vs:List V)(H:Hp)(Q:VK):Prop
 |mk(p:Addr)(ps:List Str)(h0:vs=[.ref p])(h1:H p=some (.lst (ps.map V.str)))(h2:fH ps)(h3:∀H',cF H H'->Q (.bl true) H')
def l8  :Sp:=λvs H Q _=>v7  vs H Q
inductive Cs  (M:List Str->Hp->V->Prop)(n:Nat)(vs:List V)(H:Hp)(Q:VK):Prop
 |mk(p q:Addr)(ps:List Str)(xs:List V)(h0:vs=[.ref p,.ref q])(h1:H p=some (.lst (ps.map V.str)))(h2:fH ps)(h3:H q=some (.lst xs))(h4:xs.length<=n)(h5:(∀v∈xs,M ps H v))(h6:∀H',cF H H'->Q (.bl true) H')
def iC  (M:List Str->Hp->V->Prop)(n:Nat):Sp:=λvs H Q _=>Cs M n vs H Q
def nu(p s t y:Addr):List (Str×V):=fF "kept_sayings" (.ref y) (fF "kept_talks" (.ref t) (fF "kept_sights" (.ref s) (fF "kept_persons" (.ref p) [])))
theorem Hx(p s t y:Addr):(nu p s t y).lookup ("kept_persons" :Str)=some (.ref p):=by
 unfold nu;rw[cP,if_neg (by decide+kernel),cP,if_neg (by decide+kernel),cP,if_neg (by decide+kernel),cP,if_pos rfl]
theorem HP(p s t y:Addr):(nu p s t y).lookup ("kept_sights" :Str)=some (.ref s):=by
 unfold nu;rw[cP,if_neg (by decide+kernel),cP,if_neg (by decide+kernel),cP,if_pos rfl]
theorem D5(p s t y:Addr):(nu p s t y).lookup ("kept_talks" :Str)=some (.ref t):=by
 unfold nu;rw[cP,if_neg (by decide+kernel),cP,if_pos rfl]
theorem Jv(p s t y:Addr):(nu p s t y).lookup ("kept_sayings" :Str)=some (.ref y):=by
 unfold nu;rw[cP,if_pos rfl]
theorem iO (p s t y:Addr){m:Str}(h1:¬m= "kept_sayings") (h2:¬m= "kept_talks") (h3:¬m= "kept_sights") (h4:¬m= "kept_persons"):(nu p s t y).lookup m=none:=by
 unfold nu;rw[cP,if_neg h1,cP,if_neg h2,cP,if_neg h3,cP,if_neg h4];rfl
structure Parts(H:Hp)(ps:List Str)(ss ts ys:List V):Prop where
 ok:fH ps
 sl:ss.length<=24
 sg:∀v∈ss,d7 ps H v
 tl:ts.length<=120
 tg:∀v∈ts,fh ps H v
 yl:ys.length<=60
 yg:∀v∈ys,eY ps H v
theorem Parts.mono{H H':Hp}{ps:List Str}{ss ts ys:List V}(s:Tk H H')(g:Parts H ps ss ts ys):Parts H' ps ss ts ys:=
 ⟨g.ok,g.sl,λv h=>(g.sg v h).mono s,g.tl,λv h=>(g.tg v h).mono s,g.yl,λv h=>(g.yg v h).mono s⟩
structure Bk(C:Addr)(H:Hp)(x p s t y:Addr)(ps:List Str)(ss ts ys:List V):Prop where
 ob:∃dx,H x=some (.ins C dx (nu p s t y))
 hp:H p=some (.lst (ps.map V.str))
 hs:H s=some (.lst ss)
 ht:H t=some (.lst ts)
 hy:H y=some (.lst ys)
theorem Bk.mono{C:Addr}{H H':Hp}{x p s t y:Addr}{ps:List Str}{ss ts ys:List V}(m:cF H H')(b:Bk C H x p s t y ps ss ts ys):Bk C H' x p s t y ps ss ts ys:=by
 obtain⟨⟨dx,e⟩,h1,h2,h3,h4⟩:=b;exact⟨⟨dx,m _ _ e⟩,m _ _ h1,m _ _ h2,m _ _ h3,m _ _ h4⟩
inductive CH  (C:Addr)(vs:List V)(H:Hp)(Q:VK):Prop
 |mk(x dx p a b c:Addr)(ps:List Str)(ss ts ys:List V)(h0:vs=[.ref x,.ref p,.ref a,.ref b,.ref c])(h1:H x=some (.ins C dx []))(h2:H p=some (.lst (ps.map V.str)))(h3:H a=some (.lst ss))(h4:H b=some (.lst ts))(h5:H c=some (.lst ys))(h6:Parts H ps ss ts ys)(h7:∀(p' s' t' y':Addr)(H':Hp),H p'=none->H s'=none->H t'=none->H y'=none->Bk C H' x p' s' t' y' ps ss ts ys->(∀d o,H d=some o->d≠x->H' d=some o)->Q .non H')
def vB  (C:Addr):Sp:=λvs H Q _=>CH C vs H Q
structure Txt(K:PySem.W.Frag)(mg:Str->Option Value)(kw C:Addr):Prop where
 b_isinstance:mg "isinstance" =none
 b_int:mg "int" =none
 b_bool:mg "bool" =none
 b_str:mg "str" =none
 b_len:mg "len" =none
 b_all:mg "all" =none
 b_range:mg "range" =none
 b_list:mg "list" =none
 b_tuple:mg "tuple" =none
 b_set:mg "set" =none
 b_zip:mg "zip" =none
 b_enumerate:mg "enumerate" =none
 b_min:mg "min" =none
 b_max:mg "max" =none
 b_any:mg "any" =none
 b_sorted:mg "sorted" =none
 b_dict:mg "dict" =none
 b_sum:mg "sum" =none
 b_reversed:mg "reversed" =none
 kwm:mg "KEPT_WORDS" =some (.ref kw)
 kwt:∃(o:Obj) (its:Array Value) (n:Nat),K.lookup kw=some o/\o.cls=.type "tuple" /\o.data=.seq its n/\its.size<=sizeLine/\Vals (kept.map V.str) its.toList
 g_MOST_PERSONS:∃u,mg "MOST_PERSONS" =some u/\RelV (.int 24) u
 g_MOST_SIGHTS:∃u,mg "MOST_SIGHTS" =some u/\RelV (.int 24) u
 g_MOST_TALKS:∃u,mg "MOST_TALKS" =some u/\RelV (.int 120) u
 g_MOST_SAYINGS:∃u,mg "MOST_SAYINGS" =some u/\RelV (.int 60) u
 g_MOST_WORDS:∃u,mg "MOST_WORDS" =some u/\RelV (.int 6) u
 cl:uS K C
 nP:gn K C "kept_persons"
 nS:gn K C "kept_sights"
 nT:gn K C "kept_talks"
 nY:gn K C "kept_sayings"
theorem Ml:cI ["thing"] ["thing"] (cG iQ):={}
theorem zX (F:pT K "is_whole" "is_whole" iQ f fd) (T:Txt K mg kw C):eC P w K mg base m9 1 f fd ["thing"] (xg K):=by
 refine F.ok Ml (λvs H Q E h=>?_) (λcdv A outer s H vs Q E hr h=>?_)
 ·obtain⟨x,t,rfl,_⟩:=h
  rfl
 ·obtain⟨x,t,rfl,ty,ht,k⟩:=h
  refine⟨_,jw (oj (q9 (gY jt rfl T.b_isinstance cK (fw (pv 0) (fw (nF (v:=.ty "int") rfl T.b_int qS rfl) jO)))
   (rg (mM (gY jt rfl T.b_isinstance cK (fw (pv 0) (fw (nF (v:=.ty "bool") rfl T.b_bool nH rfl) jO))))))),?_⟩
  refine⟨_,rfl,_,_,_,_,rfl,ty,dB ht (by decide),_,rfl,?_⟩;refine cZ (λh1=>?_) (λh1=>?_)
  ·refine⟨_,rfl,_,_,_,_,rfl,ty,dB ht (by decide),_,rfl,?_⟩
   have e:(!xW t "bool")=(t == "int"):=by
    simp only[tys,mem_cons,not_mem_nil,or_false]at ht;rcases ht with rfl|rfl|rfl|rfl|rfl|rfl|rfl<;>first|rfl| (exfalso;revert h1;decide)
   show Q (.bl (!xW t "bool")) H;rw[e];exact k
  ·have e:(t == "int")=false:=by
    simp only[tys,mem_cons,not_mem_nil,or_false]at ht;rcases ht with rfl|rfl|rfl|rfl|rfl|rfl|rfl<;>first|rfl| (exfalso;revert h1;decide)
   show Q (.bl false) H;rw[<-e];exact k
theorem MS:cI ["thing"] ["thing"] (cG mI):={}
theorem Dk {f fW:Addr}{fd fdW:FuncData}(F:pT K "is_hour" "is_hour" mI f fd) (DW:Df K mg "is_whole" iQ ["thing"] fW fdW) (T:Txt K mg kw C):eC P w K mg base m9 2 f fd ["thing"] (mH K):=by
 have GW:eC P w K mg base m9 1 fW fdW ["thing"] (xg K):=zX DW.fn T;refine F.ok MS (λvs H Q E h=>?_) (λcdv A outer s H vs Q E hr h=>?_)
 ·obtain⟨x,t,rfl,_⟩:=h
  rfl
 ·obtain⟨x,t,rfl,ty,ht,k⟩:=h
  refine⟨_,jw (oj (q9 (xo GW hr rfl DW.nm DW.fn.kp DW.bi .nil wJ (fw (pv 0) jO))
   (rg (gW t6 t6 mF (pv 0) (EE mR mF mF))))),?_⟩
  refine⟨_,rfl,x,t,rfl,ty,ht,_,rfl,?_⟩;refine cZ (λh1=>?_) (λh1=>?_)
  ·have e:t= "int" :=eq_of_beq h1
   subst e;obtain⟨i,rfl⟩:=ty_int ty
   ·refine⟨_,rfl,_,_,rfl,rfl,_,rfl,?_⟩
    refine cZ (λh2=>?_) (λh2=>?_)
    ·refine⟨_,_,rfl,rfl,⟨by decide,by decide,by decide⟩,_,_,rfl,rfl,?_⟩
     have e2:tZ (.int i)=decide (i<=10 ^ Int.toNat 18):=by
      show(decide (0<=i) && decide (i<=10 ^ Int.toNat 18))=_;rw[h2,Bool.true_and]
     rw[e2]at k;exact k
    ·have e2:tZ (.int i)=false:=by
      show(decide (0<=i) && decide (i<=10 ^ Int.toNat 18))=_;rw[eq_false_iff.mpr h2,Bool.false_and]
     rw[e2]at k;exact k
  ·have e2:tZ x=false:=by
    cases x with
    |int i=>exact absurd (beq_iff_eq.mpr (yV ty)) h1
    |_=>rfl
   rw[e2]at k;exact k
theorem Mi:cI ["thing"] ["thing"] (cG jB):={}
theorem C1 (F:pT K "is_name" "is_name" jB f fd) (T:Txt K mg kw C):eC P w K mg base m9 1 f fd ["thing"] (oM K):=by
 refine F.ok Mi (λvs H Q E h=>?_) (λcdv A outer s H vs Q E hr h=>?_)
 ·obtain⟨x,t,rfl,_⟩:=h
  rfl
 ·obtain⟨x,t,rfl,ty,ht,hz,k⟩:=h
  refine⟨_,uu (D8 (PW.pt (Ec (u5 (uW (gY jt rfl T.b_isinstance cK (fw (pv 0) (fw (nF (v:=.ty "str") rfl T.b_str vR rfl) jO)))))
    (Be (u5 (kK t6 t6 mF (gY rA rfl T.b_len dE (fw (pv 0) jO)) mF))))) (jw (oj Af)) xf)
   (jw (oj (q9 (gY (qv rfl) rfl T.b_all lV (fw (Bz (sc:=cG jB) (N:=["thing"]) (is:=[]) (ns:=[]) rfl (EX (pv 0))
     {} (λ_ _ _ _ _=>gW qP qP v8 (pv 0) v8)) jO))
    (rg (wO fM (pv 0) (kD (v:=.ref kw) rfl T.kwm rfl) (by with_unfolding_all rfl)))))),?_⟩
  refine⟨_,rfl,_,_,_,_,rfl,ty,dB ht (by decide),_,rfl,?_⟩;by_cases hs:t= "str"
  ·subst hs
   obtain⟨z,rfl⟩:=ty_str ty
   ·have hz':=hz z rfl
    refine cV ?_;refine⟨_,rfl,z,rfl,hz',_,_,rfl,rfl,_,rfl,?_⟩;by_cases h1:1<=(z.length:Int)
    ·rw[decide_eq_true h1]
     refine dq ⟨_,_,rfl,rfl,_,rfl,?_⟩;by_cases h2:(z.length:Int)<=12
     ·rw[decide_eq_true h2]
      refine cV ?_;refine⟨_,rfl,z,rfl,E7 (λv=>.bl (ji v)) hz' (λv H2 Q' hv sm q'=>?_) λD hD=>?_⟩
      ·obtain⟨c,_,rfl⟩:=mem_map.mp hv
       refine⟨_,rfl,_,_,rfl,rfl,_,rfl,cZ (λh=>⟨_,_,rfl,rfl,?_⟩) (λh=>?_)⟩
       ·have e:ji (.str ⟨#[c]⟩)= !decide (("z" :Str).cps.toList < (⟨#[c]⟩:Str).cps.toList):=by
         show(!decide ((⟨#[c]⟩:Str).cps.toList < ("a" :Str).cps.toList) && _)=_;rw[h,Bool.true_and]
        rw[e]at q';exact q'
       ·have e:ji (.str ⟨#[c]⟩)=false:=by
         show(!decide ((⟨#[c]⟩:Str).cps.toList < ("a" :Str).cps.toList) && _)=_;rw[eq_false_iff.mpr h,Bool.false_and]
        rw[e]at q';exact q'
      ·refine⟨D,(signs z).map ji,rfl,cL.of (cD.trans (by rw[map_map];rfl)),_,rfl,?_⟩
       have e:dN z=(((signs z).map ji).all id && !Am (.str z) (kept.map V.str)):=by
        unfold dN;rw[decide_eq_true h1,decide_eq_true h2,Bool.true_and,Bool.true_and]
       have k':=k _ (cF.upd (o:=.lst (((signs z).map λv=>V.bl (ji v)))) hD);have k2:Q (.bl (dN z)) _:=k';rw[e]at k2;refine cZ (λh=>?_) (λh=>?_)
       ·rw[h,Bool.true_and]at k2
        refine⟨_,rfl,kw,_,rfl,.inr (.inr T.kwt),rfl,?_,k2⟩
        decide+kernel
       ·rw[eq_false_iff.mpr h,Bool.false_and]at k2
        exact k2
     ·rw[decide_eq_false h2]
      refine dq ?_;have e:dN z=false:=by
       unfold dN;rw[decide_eq_false h2,Bool.false_and,Bool.and_false]
      have k2:Q (.bl (dN z)) H:=k H (cF.refl H);rw[e]at k2;exact k2
    ·rw[decide_eq_false h1]
     refine cV ⟨_,rfl,dq ?_⟩;have e:dN z=false:=by
      unfold dN;rw[decide_eq_false h1,Bool.false_and]
     have k2:Q (.bl (dN z)) H:=k H (cF.refl H);rw[e]at k2;exact k2
  ·have e:xW t "str" =false:=by
    unfold xW;rw[beq_eq_false_iff_ne.mpr hs,Bool.false_or];exact Bool.and_false _
   rw[e];refine dq (dq ?_);have e2:oI x=false:=by
    cases x with
    |str z=>exact absurd (yd ty) hs
    |_=>rfl
   have k2:=k H (cF.refl H);rw[e2]at k2;exact k2
theorem Er{α:Type}{xs:List α}{i:Int}(h0:0<=i)(h1:i < xs.length):∃v,nM xs i=some v/\v∈xs:=by
 have hj:i.toNat < xs.length:=by omega
 have e:((i.toNat:Nat):Int)=i:=Int.toNat_of_nonneg h0;refine⟨xs[i.toNat],?_,getElem_mem hj⟩;have:=cQ (xs:=xs) (j:=i.toNat) (v:=xs[i.toNat]) (by simp[hj]);rw[e]at this;exact this
theorem lL:cI ["thing", "most"] ["thing", "most"] (cG fD):={}
theorem u4 (D:Df K mg "is_list_up_to" fD ["thing", "most"] f fd) (T:Txt K mg kw C):Gd P w K mg base 1 "is_list_up_to" ie:=by
 refine aH D lL λX H vs Q E hh h=>?_;obtain⟨p,xs,m,rfl,hp,hm,k⟩:=h;obtain⟨S0,S1,_⟩:=hh.eB [0,1];have B_isinstance:=hh.b T.b_isinstance;have B_len:=hh.b T.b_len;have B_list:=hh.b T.b_list;refine⟨_,(aj (au (aU (aE B_isinstance bF L2.cK (aA (aa S0) (J.ty B_list L2.dG))) (a7 (aT bJ (aE B_len bw L2.dE (ao (aa S0))) (aa S1) (L2.cJ _)))))),?_⟩;refine⟨_,rfl,_,_,_,_,rfl,.lst hp,dB (T:= "list") (by decide) (by decide),_,rfl,iP ?_⟩;refine⟨_,rfl,p,xs,rfl,.inl (cL.of hp),_,rfl,_,_,rfl,rfl,?_⟩;show Q (.bl (decide ((xs.length:Int)<=m))) H;rw[decide_eq_true hm];exact k
theorem oX:cI ["thing", "length"] ["thing", "length"] (cG gI):={}
theorem y3 (D:Df K mg "is_tuple_of" gI ["thing", "length"] f fd) (T:Txt K mg kw C):Gd P w K mg base 1 "is_tuple_of" nX:=by
 refine aH D oX λX H vs Q E hh h=>?_;obtain⟨p,xs,m,rfl,hp,hm,k⟩:=h;obtain⟨S0,S1,_⟩:=hh.eB [0,1];have B_isinstance:=hh.b T.b_isinstance;have B_len:=hh.b T.b_len;have B_tuple:=hh.b T.b_tuple;refine⟨_,(aj (au (aU (aE B_isinstance bF L2.cK (aA (aa S0) (J.ty B_tuple L2.hU))) (a7 (aT aL (aE B_len bw L2.dE (ao (aa S0))) (aa S1) (L2.cJ _)))))),?_⟩;refine⟨_,rfl,_,_,_,_,rfl,.tup hp,dB (T:= "tuple") (by decide) (by decide),_,rfl,iP ?_⟩;refine⟨_,rfl,p,xs,rfl,.inr (cW.of hp),_,rfl,rfl,?_⟩;rw[hm,decide_eq_true rfl];exact k
theorem rO:cI ["persons", "thing"] ["persons", "thing"] (cG i6):={}
theorem xX (D:Df K mg "is_person" i6 ["persons", "thing"] f fd) (G_is_name:Gd P w K mg base 1 "is_name" (oM K)):Gd P w K mg base 2 "is_person" ic:=by
 refine aH D rO λX H vs Q E hh h=>?_;obtain⟨p,ps,z,rfl,hp,hP,hz,k⟩:=h;obtain⟨S0,S1,_⟩:=hh.eB [0,1];have C_is_name:=hh.c G_is_name;have hn:=hP.nm z hz;refine⟨_,(aj (au (aU (aw C_is_name (ao (aa S1))) (a7 (aT J.ip (aa S1) (aa S0) J.gB))))),?_⟩;refine⟨_,rfl,.str z, "str",rfl,.str z,by decide,ma hn,λH1 s1=>⟨_,rfl,eZ hn ?_⟩⟩;refine⟨_,rfl,_,rfl,p,_,rfl,.inl (cL.of (s1 _ _ hp)),rfl,yB ps,?_⟩;show Q (.bl (Am (.str z) (ps.map V.str))) H1;rw[zK hz];exact k H1 s1
theorem iW:cI ["persons", "one", "other"] ["persons", "one", "other"] (cG dY):={}
theorem xP (D:Df K mg "are_unlike_persons" dY ["persons", "one", "other"] f fd) (G_is_person:Gd P w K mg base 2 "is_person" ic):Gd P w K mg base 3 "are_unlike_persons" kQ:=by
 refine aH D iW λX H vs Q E hh h=>?_;obtain⟨p,ps,y,z,rfl,hp,hP,hy,hz,hne,k⟩:=h;obtain⟨S0,S1,S2,_⟩:=hh.eB [0,1,2];have C_is_person:=hh.c G_is_person;refine⟨_,(aj (au (aU (aw C_is_person (aA (aa S0) (aa S1))) (aU (aw C_is_person (aA (aa S0) (aa S2))) (a7 (aT bQ (aa S1) (aa S2) (L2.cJ _))))))),?_⟩;refine⟨_,rfl,_,rfl,p,ps,y,rfl,hp,hP,hy,λH1 s1=>⟨_,rfl,dq ?_⟩⟩;refine⟨_,rfl,_,rfl,p,ps,z,rfl,s1 _ _ hp,hP,hz,λH2 s2=>⟨_,rfl,dq ?_⟩⟩;refine⟨_,rfl,_,rfl,rfl,?_⟩;rw[decide_eq_false (by intro e;cases e;exact hne rfl)];exact k H2 (s1.trans s2)
theorem wB:cI ["thing"] ["thing"] (cG mT):={}
theorem Co (D:Df K mg "is_tale" mT ["thing"] f fd) (T:Txt K mg kw C) (G_is_name:Gd P w K mg base 1 "is_name" (oM K)):Gd P w K mg base 2 "is_tale" vd:=by
 refine aH D wB λX H vs Q E hh h=>?_;obtain⟨t,ws,rfl,ht,w1,w6,hw,k⟩:=h;obtain⟨S0,_⟩:=hh.eB [0];have B_all:=hh.b T.b_all;have B_isinstance:=hh.b T.b_isinstance;have B_len:=hh.b T.b_len;have B_tuple:=hh.b T.b_tuple;have g_MOST_WORDS:∀{p:Pos},J.JE X (.Name "MOST_WORDS" p) (L2.tC (.int 6)):=bH hh T.g_MOST_WORDS rfl (by decide);have CI_is_name:=hh.ci G_is_name;have hl:(ws.map V.str).length=ws.length:=length_map ..;have hz:(ws.map V.str).length<=sizeLine:=by
  have:sizeLine=16777216:=sizeLine_eq;omega
 refine⟨_,(ag (aI (aS (bg (a5 (aQ (aE B_isinstance bF L2.cK (aA (aa S0) (J.ty B_tuple L2.hU))))) (bu (a5 (J.kK bJ bJ ae (aE B_len bw L2.dE (ao (aa S0))) g_MOST_WORDS L2.j3)))))
 (aj (au a9))
 aJ)
 (aj (au (aE B_all (cA hh.calm) L2.lV (ao (bY (is:=[]) (ns:=[]) hh.calm (J.vb (aa S0)) {} (λ_ _ _ _ _=>(aw (CI_is_name.lc rfl) (ao (b7 rfl (by decide) (by decide))))) hh.hsc hh.hN)))))),?_⟩
 refine⟨_,rfl,_,_,_,_,rfl,.tup ht,dB (T:= "tuple") (by decide) (by decide),_,rfl,iN ?_⟩;refine⟨_,rfl,t,_,rfl,.inr (cW.of ht),_,_,rfl,rfl,_,rfl,eZ (decide_eq_true (by omega)) ⟨_,_,rfl,rfl,_,rfl,?_⟩⟩;rw[decide_eq_true (show((ws.map V.str).length:Int)<=6 by omega)];refine cV ?_;refine⟨_,rfl,t,rfl,⟨_,cW.of ht⟩,CV (λv=>.bl (oI v)) (cW.of ht) hz (λv H2 Q' hv sm q'=>?_) (λD' H' hD sm hl'=>?_)⟩
 ·obtain⟨x,hx,rfl⟩:=mem_map.mp hv
  exact⟨_,rfl,.str x, "str",rfl,.str x,by decide,ma (hw x hx),λH3 s3=>q' H3 s3⟩
 ·refine⟨D',ws.map dN,rfl,cL.of (hl'.trans (by rw[map_map,map_map];rfl)),?_⟩
  rw[all_true hw];exact k H' sm
theorem uC:cI ["persons", "thing"] ["persons", "thing"] (cG ki):={}
theorem Av (D:Df K mg "is_sight" ki ["persons", "thing"] f fd) (G_is_tuple_of:Gd P w K mg base 1 "is_tuple_of" nX) (G_is_person:Gd P w K mg base 2 "is_person" ic)
  (G_is_hour:Gd P w K mg base 2 "is_hour" (mH K)) (G_is_tale:Gd P w K mg base 2 "is_tale" vd):Gd P w K mg base 3 "is_sight" qZ:=by
 refine aH D uC λX H vs Q E hh h=>?_;obtain⟨p,ps,v,rfl,hp,hP,⟨a,z,hr,ta,ws,rfl,ha,hz,hho,hta,w1,w6,hw⟩,k⟩:=h;obtain⟨S0,S1,_⟩:=hh.eB [0,1];have C_is_hour:=hh.c G_is_hour;have C_is_person:=hh.c G_is_person;have C_is_tale:=hh.c G_is_tale;have C_is_tuple_of:=hh.c G_is_tuple_of;refine⟨_,(ag (aI (a5 (aQ (aw C_is_tuple_of (aA (aa S1) ae))))
 (aj (au a9))
 aJ)
 (aj (au (aU (aw C_is_person (aA (aa S0) (af ak (aa S1) ae ah))) (aU (aw C_is_hour (ao (af ak (aa S1) ae ah))) (a7 (aw C_is_tale (ao (af ak (aa S1) ae ah))))))))),?_⟩
 refine⟨_,rfl,a,_,3,rfl,ha,rfl,_,rfl,cV ?_⟩;refine⟨_,rfl,_,rfl,xT ha rfl ⟨p,ps,z,rfl,hp,hP,hz,λH1 s1=>⟨_,rfl,dq ?_⟩⟩⟩;refine⟨_,rfl,xT (s1 _ _ ha) rfl ⟨.int hr, "int",rfl,.int hr,by decide,_,rfl,eZ (gU hho) ?_⟩⟩;exact⟨_,rfl,xT (s1 _ _ ha) rfl ⟨ta,ws,rfl,s1 _ _ hta,w1,w6,hw,λH2 s2=>k H2 (s1.trans s2)⟩⟩
theorem y8:cI ["thing"] ["thing"] (cG oo):={}
theorem Gv (D:Df K mg "is_way" oo ["thing"] f fd) (T:Txt K mg kw C):Gd P w K mg base 1 "is_way" zL:=by
 refine aH D y8 λX H vs Q E hh h=>?_;obtain⟨z,rfl,hz,k⟩:=h;obtain⟨S0,_⟩:=hh.eB [0];have B_isinstance:=hh.b T.b_isinstance;have B_str:=hh.b T.b_str;refine⟨_,(aj (au (aU (aE B_isinstance bF L2.cK (aA (aa S0) (J.ty B_str L2.vR))) (a7 (aT J.ip (aa S0) (aV (aA aP aP)) J.A0))))),?_⟩;refine⟨_,rfl,_,_,_,_,rfl,.str z,dB (T:= "str") (by decide) (by decide),_,rfl,iP ?_⟩;refine⟨_,rfl,DV,λq hq=>⟨q,_,rfl,.inr (cW.of cD),rfl,by decide+kernel,?_⟩⟩;show Q (.bl (Am (.str z) [.str "both",.str "one"])) _;have e:Am (.str z) [.str "both",.str "one"]=true:=by
  rcases hz with rfl|rfl<;>decide+kernel
 rw[e];exact k _ (cF.upd hq)
theorem vi:cI ["persons", "thing"] ["persons", "thing"] (cG mG):={}
theorem C7 (D:Df K mg "is_talk" mG ["persons", "thing"] f fd) (G_is_tuple_of:Gd P w K mg base 1 "is_tuple_of" nX) (G_are_unlike_persons:Gd P w K mg base 3 "are_unlike_persons" kQ)
  (G_is_hour:Gd P w K mg base 2 "is_hour" (mH K)) (G_is_way:Gd P w K mg base 1 "is_way" zL):Gd P w K mg base 4 "is_talk" u7:=by
 refine aH D vi λX H vs Q E hh h=>?_;obtain⟨p,ps,v,rfl,hp,hP,⟨a,hr,y,z,wy,rfl,ha,hho,hy,hz,hne,hw⟩,k⟩:=h;obtain⟨S0,S1,_⟩:=hh.eB [0,1];have C_are_unlike_persons:=hh.c G_are_unlike_persons;have C_is_hour:=hh.c G_is_hour;have C_is_tuple_of:=hh.c G_is_tuple_of;have C_is_way:=hh.c G_is_way;refine⟨_,(ag (aI (a5 (aQ (aw C_is_tuple_of (aA (aa S1) ae))))
 (aj (au a9))
 aJ)
 (aj (au (aU (aw C_is_hour (ao (af ak (aa S1) ae ah))) (aU (aw C_are_unlike_persons (aM (aa S0) (af ak (aa S1) ae ah) (af ak (aa S1) ae ah))) (a7 (aw C_is_way (ao (af ak (aa S1) ae ah))))))))),?_⟩
 refine⟨_,rfl,a,_,4,rfl,ha,rfl,_,rfl,cV ?_⟩;refine⟨_,rfl,xT ha rfl ⟨.int hr, "int",rfl,.int hr,by decide,_,rfl,eZ (gU hho) ?_⟩⟩;refine⟨_,rfl,_,rfl,xT ha rfl ⟨_,rfl,xT ha rfl ⟨p,ps,y,z,rfl,hp,hP,hy,hz,hne,λH1 s1=>⟨_,rfl,dq ?_⟩⟩⟩⟩;exact⟨_,rfl,xT (s1 _ _ ha) rfl ⟨wy,rfl,hw,λH2 s2=>k H2 (s1.trans s2)⟩⟩
theorem wm:cI ["begin", "end"] ["begin", "end"] (cG mD):={}
theorem CK (D:Df K mg "is_span" mD ["begin", "end"] f fd) (G_is_hour:Gd P w K mg base 2 "is_hour" (mH K)):Gd P w K mg base 3 "is_span" wA:=by
 refine aH D wm λX H vs Q E hh h=>?_;obtain⟨a,b,rfl,h1,h2,h3,k⟩:=h;obtain⟨S0,S1,_⟩:=hh.eB [0,1];have C_is_hour:=hh.c G_is_hour;refine⟨_,(aj (au (aU (aw C_is_hour (ao (aa S0))) (aU (aw C_is_hour (ao (aa S1))) (a7 (aT bJ (aa S0) (aa S1) (L2.cJ _))))))),?_⟩;refine⟨_,rfl,.int a, "int",rfl,.int a,by decide,_,rfl,eZ (gU h1) ?_⟩;refine⟨_,rfl,.int b, "int",rfl,.int b,by decide,_,rfl,eZ (gU h2) ?_⟩;refine⟨_,rfl,_,rfl,_,_,rfl,rfl,?_⟩;show Q (.bl (decide (a<=b))) H;rw[decide_eq_true h3];exact k
theorem jR:cI ["persons", "kind", "person", "behind"] ["persons", "kind", "person", "behind"] (cG eV):={}
theorem Bd (D:Df K mg "is_short_saying" eV ["persons", "kind", "person", "behind"] f fd) (G_are_unlike_persons:Gd P w K mg base 3 "are_unlike_persons" kQ)
  (G_is_person:Gd P w K mg base 2 "is_person" ic) (G_is_hour:Gd P w K mg base 2 "is_hour" (mH K)):Gd P w K mg base 4 "is_short_saying" rn:=by
 refine aH D jR λX H vs Q E hh h=>?_;obtain⟨p,ps,kd,y,b,rfl,hp,hP,hy,hk,k⟩:=h;obtain⟨S0,S1,S2,S3,_⟩:=hh.eB [0,1,2,3];have C_are_unlike_persons:=hh.c G_are_unlike_persons;have C_is_hour:=hh.c G_is_hour;have C_is_person:=hh.c G_is_person;refine⟨_,(ag (aI (aB aL (aa S1) aP (L2.cJ _))
 (aj (au (aw C_are_unlike_persons (aM (aa S0) (aa S2) (aa S3)))))
 aJ)
 (ag (aI (a5 (aQ (aw C_is_person (aA (aa S0) (aa S2)))))
 (aj (au a9))
 aJ)
 (ag (aI (aB aL (aa S1) aP (L2.cJ _))
 (aj (au (J.sZ (aT cB (aa S3) bB (L2.cJ _)) (a7 (aw C_is_hour (ao (aa S3)))))))
 aJ)
 (aj (au (aU (aT aL (aa S1) aP (L2.cJ _)) (a7 (aw C_is_hour (ao (aa S3)))))))))),?_⟩
 refine⟨_,rfl,rfl,_,rfl,?_⟩;rcases hk with ⟨rfl,z,rfl,hz,hne⟩|⟨rfl,hb⟩|⟨rfl,h,rfl,hho⟩
 ·refine eZ (decide_eq_true rfl) ?_
  exact⟨_,rfl,_,rfl,_,rfl,p,ps,y,z,rfl,hp,hP,hy,hz,hne,k⟩
 ·refine iN ?_
  refine⟨_,rfl,_,rfl,p,ps,y,rfl,hp,hP,hy,λH1 s1=>⟨_,rfl,cV ?_⟩⟩;refine⟨_,rfl,rfl,_,rfl,eZ (decide_eq_true rfl) ?_⟩;rcases hb with rfl|⟨h,rfl,hho⟩
  ·exact⟨_,rfl,rfl,_,rfl,eZ (decide_eq_true rfl) (k H1 s1)⟩
  ·refine⟨_,rfl,rfl,_,rfl,hZ (by rw[decide_eq_true_iff];intro e;cases e) ?_⟩
   refine⟨_,rfl,.int h, "int",rfl,.int h,by decide,?_⟩;rw[gU hho];exact k H1 s1
 ·refine iN ?_
  refine⟨_,rfl,_,rfl,p,ps,y,rfl,hp,hP,hy,λH1 s1=>⟨_,rfl,cV ?_⟩⟩;refine⟨_,rfl,rfl,_,rfl,iN ?_⟩;refine⟨_,rfl,rfl,_,rfl,eZ (decide_eq_true rfl) ?_⟩;refine⟨_,rfl,.int h, "int",rfl,.int h,by decide,?_⟩;rw[gU hho];exact k H1 s1
theorem r8:cI ["persons", "thing"] ["persons", "thing"] (cG js):={}
theorem yM (D:Df K mg "is_saying" js ["persons", "thing"] f fd) (T:Txt K mg kw C) (G_is_person:Gd P w K mg base 2 "is_person" ic) (G_is_span:Gd P w K mg base 3 "is_span" wA)
  (G_is_short_saying:Gd P w K mg base 4 "is_short_saying" rn):Gd P w K mg base 5 "is_saying" oy:=by
 refine aH D r8 λX H vs Q E hh h=>?_;obtain⟨p,ps,v,rfl,hp,hP,⟨a,rfl,hk⟩,k⟩:=h;obtain⟨S0,S1,_⟩:=hh.eB [0,1];have B_isinstance:=hh.b T.b_isinstance;have B_len:=hh.b T.b_len;have B_str:=hh.b T.b_str;have B_tuple:=hh.b T.b_tuple;have C_is_person:=hh.c G_is_person;have C_is_short_saying:=hh.c G_is_short_saying;have C_is_span:=hh.c G_is_span;refine⟨_,(ag (aI (aS (bg (a5 (aQ (aE B_isinstance bF L2.cK (aA (aa S1) (J.ty B_tuple L2.hU))))) (bg (aB aL (aE B_len bw L2.dE (ao (aa S1))) ae (L2.cJ _)) (bu (a5 (aQ (aE B_isinstance bF L2.cK (aA (af ak (aa S1) ae ah) (J.ty B_str L2.vR)))))))))
 (aj (au a9))
 aJ)
 (ag (aI (aB aL (aE B_len bw L2.dE (ao (aa S1))) ae (L2.cJ _))
 (aj (au (aU (aT aL (af ak (aa S1) ae ah) aP (L2.cJ _)) (aU (aw C_is_person (aA (aa S0) (af ak (aa S1) ae ah))) (a7 (aw C_is_span (aA (af ak (aa S1) ae ah) (af ak (aa S1) ae ah))))))))
 aJ)
 (aj (au (aU (aT aL (aE B_len bw L2.dE (ao (aa S1))) ae (L2.cJ _)) (a7 (aw C_is_short_saying (cj (aa S0) (af ak (aa S1) ae ah) (af ak (aa S1) ae ah) (af ak (aa S1) ae ah))))))))),?_⟩
 rcases hk with ⟨y,h,ha,hy,hho⟩|⟨y,b,ha,hy,hb⟩|⟨y,h,h2,ha,hy,hho,hho2,hle⟩|⟨y,z,ha,hy,hz,hne⟩
 ·refine⟨_,rfl,_,_,_,_,rfl,.tup ha,dB (T:= "tuple") (by decide) (by decide),_,rfl,iN ?_⟩
  refine⟨_,rfl,a,_,rfl,.inr (cW.of ha),rfl,_,rfl,hZ (jW (n:=3) rfl (by decide)) ?_⟩;refine⟨_,rfl,xT ha rfl ⟨_,_,_,_,rfl,.str _,dB (T:= "str") (by decide) (by decide),_,rfl,iN ?_⟩⟩;refine⟨_,rfl,a,_,rfl,.inr (cW.of ha),rfl,_,rfl,hZ (jW (n:=3) rfl (by decide)) ?_⟩;refine⟨_,rfl,a,_,rfl,.inr (cW.of ha),rfl,_,rfl,eZ (rF (n:=3) rfl (by decide)) ?_⟩;exact⟨_,rfl,_,rfl,xT ha rfl ⟨_,rfl,xT ha rfl ⟨_,rfl,xT ha rfl ⟨p,ps,_,y,_,rfl,hp,hP,hy,.inr (.inr ⟨rfl,h,rfl,hho⟩),k⟩⟩⟩⟩
 ·refine⟨_,rfl,_,_,_,_,rfl,.tup ha,dB (T:= "tuple") (by decide) (by decide),_,rfl,iN ?_⟩
  refine⟨_,rfl,a,_,rfl,.inr (cW.of ha),rfl,_,rfl,hZ (jW (n:=3) rfl (by decide)) ?_⟩;refine⟨_,rfl,xT ha rfl ⟨_,_,_,_,rfl,.str _,dB (T:= "str") (by decide) (by decide),_,rfl,iN ?_⟩⟩;refine⟨_,rfl,a,_,rfl,.inr (cW.of ha),rfl,_,rfl,hZ (jW (n:=3) rfl (by decide)) ?_⟩;refine⟨_,rfl,a,_,rfl,.inr (cW.of ha),rfl,_,rfl,eZ (rF (n:=3) rfl (by decide)) ?_⟩;exact⟨_,rfl,_,rfl,xT ha rfl ⟨_,rfl,xT ha rfl ⟨_,rfl,xT ha rfl ⟨p,ps,_,y,_,rfl,hp,hP,hy,.inr (.inl ⟨rfl,hb⟩),k⟩⟩⟩⟩
 ·refine⟨_,rfl,_,_,_,_,rfl,.tup ha,dB (T:= "tuple") (by decide) (by decide),_,rfl,iN ?_⟩
  refine⟨_,rfl,a,_,rfl,.inr (cW.of ha),rfl,_,rfl,hZ (jW (n:=4) rfl (by decide)) ?_⟩;refine⟨_,rfl,xT ha rfl ⟨_,_,_,_,rfl,.str _,dB (T:= "str") (by decide) (by decide),_,rfl,iN ?_⟩⟩;refine⟨_,rfl,a,_,rfl,.inr (cW.of ha),rfl,_,rfl,eZ (rF (n:=4) rfl (by decide)) ?_⟩;refine⟨_,rfl,xT ha rfl ⟨rfl,_,rfl,iP ?_⟩⟩;refine⟨_,rfl,_,rfl,xT ha rfl ⟨p,ps,y,rfl,hp,hP,hy,λH1 s1=>⟨_,rfl,dq ?_⟩⟩⟩;exact⟨_,rfl,xT (s1 _ _ ha) rfl ⟨_,rfl,xT (s1 _ _ ha) rfl ⟨h,h2,rfl,hho,hho2,hle,k H1 s1⟩⟩⟩
 ·refine⟨_,rfl,_,_,_,_,rfl,.tup ha,dB (T:= "tuple") (by decide) (by decide),_,rfl,iN ?_⟩
  refine⟨_,rfl,a,_,rfl,.inr (cW.of ha),rfl,_,rfl,hZ (jW (n:=3) rfl (by decide)) ?_⟩;refine⟨_,rfl,xT ha rfl ⟨_,_,_,_,rfl,.str _,dB (T:= "str") (by decide) (by decide),_,rfl,iN ?_⟩⟩;refine⟨_,rfl,a,_,rfl,.inr (cW.of ha),rfl,_,rfl,hZ (jW (n:=3) rfl (by decide)) ?_⟩;refine⟨_,rfl,a,_,rfl,.inr (cW.of ha),rfl,_,rfl,eZ (rF (n:=3) rfl (by decide)) ?_⟩;exact⟨_,rfl,_,rfl,xT ha rfl ⟨_,rfl,xT ha rfl ⟨_,rfl,xT ha rfl ⟨p,ps,_,y,_,rfl,hp,hP,hy,.inl ⟨rfl,z,rfl,hz,hne⟩,k⟩⟩⟩⟩
theorem oZ:cI ["thing"] ["thing"] (cG gN):={}
theorem vx (D:Df K mg "are_persons" gN ["thing"] f fd) (T:Txt K mg kw C) (G_is_list_up_to:Gd P w K mg base 1 "is_list_up_to" ie) (G_is_name:Gd P w K mg base 1 "is_name" (oM K)):Gd P w K mg base 2 "are_persons" l8:=by
 refine aH D oZ λX H vs Q E hh h=>?_;obtain⟨p,ps,rfl,hp,hP,k⟩:=h;obtain⟨S0,_⟩:=hh.eB [0];have B_all:=hh.b T.b_all;have B_len:=hh.b T.b_len;have B_set:=hh.b T.b_set;have g_MOST_PERSONS:∀{p:Pos},J.JE X (.Name "MOST_PERSONS" p) (L2.tC (.int 24)):=bH hh T.g_MOST_PERSONS rfl (by decide);have C_is_list_up_to:=hh.c G_is_list_up_to;have CI_is_name:=hh.ci G_is_name;have hl:(ps.map V.str).length=ps.length:=length_map ..;have h24:=hP.hi;have h1:=hP.lo;have hz:(ps.map V.str).length<=sizeLine:=by
  have:sizeLine=16777216:=sizeLine_eq;omega
 refine⟨_,(ag (aI (aS (bg (a5 (aQ (aw C_is_list_up_to (aA (aa S0) g_MOST_PERSONS)))) (bu (aB aL (aE B_len bw L2.dE (ao (aa S0))) ae (L2.cJ _)))))
 (aj (au a9))
 aJ)
 (aj (au (aU (aE B_all (cA hh.calm) L2.lV (ao (bY (is:=[]) (ns:=[]) hh.calm (aO (aa S0)) {} (λ_ _ _ _ _=>(aw (CI_is_name.lc rfl) (ao (b7 rfl (by decide) (by decide))))) hh.hsc hh.hN))) (a7 (aT aL (aE B_len J.gM L2.dE (ao (bC B_set (J.mh hh.calm) L2.EK (ao (aa S0))))) (aE B_len bw L2.dE (ao (aa S0))) (L2.cJ _))))))),?_⟩
 refine⟨_,rfl,p,_,24,rfl,hp,(by omega),_,rfl,cV ?_⟩;refine⟨_,rfl,p,_,rfl,.inl (cL.of hp),rfl,_,rfl,hZ ?_ ?_⟩
 ·rw[decide_eq_true_iff]
  intro e;injection e with e
  omega
 ·refine⟨_,rfl,p,rfl,⟨_,cL.of hp⟩,ku (λv=>.bl (oI v)) (cL.of hp) hz (λv H2 Q' hv sm q'=>?_) (λD' H' hD sm hl'=>?_)⟩
  ·obtain⟨x,hx,rfl⟩:=mem_map.mp hv
   exact⟨_,rfl,.str x, "str",rfl,.str x,by decide,ma (hP.nm x hx),λH3 s3=>q' H3 s3⟩
  ·refine⟨D',ps.map dN,rfl,cL.of (hl'.trans (by rw[map_map,map_map];rfl)),_,rfl,eZ (all_true hP.nm) ?_⟩
   refine⟨_,rfl,p,ps,rfl,cL.of (sm _ _ hp),hP.nd,by omega,λq hq=>?_⟩;refine⟨q,ps.length,rfl,cD,_,rfl,p,_,rfl,.inl (cL.of ((cF.upd hq) _ _ (sm _ _ hp))),rfl,?_⟩;rw[hl,decide_eq_true rfl];exact k _ (sm.trans (cF.upd hq))
theorem pY:cI ["persons", "thing"] ["persons", "thing"] (cG iA):={}
theorem qc (D:Df K mg "are_sights" iA ["persons", "thing"] f fd) (T:Txt K mg kw C) (G_is_list_up_to:Gd P w K mg base 1 "is_list_up_to" ie) (G_is_sight:Gd P w K mg base 3 "is_sight" qZ):Gd P w K mg base 4 "are_sights" (iC d7 24):=by
 refine aH D pY λX H vs Q E hh h=>?_;obtain⟨p,q,ps,xs,rfl,hp,hP,hq,hn,hg,k⟩:=h;obtain⟨S0,S1,_⟩:=hh.eB [0,1];have B_all:=hh.b T.b_all;have g_MOST_SIGHTS:∀{p:Pos},J.JE X (.Name "MOST_SIGHTS" p) (L2.tC (.int 24)):=bH hh T.g_MOST_SIGHTS rfl (by decide);have C_is_list_up_to:=hh.c G_is_list_up_to;have CI_is_sight:=hh.ci G_is_sight;have hz:xs.length<=sizeLine:=by
  have:sizeLine=16777216:=sizeLine_eq;omega
 refine⟨_,(aj (au (aU (aw C_is_list_up_to (aA (aa S1) g_MOST_SIGHTS)) (a7 (aE B_all (cA hh.calm) L2.lV (ao (bY (is:=[0]) (ns:=["persons"]) hh.calm (aO (aa S1)) {} (λ_ _ _ _ _=>(aw (CI_is_sight.lc rfl) (aA (cq (i:=0) rfl rfl (by decide) (by decide)) (b7 rfl (by decide) (by decide))))) hh.hsc hh.hN))))))),?_⟩;refine⟨_,rfl,q,_,24,rfl,hq,(by omega),_,rfl,dq ?_⟩;refine⟨_,rfl,q,rfl,⟨_,cL.of hq⟩,ku (λ_=>.bl true) (cL.of hq) hz (λv H2 Q' hv sm q'=>?_) (λD' H' hD sm hl'=>?_)⟩
 ·exact⟨_,rfl,_,rfl,p,ps,v,rfl,sm _ _ hp,hP,(hg v hv).mono (Tk.of sm),λH3 s3=>q' H3 s3⟩
 ·refine⟨D',xs.map λ_=>true,rfl,cL.of (hl'.trans (by rw[map_map];rfl)),?_⟩
  rw[all_true λ_ _=>rfl];exact k H' sm
theorem rJ:cI ["persons", "thing"] ["persons", "thing"] (cG je):={}
theorem rW (D:Df K mg "are_talks" je ["persons", "thing"] f fd) (T:Txt K mg kw C) (G_is_list_up_to:Gd P w K mg base 1 "is_list_up_to" ie) (G_is_talk:Gd P w K mg base 4 "is_talk" u7):Gd P w K mg base 5 "are_talks" (iC fh 120):=by
 refine aH D rJ λX H vs Q E hh h=>?_;obtain⟨p,q,ps,xs,rfl,hp,hP,hq,hn,hg,k⟩:=h;obtain⟨S0,S1,_⟩:=hh.eB [0,1];have B_all:=hh.b T.b_all;have g_MOST_TALKS:∀{p:Pos},J.JE X (.Name "MOST_TALKS" p) (L2.tC (.int 120)):=bH hh T.g_MOST_TALKS rfl (by decide);have C_is_list_up_to:=hh.c G_is_list_up_to;have CI_is_talk:=hh.ci G_is_talk;have hz:xs.length<=sizeLine:=by
  have:sizeLine=16777216:=sizeLine_eq;omega
 refine⟨_,(aj (au (aU (aw C_is_list_up_to (aA (aa S1) g_MOST_TALKS)) (a7 (aE B_all (cA hh.calm) L2.lV (ao (bY (is:=[0]) (ns:=["persons"]) hh.calm (aO (aa S1)) {} (λ_ _ _ _ _=>(aw (CI_is_talk.lc rfl) (aA (cq (i:=0) rfl rfl (by decide) (by decide)) (b7 rfl (by decide) (by decide))))) hh.hsc hh.hN))))))),?_⟩;refine⟨_,rfl,q,_,120,rfl,hq,(by omega),_,rfl,dq ?_⟩;refine⟨_,rfl,q,rfl,⟨_,cL.of hq⟩,ku (λ_=>.bl true) (cL.of hq) hz (λv H2 Q' hv sm q'=>?_) (λD' H' hD sm hl'=>?_)⟩
 ·exact⟨_,rfl,_,rfl,p,ps,v,rfl,sm _ _ hp,hP,(hg v hv).mono (Tk.of sm),λH3 s3=>q' H3 s3⟩
 ·refine⟨D',xs.map λ_=>true,rfl,cL.of (hl'.trans (by rw[map_map];rfl)),?_⟩
  rw[all_true λ_ _=>rfl];exact k H' sm
theorem ph:cI ["persons", "thing"] ["persons", "thing"] (cG gC):={}
theorem og (D:Df K mg "are_sayings" gC ["persons", "thing"] f fd) (T:Txt K mg kw C) (G_is_list_up_to:Gd P w K mg base 1 "is_list_up_to" ie) (G_is_saying:Gd P w K mg base 5 "is_saying" oy):Gd P w K mg base 6 "are_sayings" (iC eY 60):=by
 refine aH D ph λX H vs Q E hh h=>?_;obtain⟨p,q,ps,xs,rfl,hp,hP,hq,hn,hg,k⟩:=h;obtain⟨S0,S1,_⟩:=hh.eB [0,1];have B_all:=hh.b T.b_all;have g_MOST_SAYINGS:∀{p:Pos},J.JE X (.Name "MOST_SAYINGS" p) (L2.tC (.int 60)):=bH hh T.g_MOST_SAYINGS rfl (by decide);have C_is_list_up_to:=hh.c G_is_list_up_to;have CI_is_saying:=hh.ci G_is_saying;have hz:xs.length<=sizeLine:=by
  have:sizeLine=16777216:=sizeLine_eq;omega
 refine⟨_,(aj (au (aU (aw C_is_list_up_to (aA (aa S1) g_MOST_SAYINGS)) (a7 (aE B_all (cA hh.calm) L2.lV (ao (bY (is:=[0]) (ns:=["persons"]) hh.calm (aO (aa S1)) {} (λ_ _ _ _ _=>(aw (CI_is_saying.lc rfl) (aA (cq (i:=0) rfl rfl (by decide) (by decide)) (b7 rfl (by decide) (by decide))))) hh.hsc hh.hN))))))),?_⟩;refine⟨_,rfl,q,_,60,rfl,hq,(by omega),_,rfl,dq ?_⟩;refine⟨_,rfl,q,rfl,⟨_,cL.of hq⟩,ku (λ_=>.bl true) (cL.of hq) hz (λv H2 Q' hv sm q'=>?_) (λD' H' hD sm hl'=>?_)⟩
 ·exact⟨_,rfl,_,rfl,p,ps,v,rfl,sm _ _ hp,hP,(hg v hv).mono (Tk.of sm),λH3 s3=>q' H3 s3⟩
 ·refine⟨D',xs.map λ_=>true,rfl,cL.of (hl'.trans (by rw[map_map];rfl)),?_⟩
  rw[all_true λ_ _=>rfl];exact k H' sm
theorem y9:cI ["self", "persons", "sights", "talks", "sayings"] ["self", "persons", "sights", "talks", "sayings"] (cG gZ):={}
theorem Dw (F:pT K "__init__" "Book.__init__" gZ f fd) (mk:Mk K C f) (bi:Binds K fd ["self", "persons", "sights", "talks", "sayings"] []) (nm:mg "Book" =some (.ref C)) (T:Txt K mg kw C)
  (G_are_persons:Gd P w K mg base 2 "are_persons" l8) (G_are_sights:Gd P w K mg base 4 "are_sights" (iC d7 24)) (G_are_talks:Gd P w K mg base 5 "are_talks" (iC fh 120)) (G_are_sayings:Gd P w K mg base 6 "are_sayings" (iC eY 60)):
  Kd P w K mg base 7 "Book" C (vB C):=by
 refine J.DC F mk bi nm y9 (λvs H Q E h=>?_) (λX H vs Q E hh h=>?_)
 ·obtain⟨x,dx,p,a,b,c,ps,ss,ts,ys,rfl,_⟩:=h
  rfl
 ·obtain⟨x,dx,p,a,b,c,ps,ss,ts,ys,rfl,hx,hp,ha,hb,hc,g,k⟩:=h
  obtain⟨S0,S1,S2,S3,S4,_⟩:=hh.eB [0,1,2,3,4];have B_list:=hh.b T.b_list;have C_are_persons:=hh.c G_are_persons;have C_are_sayings:=hh.c G_are_sayings;have C_are_sights:=hh.c G_are_sights;have C_are_talks:=hh.c G_are_talks;obtain⟨hP,sl,sg,tl,tg,yl,yg⟩:=id g;obtain rfl:=hh.fK;refine⟨_,(ag (aI (a5 (aQ (aw C_are_persons (ao (aa S1)))))
 J.fV
 aJ)
 (ag (aI (a5 (aQ (aw C_are_sights (aA (aa S1) (aa S2)))))
 J.fV
 aJ)
 (ag (aI (a5 (aQ (aw C_are_talks (aA (aa S1) (aa S3)))))
 J.fV
 aJ)
 (ag (aI (a5 (aQ (aw C_are_sayings (aA (aa S1) (aa S4)))))
 J.fV
 aJ)
 (ag (J.lN (aa S0) (bC B_list bI L2.dG (ao (aa S1))))
 (ag (J.lN (aa S0) (bC B_list bI L2.dG (ao (aa S2))))
 (ag (J.lN (aa S0) (bC B_list bI L2.dG (ao (aa S3))))
 (aj (J.lN (aa S0) (bC B_list bI L2.dG (ao (aa S4)))))))))))),?_⟩
  refine⟨_,rfl,p,ps,rfl,hp,hP,λH1 s1=>⟨_,rfl,cV ?_⟩⟩;refine⟨_,rfl,_,rfl,p,a,ps,ss,rfl,s1 _ _ hp,hP,s1 _ _ ha,sl,λv hv=>(sg v hv).mono (Tk.of s1),λH2 s2'=>⟨_,rfl,cV ?_⟩⟩;have s2:=s1.trans s2';refine⟨_,rfl,_,rfl,p,b,ps,ts,rfl,s2 _ _ hp,hP,s2 _ _ hb,tl,λv hv=>(tg v hv).mono (Tk.of s2),λH3 s3'=>⟨_,rfl,cV ?_⟩⟩;have s3:=s2.trans s3';refine⟨_,rfl,_,rfl,p,c,ps,ys,rfl,s3 _ _ hp,hP,s3 _ _ hc,yl,λv hv=>(yg v hv).mono (Tk.of s3),λH4 s4'=>⟨_,rfl,cV ?_⟩⟩;have s4:=s3.trans s4';clear s1 s2' s2 s3' s3 s4';refine⟨_,rfl,p,_,rfl,.inl (cL.of (s4 _ _ hp)),λp' np=>⟨_,rfl,x,C,dx,[],rfl,(by rw[cH (cE (s4 _ _ hx) np)];exact s4 _ _ hx),T.cl,T.nP,(by show 0 < 1000;decide),?_⟩⟩;have xp:x≠p':=cE (s4 _ _ hx) np;have k1:∀d o,H4 d=some o->d≠x->upd (upd H4 p' (.lst (ps.map V.str))) x (.ins C dx (fF "kept_persons" (.ref p') [])) d=some o:=λd o e n=>by
   rw[cH n,cH (cE e np)];exact e
  have ax:a≠x:=jK (s4 _ _ ha) (s4 _ _ hx) (by intro z;cases z);have bx:b≠x:=jK (s4 _ _ hb) (s4 _ _ hx) (by intro z;cases z);have cx:c≠x:=jK (s4 _ _ hc) (s4 _ _ hx) (by intro z;cases z);refine⟨_,rfl,a,_,rfl,.inl (cL.of (k1 _ _ (s4 _ _ ha) ax)),λs' ns=>⟨_,rfl,x,C,dx,_,rfl,(by rw[cH (cE cD ns)];exact cD),T.cl,T.nS,(by show 1 < 1000;decide),?_⟩⟩;have xs:x≠s':=cE cD ns;have ps':p'≠s':=cE (by rw[cH xp.symm];exact cD) ns;have ns4:H4 s'=none:=by
   rw[cH xs.symm,cH ps'.symm]at ns;exact ns
  have k2:∀d o,H4 d=some o->d≠x->upd (upd (upd (upd H4 p' (.lst (ps.map V.str))) x (.ins C dx (fF "kept_persons" (.ref p') []))) s' (.lst ss)) x (.ins C dx (fF "kept_sights" (.ref s') (fF "kept_persons" (.ref p') []))) d=some o:=λd o e n=>by
   rw[cH n,cH (cE e ns4)];exact k1 d o e n
  refine⟨_,rfl,b,_,rfl,.inl (cL.of (k2 _ _ (s4 _ _ hb) bx)),λt' nt=>⟨_,rfl,x,C,dx,_,rfl,(by rw[cH (cE cD nt)];exact cD),T.cl,T.nT,(by show 2 < 1000;decide),?_⟩⟩;have xt:x≠t':=cE cD nt;have st':s'≠t':=cE (by rw[cH xs.symm];exact cD) nt;have pt':p'≠t':=cE (by rw[cH xp.symm,cH ps',cH xp.symm];exact cD) nt;have nt4:H4 t'=none:=by
   rw[cH xt.symm,cH st'.symm,cH xt.symm,cH pt'.symm]at nt;exact nt
  refine⟨_,rfl,c,_,rfl,.inl (cL.of (by rw[cH cx,cH (cE (s4 _ _ hc) nt4)];exact k2 _ _ (s4 _ _ hc) cx)),λy' ny=>⟨_,rfl,x,C,dx,_,rfl,(by rw[cH (cE cD ny)];exact cD),T.cl,T.nY,(by show 3 < 1000;decide),?_⟩⟩;have xy:x≠y':=cE cD ny;have ty':t'≠y':=cE (by rw[cH xt.symm];exact cD) ny;have sy':s'≠y':=cE (by rw[cH xs.symm,cH st',cH xs.symm];exact cD) ny;have py':p'≠y':=cE (by rw[cH xp.symm,cH pt',cH xp.symm,cH ps',cH xp.symm];exact cD) ny;have ny4:H4 y'=none:=by
   rw[cH xy.symm,cH ty'.symm,cH xy.symm,cH sy'.symm,cH xy.symm,cH py'.symm]at ny;exact ny
  refine k p' s' t' y' _ (s4.free np) (s4.free ns4) (s4.free nt4) (s4.free ny4) ⟨⟨dx,cD⟩,?_,?_,?_,?_⟩ λd o e n=>?_
  ·rw[cH xp.symm,cH py',cH xp.symm,cH pt',cH xp.symm,cH ps',cH xp.symm]
   exact cD
  ·rw[cH xs.symm,cH sy',cH xs.symm,cH st',cH xs.symm]
   exact cD
  ·rw[cH xt.symm,cH ty',cH xt.symm]
   exact cD
  ·rw[cH xy.symm]
   exact cD
  ·rw[cH n,cH (cE (s4 _ _ e) ny4),cH n,cH (cE (s4 _ _ e) nt4)]
   exact k2 d o (s4 _ _ e) n
end K31
namespace K31
open PySem L2
variable {P:Program}{w:World}{K:PySem.W.Frag}{mg:Str->Option Value}{base:Heap}{kw C:Addr}{f:Addr}{fd:FuncData}
abbrev TD:=Str×Str×Str
def dX(k:Nat)(d:TD):List (Nat×Str×Str):=if d.2.2= "both" then [(k,d.1,d.2.1),(k,d.2.1,d.1)] else [(k,d.1,d.2.1)]
def fR(k:Nat):List TD->List (Nat×Str×Str)
 |[]=>[]
 |d::r=>dX k d++fR (k+1) r
theorem tX(d:TD):∀(l:List TD) (k:Nat),fR k (l++[d])=fR k l++dX (k+l.length) d
 |[],k=>by
  show dX k d++[]=[]++dX (k+0) d;rw[append_nil,nil_append,Nat.add_zero]
 |e::r,k=>by
  show dX k e++fR (k+1) (r++[d])=(dX k e++fR (k+1) r)++dX (k+(r.length+1)) d;rw[tX d r (k+1),append_assoc,show k+1+r.length=k+(r.length+1) by omega]
theorem vG(k:Nat)(d:TD):(dX k d).length<=2:=by
 unfold dX;split
 ·exact le_refl 2
 ·exact le_succ 1
theorem iB:∀(l:List TD) (k:Nat),(fR k l).length<=2 * l.length
 |[],_=>le_refl 0
 |d::r,k=>by
  show(dX k d++fR (k+1) r).length<=2 * (r.length+1);rw[length_append];have:=vG k d;have:=iB r (k+1);omega
inductive IZ  (H:Hp)(v:V)(d:TD):Prop
 |mk(a:Addr)(h:Int)(h0:v=.ref a)(h1:H a=some (.tup [.int h,.str d.1,.str d.2.1,.str d.2.2]))
def IQ(H:Hp)(ts:List V)(td:List TD):Prop:=ts.length=td.length/\∀(i:Nat) v d,ts[i]? =some v->td[i]? =some d->IZ H v d
theorem IQ.mono{H H':Hp}{ts:List V}{td:List TD}(s:Tk H H')(h:IQ H ts td):IQ H' ts td:=⟨h.1,λi v d hv hd=>by
 obtain⟨a,t,e,ha⟩:=h.2 i v d hv hd;exact⟨a,t,e,s _ _ ha⟩⟩
inductive oT  (H:Hp)(v:V)(t:Nat×Str×Str):Prop
 |mk(a:Addr)(h0:v=.ref a)(h1:H a=some (.tup [.int t.1,.str t.2.1,.str t.2.2]))
def ej(H:Hp)(us:List V)(ks:List (Nat×Str×Str)):Prop:=us.length=ks.length/\∀(i:Nat) u t,us[i]? =some u->ks[i]? =some t->oT H u t
theorem oT.mono{H H':Hp}{v:V}{t:Nat×Str×Str}(s:Tk H H')(h:oT H v t):oT H' v t:=by
 obtain⟨a,e,ha⟩:=h;exact⟨a,e,s _ _ ha⟩
theorem ej.mono{H H':Hp}{us:List V}{ks:List (Nat×Str×Str)}(s:Tk H H')(h:ej H us ks):ej H' us ks:=⟨h.1,λi u t hu ht=>(h.2 i u t hu ht).mono s⟩
theorem ej.nil{H:Hp}:ej H [] []:=⟨rfl,λi u t hu=>by cases hu⟩
theorem ej.snoc{H:Hp}{us:List V}{ks:List (Nat×Str×Str)}{u:V}{t:Nat×Str×Str}(h:ej H us ks)(hv:oT H u t):ej H (us++[u]) (ks++[t]):=by
 refine⟨by rw[length_append,length_append,h.1];rfl,λi x e hu he=>?_⟩;by_cases hi:i < us.length
 ·rw[getElem?_append_left hi]at hu
  rw[getElem?_append_left (by rw[<-h.1];exact hi)]at he;exact h.2 i x e hu he
 ·rw[getElem?_append_right (by omega)]at hu
  rw[getElem?_append_right (by rw[<-h.1];omega),<-h.1]at he;cases hj:i - us.length with
  |zero=>
   rw[hj]at hu he;cases hu;cases he;exact hv
  |succ j=>
   rw[hj]at hu;cases hu
inductive um  (C:Addr)(vs:List V)(H:Hp)(Q:VK):Prop
 |mk(x p s t y:Addr)(ps:List Str)(ss ts ys:List V)(td:List TD)(h0:vs=[.ref x])(h1:Bk C H x p s t y ps ss ts ys)(h2:IQ H ts td)(h3:ts.length<=120)(h4:∀(l:Addr)(us:List V)(H':Hp),cF H H'->H l=none->H' l=some (.lst us)->ej H' us (fR 0 td)->Q (.ref l) H')
def j6  (C:Addr):Sp:=λvs H Q _=>um C vs H Q
inductive Hs(x l:Addr)(H:Hp)(td:List TD)(i:Nat)(σ:St)(H2:Hp):Prop
 |mk(us:List V)(e1 e2:Option V)(e:σ=[some (.ref x),some (.ref l),e1,e2])(s:cF H H2)(hl:H2 l=some (.lst us))(tl:ej H2 us (fR 0 (td.take i)))
theorem nK{H:Hp}{us:List V}{td:List TD}{i:Nat}{d:TD}(hd:td[i]? =some d)(t:ej H us (fR 0 (td.take i))):
  (d.2.2= "both" ->∀u v,oT H u (i,d.1,d.2.1)->oT H v (i,d.2.1,d.1)->ej H ((us++[u])++[v]) (fR 0 (td.take (i+1))))/\(d.2.2≠ "both" ->∀u,oT H u (i,d.1,d.2.1)->ej H (us++[u]) (fR 0 (td.take (i+1)))):=by
 have hi:i < td.length:=(List.getElem?_eq_some_iff.mp hd).1;have e:fR 0 (td.take (i+1))=fR 0 (td.take i)++dX i d:=by
  rw[take_add_one,hd];show fR 0 (td.take i++[d])=_;rw[tX,length_take,zero_add,Nat.min_eq_left (le_of_lt hi)]
 rw[e];refine⟨λhb u v hu hv=>?_,λhb u hu=>?_⟩
 ·rw[show dX i d=[(i,d.1,d.2.1)]++[(i,d.2.1,d.1)] by unfold dX;rw[if_pos hb];rfl,<-append_assoc]
  exact(t.snoc hu).snoc hv
 ·rw[show dX i d=[(i,d.1,d.2.1)] by unfold dX;rw[if_neg hb]]
  exact t.snoc hu
theorem qf:cI ["self", "told", "k", "talk"] ["self"] (cG d8):={}
theorem uK (F:pT K "tellings" "Book.tellings" d8 f fd) (me:Meth K C "tellings" f) (bi:Binds K fd ["self"] []) (T:Txt K mg kw C):Md P w K mg base 1 C "tellings" (j6 C):=by
 refine cC F me bi T.cl qf (λvs H Q E h=>?_) (λX H vs Q E hh h=>?_)
 ·obtain⟨x,p,s,t,y,ps,ss,ts,ys,td,rfl,_⟩:=h
  rfl
 ·obtain⟨x,p,s,t,y,ps,ss,ts,ys,td,rfl,bk,tls,l120,k⟩:=h
  obtain⟨S0,S1,S2,S3,_⟩:=hh.eB [0,1,2,3];have B_enumerate:=hh.b T.b_enumerate;obtain rfl:=hh.fK;have hsz:sizeLine=16777216:=sizeLine_eq;obtain⟨⟨dx,hx⟩,_,_,ht,_⟩:=id bk;refine⟨_,(ag (aD S1 hh.nd (ba bE))
 (ag (bo hh.own hh.calm (J.kU B_enumerate (ao (cw (aa S0)))) (bq hh.calm (aF (aG S2 hh.nd) (aF (aG S3 hh.nd) bh)))
 (ag (bG (bM plainAttrs_list PySem.F.slot_list_append PySem.F.type_list_append bN (aa S1) (ao (aV (aM (aa S2) (af ak (aa S3) ae ah) (af ak (aa S3) ae ah))))))
 (aj (aI (aB aL (af ak (aa S3) ae ah) aP (L2.cJ _))
 (aj (bG (bM plainAttrs_list PySem.F.slot_list_append PySem.F.type_list_append bN (aa S1) (ao (aV (aM (aa S2) (af ak (aa S3) ae ah) (af ak (aa S3) ae ah)))))))
 aJ))))
 (aj (au (aa S1))))),?_⟩
  refine⟨wW,λl hl=>?_⟩;have s1:=cF.upd (o:=.lst []) hl;refine⟨_,rfl,x,C,dx,_,_,rfl,s1 _ _ hx,T.cl,T.nT,D5 _ _ _ _,t,rfl,⟨_,cL.of (s1 _ _ ht)⟩,BM (K:=X.K) (a:=t) (xs:=ts) (Hs x l H td)
   ⟨[],none,none,rfl,s1,cD,ej.nil⟩ ?_ ?_ ?_⟩
  ·rintro i σ H2 ⟨_,_,_,_,s2,_⟩
   exact cL.of (s2 _ _ ht)
  ·rintro i v q σ H2 hv hq ⟨us,e1,e2,rfl,s2,hl2,tl⟩
   have hi:i < ts.length:=(List.getElem?_eq_some_iff.mp hv).1;have hd:td[i]? =some (td[i]'(by rw[<-tls.1];exact hi)):=getElem?_eq_getElem _;generalize (td[i]'(by rw[<-tls.1];exact hi))=d at hd;obtain⟨a,h,rfl,ha⟩:=tls.2 i v d hv hd;have ul:us.length<=240:=by
    have:=iB (td.take i) 0;rw[length_take]at this;have:=tl.1;have:=tls.1;omega
   refine⟨q,_,rfl,cW.of cD,rfl,_,_,rfl,_,_,rfl,rfl,?_⟩;have s3:=cF.upd (o:=.tup [.int i,.ref a]) hq;have ha3:=s3 _ _ (s2 _ _ ha);have hl3:=s3 _ _ hl2;have tl3:=tl.mono (Tk.of s3);have s03:=s2.trans s3;generalize upd H2 q (.tup [.int i,.ref a])=H3 at ha3 hl3 tl3 s03;refine⟨_,rfl,.inl ⟨rfl,_,cL.of hl3⟩,_,rfl,_,rfl,xT ha3 rfl ⟨_,rfl,xT ha3 rfl ⟨m8,λt1 ht1=>?_⟩⟩⟩;have s4:=cF.upd (o:=.tup [.int i,.str d.1,.str d.2.1]) ht1;refine⟨l,us,.ref t1,rfl,rfl,s4 _ _ hl3,by omega,?_⟩;have al:a≠l:=jK ha3 hl3 (by intro z;cases z);have t1l:t1≠l:=(cE hl3 ht1).symm;have ha5:upd (upd H3 t1 (.tup [.int i,.str d.1,.str d.2.1])) l (.lst (us++[.ref t1])) a=some (.tup [.int h,.str d.1,.str d.2.1,.str d.2.2]):=by
    rw[cH al];exact s4 _ _ ha3
   have tv5:oT (upd (upd H3 t1 (.tup [.int i,.str d.1,.str d.2.1])) l (.lst (us++[.ref t1]))) (.ref t1) (i,d.1,d.2.1):=⟨t1,rfl,by rw[cH t1l];exact cD⟩;have tk5:=(Tk.of s4).trans (Tk.upd (s4 _ _ hl3) (ys:=us++[.ref t1]));have tl5:=tl3.mono tk5;have hl5:upd (upd H3 t1 (.tup [.int i,.str d.1,.str d.2.1])) l (.lst (us++[.ref t1])) l=some (.lst (us++[.ref t1])):=cD;have s05:cF H (upd (upd H3 t1 (.tup [.int i,.str d.1,.str d.2.1])) l (.lst (us++[.ref t1]))):=λb o e=>by
    rw[cH (cE e hl)];exact s4 _ _ (s03 _ _ e)
   generalize upd (upd H3 t1 (.tup [.int i,.str d.1,.str d.2.1])) l (.lst (us++[.ref t1]))=H5 at ha5 tv5 tl5 hl5 s05;refine⟨_,rfl,xT ha5 rfl ⟨rfl,_,rfl,cZ (λhb=>?_) (λhb=>?_)⟩⟩
   ·have hb':d.2.2= "both" :=V.str.inj (of_decide_eq_true hb)
    refine⟨_,rfl,.inl ⟨rfl,_,cL.of hl5⟩,_,rfl,_,rfl,xT ha5 rfl ⟨_,rfl,xT ha5 rfl ⟨m8,λt2 ht2=>?_⟩⟩⟩;have s6:=cF.upd (o:=.tup [.int i,.str d.2.1,.str d.1]) ht2;refine⟨l,_,.ref t2,rfl,rfl,s6 _ _ hl5,by rw[length_append];show us.length+1 < _;omega,?_⟩;have t2l:t2≠l:=(cE hl5 ht2).symm;have tk7:=(Tk.of s6).trans (Tk.upd (s6 _ _ hl5) (ys:=(us++[.ref t1])++[.ref t2]));refine⟨_,_,_,rfl,λb o e=>?_,cD,(nK hd (tl5.mono tk7)).1 hb' _ _ (tv5.mono tk7) ⟨t2,rfl,?_⟩⟩
    ·rw[cH (cE e hl)]
     exact s6 _ _ (s05 _ _ e)
    ·rw[cH t2l]
     exact cD
   ·have hb':d.2.2≠ "both" :=λe=>hb (decide_eq_true (congrArg V.str e))
    exact⟨_,_,_,rfl,s05,hl5,(nK hd tl5).2 hb' _ tv5⟩
  ·rintro σ H2 ⟨us,e1,e2,rfl,s2,hl2,tl⟩
   rw[tls.1,take_length]at tl;exact⟨_,rfl,k l us H2 s2 hl hl2 tl⟩
inductive SD where
 |knew (p:Str)(h:Int)
 |unh (p:Str)(h:Option Int)
 |sil (p:Str)(b e:Int)
 |bar (p q:Str)
def oV:Option Int->V
 |none=>.non
 |some h=>.int h
def SD.tup:SD->List V
 |.knew p h=>[.str "knew",.str p,.int h]
 |.unh p h=>[.str "unheard",.str p,oV h]
 |.sil p b e=>[.str "silent",.str p,.int b,.int e]
 |.bar p q=>[.str "barred",.str p,.str q]
def CZ(ps:List Str):SD->Prop
 |.knew p h=>p∈ps/\cT h
 |.unh p h=>p∈ps/\∀i,h=some i->cT i
 |.sil p b e=>p∈ps/\cT b/\cT e/\b<=e
 |.bar p q=>p∈ps/\q∈ps/\p≠q
inductive t7  (H:Hp)(v:V)(d:SD):Prop
 |mk(a:Addr)(h0:v=.ref a)(h1:H a=some (.tup d.tup))
def Sys(H:Hp)(ys:List V)(sd:List SD):Prop:=ys.length=sd.length/\∀(i:Nat) v d,ys[i]? =some v->sd[i]? =some d->t7 H v d
theorem Sys.mono{H H':Hp}{ys:List V}{sd:List SD}(s:Tk H H')(h:Sys H ys sd):Sys H' ys sd:=⟨h.1,λi v d hv hd=>by
 obtain⟨a,e,ha⟩:=h.2 i v d hv hd;exact⟨a,e,s _ _ ha⟩⟩
theorem Sys.nil{H:Hp}:Sys H [] []:=⟨rfl,λi v d hv=>by cases hv⟩
theorem Sys.at{H:Hp}{ys:List V}{sd:List SD}{i:Nat}{v:V}(h:Sys H ys sd)(hv:ys[i]? =some v):∃d a,sd[i]? =some d/\v=.ref a/\H a=some (.tup d.tup):=by
 have hi:i < sd.length:=by
  rw[<-h.1];exact(List.getElem?_eq_some_iff.mp hv).1
 obtain⟨a,e,ha⟩:=h.2 i v sd[i] hv (getElem?_eq_getElem hi);exact⟨sd[i],a,getElem?_eq_getElem hi,e,ha⟩
theorem tV{ps:List Str}{H:Hp}{v:V}(h:eY ps H v):∃d,t7 H v d/\CZ ps d:=by
 obtain⟨a,e,h⟩:=h;rcases h with ⟨p,h,ha,h1,h2⟩|⟨p,b,ha,h1,h2⟩|⟨p,h,k,ha,h1,h2,h3,h4⟩|⟨p,q,ha,h1,h2,h3⟩
 ·exact⟨.knew p h,⟨a,e,ha⟩,h1,h2⟩
 ·rcases h2 with rfl|⟨h,rfl,h2⟩
  ·exact⟨.unh p none,⟨a,e,ha⟩,h1,λi z=>by cases z⟩
  ·exact⟨.unh p (some h),⟨a,e,ha⟩,h1,λi z=>by cases z;exact h2⟩
 ·exact⟨.sil p h k,⟨a,e,ha⟩,h1,h2,h3,h4⟩
 ·exact⟨.bar p q,⟨a,e,ha⟩,h1,h2,h3⟩
theorem lZ{ps:List Str}{H:Hp}:∀{ys:List V},(∀v∈ys,eY ps H v)->∃sd,Sys H ys sd/\∀d∈sd,CZ ps d
 |[],_=>⟨[],Sys.nil,λd hd=>by cases hd⟩
 |v::r,h=>by
  obtain⟨sd,⟨l,g⟩,k⟩:=lZ λu hu=>h u (mem_cons_of_mem _ hu);obtain⟨d,hd,kd⟩:=tV (h v (mem_cons_self ..));refine⟨d::sd,⟨by rw[length_cons,length_cons,l],λi u e hu he=>?_⟩,λe he=>?_⟩
  ·cases i with
   |zero=>
    cases hu;cases he;exact hd
   |succ j=>exact g j u e hu he
  ·rcases mem_cons.mp he with rfl|he
   ·exact kd
   ·exact k e he
theorem dR{α:Type}{l:List α}{i:Nat}{d:α}(h:l[i]? =some d):l.drop i=d::l.drop (i+1):=by
 obtain⟨hi,rfl⟩:=List.getElem?_eq_some_iff.mp h;exact List.drop_eq_getElem_cons hi
def iq{α:Type}(l:List α)(p:α->Bool)(i:Nat):Bool:=match l[i]? with
 |some d=>p d
 |none=>false
def rX{α:Type}(l:List α)(f:α->V)(i:Nat):V:=match l[i]? with
 |some d=>f d
 |none=>.non
theorem dI{α:Type}{l:List α}{p:α->Bool}{i:Nat}{d:α}(h:l[i]? =some d):iq l p i=p d:=by
 unfold iq;rw[h]
theorem fc{α:Type}{l:List α}{f:α->V}{i:Nat}{d:α}(h:l[i]? =some d):rX l f i=f d:=by
 unfold rX;rw[h]
theorem dw{α:Type}(p:α->Bool)(f:α->V):∀l:List α,((List.range l.length).filter (iq l p)).map (rX l f)=(l.filter p).map f
 |[]=>rfl
 |d::r=>by
  have ih:=dw p f r;have e1:(iq (d::r) p ∘ Nat.succ)=iq r p:=rfl;have e2:(rX (d::r) f ∘ Nat.succ)=rX r f:=rfl;rw[length_cons,List.range_succ_eq_map,filter_cons,filter_map,e1];have e3:iq (d::r) p 0=p d:=rfl;rw[e3,filter_cons];cases p d with
  |true=>
   rw[if_pos rfl,if_pos rfl,map_cons,map_cons,map_map,e2,ih];rfl
  |false=>
   rw[if_neg Bool.false_ne_true,if_neg Bool.false_ne_true,map_map,e2,ih]
def sR(z:Str):SD->Bool
 |.unh q _=>decide (q=z)
 |_=>false
def SD.hr:SD->Option Int
 |.unh _ h=>h
 |_=>none
def i7(z:Str)(sd:List SD):List (Option Int):=(sd.filter (sR z)).map SD.hr
def DY(acc:Int):List (Option Int)->Option Int
 |[]=>some acc
 |none::_=>none
 |some h::r=>DY (if h > acc then h else acc) r
def floorOf(z:Str)(sd:List SD):Option Int:=DY (-1) (i7 z sd)
theorem gA{z:Str}{d:SD}{r:List SD}(h:sR z d=false):i7 z (d::r)=i7 z r:=by
 unfold i7;rw[filter_cons,if_neg (by rw[h];exact Bool.false_ne_true)]
theorem tW{z:Str}{h:Option Int}{r:List SD}:i7 z (.unh z h::r)=h::i7 z r:=by
 unfold i7;rw[filter_cons,if_pos (show sR z (.unh z h)=true from decide_eq_true rfl)];rfl
theorem kZ:∀{us:List (Option Int)}{acc:Int},none∈us->DY acc us=none
 |[],_,h=>by cases h
 |none::_,_,_=>rfl
 |some h::r,acc,m=>by
  show DY _ r=none;exact kZ (by rcases mem_cons.mp m with z|z;cases z;exact z)
theorem kj:∀(vs:List Int) (acc:Int),∃m,DY acc (vs.map some)=some m/\m∈acc::vs/\∀a∈acc::vs,a<=m
 |[],acc=>⟨acc,rfl,mem_cons_self ..,λa h=>by
  rcases mem_cons.mp h with rfl|h
  ·exact Int.le_refl _
  ·cases h⟩
 |v::r,acc=>by
  obtain⟨m,e,hm,hx⟩:=kj r (if v > acc then v else acc);refine⟨m,e,?_,λa ha=>?_⟩
  ·rcases mem_cons.mp hm with z|z
   ·by_cases c:v > acc
    ·rw[if_pos c]at z
     rw[z];exact mem_cons_of_mem _ (mem_cons_self ..)
    ·rw[if_neg c]at z
     rw[z];exact mem_cons_self ..
   ·exact mem_cons_of_mem _ (mem_cons_of_mem _ z)
  ·have h0:=hx _ (mem_cons_self ..)
   rcases mem_cons.mp ha with rfl|ha
   ·split at h0<;>omega
   ·rcases mem_cons.mp ha with rfl|ha
    ·split at h0<;>omega
    ·exact hx a (mem_cons_of_mem _ ha)
inductive AD  (C:Addr)(M:Addr->Addr->Addr->Addr->Addr)(vs:List V)(H:Hp)(Q:VK):Prop
 |mk(x p s t y:Addr)(xs:List V)(h0:vs=[.ref x])(h1:(∃dx,H x=some (.ins C dx (nu p s t y))))(h2:H (M p s t y)=some (.lst xs))(h3:∀l,H l=none->Q (.ref l) (upd H l (.lst xs)))
def dC  (C:Addr)(M:Addr->Addr->Addr->Addr->Addr):Sp:=λvs H Q _=>AD C M vs H Q
inductive GF(C:Addr)(vs:List V)(H:Hp)(Q:VK):Prop
 |mk(x p s t y:Addr)(ps:List Str)(ss ts ys:List V)(z:Str)(sd:List SD)(e:vs=[.ref x,.str z])(bk:Bk C H x p s t y ps ss ts ys)(sy:Sys H ys sd)(l:ys.length<=60)(k:∀H',cF H H'->Q (oV (floorOf z sd)) H')
def rZ(C:Addr):Sp:=λvs H Q _=>GF C vs H Q
theorem rV:cI ["self"] ["self"] (cG eK):={}
theorem sI (F:pT K "sayings" "Book.sayings" eK f fd) (me:Meth K C "sayings" f) (bi:Binds K fd ["self"] []) (T:Txt K mg kw C):Md P w K mg base 1 C "sayings" (dC C (λ_ _ _ y=>y)):=by
 refine cC F me bi T.cl rV (λvs H Q E h=>?_) (λX H vs Q E hh h=>?_)
 ·obtain⟨x,p,s,t,y,xs,rfl,_⟩:=h
  rfl
 ·obtain⟨x,p,s,t,y,xs,rfl,⟨dx,hx⟩,hl,k⟩:=h
  obtain⟨S0,_⟩:=hh.eB [0];have B_list:=hh.b T.b_list;obtain rfl:=hh.fK;refine⟨_,(aj (au (bC B_list bI L2.dG (ao (cw (aa S0)))))),?_⟩;exact⟨_,rfl,x,C,dx,_,_,rfl,hx,T.cl,T.nY,Jv _ _ _ _,_,_,rfl,.inl (cL.of hl),k⟩
theorem tT:cI ["book", "person", "floor", "saying"] ["book", "person"] (cG jP):={}
theorem uI (D:Df K mg "floor_of" jP ["book", "person"] f fd) (T:Txt K mg kw C) (G_sayings:Md P w K mg base 1 C "sayings" (dC C λ_ _ _ y=>y)):Gd P w K mg base 2 "floor_of" (rZ C):=by
 refine aH D tT λX H vs Q E hh h=>?_;obtain⟨x,p,s,t,y,ps,ss,ts,ys,z,sd,rfl,bk,sy,l60,k⟩:=h;obtain⟨S0,S1,S2,S3,_⟩:=hh.eB [0,1,2,3];have B_max:=hh.b T.b_max;have M_sayings:=hh.met G_sayings (by decide);obtain⟨⟨dx,hx⟩,hp,hs,ht,hy⟩:=id bk;refine⟨_,(ag (aD S2 hh.nd (J.tN J.pe ae))
 (ag (bo hh.own hh.calm (aO (bR M_sayings (aa S0) rfl)) (aG S3 hh.nd)
 (aj (aI (aS (bp (aB aL (af ak (aa S3) ae ah) aP (L2.cJ _)) (bA (aB aL (af ak (aa S3) ae ah) (aa S1) (L2.cJ _)))))
 (ag (aI (aB cB (af ak (aa S3) ae ah) bB (L2.cJ _))
 (aj (au bB))
 aJ)
 (aj (aD S2 hh.nd (aE B_max (J.hJ hh.calm) L2.va (aA (aa S2) (af ak (aa S3) ae ah))))))
 aJ)))
 (aj (au (aa S2))))),?_⟩
 refine⟨_,rfl,_,rfl,x,dx,_,rfl,hx,iO _ _ _ _ (by decide+kernel) (by decide+kernel) (by decide+kernel) (by decide+kernel),x,p,s,t,y,ys,rfl,⟨dx,hx⟩,hy,λl hl=>?_⟩;have s1:=cF.upd (o:=.lst ys) hl;have hl1:upd H l (.lst ys) l=some (.lst ys):=cD;generalize upd H l (.lst ys)=H1 at s1 hl1;refine⟨l,rfl,⟨_,cL.of hl1⟩,da (K:=X.K) (a:=l) (xs:=ys) (λi σ H2=>∃(acc:Int) (e:Option V),σ=[some (.ref x),some (.str z),some (.int acc),e]/\cF H1 H2/\DY acc (i7 z (sd.drop i))=floorOf z sd)
  ⟨_,none,rfl,cF.refl _,rfl⟩ ?_ ?_ ?_⟩
 ·rintro i σ H2 hi ⟨acc,e,rfl,s2,hf⟩
  exact cL.of (s2 _ _ hl1)
 ·rintro i v σ H2 hv ⟨acc,e,rfl,s2,hf⟩
  obtain⟨d,a,hd,rfl,ha⟩:=sy.at hv;have ha2:=s2 _ _ (s1 _ _ ha);rw[dR hd]at hf;cases d with
  |knew q h=>
   rw[gA rfl]at hf;exact⟨_,rfl,xT ha2 rfl ⟨rfl,_,rfl,iN (cV ⟨acc,_,rfl,s2,hf⟩)⟩⟩
  |sil q b e'=>
   rw[gA rfl]at hf;exact⟨_,rfl,xT ha2 rfl ⟨rfl,_,rfl,iN (cV ⟨acc,_,rfl,s2,hf⟩)⟩⟩
  |bar q q'=>
   rw[gA rfl]at hf;exact⟨_,rfl,xT ha2 rfl ⟨rfl,_,rfl,iN (cV ⟨acc,_,rfl,s2,hf⟩)⟩⟩
  |unh q h=>
   refine⟨_,rfl,xT ha2 rfl ⟨rfl,_,rfl,iP ⟨_,rfl,xT ha2 rfl ⟨_,rfl,rfl,_,rfl,cZ (λhq=>?_) (λhq=>?_)⟩⟩⟩⟩
   ·have hq':q=z:=V.str.inj (of_decide_eq_true hq)
    subst hq';rw[tW]at hf;cases h with
    |none=>
     refine⟨_,rfl,xT ha2 rfl ⟨rfl,_,rfl,eZ (decide_eq_true rfl) ?_⟩⟩;have hf':none=floorOf q sd:=hf;have:=k H2 (s1.trans s2);rw[<-hf']at this;exact this
    |some h=>
     refine⟨_,rfl,xT ha2 rfl ⟨rfl,_,rfl,hZ (by rw[decide_eq_true_iff];intro e;cases e) ?_⟩⟩;exact⟨_,rfl,_,rfl,xT ha2 rfl ⟨acc,h,rfl,_,_,rfl,s2,hf⟩⟩
   ·have hq':sR z (.unh q h)=false:=decide_eq_false λe=>hq (decide_eq_true (congrArg V.str e))
    rw[gA hq']at hf;exact⟨acc,_,rfl,s2,hf⟩
 ·rintro σ H2 ⟨acc,e,rfl,s2,hf⟩
  rw[sy.1,List.drop_length]at hf;have hf':some acc=floorOf z sd:=hf;have:=k H2 (s1.trans s2);rw[<-hf']at this;exact⟨_,rfl,this⟩
def gD(h:Int):Option Int->Bool
 |none=>false
 |some m=>decide (m < h)
inductive FP(vs:List V)(H:Hp)(Q:VK):Prop
 |mk(h:Int)(f:Option Int)(e:vs=[.int h,oV f])(k:Q (.bl (gD h f)) H)
def nR:Sp:=λvs H Q _=>FP vs H Q
def J9(H:Hp)(d:Addr)(ps:List Str)(sd:List SD):Prop:=∃kvs:List (Key×V),H d=some (.dK kvs)/\∀z∈ps,dz kvs (Sum.inr z)=some (oV (floorOf z sd))
theorem J9.mono{H H':Hp}{d:Addr}{ps:List Str}{sd:List SD}(s:cF H H')(h:J9 H d ps sd):J9 H' d ps sd:=by
 obtain⟨kvs,e,k⟩:=h;exact⟨kvs,s _ _ e,k⟩
inductive DF(C:Addr)(vs:List V)(H:Hp)(Q:VK):Prop
 |mk(x p s t y:Addr)(ps:List Str)(ss ts ys:List V)(sd:List SD)(e:vs=[.ref x])(bk:Bk C H x p s t y ps ss ts ys)(pl:ps.length<=24)(sy:Sys H ys sd)(l:ys.length<=60)(k:∀d H',cF H H'->H d=none->J9 H' d ps sd->Q (.ref d) H')
def lq(C:Addr):Sp:=λvs H Q _=>DF C vs H Q
theorem rY:cI ["self"] ["self"] (cG eN):={}
theorem sJ (F:pT K "persons" "Book.persons" eN f fd) (me:Meth K C "persons" f) (bi:Binds K fd ["self"] []) (T:Txt K mg kw C):Md P w K mg base 1 C "persons" (dC C (λp _ _ _=>p)):=by
 refine cC F me bi T.cl rY (λvs H Q E h=>?_) (λX H vs Q E hh h=>?_)
 ·obtain⟨x,p,s,t,y,xs,rfl,_⟩:=h
  rfl
 ·obtain⟨x,p,s,t,y,xs,rfl,⟨dx,hx⟩,hl,k⟩:=h
  obtain⟨S0,_⟩:=hh.eB [0];have B_list:=hh.b T.b_list;obtain rfl:=hh.fK;refine⟨_,(aj (au (bC B_list bI L2.dG (ao (cw (aa S0)))))),?_⟩;exact⟨_,rfl,x,C,dx,_,_,rfl,hx,T.cl,T.nP,Hx _ _ _ _,_,_,rfl,.inl (cL.of hl),k⟩
theorem tj:cI ["hour", "floor"] ["hour", "floor"] (cG j9):={}
theorem ua (D:Df K mg "is_above" j9 ["hour", "floor"] f fd):Gd P w K mg base 1 "is_above" nR:=by
 refine aH D tj λX H vs Q E hh h=>?_;obtain⟨h,f,rfl,k⟩:=h;obtain⟨S0,S1,_⟩:=hh.eB [0,1];refine⟨_,(aj (au (aU (aT cv (aa S1) bB (L2.cJ _)) (a7 (aT bW (aa S0) (aa S1) (L2.cJ _)))))),?_⟩;cases f with
 |none=>exact⟨_,rfl,rfl,_,rfl,iN k⟩
 |some m=>exact⟨_,rfl,rfl,_,rfl,eZ (by rw[not_eq_true',decide_eq_false_iff_not];intro e;cases e) ⟨_,rfl,_,rfl,_,_,rfl,rfl,k⟩⟩
theorem mJ:cI ["book", "floors", "person"] ["book"] (cG fL):={}
theorem yX (D:Df K mg "floors_of_all" fL ["book"] f fd) (T:Txt K mg kw C) (G_persons:Md P w K mg base 1 C "persons" (dC C λp _ _ _=>p)) (G_floor_of:Gd P w K mg base 2 "floor_of" (rZ C)):Gd P w K mg base 3 "floors_of_all" (lq C):=by
 refine aH D mJ λX H vs Q E hh h=>?_;obtain⟨x,p,s,t,y,ps,ss,ts,ys,sd,rfl,bk,pl,sy,l60,k⟩:=h;obtain⟨S0,S1,S2,_⟩:=hh.eB [0,1,2];have C_floor_of:=hh.c G_floor_of;have M_persons:=hh.met G_persons (by decide);have hu:=eU hh.room;have hsz:sizeLine=16777216:=sizeLine_eq;obtain⟨⟨dx,hx⟩,hp,hs,ht,hy⟩:=id bk;refine⟨_,(ag (aD S1 hh.nd cn)
 (ag (bo hh.own hh.calm (aO (bR M_persons (aa S0) rfl)) (aG S2 hh.nd)
 (aj (bZ hu (aa S1) (aa S2) (aw C_floor_of (aA (aa S0) (aa S2))))))
 (aj (au (aa S1))))),?_⟩
 refine λd hdn=>?_;have s1:=cF.upd (o:=.dK []) hdn;have hd1:upd H d (.dK []) d=some (.dK []):=cD;refine⟨_,rfl,x,dx,_,rfl,s1 _ _ hx,iO _ _ _ _ (by decide+kernel) (by decide+kernel) (by decide+kernel) (by decide+kernel),x,p,s,t,y,_,rfl,⟨dx,s1 _ _ hx⟩,s1 _ _ hp,λl hl=>?_⟩;have s2:=cF.upd (o:=.lst (ps.map V.str)) hl;have ld:l≠d:=(cE hd1 hl).symm;refine⟨l,rfl,⟨_,cL.of cD⟩,da (K:=X.K) (a:=l) (xs:=ps.map V.str) (λi σ H2=>∃(kvs:List (Key×V)) (e:Option V),σ=[some (.ref x),some (.ref d),e]/\cF H H2/\H2 l=some (.lst (ps.map V.str))/\H2 d=some (.dK kvs)/\kvs.length<=i/\∀z∈ps.take i,dz kvs (Sum.inr z)=some (oV (floorOf z sd)))
  ⟨[],none,rfl,s1.trans s2,cD,s2 _ _ hd1,le_refl 0,λz hz=>by cases hz⟩ ?_ ?_ ?_⟩
 ·rintro i σ H2 hi ⟨kvs,e,rfl,s2,hl2,_⟩
  exact cL.of hl2
 ·rintro i v σ H2 hv ⟨kvs,e,rfl,s3,hl2,hd2,kl,hk⟩
  rw[getElem?_map]at hv;obtain⟨z,hz,rfl⟩:=map_eq_some_iff.mp hv;have hi:i < ps.length:=(List.getElem?_eq_some_iff.mp hz).1;refine⟨_,rfl,_,rfl,x,p,s,t,y,ps,ss,ts,ys,z,sd,rfl,bk.mono s3,sy.mono (Tk.of s3),l60,λH5 s5=>?_⟩;refine⟨_,rfl,_,rfl,d,_,rfl,l6.k (k:=Sum.inr z) (s5 _ _ hd2) (by omega),_,_,rfl,λb o e=>?_,?_,cD,?_,λz' hz'=>?_⟩
  ·rw[cH (cE e hdn)]
   exact s5 _ _ (s3 _ _ e)
  ·rw[cH ld]
   exact s5 _ _ hl2
  ·have:=gz kvs (Sum.inr z:Key) (oV (floorOf z sd))
   omega
  ·rw[gd]
   by_cases c:(Sum.inr z':Key)=Sum.inr z
   ·rw[if_pos c]
    have c':z'=z:=Sum.inr.inj c;rw[c']
   ·rw[if_neg c]
    rw[take_add_one,hz,mem_append]at hz';rcases hz' with hz'|hz'
    ·exact hk z' hz'
    ·exact absurd (congrArg Sum.inr (mem_singleton.mp hz')) c
 ·rintro σ H2 ⟨kvs,e,rfl,s3,hl2,hd2,kl,hk⟩
  rw[length_map,take_length]at hk;exact⟨_,rfl,k d H2 s3 hdn ⟨kvs,hd2,hk⟩⟩
def Lz{α:Type}(R:Hp->V->α->Prop)(H:Hp)(xs:List V)(ds:List α):Prop:=xs.length=ds.length/\∀(i:Nat) v d,xs[i]? =some v->ds[i]? =some d->R H v d
theorem Lz.mono{α:Type}{R:Hp->V->α->Prop}{H H':Hp}{xs:List V}{ds:List α}(m:∀v d,R H v d->R H' v d)(h:Lz R H xs ds):Lz R H' xs ds:=⟨h.1,λi v d hv hd=>m v d (h.2 i v d hv hd)⟩
theorem Lz.at{α:Type}{R:Hp->V->α->Prop}{H:Hp}{xs:List V}{ds:List α}{i:Nat}{v:V}(h:Lz R H xs ds)(hv:xs[i]? =some v):∃d,ds[i]? =some d/\R H v d:=by
 have hi:i < ds.length:=by
  rw[<-h.1];exact(List.getElem?_eq_some_iff.mp hv).1
 exact⟨ds[i],getElem?_eq_getElem hi,h.2 i v ds[i] hv (getElem?_eq_getElem hi)⟩
theorem rh{α:Type}{R:Hp->V->α->Prop}{H:Hp}{Ok:α->Prop}:∀{xs:List V},(∀v∈xs,∃d,R H v d/\Ok d)->∃ds,Lz R H xs ds/\∀d∈ds,Ok d
 |[],_=>⟨[],⟨rfl,λi v d hv=>by cases hv⟩,λd hd=>by cases hd⟩
 |v::r,h=>by
  obtain⟨ds,⟨l,g⟩,k⟩:=rh λu hu=>h u (mem_cons_of_mem _ hu);obtain⟨d,hd,kd⟩:=h v (mem_cons_self ..);refine⟨d::ds,⟨by rw[length_cons,length_cons,l],λi u e hu he=>?_⟩,λe he=>?_⟩
  ·cases i with
   |zero=>
    cases hu;cases he;exact hd
   |succ j=>exact g j u e hu he
  ·rcases mem_cons.mp he with rfl|he
   ·exact kd
   ·exact k e he
abbrev GD:=Str×Int
inductive dH  (H:Hp)(v:V)(d:GD):Prop
 |mk(a ta:Addr)(h0:v=.ref a)(h1:H a=some (.tup [.str d.1,.int d.2,.ref ta]))
theorem dH.mono{H H':Hp}(s:Tk H H')(v:V)(d:GD)(h:dH H v d):dH H' v d:=by
 obtain⟨a,ta,e,ha⟩:=h;exact⟨a,ta,e,s _ _ ha⟩
theorem m6{ps:List Str}{H:Hp}{ss:List V}(h:∀v∈ss,d7 ps H v):∃sg,Lz dH H ss sg/\∀d∈sg,d.1∈ps/\cT d.2:=
 rh λv hv=>by
  obtain⟨a,z,i,ta,ws,e,ha,hz,hi,_⟩:=h v hv;exact⟨(z,i),⟨a,ta,e,ha⟩,hz,hi⟩
def eG(sd:List SD)(d:GD):Bool:=gD d.2 (floorOf d.1 sd)
def eA(sg:List GD)(sd:List SD)(n:Nat):List V:=((List.range n).filter (iq sg (eG sd))).map λi=>V.int (i:Nat)
theorem pO(sg:List GD)(sd:List SD)(n:Nat):(eA sg sd n).length<=n:=by
 unfold eA;rw[length_map];have:=length_filter_le (iq sg (eG sd)) (List.range n);rw[length_range]at this;exact this
inductive Gx(C:Addr)(vs:List V)(H:Hp)(Q:VK):Prop
 |mk(x p s t y:Addr)(ps:List Str)(ss ts ys:List V)(sg:List GD)(sd:List SD)(e:vs=[.ref x])(bk:Bk C H x p s t y ps ss ts ys)(pl:ps.length<=24)(sl:ss.length<=24)(gs:Lz dH H ss sg)(gp:∀d∈sg,d.1∈ps)(sy:Sys H ys sd)(l:ys.length<=60)
   (k:∀l H',cF H H'->H l=none->H' l=some (.lst (eA sg sd sg.length))->Q (.ref l) H')
def qY(C:Addr):Sp:=λvs H Q _=>Gx C vs H Q
theorem uQ:cI ["self"] ["self"] (cG fj):={}
theorem tO (F:pT K "sights" "Book.sights" fj f fd) (me:Meth K C "sights" f) (bi:Binds K fd ["self"] []) (T:Txt K mg kw C):Md P w K mg base 1 C "sights" (dC C (λ_ s _ _=>s)):=by
 refine cC F me bi T.cl uQ (λvs H Q E h=>?_) (λX H vs Q E hh h=>?_)
 ·obtain⟨x,p,s,t,y,xs,rfl,_⟩:=h
  rfl
 ·obtain⟨x,p,s,t,y,xs,rfl,⟨dx,hx⟩,hl,k⟩:=h
  obtain⟨S0,_⟩:=hh.eB [0];have B_list:=hh.b T.b_list;obtain rfl:=hh.fK;refine⟨_,(aj (au (bC B_list bI L2.dG (ao (cw (aa S0)))))),?_⟩;exact⟨_,rfl,x,C,dx,_,_,rfl,hx,T.cl,T.nS,HP _ _ _ _,_,_,rfl,.inl (cL.of hl),k⟩
theorem oR:cI ["book", "floors"] ["book"] (cG gG):={}
theorem oY (D:Df K mg "open_sights" gG ["book"] f fd) (T:Txt K mg kw C) (G_sights:Md P w K mg base 1 C "sights" (dC C λ_ s _ _=>s)) (G_floors_of_all:Gd P w K mg base 3 "floors_of_all" (lq C)) (G_is_above:Gd P w K mg base 1 "is_above" nR):Gd P w K mg base 4 "open_sights" (qY C):=by
 refine aH D oR λX H vs Q E hh h=>?_;obtain⟨x,p,s,t,y,ps,ss,ts,ys,sg,sd,rfl,bk,pl,sl,gs,gp,sy,l60,k⟩:=h;obtain⟨S0,S1,_⟩:=hh.eB [0,1];have B_enumerate:=hh.b T.b_enumerate;have C_floors_of_all:=hh.c G_floors_of_all;have CI_is_above:=hh.ci G_is_above;have M_sights:=hh.met G_sights (by decide);have hu:=eU hh.room;have hsz:sizeLine=16777216:=sizeLine_eq;refine⟨_,(ag (aD S1 hh.nd (aw C_floors_of_all (ao (aa S0))))
 (aj (au (bK (is:=[1]) (xs:=["i", "sight"]) (ns:=["floors"]) hh.calm (J.kU B_enumerate (ao (bR M_sights (aa S0) rfl))) {} (λ_ _ _ _ _=>(b4 (n:=2) hh.calm (aF (aR (i:=0) (by decide+kernel) rfl rfl) (aF (aR (i:=1) (by decide+kernel) rfl rfl) bh)))) (λ_ _ _ _ _=>(bz (aQ (aw (CI_is_above.lg rfl) (aA (af bf (aK (i:=1) rfl rfl (by decide) (by decide)) ae ah) (bS hu (aY (i:=2) rfl rfl (by decide) (by decide)) (af bf (aK (i:=1) rfl rfl (by decide) (by decide)) ae ah) b8)))))) (λ_ _ _ _ _=>(aK (i:=0) rfl rfl (by decide) (by decide))) hh.hsc hh.hN)))),?_⟩
 refine⟨_,rfl,x,p,s,t,y,ps,ss,ts,ys,sd,rfl,bk,pl,sy,l60,λd H1 s1 dn fl=>?_⟩;obtain⟨⟨dx,hx⟩,hp,hs,ht,hy⟩:=bk.mono s1;refine⟨_,rfl,x,dx,_,rfl,hx,iO _ _ _ _ (by decide+kernel) (by decide+kernel) (by decide+kernel) (by decide+kernel),x,p,s,t,y,ss,rfl,⟨dx,hx⟩,hs,λl hl=>?_⟩;have s2:=cF.upd (o:=.lst ss) hl;refine⟨l,rfl,⟨_,cL.of cD⟩,tE (xs:=ss) (iq sg (eG sd)) (λi=>V.int (i:Nat)) (cL.of cD) (by omega) ?_ ?_⟩
 ·intro i os v q H2 K1 K2 hv hos s3 hq k1 k2
  obtain⟨o1,o2,rfl⟩:=osB hos
  ·
   obtain⟨g,hg,a,ta,rfl,ha⟩:=gs.at hv;rw[dI hg]at k1 k2;have s4:=cF.upd (o:=.tup [.int i,.ref a]) hq;have s14:=(s2.trans s3).trans s4;have ha4:=s14 _ _ (s1 _ _ ha);obtain⟨kvs,hd4,hk⟩:=fl.mono s14;have dg:eT (upd H2 q (.tup [.int i,.ref a])) d (.str g.1) (some (oV (floorOf g.1 sd))):=by
    rw[<-hk g.1 (gp g (mem_of_getElem? hg))];exact eT.k (k:=Sum.inr g.1) hd4
   refine⟨q,_,rfl,cW.of cD,rfl,_,_,rfl,_,_,rfl,rfl,⟨[_,_],rfl,rfl⟩,?_⟩;refine⟨_,rfl,xT ha4 rfl ⟨_,rfl,_,rfl,xT ha4 rfl ⟨d,_,rfl,dg,g.2,floorOf g.1 sd,rfl,_,rfl,cZ (λhb=>⟨_,rfl,k1 hb _ s4⟩) (λhb=>k2 (eq_false_of_ne_true hb) _ s4)⟩⟩⟩
 ·intro D' H' hD' s' hd'
  have e:((List.range ss.length).filter (iq sg (eG sd))).map (λi=>V.int (i:Nat))=eA sg sd sg.length:=by
   rw[gs.1];rfl
  rw[e]at hd';exact k D' H' ((s1.trans s2).trans s') ((s1.trans s2).free hD') hd'
def jJ(z:Str):SD->Bool
 |.sil q _ _=>decide (q=z)
 |_=>false
def nh(h:Int):SD->Bool
 |.sil _ b e=>if b<=h then decide (h<=e) else false
 |_=>false
def rK(z:Str)(h:Int)(d:SD):Bool:=jJ z d && nh h d
def uc(he te:Str):SD->Bool
 |.bar p q=>decide (p=he) && decide (q=te)
 |_=>false
theorem t9{α β:Type}{f:α->Bool}{g:β->Bool}:∀{xs:List α}{ds:List β},xs.length=ds.length->(∀(i:Nat) v d,xs[i]? =some v->ds[i]? =some d->f v=g d)->xs.any f=ds.any g
 |[],[],_,_=>rfl
 |[],_::_,h,_=>by cases h
 |_::_,[],h,_=>by cases h
 |x::xs,d::ds,h,k=>by
  rw[any_cons,any_cons,k 0 x d rfl rfl,t9 (Nat.succ.inj h) λi v e hv he=>k (i+1) v e hv he]
theorem nV{α β:Type}:∀{xs:List α}{ds:List β}{i:Nat}{p:α×β},(xs.zip ds)[i]? =some p->xs[i]? =some p.1/\ds[i]? =some p.2
 |[],_,_,_,h=>by cases h
 |_::_,[],_,_,h=>by cases h
 |x::xs,d::ds,i,p,h=>by
  cases i with
  |zero=>
   cases h;exact⟨rfl,rfl⟩
  |succ j=>
   have h':(xs.zip ds)[j]? =some p:=h;exact nV (xs:=xs) (ds:=ds) (i:=j) h'
theorem j8{α β:Type}:∀{xs:List α}{ds:List β}{i:Nat}{v:α}{d:β},xs[i]? =some v->ds[i]? =some d->(xs.zip ds)[i]? =some (v,d)
 |[],_,_,_,_,h,_=>by cases h
 |_::_,[],_,_,_,_,h=>by cases h
 |x::xs,e::ds,i,v,d,h,h'=>by
  cases i with
  |zero=>
   cases h;cases h';rfl
  |succ j=>exact j8 (xs:=xs) (ds:=ds) (i:=j) h h'
theorem wG{α β:Type}(f:β->Bool):∀{xs:List α}{ds:List β},xs.length=ds.length->((xs.zip ds).any λp=>f p.2)=ds.any f
 |[],[],_=>rfl
 |[],_::_,h=>by cases h
 |_::_,[],h=>by cases h
 |x::xs,d::ds,h=>by
  show(f d || (xs.zip ds).any λp=>f p.2)=(f d || ds.any f);rw[wG f (Nat.succ.inj h)]
inductive K5(vs:List V)(H:Hp)(Q:VK):Prop
 |mk(y:Addr)(ys:List V)(z:Str)(h:Int)(sd:List SD)(e:vs=[.ref y,.str z,.int h])(hy:H y=some (.lst ys))(sy:Sys H ys sd)(l:ys.length<=60)(k:∀H',cF H H'->Q (.bl (sd.any (rK z h))) H')
def wH:Sp:=λvs H Q _=>K5 vs H Q
inductive Lo(vs:List V)(H:Hp)(Q:VK):Prop
 |mk(y:Addr)(ys:List V)(he te:Str)(sd:List SD)(e:vs=[.ref y,.str he,.str te])(hy:H y=some (.lst ys))(sy:Sys H ys sd)(k:∀H',cF H H'->Q (.bl (sd.any (uc he te))) H')
def xC:Sp:=λvs H Q _=>Lo vs H Q
theorem tL(d:SD):d.tup.all df=true:=by
 cases d with
 |unh q h=>cases h<;>rfl
 |_=>rfl
theorem xu(he te:Str)(d:SD):uT d.tup [.str "barred",.str he,.str te]=uc he te d:=by
 cases d with
 |knew p h=>exact Bool.and_eq_false_imp.mpr (λh=>absurd h (by
   rw[all_eq_true];intro k;exact absurd (k 0 (mem_range.mpr (lt_min.mpr ⟨succ_pos _,succ_pos _⟩))) (by show ¬(("knew" :Str) == "barred")=true;decide+kernel)))
 |unh p h=>exact Bool.and_eq_false_imp.mpr (λh=>absurd h (by
   rw[all_eq_true];intro k;exact absurd (k 0 (mem_range.mpr (lt_min.mpr ⟨succ_pos _,succ_pos _⟩))) (by show ¬(("unheard" :Str) == "barred")=true;decide+kernel)))
 |sil p b e=>exact Bool.and_eq_false_imp.mpr (λh=>absurd h (by
   rw[all_eq_true];intro k;exact absurd (k 0 (mem_range.mpr (lt_min.mpr ⟨succ_pos _,succ_pos _⟩))) (by show ¬(("silent" :Str) == "barred")=true;decide+kernel)))
 |bar p q=>
  show((("barred" :Str) == "barred") && ((p == he) && ((q == te) && true)) && true)=(decide (p=he) && decide (q=te));rw[show(("barred" :Str) == "barred")=true from beq_self_eq_true _,Bool.true_and,Bool.and_true,Bool.and_true]
  congr 1<;>exact beq_eq_decide _ _
theorem DE{H:Hp}{v:V}{d:SD}{xs:List V}(h:t7 H v d):Hh H xs v=uT d.tup xs:=by
 obtain⟨a,rfl,ha⟩:=h;show(match H a with|some (.tup zs)=>uT zs xs|_=>false)=_;rw[ha]
theorem rM:cI ["sayings", "person", "hour", "own"] ["sayings", "person", "hour"] (cG jv):={}
theorem sf (D:Df K mg "is_silent" jv ["sayings", "person", "hour"] f fd) (T:Txt K mg kw C):Gd P w K mg base 1 "is_silent" wH:=by
 refine aH D rM λX H vs Q E hh h=>?_;obtain⟨y,ys,z,h,sd,rfl,hy,sy,l60,k⟩:=h;obtain⟨S0,S1,S2,S3,_⟩:=hh.eB [0,1,2,3];have B_any:=hh.b T.b_any;have hsz:sizeLine=16777216:=sizeLine_eq;refine⟨_,(ag (bL (is:=[1]) (xs:=["saying"]) (ns:=["person"]) S3 hh.nd hh.calm (aO (aa S0)) {} (λ_ _ _ _ _=>(aR (i:=0) (by decide+kernel) rfl rfl)) (λ_ _ _ _ _=>(bz (aS (bp (aB aL (af bf (aK (i:=0) rfl rfl (by decide) (by decide)) ae ah) aP (L2.cJ _)) (bA (aB aL (af bf (aK (i:=0) rfl rfl (by decide) (by decide)) ae ah) (aY (i:=1) rfl rfl (by decide) (by decide)) (L2.cJ _))))))) (λ_ _ _ _ _=>(aK (i:=0) rfl rfl (by decide) (by decide))) hh.hsc hh.hN (by decide+kernel))
 (aj (au (aE B_any (J.ig hh.calm) L2.vJ (ao (bK (is:=[2]) (xs:=["saying"]) (ns:=["hour"]) hh.calm (aO (aa S3)) {} (λ_ _ _ _ _=>(aR (i:=0) (by decide+kernel) rfl rfl)) (λ_ _ _ _ _=>bV) (λ_ _ _ _ _=>(J.gW bJ bJ (af bf (aK (i:=0) rfl rfl (by decide) (by decide)) ae ah) (aY (i:=1) rfl rfl (by decide) (by decide)) (af bf (aK (i:=0) rfl rfl (by decide) (by decide)) ae ah) L2.j3)) hh.hsc hh.hN)))))),?_⟩
 have zl:(ys.zip sd).length=ys.length:=by
  rw[length_zip,<-sy.1,min_self]
 refine⟨_,rfl,y,rfl,⟨_,cL.of hy⟩,dj (xs:=ys) (iq (ys.zip sd) λp=>jJ z p.2) (rX (ys.zip sd) λp=>p.1) (cL.of hy) (by omega) ?_ ?_⟩
 ·intro i os v H2 K1 K2 hv hos s2 k1 k2
  obtain⟨o,rfl⟩:=osA hos
  ·
   obtain⟨d,a,hd,rfl,ha⟩:=sy.at hv;have ha2:=s2 _ _ ha;rw[dI (j8 hv hd)]at k1 k2;rw[fc (j8 hv hd)]at k1;refine⟨⟨[some (.ref a)],rfl,rfl⟩,?_⟩;cases d with
   |knew q h=>exact⟨_,rfl,xT ha2 rfl ⟨rfl,_,rfl,iN (cV (k2 rfl H2 (cF.refl _)))⟩⟩
   |unh q h=>exact⟨_,rfl,xT ha2 rfl ⟨rfl,_,rfl,iN (cV (k2 rfl H2 (cF.refl _)))⟩⟩
   |bar q q'=>exact⟨_,rfl,xT ha2 rfl ⟨rfl,_,rfl,iN (cV (k2 rfl H2 (cF.refl _)))⟩⟩
   |sil q b e=>
    refine⟨_,rfl,xT ha2 rfl ⟨rfl,_,rfl,iP ⟨_,rfl,xT ha2 rfl ⟨_,rfl,rfl,_,rfl,cZ (λhq=>?_) (λhq=>?_)⟩⟩⟩⟩
    ·have hq':q=z:=V.str.inj (of_decide_eq_true hq)
     exact⟨_,rfl,k1 (decide_eq_true hq') H2 (cF.refl _)⟩
    ·exact k2 (decide_eq_false λe=>hq (decide_eq_true (congrArg V.str e))) H2 (cF.refl _)
 ·intro o H' ho s' hd'
  rw[<-zl,dw (λp=>jJ z p.2) (λp=>p.1) (ys.zip sd)]at hd';have om:∀p∈(ys.zip sd).filter λp=>jJ z p.2,t7 H p.1 p.2/\jJ z p.2=true:=λp hp=>by
   obtain⟨hp1,hp2⟩:=mem_filter.mp hp;obtain⟨i,hi⟩:=getElem?_of_mem hp1;obtain⟨h1,h2⟩:=nV hi;exact⟨sy.2 i _ _ h1 h2,hp2⟩
  have ol:((ys.zip sd).filter λp=>jJ z p.2).length<=60:=by
   have:=length_filter_le (λp:V×SD=>jJ z p.2) (ys.zip sd);omega
  have ev:(((ys.zip sd).filter λp=>jJ z p.2).any λp=>nh h p.2)=sd.any (rK z h):=by
   rw[List.any_filter];exact wG (λd=>jJ z d && nh h d) sy.1
  generalize (ys.zip sd).filter (λp=>jJ z p.2)=l at hd' om ol ev;refine⟨_,rfl,o,rfl,⟨_,cL.of hd'⟩,dj (xs:=l.map λp=>p.1) (iq l λ_=>true) (rX l λp=>V.bl (nh h p.2)) (cL.of hd') (by rw[length_map];omega) ?_ ?_⟩
  ·intro i os v H2 K1 K2 hv hos s2 k1 k2
   obtain⟨o,rfl⟩:=osA hos
   ·
    rw[getElem?_map]at hv;obtain⟨p,hp,rfl⟩:=map_eq_some_iff.mp hv;obtain⟨⟨a,ea,ha⟩,hz⟩:=om p (mem_of_getElem? hp);have ha2:=s2 _ _ (s' _ _ ha);rw[dI hp]at k1;rw[fc hp]at k1;have kk:=k1 rfl;clear k1 k2;refine⟨⟨[some p.1],rfl,rfl⟩,dq (B:=K2 H2) ?_⟩;obtain⟨v,d⟩:=p;dsimp only at ea ha2 kk hz;subst ea;cases d with
    |sil q b e=>
     refine⟨_,rfl,xT ha2 rfl ⟨_,rfl,_,_,rfl,rfl,_,rfl,?_⟩⟩;have k2:K1 (V.bl (if b<=h then decide (h<=e) else false)) H2:=kk H2 (cF.refl _);refine cZ (λhb=>?_) (λhb=>?_)
     ·rw[if_pos (of_decide_eq_true hb)]at k2
      exact⟨_,rfl,xT ha2 rfl ⟨_,_,rfl,rfl,k2⟩⟩
     ·rw[if_neg (λe=>hb (decide_eq_true e))]at k2
      exact k2
    |knew q h=>exact absurd hz Bool.false_ne_true
    |unh q h=>exact absurd hz Bool.false_ne_true
    |bar q q'=>exact absurd hz Bool.false_ne_true
  ·intro D2 H3 hD2 s3 hd3
   have e2:((List.range (l.map λp=>p.1).length).filter (iq l λ_=>true)).map (rX l λp=>V.bl (nh h p.2))=(l.map λp=>nh h p.2).map V.bl:=by
    rw[length_map,dw (λ_=>true) (λp=>V.bl (nh h p.2)) l,List.filter_eq_self.mpr (λ_ _=>rfl),map_map];rfl
   rw[e2]at hd3;refine⟨D2,_,rfl,cL.of hd3,?_⟩;have e3:(l.map λp=>nh h p.2).any id=sd.any (rK z h):=by
    rw[any_map,<-ev];rfl
   rw[e3];exact k H3 (s'.trans s3)
theorem sG:cI ["sayings", "hearer", "teller"] ["sayings", "hearer", "teller"] (cG ju):={}
theorem sv (D:Df K mg "is_barred" ju ["sayings", "hearer", "teller"] f fd):Gd P w K mg base 1 "is_barred" xC:=by
 refine aH D sG λX H vs Q E hh h=>?_;obtain⟨y,ys,he,te,sd,rfl,hy,sy,k⟩:=h;obtain⟨S0,S1,S2,_⟩:=hh.eB [0,1,2];have hu:=eU hh.room;refine⟨_,(aj (au (aT (J.jX hu) (aV (aM aP (aa S1) (aa S2))) (aa S0) J.gB))),?_⟩;refine⟨_,rfl,_,rfl,m8,λq hq=>?_⟩;have s1:=cF.upd (o:=.tup [.str "barred",.str he,.str te]) hq;have sy1:=sy.mono (Tk.of s1);refine⟨_,rfl,q,y,_,ys,rfl,rfl,cD,cL.of (s1 _ _ hy),rfl,λv hv=>?_,?_⟩
 ·obtain⟨i,hi⟩:=getElem?_of_mem hv
  obtain⟨d,a,_,e,ha⟩:=sy1.at hi;exact⟨a,d.tup,e,ha,tL d⟩
 ·rw[t9 (g:=uc he te) sy1.1 λi v d hv hd=>(DE (sy1.2 i v d hv hd)).trans (xu he te d)]
  exact k _ s1
abbrev QD:=Int×Str×Str×Str
inductive dJ  (H:Hp)(v:V)(d:QD):Prop
 |mk(a:Addr)(h0:v=.ref a)(h1:H a=some (.tup [.int d.1,.str d.2.1,.str d.2.2.1,.str d.2.2.2]))
theorem dJ.mono{H H':Hp}(s:Tk H H')(v:V)(d:QD)(h:dJ H v d):dJ H' v d:=by
 obtain⟨a,e,ha⟩:=h;exact⟨a,e,s _ _ ha⟩
def lx(ps:List Str)(d:QD):Prop:=cT d.1/\d.2.1∈ps/\d.2.2.1∈ps/\(d.2.2.2= "both" \/d.2.2.2= "one")
theorem zq{ps:List Str}{H:Hp}{ts:List V}(h:∀v∈ts,fh ps H v):∃qd,Lz dJ H ts qd/\∀d∈qd,lx ps d:=
 rh λv hv=>by
  obtain⟨a,i,p,q,w,e,ha,hi,hp,hq,_,hw⟩:=h v hv;exact⟨(i,p,q,w),⟨a,e,ha⟩,hi,hp,hq,hw⟩
def gv(qd:List QD):List TD:=qd.map λd=>d.2
theorem BN{H:Hp}{ts:List V}{qd:List QD}(h:Lz dJ H ts qd):IQ H ts (gv qd):=by
 refine⟨by rw[h.1];exact(length_map ..).symm,λi v d hv hd=>?_⟩;unfold gv at hd;rw[getElem?_map]at hd;obtain⟨q,hq,rfl⟩:=map_eq_some_iff.mp hd;obtain⟨a,e,ha⟩:=h.2 i v q hv hq;exact⟨a,q.1,e,ha⟩
def d4(qd:List QD)(k:Nat):Int:=match qd[k]? with
 |some d=>d.1
 |none=>0
theorem eP{qd:List QD}{k:Nat}{d:QD}(h:qd[k]? =some d):d4 qd k=d.1:=by
 unfold d4;rw[h]
abbrev TK:=Nat×Str×Str
def c8(qd:List QD)(sd:List SD)(t:TK):Bool:=gD (d4 qd t.1) (floorOf t.2.2 sd) && !(sd.any (rK t.2.1 (d4 qd t.1)) || sd.any (uc t.2.2 t.2.1))
theorem rS{t:TK}:∀{l:List TD}{k:Nat},t∈fR k l->∃(j:Nat) (d:TD),l[j]? =some d/\t.1=k+j/\(t.2=(d.1,d.2.1)\/t.2=(d.2.1,d.1))
 |[],_,h=>by cases h
 |d::r,k,h=>by
  have h':t∈dX k d++fR (k+1) r:=h;rcases mem_append.mp h' with h|h
  ·refine⟨0,d,rfl,?_⟩
   unfold dX at h;split at h
   ·rcases mem_cons.mp h with rfl|h
    ·exact⟨rfl,.inl rfl⟩
    ·rw[mem_singleton]at h
     subst h;exact⟨rfl,.inr rfl⟩
   ·rw[mem_singleton]at h
    subst h;exact⟨rfl,.inl rfl⟩
  ·obtain⟨j,e,he,h1,h2⟩:=rS h
   exact⟨j+1,e,he,by omega,h2⟩
theorem HG{ps:List Str}{qd:List QD}(ok:∀d∈qd,lx ps d){t:TK}(h:t∈fR 0 (gv qd)):∃q,qd[t.1]? =some q/\t.2.2∈ps:=by
 obtain⟨j,d,hd,e1,e2⟩:=rS h;unfold gv at hd;rw[getElem?_map]at hd;obtain⟨q,hq,rfl⟩:=map_eq_some_iff.mp hd;rw[zero_add]at e1;have:=ok q (mem_of_getElem? hq);refine⟨q,by rw[e1];exact hq,?_⟩;rcases e2 with e2|e2
 ·rw[e2]
  exact this.2.2.1
 ·rw[e2]
  exact this.2.1
theorem BY{ta tb:TE}{σ:St}{H:Hp}{Q:VK}(b1 b2:Bool)(h1:∀Q':VK,(∀H',cF H H'->Q' (.bl b1) H')->ta σ H Q')(h2:∀H1 (Q':VK),cF H H1->(∀H',cF H1 H'->Q' (.bl b2) H')->tb σ H1 Q')(q:∀H',cF H H'->Q (.bl (b1 || b2)) H'):Dr ta tb σ H Q:=by
 refine h1 _ λH1 s1=>⟨_,rfl,?_⟩;cases b1 with
 |true=>exact dq (q H1 s1)
 |false=>exact cV (h2 H1 _ s1 λH' s'=>q H' (s1.trans s'))
theorem FO{ta tb:TE}{i j:Nat}{v:V}{u:TS}{D:Ends}{σ:St}{H:Hp}(b1 b2:Bool)(h1:∀Q':VK,(∀H',cF H H'->Q' (.bl b1) H')->ta (σ.set i (some v)) H Q')(h2:∀H1 (Q':VK),cF H H1->(∀H',cF H1 H'->Q' (.bl b2) H')->tb (σ.set i (some v)) H1 Q')
  (q:∀H',cF H H'->u D ((σ.set i (some v)).set j (some (.bl (b1 || b2)))) H'):eQ i v σ H (vZ (uj (Dr ta tb) (eQ j)) u D):=BY (ta:=ta) (tb:=tb) b1 b2 h1 h2 q
inductive FL(C:Addr)(vs:List V)(H:Hp)(Q:VK):Prop
 |mk(x p s t y:Addr)(ps:List Str)(ss ts ys:List V)(qd:List QD)(sd:List SD)(e:vs=[.ref x])(bk:Bk C H x p s t y ps ss ts ys)(pl:ps.length<=24)(tl:ts.length<=120)(qs:Lz dJ H ts qd)(qk:∀d∈qd,lx ps d)(sy:Sys H ys sd)(l:ys.length<=60)
   (k:∀l us H',cF H H'->H l=none->H' l=some (.lst us)->ej H' us ((fR 0 (gv qd)).filter (c8 qd sd))->Q (.ref l) H')
inductive Jk(x tb yb d fo:Addr)(H5:Hp)(tl:List TK)(op:TK->Bool)(i:Nat)(σ:St)(H6:Hp):Prop
 |mk(us:List V)(e1 e2 e3 e4 e5:Option V)(e:σ=[some (.ref x),some (.ref tb),some (.ref yb),some (.ref d),some (.ref fo),e1,e2,e3,e4,e5])(kp:∀b o,H5 b=some o->b≠fo->H6 b=some o)(hf:H6 fo=some (.lst us))(ul:us.length<=i)(tu:ej H6 us ((tl.take i).filter op))
def rQ(C:Addr):Sp:=λvs H Q _=>FL C vs H Q
theorem vX:cI ["self"] ["self"] (cG fZ):={}
theorem u6 (F:pT K "talks" "Book.talks" fZ f fd) (me:Meth K C "talks" f) (bi:Binds K fd ["self"] []) (T:Txt K mg kw C):Md P w K mg base 1 C "talks" (dC C (λ_ _ t _=>t)):=by
 refine cC F me bi T.cl vX (λvs H Q E h=>?_) (λX H vs Q E hh h=>?_)
 ·obtain⟨x,p,s,t,y,xs,rfl,_⟩:=h
  rfl
 ·obtain⟨x,p,s,t,y,xs,rfl,⟨dx,hx⟩,hl,k⟩:=h
  obtain⟨S0,_⟩:=hh.eB [0];have B_list:=hh.b T.b_list;obtain rfl:=hh.fK;refine⟨_,(aj (au (bC B_list bI L2.dG (ao (cw (aa S0)))))),?_⟩;exact⟨_,rfl,x,C,dx,_,_,rfl,hx,T.cl,T.nT,D5 _ _ _ _,_,_,rfl,.inl (cL.of hl),k⟩
theorem l9:cI ["book", "talks", "sayings", "floors", "found", "k", "teller", "hearer", "hour", "hushed"] ["book"] (cG fB):={}
theorem mw (D:Df K mg "open_tellings" fB ["book"] f fd) (T:Txt K mg kw C) (G_talks:Md P w K mg base 1 C "talks" (dC C λ_ _ t _=>t)) (G_sayings:Md P w K mg base 1 C "sayings" (dC C λ_ _ _ y=>y)) (G_tellings:Md P w K mg base 1 C "tellings" (j6 C))
  (G_floors_of_all:Gd P w K mg base 3 "floors_of_all" (lq C)) (G_is_above:Gd P w K mg base 1 "is_above" nR) (G_is_silent:Gd P w K mg base 1 "is_silent" wH) (G_is_barred:Gd P w K mg base 1 "is_barred" xC):Gd P w K mg base 4 "open_tellings" (rQ C):=by
 refine aH D l9 λX H vs Q E hh h=>?_;obtain⟨x,p,s,t,y,ps,ss,ts,ys,qd,sd,rfl,bk,pl,tl,qs,qk,sy,l60,k⟩:=h;obtain⟨S0,S1,S2,S3,S4,S5,S6,S7,S8,S9,_⟩:=hh.eB [0,1,2,3,4,5,6,7,8,9];have C_floors_of_all:=hh.c G_floors_of_all;have C_is_above:=hh.c G_is_above;have C_is_barred:=hh.c G_is_barred;have C_is_silent:=hh.c G_is_silent;have M_sayings:=hh.met G_sayings (by decide);have M_talks:=hh.met G_talks (by decide);have M_tellings:=hh.met G_tellings (by decide);have hu:=eU hh.room;have hsz:sizeLine=16777216:=sizeLine_eq;obtain⟨⟨dx,hx⟩,hp,hs,ht,hy⟩:=id bk;refine⟨_,(ag (aD S1 hh.nd (bR M_talks (aa S0) rfl))
 (ag (aD S2 hh.nd (bR M_sayings (aa S0) rfl))
 (ag (aD S3 hh.nd (aw C_floors_of_all (ao (aa S0))))
 (ag (aD S4 hh.nd (ba bE))
 (ag (bo hh.own hh.calm (aO (bR M_tellings (aa S0) rfl)) (bq hh.calm (aF (aG S5 hh.nd) (aF (aG S6 hh.nd) (aF (aG S7 hh.nd) bh))))
 (ag (aD S8 hh.nd (af ak (af aZ (aa S1) (aa S5) aX) ae ah))
 (ag (aD S9 hh.nd (J.sZ (aw C_is_silent (aM (aa S2) (aa S6) (aa S8))) (a7 (aw C_is_barred (aM (aa S2) (aa S7) (aa S6))))))
 (aj (aI (aS (bp (aQ (aw C_is_above (aA (aa S8) (bS hu (aa S3) (aa S7) aX)))) (bA (a5 (J.xx (aa S9))))))
 (aj (bG (bM plainAttrs_list PySem.F.slot_list_append PySem.F.type_list_append bN (aa S4) (ao (aV (aM (aa S5) (aa S6) (aa S7)))))))
 aJ)))))
 (aj (au (aa S4)))))))),?_⟩
 refine⟨_,rfl,x,dx,_,rfl,hx,iO _ _ _ _ (by decide+kernel) (by decide+kernel) (by decide+kernel) (by decide+kernel),x,p,s,t,y,ts,rfl,⟨dx,hx⟩,ht,λtb htb=>?_⟩;have s1:=cF.upd (o:=.lst ts) htb;have htb1:upd H tb (.lst ts) tb=some (.lst ts):=cD;generalize upd H tb (.lst ts)=H1 at s1 htb1;refine⟨_,rfl,x,dx,_,rfl,s1 _ _ hx,iO _ _ _ _ (by decide+kernel) (by decide+kernel) (by decide+kernel) (by decide+kernel),x,p,s,t,y,ys,rfl,⟨dx,s1 _ _ hx⟩,s1 _ _ hy,λyb hyb=>?_⟩;have s2:=cF.upd (o:=.lst ys) hyb;have hyb2:upd H1 yb (.lst ys) yb=some (.lst ys):=cD;generalize upd H1 yb (.lst ys)=H2 at s2 hyb2;have s02:=s1.trans s2;refine⟨_,rfl,x,p,s,t,y,ps,ss,ts,ys,sd,rfl,bk.mono s02,pl,sy.mono (Tk.of s02),l60,λd H3 s3 dn fl=>?_⟩;have s03:=s02.trans s3;refine⟨wW,λfo hfo=>?_⟩;have s4:=cF.upd (o:=.lst []) hfo;have s04:=s03.trans s4;have hfo4:upd H3 fo (.lst []) fo=some (.lst []):=cD;have nfo:H fo=none:=s03.free hfo;have fl4:=fl.mono s4;have htb4:=s4 _ _ (s3 _ _ (s2 _ _ htb1));have hyb4:=s4 _ _ (s3 _ _ hyb2);have fotb:tb≠fo:=cE (s3 _ _ (s2 _ _ htb1)) hfo;have foyb:yb≠fo:=cE (s3 _ _ hyb2) hfo;have fod:d≠fo:=by
  obtain⟨kvs,e,_⟩:=fl;exact cE e hfo
 generalize upd H3 fo (.lst [])=H4 at s4 s04 hfo4 fl4 htb4 hyb4;clear s1 htb1 s2 hyb2 s02 s3 fl s03 hfo s4;refine⟨_,rfl,x,dx,_,rfl,s04 _ _ hx,iO _ _ _ _ (by decide+kernel) (by decide+kernel) (by decide+kernel) (by decide+kernel),x,p,s,t,y,ps,ss,ts,ys,gv qd,rfl,bk.mono s04,(BN qs).mono (Tk.of s04),tl,λm vs H5 s5 mn hm tm=>?_⟩;have fom:m≠fo:=(cE hfo4 mn).symm;have ml:vs.length<=240:=by
  have:=iB (gv qd) 0;have:=tm.1;have:=(BN qs).1;omega
 refine⟨m,rfl,⟨_,cL.of hm⟩,da (K:=X.K) (a:=m) (xs:=vs) (Jk x tb yb d fo H5 (fR 0 (gv qd)) (c8 qd sd))
  ⟨[],none,none,none,none,none,rfl,λb o e _=>e,s5 _ _ hfo4,le_refl 0,ej.nil⟩ ?_ ?_ ?_⟩
 ·rintro i σ H6 hi ⟨us,e1,e2,e3,e4,e5,rfl,kp,_⟩
  exact cL.of (kp _ _ hm fom)
 ·rintro i v σ H6 hv ⟨us,e1,e2,e3,e4,e5,rfl,kp,hf6,ul,tu⟩
  have hi:i < vs.length:=(List.getElem?_eq_some_iff.mp hv).1;obtain⟨tk,htk⟩:∃tk,(fR 0 (gv qd))[i]? =some tk:=⟨_,getElem?_eq_getElem (by rw[<-tm.1];exact hi)⟩;obtain⟨a,rfl,ha⟩:=tm.2 i v tk hv htk;obtain⟨q,hq,hps⟩:=HG qk (mem_of_getElem? htk);have kpT:∀b xs,H b=some (.tup xs)->H6 b=some (.tup xs):=λb xs e=>kp b _ (s5 _ _ (s04 _ _ e)) (cE e nfo);have ha6:=kp _ _ ha (jK ha (s5 _ _ hfo4) (by intro z;cases z));have htb6:=kp _ _ (s5 _ _ htb4) fotb;have hyb6:=kp _ _ (s5 _ _ hyb4) foyb;obtain⟨kvs,hd6,hk⟩:=fl4;have hd6:=kp _ _ (s5 _ _ hd6) fod;obtain⟨vq,hvq⟩:∃vq,ts[tk.1]? =some vq:=⟨_,getElem?_eq_getElem (by rw[qs.1];exact(List.getElem?_eq_some_iff.mp hq).1)⟩;obtain⟨aq,rfl,haq⟩:=qs.2 _ _ _ hvq hq;have haq6:=kpT _ _ haq;have sy6:Sys H6 ys sd:=sy.mono kpT;refine⟨a,_,rfl,cW.of ha6,rfl,_,_,rfl,_,_,rfl,_,_,rfl,rfl,?_⟩;refine⟨_,rfl,_,rfl,xL htb6 (cQ hvq) (xT haq6 rfl ?_)⟩;rw[<-eP hq];refine FO (i:=8) (j:=9) (ta:=o6 wH [] E0 (dA (iV 2) (dA (iV 6) (dA (iV 8) mP)))) (tb:=o6 xC [] E0 (dA (iV 2) (dA (iV 7) (dA (iV 6) mP)))) (sd.any (rK tk.2.1 (d4 qd tk.1))) (sd.any (uc tk.2.2 tk.2.1)) (λQ' q'=>⟨_,rfl,_,rfl,_,rfl,yb,ys,tk.2.1,d4 qd tk.1,sd,rfl,hyb6,sy6,l60,q'⟩) (λH7 Q' s7 q'=>⟨_,rfl,_,rfl,_,rfl,yb,ys,tk.2.2,tk.2.1,sd,rfl,s7 _ _ hyb6,sy6.mono (Tk.of s7),q'⟩) (λH7 s7=>?_);have dg:eT H7 d (.str tk.2.2) (some (oV (floorOf tk.2.2 sd))):=by
   rw[<-hk _ hps];exact eT.k (k:=Sum.inr tk.2.2) (s7 _ _ hd6)
  have et:(fR 0 (gv qd)).take (i+1)=(fR 0 (gv qd)).take i++[tk]:=by
   rw[take_add_one,htk];rfl
  have hf7:=s7 _ _ hf6;have kp7:∀b o,H5 b=some o->b≠fo->H7 b=some o:=λb o e n=>s7 _ _ (kp b o e n);have tu7:=tu.mono (Tk.of s7);have no:c8 qd sd tk=false->ej H7 us (((fR 0 (gv qd)).take (i+1)).filter (c8 qd sd)):=λh=>by
   rw[et,filter_append,filter_cons,if_neg (by rw[h];exact Bool.false_ne_true),List.filter_nil,append_nil];exact tu7
  refine⟨_,rfl,_,rfl,_,rfl,d,_,rfl,dg,d4 qd tk.1,floorOf tk.2.2 sd,rfl,_,rfl,cZ (λhab=>⟨_,rfl,_,rfl,cZ (λhs=>?_) (λhs=>?_)⟩) (λhab=>cV ?_)⟩
  ·have ot:c8 qd sd tk=true:=by
    unfold c8;rw[hab,hs];rfl
   refine⟨_,rfl,.inl ⟨rfl,_,cL.of hf7⟩,_,rfl,_,rfl,_,rfl,m8,λt1 ht1=>?_⟩;have s8:=cF.upd (o:=.tup [.int tk.1,.str tk.2.1,.str tk.2.2]) ht1;have t1f:t1≠fo:=(cE hf7 ht1).symm;refine⟨fo,us,.ref t1,rfl,rfl,s8 _ _ hf7,by omega,us++[.ref t1],_,_,_,_,_,rfl,λb o e n=>?_,cD,by rw[length_append];show us.length+1<=i+1;omega,?_⟩
   ·rw[cH n]
    exact s8 _ _ (kp7 b o e n)
   ·rw[et,filter_append,filter_cons,if_pos ot,List.filter_nil]
    refine(tu7.mono ((Tk.of s8).trans (Tk.upd (s8 _ _ hf7)))).snoc ⟨t1,rfl,?_⟩;rw[cH t1f];exact cD
  ·refine⟨us,_,_,_,_,_,rfl,kp7,hf7,by omega,no ?_⟩
   unfold c8;rw[eq_false_of_ne_true hs,Bool.and_false]
  ·refine⟨us,_,_,_,_,_,rfl,kp7,hf7,by omega,no ?_⟩
   unfold c8;rw[eq_false_of_ne_true hab,Bool.false_and]
 ·rintro σ H6 ⟨us,e1,e2,e3,e4,e5,rfl,kp,hf6,ul,tu⟩
  rw[tm.1,take_length]at tu;exact⟨_,rfl,k fo us H6 (λb o e=>kp b o (s5 _ _ (s04 _ _ e)) (cE e nfo)) nfo hf6 tu⟩
end K31
namespace K31
open PySem L2
variable {P:Program}{w:World}{K:PySem.W.Frag}{mg:Str->Option Value}{base:Heap}{kw C:Addr}{f:Addr}{fd:FuncData}
inductive Hf  (vs:List V)(H:Hp)(Q:VK):Prop
 |mk(c k:Int)(h0:vs=[.int c,.int k])(h1:0<=k)(h2:k<=1000)(h3:∀m:Int,0<=m->m < 2147483647->Q (.int m) H)
def wN  :Sp:=λvs H Q _=>Hf  vs H Q
structure n8(hs:List Int):Prop where
 len:hs.length=21
 ok:∀h∈hs,cT h
 mono:∀(i j:Nat) (a b:Int),i<=j->hs[i]? =some a->hs[j]? =some b->a<=b
inductive BK  (vs:List V)(H:Hp)(Q:VK):Prop
 |mk(c:Int)(h0:vs=[.int c])(h1:∀(l:Addr)(hs:List Int)(H':Hp),cF H H'->H l=none->H' l=some (.lst (hs.map V.int))->n8 hs->Q (.ref l) H')
def rb  :Sp:=λvs H Q _=>BK  vs H Q
def L4(ps:List Str):SD->Prop
 |.knew p h=>p∈ps/\cT h
 |.unh p h=>p∈ps/\∀i,h=some i->cT i
 |.sil p b e=>p∈ps/\cT b/\cT e/\b<=e
 |.bar p q=>p∈ps/\q∈ps
inductive DO  (vs:List V)(H:Hp)(Q:VK):Prop
 |mk(n at_:Int)(p q:Str)(cl:Addr)(hs:List Int)(ps:List Str)(h0:vs=[.int n,.str p,.str q,.ref cl,.int at_])(h1:H cl=some (.lst (hs.map V.int)))(h2:n8 hs)(h3:0<=at_)(h4:at_<=20)(h5:p∈ps)(h6:q∈ps)(h7:∀(v:V)(d:SD)(H':Hp),cF H H'->t7 H' v d->L4 ps d->Q v H')
def uV  :Sp:=λvs H Q _=>DO  vs H Q
inductive CJ  (vs:List V)(H:Hp)(Q:VK):Prop
 |mk(n k m:Int)(h0:vs=[.int n,.int k,.int m])(h1:0<=n)(h2:0<=k)(h3:1<=m)(h4:∀(t:Addr)(a f st:Int)(H':Hp),cF H H'->H' t=some (.tup [.int a,.int f,.int st])->0<=a->a<=20->0<=f->f < m->0<=st->Q (.ref t) H')
def vm  :Sp:=λvs H Q _=>CJ  vs H Q
theorem kT{hs:List Int}(ok:n8 hs){i:Int}(h0:0<=i)(h1:i<=20):∃h:Int,nM (hs.map V.int) i=some (.int h)/\hs[i.toNat]? =some h/\cT h:=by
 have hi:i.toNat < hs.length:=by
  rw[ok.len];omega
 have e:((i.toNat:Nat):Int)=i:=Int.toNat_of_nonneg h0;have:=cQ (xs:=hs.map V.int) (j:=i.toNat) (v:=V.int hs[i.toNat]) (by rw[getElem?_map,getElem?_eq_getElem hi];rfl);rw[e]at this;exact⟨hs[i.toNat],this,getElem?_eq_getElem hi,ok.ok _ (getElem_mem hi)⟩
theorem both{G A:Prop}(g:G)(f:G->A):A:=f g
theorem cY(x:Int){m:Int}(h:0 < m):0<=x % m/\x % m < m:=⟨Int.emod_nonneg _ (Int.ne_of_gt h),Int.emod_lt_of_pos _ h⟩
theorem Ay:cI ["_law_cell", "_law_k", "_law_some"] ["_law_cell", "_law_k"] (cG ro):={}
theorem GR (D:Df K mg "_law_mix" ro ["_law_cell", "_law_k"] f fd):Gd P w K mg base 1 "_law_mix" wN:=by
 refine aH D Ay λX H vs Q E hh h=>?_;obtain⟨c,k,rfl,k0,k1,q⟩:=h;obtain⟨S0,S1,S2,_⟩:=hh.eB [0,1,2];refine⟨_,(ag (aD S2 hh.nd (az bD (az bD (az a8 (aa S0) ae) (az bP (az bP ae (aa S1)) (aa S1))) ae))
 (aj (au (az a8 (az bP (az a8 (az bP (aa S2) (aa S2)) ae) (az bD (aa S1) ae)) ae)))),?_⟩
 refine⟨_,rfl,_,_,rfl,rfl,(by show(0:Int) < 1000000007;decide),_,rfl,_,_,rfl,rfl,.inl ⟨by decide,by decide⟩,_,rfl,_,_,rfl,rfl,.inr ⟨by omega,by omega⟩,_,_,rfl,rfl,_,_,rfl,rfl,?_⟩;have a:=cY c (m:=1000000007) (by decide);have b:0<=31 * k * k/\31 * k * k<=31000000:=by
  have h1:31 * k * k=31 * (k * k):=Int.mul_assoc 31 k k;have h2:0<=k * k:=Int.mul_nonneg k0 k0;have h3:k * k<=1000 * 1000:=Int.mul_le_mul k1 k1 k0 (by decide);omega
 dsimp only;have sb:0<=c % 1000000007+31 * k * k+1/\c % 1000000007+31 * k * k+1<=1100000000:=by omega
 generalize c % 1000000007+31 * k * k+1=S at sb;clear a b;have r:=cY (S * S % 2147483629 * (k+7)) (m:=2147483647) (by decide);exact⟨_,rfl,_,rfl,_,_,rfl,rfl,.inl ⟨by omega,by omega⟩,_,_,rfl,rfl,(by show(0:Int) < 2147483629;decide),_,rfl,_,_,rfl,rfl,_,_,rfl,rfl,.inr ⟨by omega,by omega⟩,_,_,rfl,rfl,(by show(0:Int) < 2147483647;decide),q _ r.1 r.2⟩
theorem u0:cI ["_law_cell", "_law_step", "_law_low"] ["_law_cell"] (cG lP):={}
theorem Bc (D:Df K mg "_law_clock" lP ["_law_cell"] f fd) (T:Txt K mg kw C):Gd P w K mg base 1 "_law_clock" rb:=by
 refine aH D u0 λX H vs Q E hh h=>?_;obtain⟨c,rfl,q⟩:=h;obtain⟨S0,S1,S2,_⟩:=hh.eB [0,1,2];have B_range:=hh.b T.b_range;have hsz:sizeLine=16777216:=sizeLine_eq;have e16:(10:Int) ^ Int.toNat 16=10000000000000000:=by decide+kernel
 have e17:(10:Int) ^ Int.toNat 17=100000000000000000:=by decide+kernel
 have e18:(10:Int) ^ Int.toNat 18=1000000000000000000:=by decide+kernel
 refine⟨_,(ag (aD S1 hh.nd (af aZ (ba (cj ae ae ae (az bP ae (az J.mR ae ae)))) (az a8 (aa S0) ae) cz))
 (ag (aD S2 hh.nd (af aZ (ba (aM ae (az a8 (az bj (aa S0) ae) (az J.mR ae ae)) (az J.pL (az J.mR ae ae) (az bP ae (aa S1))))) (az a8 (az bj (aa S0) ae) ae) cz))
 (aj (au (bY (is:=[1,2]) (ns:=["_law_step", "_law_low"]) hh.calm (b5 B_range (ao ae)) {} (λ_ _ _ _ _=>(az bD (cq (i:=1) rfl rfl (by decide) (by decide)) (az bP (cq (i:=0) rfl rfl (by decide) (by decide)) (b7 rfl (by decide) (by decide))))) hh.hsc hh.hN))))),?_⟩
 refine⟨_,_,rfl,rfl,⟨by decide,by decide,by decide⟩,_,_,rfl,rfl,.inl ⟨by decide,by decide⟩,K6,λl1 hl1=>?_⟩;have s1:=cF.upd (o:=.lst [.int 1,.int 1,.int 7,.int (4 * 10 ^ Int.toNat 16)]) hl1;have m4:=cY c (m:=4) (by decide);obtain⟨st,hst,st0⟩:∃st:Int,nM [V.int 1,.int 1,.int 7,.int (4 * 10 ^ Int.toNat 16)] (c % 4)=some (.int st)/\(st=1\/st=7\/st=40000000000000000):=by
  have:c % 4=0\/c % 4=1\/c % 4=2\/c % 4=3:=by omega
  rcases this with e|e|e|e<;>rw[e]
  ·exact⟨1,rfl,.inl rfl⟩
  ·exact⟨1,rfl,.inl rfl⟩
  ·exact⟨7,rfl,.inr (.inl rfl)⟩
  ·exact⟨_,rfl,.inr (.inr (by rw[e16];rfl))⟩
 refine⟨_,rfl,_,_,rfl,rfl,(by show(0:Int) < 4;decide),xL cD hst ?_⟩;have m3:=cY (c / 4) (m:=3) (by decide);have m17:=cY (c / 4) (m:=10 ^ Int.toNat 17) (by rw[e17];decide);obtain⟨lw,hlw,lw0,lw1⟩:∃lw:Int,nM [V.int 0,.int (c / 4 % 10 ^ Int.toNat 17),.int (10 ^ Int.toNat 18 - 20 * st)] (c / 4 % 3)=some (.int lw)/\0<=lw/\lw+st * 20<=1000000000000000000:=by
  have:c / 4 % 3=0\/c / 4 % 3=1\/c / 4 % 3=2:=by omega
  rcases this with e|e|e<;>rw[e]
  ·exact⟨0,rfl,by decide,by rcases st0 with z|z|z<;>rw[z]<;>decide⟩
  ·exact⟨_,rfl,m17.1,by rw[e17]at *;rcases st0 with z|z|z<;>rw[z]<;>omega⟩
  ·exact⟨_,rfl,by rw[e18];rcases st0 with z|z|z<;>rw[z]<;>decide,by rw[e18];omega⟩
 refine⟨_,rfl,_,_,rfl,rfl,⟨by decide,by decide⟩,_,_,rfl,rfl,⟨by decide,by decide,by decide⟩,_,_,rfl,rfl,(by show(0:Int) < 10 ^ Int.toNat 17;rw[e17];decide),_,_,rfl,rfl,⟨by decide,by decide,by decide⟩,_,rfl,_,_,rfl,rfl,.inl ⟨by decide,by decide⟩,_,_,rfl,rfl,m8,λl2 hl2=>?_⟩;have s2:=s1.trans (cF.upd (o:=.lst [.int 0,.int (c / 4 % 10 ^ Int.toNat 17),.int (10 ^ Int.toNat 18 - 20 * st)]) hl2);refine⟨_,rfl,_,_,rfl,rfl,⟨by decide,by decide⟩,_,_,rfl,rfl,(by show(0:Int) < 3;decide),xL cD hlw ?_⟩;refine⟨21,rfl,by decide,by decide,BQ (lo:=0) (n:=21) (λv=>match v with|.int i=>.int (lw+st * i)|_=>.non) (by omega) (λi H2 Q' hi sm q'=>?_) (λD' hD=>?_)⟩
 ·exact⟨_,rfl,_,rfl,_,rfl,_,_,rfl,rfl,.inr ⟨by omega,by omega⟩,_,_,rfl,rfl,q'⟩
 ·have s3:=s2.trans (cF.upd (o:=.lst ((List.range 21).map λ(i:Nat)=>V.int (lw+st * (0+(i:Int))))) hD)
  have stp:0 < st:=by rcases st0 with z|z|z<;>rw[z]<;>decide
  refine q D' ((List.range 21).map λ(i:Nat)=>lw+st * (0+(i:Int))) _ s3 (s2.free hD) ?_ ⟨by rw[length_map,length_range],λh hm=>?_,λi j a b hij ha hb=>?_⟩
  ·rw[cD,map_map]
   rfl
  ·obtain⟨i,hi,rfl⟩:=mem_map.mp hm
   have hi':=mem_range.mp hi;have h1:st * (0+(i:Int))<=st * 20:=Int.mul_le_mul_of_nonneg_left (by omega) (by omega);have h2:0<=st * (0+(i:Int)):=Int.mul_nonneg (by omega) (by omega);exact⟨by omega,by rw[e18];omega⟩
  ·rw[getElem?_map]at ha hb
   obtain⟨i',hi',rfl⟩:=map_eq_some_iff.mp ha;obtain⟨j',hj',rfl⟩:=map_eq_some_iff.mp hb;obtain⟨h1,rfl⟩:=List.getElem?_eq_some_iff.mp hi';obtain⟨h2,rfl⟩:=List.getElem?_eq_some_iff.mp hj';rw[List.getElem_range,List.getElem_range];have h3:st * (0+(i:Int))<=st * (0+(j:Int)):=Int.mul_le_mul_of_nonneg_left (by omega) (by omega);omega
theorem uf:cI ["_law_number", "_law_one", "_law_other", "_law_clock_here", "_law_at", "_law_way", "_law_late"] ["_law_number", "_law_one", "_law_other", "_law_clock_here", "_law_at"] (cG jT):={}
theorem BZ (D:Df K mg "_law_saying" jT ["_law_number", "_law_one", "_law_other", "_law_clock_here", "_law_at"] f fd) (T:Txt K mg kw C):Gd P w K mg base 1 "_law_saying" uV:=by
 refine aH D uf λX H vs Q E hh h=>?_;obtain⟨n,at_,p,q,cl,hs,ps,rfl,hc,ok,a0,a1,hp,hq,k⟩:=h;obtain⟨S0,S1,S2,S3,S4,S5,S6,_⟩:=hh.eB [0,1,2,3,4,5,6];have B_max:=hh.b T.b_max;have B_min:=hh.b T.b_min;refine⟨_,(ag (aD S5 hh.nd (az a8 (az bj (aa S0) ae) ae))
 (ag (aD S6 hh.nd (af aZ (aa S3) (aE B_min (J.fX hh.calm) L2.rE (aA ae (az bD (aa S4) (az a8 (az bj (aa S0) ae) ae)))) J.sH))
 (ag (aI (aB bU (aa S5) ae (L2.cJ _))
 (aj (au (aV (aM aP (aa S1) (aa S6)))))
 aJ)
 (ag (aI (aS (bp (aB aL (aa S5) ae (L2.cJ _)) (bA (aB aL (az a8 (az bj (aa S0) ae) ae) ae (L2.cJ _)))))
 (aj (au (aV (aM aP (aa S1) bB))))
 aJ)
 (ag (aI (aB bU (aa S5) ae (L2.cJ _))
 (aj (au (aV (aM aP (aa S1) (af aZ (aa S3) (aE B_max (J.hJ hh.calm) L2.va (aA ae (az J.pL (aa S4) (az a8 (az bj (aa S0) ae) ae)))) J.sH)))))
 aJ)
 (ag (aI (aB bU (aa S5) ae (L2.cJ _))
 (aj (au (aV (cj aP (aa S1) (af aZ (aa S3) (aa S4) aX) (aa S6)))))
 aJ)
 (aj (au (aV (aM aP (aa S1) (aa S2))))))))))),?_⟩
 have x8:=cY (n / 131072) (m:=8) (by decide);have x6:=cY (n / 131072) (m:=6) (by decide);obtain⟨late,eL,iL,kL⟩:=kT ok (i:=if at_+n / 131072 % 8 < 20 then at_+n / 131072 % 8 else 20) (by split<;>omega) (by split<;>omega);obtain⟨here,eH,iH,kH⟩:=kT ok (i:=at_) a0 a1;obtain⟨erl,eE,iE,kE⟩:=kT ok (i:=if at_ - n / 131072 % 6 > 0 then at_ - n / 131072 % 6 else 0) (by split<;>omega) (by split<;>omega);have le:here<=late:=ok.mono _ _ _ _ (by split<;>omega) iH iL;refine⟨_,rfl,_,_,rfl,rfl,⟨by decide,by decide⟩,_,_,rfl,rfl,(by show(0:Int) < 8;decide),?_⟩;refine⟨_,rfl,_,rfl,_,rfl,_,_,rfl,rfl,⟨by decide,by decide⟩,_,_,rfl,rfl,(by show(0:Int) < 8;decide),_,_,rfl,rfl,_,_,rfl,xL hc eL ?_⟩;refine⟨_,rfl,_,_,rfl,rfl,_,rfl,cZ (λ_=>?_) (λ_=>?_)⟩
 ·exact⟨_,rfl,_,rfl,m8,λt ht=>k _ (.knew p late) _ (cF.upd ht) ⟨t,rfl,cD⟩ ⟨hp,kL⟩⟩
 refine both ?_ λother=>⟨_,rfl,rfl,_,rfl,cZ (λ_=>⟨_,rfl,_,_,rfl,rfl,⟨by decide,by decide⟩,_,_,rfl,rfl,(by show(0:Int) < 6;decide),rfl,_,rfl,cZ (λ_=>?_) (λ_=>other)⟩) (λ_=>cV other)⟩
 ·refine⟨_,rfl,_,_,rfl,rfl,_,rfl,cZ (λ_=>?_) (λ_=>?_)⟩
  ·exact⟨_,rfl,_,rfl,_,rfl,_,rfl,_,_,rfl,rfl,⟨by decide,by decide⟩,_,_,rfl,rfl,(by show(0:Int) < 6;decide),_,_,rfl,rfl,_,_,rfl,xL hc eE ⟨m8,λt ht=>k _ (.unh p (some erl)) _ (cF.upd ht) ⟨t,rfl,cD⟩ ⟨hp,λi e=>by cases e;exact kE⟩⟩⟩
  refine⟨_,rfl,_,_,rfl,rfl,_,rfl,cZ (λ_=>?_) (λ_=>?_)⟩
  ·exact⟨_,rfl,_,rfl,_,rfl,xL hc eH ⟨_,rfl,K6,λt ht=>k _ (.sil p here late) _ (cF.upd ht) ⟨t,rfl,cD⟩ ⟨hp,kH,kL,le⟩⟩⟩
  ·exact⟨_,rfl,_,rfl,m8,λt ht=>k _ (.bar p q) _ (cF.upd ht) ⟨t,rfl,cD⟩ ⟨hp,hq⟩⟩
 ·exact⟨_,rfl,m8,λt ht=>k _ (.unh p none) _ (cF.upd ht) ⟨t,rfl,cD⟩ ⟨hp,λi e=>by cases e⟩⟩
theorem yI:cI ["_law_number", "_law_k", "_law_many", "_law_at"] ["_law_number", "_law_k", "_law_many"] (cG pH):={}
theorem Dh (D:Df K mg "_law_spot" pH ["_law_number", "_law_k", "_law_many"] f fd) (T:Txt K mg kw C):Gd P w K mg base 1 "_law_spot" vm:=by
 refine aH D yI λX H vs Q E hh h=>?_;obtain⟨n,k,m,rfl,n0,k0,m1,q⟩:=h;obtain⟨S0,S1,S2,S3,_⟩:=hh.eB [0,1,2,3];have B_max:=hh.b T.b_max;have B_min:=hh.b T.b_min;refine⟨_,(ag (aI (aB bW (aa S2) ae (L2.cJ _))
 (aj (au (aV (aM (aE B_min (J.fX hh.calm) L2.rE (aA ae (az bj (az bD (aa S1) ae) ae))) (az a8 (az bj (aa S1) ae) (aa S2)) ae))))
 aJ)
 (ag (aD S3 hh.nd (aE B_min (J.fX hh.calm) L2.rE (aA ae (az bD (az bj (aa S1) ae) (az a8 (az bj (aa S0) ae) ae)))))
 (aj (au (aV (aM (aa S3) (az a8 (az bj (aa S0) ae) (aa S2)) (az bD ae (az a8 (az bj (aa S0) ae) (aE B_max (J.hJ hh.calm) L2.va (aA ae (az J.pL (aa S2) ae))))))))))),?_⟩
 refine⟨_,rfl,_,_,rfl,rfl,_,rfl,cZ (λ_=>?_) (λ_=>?_)⟩
 ·have a:=cY (k / 3) (m:=m) (by omega)
  refine⟨_,rfl,_,_,rfl,rfl,_,_,rfl,rfl,⟨by decide,by decide⟩,_,_,rfl,_,rfl,_,_,rfl,rfl,⟨by decide,by decide⟩,_,rfl,_,_,rfl,rfl,(by omega),m8,λt ht=>q t _ _ _ _ (cF.upd ht) cD ?_ ?_ a.1 a.2 (by decide)⟩
  ·split<;>omega
  ·split<;>omega
 ·have b:=cY (n / 8) (m:=6) (by decide)
  have c:=cY (n / 64) (m:=m) (by omega);refine⟨_,rfl,_,_,rfl,rfl,⟨by decide,by decide⟩,_,rfl,_,_,rfl,rfl,⟨by decide,by decide⟩,_,_,rfl,rfl,(by show(0:Int) < 6;decide),_,_,rfl,rfl,_,_,rfl,?_⟩;refine⟨_,rfl,_,rfl,_,_,rfl,rfl,⟨by decide,by decide⟩,_,rfl,_,_,rfl,rfl,(by omega),_,rfl,_,_,rfl,rfl,⟨by decide,by decide⟩,_,rfl,_,_,rfl,rfl,_,_,rfl,_,_,rfl,rfl,(by split<;>omega),_,_,rfl,rfl,m8,λt ht=>q t _ _ _ _ (cF.upd ht) cD ?_ ?_ c.1 c.2 ?_⟩
  ·split<;>omega
  ·split<;>omega
  ·have:=Int.emod_nonneg (n / 1024) (b:=if m - 1 > 1 then m - 1 else 1) (by split<;>omega)
   omega
def Ew(z:Str)(h:Int):SD->Bool
 |.unh q none=>decide (q=z)
 |.unh q (some i)=>decide (q=z) && decide (h<=i)
 |_=>false
def Ho(h:Int):Option Int->Bool
 |none=>false
 |some i=>decide (i < h)
theorem qx(h:Int):∀(us:List (Option Int)) (acc:Int),gD h (DY acc us)=(decide (acc < h) && us.all (Ho h))
 |[],acc=>by
  show decide (acc < h)=(decide (acc < h) && true);rw[Bool.and_true]
 |none::r,acc=>by
  show false=(decide (acc < h) && (false && r.all (Ho h)));rw[Bool.false_and,Bool.and_false]
 |some i::r,acc=>by
  show gD h (DY (if i > acc then i else acc) r)=(decide (acc < h) && (decide (i < h) && r.all (Ho h)));rw[qx h r,<-Bool.and_assoc]
  congr 1
  rw[Bool.eq_iff_iff,and_eq_true,decide_eq_true_iff,decide_eq_true_iff,decide_eq_true_iff];split<;>omega
theorem uh(z:Str)(h:Int):∀sd:List SD,(i7 z sd).all (Ho h)= !(sd.any (Ew z h))
 |[]=>rfl
 |d::r=>by
  have ih:=uh z h r;rw[any_cons,Bool.not_or,<-ih];cases d with
  |unh q o=>
   by_cases e:q=z
   ·subst e
    rw[tW,all_cons]
    congr 1
    cases o with
    |none=>
     show false= !(decide (q=q));rw[decide_eq_true rfl];rfl
    |some i=>
     show decide (i < h)= !(decide (q=q) && decide (h<=i));rw[decide_eq_true rfl,Bool.true_and];by_cases c:i < h
     ·rw[decide_eq_true c,decide_eq_false (by omega)]
      rfl
     ·rw[decide_eq_false c,decide_eq_true (by omega)]
      rfl
   ·rw[gA (show sR z (.unh q o)=false from decide_eq_false e)]
    have:Ew z h (.unh q o)=false:=by
     cases o with
     |none=>exact decide_eq_false e
     |some i=>
      show(decide (q=z) && decide (h<=i))=false;rw[decide_eq_false e,Bool.false_and]
    rw[this];rfl
  |knew q i=>
   rw[gA rfl];rfl
  |sil q b e=>
   rw[gA rfl];rfl
  |bar q q'=>
   rw[gA rfl];rfl
theorem DT{z:Str}{h:Int}{sd:List SD}(h0:0<=h):gD h (floorOf z sd)= !(sd.any (Ew z h)):=by
 unfold floorOf;rw[qx,uh,decide_eq_true (show(-1:Int) < h by omega),Bool.true_and]
inductive Cw  (vs:List V)(H:Hp)(Q:VK):Prop
 |mk(y:Addr)(ys:List V)(z:Str)(h:Int)(sd:List SD)(h0:vs=[.ref y,.str z,.int h])(h1:H y=some (.lst ys))(h2:Sys H ys sd)(h3:0<=h)(h4:∀H',cF H H'->Q (.bl (gD h (floorOf z sd))) H')
def sF  :Sp:=λvs H Q _=>Cw  vs H Q
inductive CG  (vs:List V)(H:Hp)(Q:VK):Prop
 |mk(t:Addr)(ts:List V)(qd:List QD)(h0:vs=[.ref t])(h1:H t=some (.lst ts))(h2:Lz dJ H ts qd)(h3:ts.length<=120)(h4:∀(l:Addr)(us:List V)(H':Hp),cF H H'->H l=none->H' l=some (.lst us)->ej H' us (fR 0 (gv qd))->Q (.ref l) H')
def vN  :Sp:=λvs H Q _=>CG  vs H Q
inductive yT  (vs:List V)(H:Hp)(Q:VK):Prop
 |mk(t y:Addr)(ts ys:List V)(v:V)(tk:TK)(qd:List QD)(sd:List SD)(q:QD)(h0:vs=[.ref t,.ref y,v])(h1:H t=some (.lst ts))(h2:H y=some (.lst ys))(h3:Lz dJ H ts qd)(h4:Sys H ys sd)(h5:oT H v tk)(h6:qd[tk.1]? =some q)(h7:cT q.1)(h8:∀H',cF H H'->Q (.bl (c8 qd sd tk)) H')
def pj  :Sp:=λvs H Q _=>yT  vs H Q
theorem ue{α:Type}{f:α->Bool}{l:List α}{i:Nat}{d:α}(h:l[i]? =some d)(h0:(l.take i).any f=false)(h1:f d=false):(l.take (i+1)).any f=false:=by
 rw[take_add_one,h,List.any_append,h0];show(false || (f d || false))=false;rw[h1];rfl
theorem Al{α:Type}(f g:α->Bool):∀l:List α,(l.any λd=>f d || g d)=(l.any f || l.any g)
 |[]=>rfl
 |d::r=>by
  rw[any_cons,any_cons,any_cons,Al f g r];cases f d<;>cases g d<;>cases r.any f<;>cases r.any g<;>rfl
theorem yJ:cI ["_law_sayings", "_law_person", "_law_when", "_law_row"] ["_law_sayings", "_law_person", "_law_when"] (cG ou):={}
theorem CP (D:Df K mg "_law_free" ou ["_law_sayings", "_law_person", "_law_when"] f fd):Gd P w K mg base 1 "_law_free" sF:=by
 refine aH D yJ λX H vs Q E hh h=>?_;obtain⟨y,ys,z,h,sd,rfl,hy,sy,h0,k⟩:=h;obtain⟨S0,S1,S2,S3,_⟩:=hh.eB [0,1,2,3];rw[DT h0]at k;refine⟨_,(ag (bo hh.own hh.calm (aO (aa S0)) (aG S3 hh.nd)
 (aj (aI (aS (bp (aB aL (af ak (aa S3) ae ah) aP (L2.cJ _)) (bp (aB aL (af ak (aa S3) ae ah) (aa S1) (L2.cJ _)) (bA (aS (bg (aB cB (af ak (aa S3) ae ah) bB (L2.cJ _)) (bu (aB bJ (aa S2) (af ak (aa S3) ae ah) (L2.cJ _)))))))))
 (aj (au a9))
 aJ)))
 (aj (au a9))),?_⟩
 refine⟨_,rfl,y,rfl,⟨_,cL.of hy⟩,da (K:=X.K) (a:=y) (xs:=ys) (λi σ H2=>∃e:Option V,σ=[some (.ref y),some (.str z),some (.int h),e]/\cF H H2/\(sd.take i).any (Ew z h)=false)
  ⟨none,rfl,cF.refl _,rfl⟩ ?_ ?_ ?_⟩
 ·rintro i σ H2 hi ⟨e,rfl,s2,_⟩
  exact cL.of (s2 _ _ hy)
 ·rintro i v σ H2 hv ⟨e,rfl,s2,ha0⟩
  obtain⟨d,a,hd,rfl,ha⟩:=sy.at hv;have ha2:=s2 _ _ ha;have yes:Ew z h d=true->Q (.bl false) H2:=λhk=>by
   have:=k H2 s2;rw[show sd.any (Ew z h)=true from any_eq_true.mpr ⟨d,mem_of_getElem? hd,hk⟩]at this;exact this
  have no:Ew z h d=false->(sd.take (i+1)).any (Ew z h)=false:=ue hd ha0;cases d with
  |knew q i'=>exact⟨_,rfl,xT ha2 rfl ⟨rfl,_,rfl,iN (cV ⟨_,rfl,s2,no rfl⟩)⟩⟩
  |sil q b e'=>exact⟨_,rfl,xT ha2 rfl ⟨rfl,_,rfl,iN (cV ⟨_,rfl,s2,no rfl⟩)⟩⟩
  |bar q q'=>exact⟨_,rfl,xT ha2 rfl ⟨rfl,_,rfl,iN (cV ⟨_,rfl,s2,no rfl⟩)⟩⟩
  |unh q o=>
   refine⟨_,rfl,xT ha2 rfl ⟨rfl,_,rfl,iP ⟨_,rfl,xT ha2 rfl ⟨_,rfl,rfl,_,rfl,cZ (λhq=>?_) (λhq=>cV ?_)⟩⟩⟩⟩
   ·have hq':q=z:=V.str.inj (of_decide_eq_true hq)
    cases o with
    |none=>exact⟨_,rfl,xT ha2 rfl ⟨rfl,_,rfl,eZ (decide_eq_true rfl) (dq (yes (decide_eq_true hq')))⟩⟩
    |some j=>
     refine⟨_,rfl,xT ha2 rfl ⟨rfl,_,rfl,hZ (by rw[decide_eq_true_iff];intro e;cases e) ⟨_,rfl,_,rfl,xT ha2 rfl ⟨_,_,rfl,rfl,_,rfl,cZ (λhj=>yes ?_) (λhj=>⟨_,rfl,s2,no ?_⟩)⟩⟩⟩⟩
     ·show(decide (q=z) && decide (h<=j))=true
      rw[decide_eq_true hq',hj];rfl
     ·show(decide (q=z) && decide (h<=j))=false
      rw[eq_false_of_ne_true hj,Bool.and_false]
   ·refine⟨_,rfl,s2,no ?_⟩
    have hq':¬q=z:=λe=>hq (decide_eq_true (congrArg V.str e));cases o with
    |none=>exact decide_eq_false hq'
    |some j=>
     show(decide (q=z) && decide (h<=j))=false;rw[decide_eq_false hq',Bool.false_and]
 ·rintro σ H2 ⟨e,rfl,s2,ha0⟩
  rw[sy.1,take_length]at ha0;have:=k H2 s2;rw[ha0]at this;exact this
theorem p9:cI ["_law_talks", "_law_found", "_law_k"] ["_law_talks"] (cG iJ):={}
theorem DM (D:Df K mg "_law_tellings" iJ ["_law_talks"] f fd) (T:Txt K mg kw C):Gd P w K mg base 1 "_law_tellings" vN:=by
 refine aH D p9 λX H vs Q E hh h=>?_;obtain⟨t,ts,qd,rfl,ht,qs,l120,k⟩:=h;obtain⟨S0,S1,S2,_⟩:=hh.eB [0,1,2];have B_len:=hh.b T.b_len;have B_range:=hh.b T.b_range;have hsz:sizeLine=16777216:=sizeLine_eq;refine⟨_,(ag (aD S1 hh.nd (ba bE))
 (ag (bo hh.own hh.calm (b5 B_range (ao (aE B_len bw L2.dE (ao (aa S0))))) (aG S2 hh.nd)
 (ag (bG (bM plainAttrs_list PySem.F.slot_list_append PySem.F.type_list_append bN (aa S1) (ao (aV (aM (aa S2) (af ak (af aZ (aa S0) (aa S2) aX) ae ah) (af ak (af aZ (aa S0) (aa S2) aX) ae ah))))))
 (aj (aI (aB aL (af ak (af aZ (aa S0) (aa S2) aX) ae ah) aP (L2.cJ _))
 (aj (bG (bM plainAttrs_list PySem.F.slot_list_append PySem.F.type_list_append bN (aa S1) (ao (aV (aM (aa S2) (af ak (af aZ (aa S0) (aa S2) aX) ae ah) (af ak (af aZ (aa S0) (aa S2) aX) ae ah)))))))
 aJ))))
 (aj (au (aa S1))))),?_⟩
 refine⟨wW,λl hl=>?_⟩;have s1:=cF.upd (o:=.lst []) hl;refine⟨_,rfl,t,_,rfl,.inl (cL.of (s1 _ _ ht)),(ts.length:Int),rfl,by omega,by omega,jz (lo:=0) (n:=((ts.length:Nat):Int).toNat) (λi σ H2=>∃(us:List V) (e1:Option V),σ=[some (.ref t),some (.ref l),e1]/\cF H H2/\H2 l=some (.lst us)/\us.length<=2 * i/\ej H2 us (fR 0 ((gv qd).take i)))
  ⟨[],none,rfl,s1,cD,le_refl 0,ej.nil⟩ ?_ ?_⟩
 ·rintro i σ H2 hi ⟨us,e1,rfl,s2,hl2,ul,tl⟩
  rw[Int.toNat_natCast]at hi;have hv:ts[i]? =some ts[i]:=getElem?_eq_getElem hi;generalize ts[i]=v at hv;obtain⟨d,hd,a,rfl,ha⟩:=qs.at hv;have hd':(gv qd)[i]? =some d.2:=by
   unfold gv;rw[getElem?_map,hd];rfl
  have ha2:=s2 _ _ ha;have ht2:=s2 _ _ ht;have av:nM ts ((0:Int)+(i:Int))=some (.ref a):=by rw[Int.zero_add];exact cQ hv
  refine⟨_,rfl,.inl ⟨rfl,_,cL.of hl2⟩,_,rfl,_,rfl,_,rfl,xL ht2 av (xT ha2 rfl ⟨_,rfl,_,rfl,xL ht2 av (xT ha2 rfl ⟨m8,λt1 ht1=>?_⟩)⟩)⟩;rw[Int.zero_add];have s4:=cF.upd (o:=.tup [.int i,.str d.2.1,.str d.2.2.1]) ht1;refine⟨l,us,.ref t1,rfl,rfl,s4 _ _ hl2,by omega,?_⟩;have t1l:t1≠l:=(cE hl2 ht1).symm;have tv5:oT (upd (upd H2 t1 (.tup [.int i,.str d.2.1,.str d.2.2.1])) l (.lst (us++[.ref t1]))) (.ref t1) (i,d.2.1,d.2.2.1):=⟨t1,rfl,by rw[cH t1l];exact cD⟩;have tk5:=(Tk.of s4).trans (Tk.upd (s4 _ _ hl2) (ys:=us++[.ref t1]));have tl5:=tl.mono tk5;have hl5:upd (upd H2 t1 (.tup [.int i,.str d.2.1,.str d.2.2.1])) l (.lst (us++[.ref t1])) l=some (.lst (us++[.ref t1])):=cD;have s05:cF H (upd (upd H2 t1 (.tup [.int i,.str d.2.1,.str d.2.2.1])) l (.lst (us++[.ref t1]))):=λb o e=>by
   rw[cH (cE e hl)];exact s4 _ _ (s2 _ _ e)
  generalize upd (upd H2 t1 (.tup [.int i,.str d.2.1,.str d.2.2.1])) l (.lst (us++[.ref t1]))=H5 at tv5 tl5 hl5 s05;have ha5:=s05 _ _ ha;have ht5:=s05 _ _ ht;have av':nM ts (i:Int)=some (.ref a):=cQ hv;refine⟨_,rfl,_,rfl,xL ht5 av' (xT ha5 rfl ⟨rfl,_,rfl,cZ (λhb=>?_) (λhb=>?_)⟩)⟩
  ·have hb':d.2.2.2= "both" :=V.str.inj (of_decide_eq_true hb)
   refine⟨_,rfl,.inl ⟨rfl,_,cL.of hl5⟩,_,rfl,_,rfl,_,rfl,xL ht5 av' (xT ha5 rfl ⟨_,rfl,_,rfl,xL ht5 av' (xT ha5 rfl ⟨m8,λt2 ht2'=>?_⟩)⟩)⟩;have s6:=cF.upd (o:=.tup [.int i,.str d.2.2.1,.str d.2.1]) ht2';refine⟨l,_,.ref t2,rfl,rfl,s6 _ _ hl5,by rw[length_append];show us.length+1 < _;omega,?_⟩;have t2l:t2≠l:=(cE hl5 ht2').symm;have tk7:=(Tk.of s6).trans (Tk.upd (s6 _ _ hl5) (ys:=(us++[.ref t1])++[.ref t2]));refine⟨_,_,rfl,λb o e=>?_,cD,?_,(nK hd' (tl5.mono tk7)).1 hb' _ _ (tv5.mono tk7) ⟨t2,rfl,?_⟩⟩
   ·rw[cH (cE e hl)]
    exact s6 _ _ (s05 _ _ e)
   ·rw[length_append,length_append]
    show us.length+1+1<=2 * (i+1);omega
   ·rw[cH t2l]
    exact cD
  ·have hb':d.2.2.2≠ "both" :=λe=>hb (decide_eq_true (congrArg V.str e))
   exact⟨_,_,rfl,s05,hl5,by rw[length_append];show us.length+1<=2 * (i+1);omega,(nK hd' tl5).2 hb' _ tv5⟩
 ·rintro σ H2 ⟨us,e1,rfl,s2,hl2,ul,tl⟩
  rw[Int.toNat_natCast,qs.1,show qd.length=(gv qd).length from (length_map ..).symm,take_length]at tl;exact⟨_,rfl,k l us H2 s2 hl hl2 tl⟩
theorem Ca{i:Nat}{v:V}{tc:TT}{u t2:TS}{D:Ends}{σ:St}{H:Hp}(b:Bool)(hc:∀Q:Bool->Hp->Prop,Q b H->tc (σ.set i (some v)) H Q)(h1:b=true->u { D with nx:=t2 D } (σ.set i (some v)) H)(h2:b=false->t2 D (σ.set i (some v)) H):
  eQ i v σ H (λσ2 H2=>vZ (ve tc u oS) t2 D σ2 H2):=by
 refine hc _ ?_;cases b with
 |true=>exact dq (h1 rfl)
 |false=>exact cV (h2 rfl)
def vD(te he:Str)(h:Int)(d:SD):Bool:=rK te h d || uc he te d
theorem sq:cI ["_law_talks", "_law_sayings", "_law_telling", "_law_k", "_law_teller", "_law_hearer", "_law_when", "_law_row"] ["_law_talks", "_law_sayings", "_law_telling"] (cG jd):={}
theorem uY (D:Df K mg "_law_is_open" jd ["_law_talks", "_law_sayings", "_law_telling"] f fd) (T:Txt K mg kw C) (G__law_free:Gd P w K mg base 1 "_law_free" sF):Gd P w K mg base 2 "_law_is_open" pj:=by
 refine aH D sq λX H vs Q E hh h=>?_;obtain⟨t,y,ts,ys,v,tk,qd,sd,q,rfl,ht,hy,qs,sy,⟨a,rfl,ha⟩,hq,hk,k⟩:=h;obtain⟨S0,S1,S2,S3,S4,S5,S6,S7,_⟩:=hh.eB [0,1,2,3,4,5,6,7];have C__law_free:=hh.c G__law_free;have hu:=eU hh.room;obtain⟨vq,hvq⟩:∃vq,ts[tk.1]? =some vq:=⟨_,getElem?_eq_getElem (by rw[qs.1];exact(List.getElem?_eq_some_iff.mp hq).1)⟩;obtain⟨aq,rfl,haq⟩:=qs.2 _ _ _ hvq hq;have ok:∀H',cF H H'->Q (.bl (gD q.1 (floorOf tk.2.2 sd) && !(sd.any (vD tk.2.1 tk.2.2 q.1)))) H':=λH' s'=>by
  have:=k H' s';unfold c8 at this;rw[eP hq,<-Al]at this;exact this
 refine⟨_,(ag (bO (aa S2) (bq hh.calm (aF (aG S3 hh.nd) (aF (aG S4 hh.nd) (aF (aG S5 hh.nd) bh)))))
 (ag (aD S6 hh.nd (af ak (af aZ (aa S0) (aa S3) aX) ae ah))
 (ag (bo hh.own hh.calm (aO (aa S1)) (aG S7 hh.nd)
 (ag (aI (aS (bp (aB aL (af ak (aa S7) ae ah) aP (L2.cJ _)) (bp (aB aL (af ak (aa S7) ae ah) (aa S4) (L2.cJ _)) (bp (aB bJ (af ak (aa S7) ae ah) (aa S6) (L2.cJ _)) (bA (aB bJ (aa S6) (af ak (aa S7) ae ah) (L2.cJ _)))))))
 (aj (au a9))
 aJ)
 (aj (aI (aB (J.nQ hu) (aa S7) (aV (aM aP (aa S5) (aa S4))) (L2.cJ _))
 (aj (au a9))
 aJ))))
 (aj (au (aw C__law_free (aM (aa S1) (aa S5) (aa S6)))))))),?_⟩
 refine⟨_,rfl,a,_,rfl,cW.of ha,rfl,_,_,rfl,_,_,rfl,_,_,rfl,rfl,?_⟩;refine⟨_,rfl,_,rfl,xL ht (cQ hvq) (xT haq rfl ?_)⟩;refine⟨_,rfl,y,rfl,⟨_,cL.of hy⟩,da (K:=X.K) (a:=y) (xs:=ys) (λi σ H2=>∃e:Option V,σ=[some (.ref t),some (.ref y),some (.ref a),some (.int tk.1),some (.str tk.2.1),some (.str tk.2.2),some (.int q.1),e]/\cF H H2/\(sd.take i).any (vD tk.2.1 tk.2.2 q.1)=false)
  ⟨none,rfl,cF.refl _,rfl⟩ ?_ ?_ ?_⟩
 ·rintro i σ H2 hi ⟨e,rfl,s2,_⟩
  exact cL.of (s2 _ _ hy)
 ·rintro i v σ H2 hv ⟨e,rfl,s2,ha0⟩
  obtain⟨d,b,hd,rfl,hb⟩:=sy.at hv;have hb2:=s2 _ _ hb;have yes:vD tk.2.1 tk.2.2 q.1 d=true->∀H3,cF H2 H3->Q (.bl false) H3:=λhk H3 s3=>by
   have:=ok H3 (s2.trans s3);rw[show sd.any (vD tk.2.1 tk.2.2 q.1)=true from any_eq_true.mpr ⟨d,mem_of_getElem? hd,hk⟩,Bool.not_true,Bool.and_false]at this;exact this
  refine Ca (rK tk.2.1 q.1 d) (λQ' q'=>?_) (λe=>yes ?_ H2 (cF.refl _)) (λe=>?_)
  ·cases d with
   |knew z i'=>exact⟨_,rfl,xT hb2 rfl ⟨rfl,_,rfl,iN q'⟩⟩
   |unh z i'=>exact⟨_,rfl,xT hb2 rfl ⟨rfl,_,rfl,iN q'⟩⟩
   |bar z z'=>exact⟨_,rfl,xT hb2 rfl ⟨rfl,_,rfl,iN q'⟩⟩
   |sil z c c'=>
    have q2:Q' (decide (z=tk.2.1) && (if c<=q.1 then decide (q.1<=c') else false)) H2:=q';refine⟨_,rfl,xT hb2 rfl ⟨rfl,_,rfl,iP ⟨_,rfl,xT hb2 rfl ⟨_,rfl,rfl,_,rfl,cZ (λhz=>⟨_,rfl,xT hb2 rfl ⟨_,rfl,_,_,rfl,rfl,_,rfl,cZ (λhc=>⟨_,rfl,_,rfl,xT hb2 rfl ⟨_,_,rfl,rfl,_,rfl,?_⟩⟩) (λhc=>?_)⟩⟩) (λhz=>?_)⟩⟩⟩⟩
    ·rw[if_pos (of_decide_eq_true hc),decide_eq_true (V.str.inj (of_decide_eq_true hz)),Bool.true_and]at q2
     exact q2
    ·rw[if_neg (λe=>hc (decide_eq_true e)),Bool.and_false]at q2
     exact q2
    ·rw[decide_eq_false (λe=>hz (decide_eq_true (congrArg V.str e))),Bool.false_and]at q2
     exact q2
  ·unfold vD
   rw[e];rfl
  ·refine⟨_,rfl,_,rfl,_,rfl,m8,λc2 hc2=>?_⟩
   have s3:=cF.upd (o:=.tup [.str "barred",.str tk.2.2,.str tk.2.1]) hc2;refine⟨b,c2,_,_,rfl,rfl,s3 _ _ hb2,cD,tL d,rfl,_,rfl,?_⟩;have ek:vD tk.2.1 tk.2.2 q.1 d=uT d.tup [.str "barred",.str tk.2.2,.str tk.2.1]:=by
    unfold vD;rw[e,Bool.false_or,xu]
   rw[<-ek];exact cZ (λhk=>yes hk _ s3) (λhk=>⟨_,rfl,s2.trans s3,ue hd ha0 (eq_false_of_ne_true hk)⟩)
 ·rintro σ H2 ⟨e,rfl,s2,ha0⟩
  rw[sy.1,take_length]at ha0;refine⟨_,rfl,_,rfl,_,rfl,y,ys,tk.2.2,q.1,sd,rfl,s2 _ _ hy,sy.mono (Tk.of s2),hk.1,λH3 s3=>?_⟩;have:=ok H3 (s2.trans s3);rw[ha0,Bool.not_false,Bool.and_true]at this;exact this
theorem uF{H:Hp}{us:List V}{ks:List TK}(p:TK->Bool)(h:ej H us ks):ej H (((us.zip ks).filter λx=>p x.2).map λx=>x.1) (ks.filter p):=by
 have e:ks.filter p=((us.zip ks).filter λx=>p x.2).map (λx=>x.2):=by
  have:(us.zip ks).map Prod.snd=ks:=List.map_snd_zip (by rw[h.1];exact le_refl _);have e2:ks.filter p=((us.zip ks).map Prod.snd).filter p:=by rw[this]
  rw[e2,filter_map];rfl
 rw[e];refine⟨by rw[length_map,length_map],λi u t hu ht=>?_⟩;rw[getElem?_map]at hu ht;obtain⟨x,hx,rfl⟩:=map_eq_some_iff.mp hu;rw[hx]at ht;cases ht;obtain⟨j,hj⟩:=getElem?_of_mem (mem_filter.mp (mem_of_getElem? hx)).1;obtain⟨h1,h2⟩:=nV hj;exact h.2 j _ _ h1 h2
inductive F4(vs:List V)(H:Hp)(Q:VK):Prop
 |mk(tt s t y:Addr)(ps:List Str)(ss ts ys:List V)(sg:List GD)(qd:List QD)(sd:List SD)(e:vs=[.ref tt])(htt:H tt=some (.tup [.ref s,.ref t,.ref y]))(hs:H s=some (.lst ss))(ht:H t=some (.lst ts))(hy:H y=some (.lst ys))(sl:ss.length<=24)(tl:ts.length<=120)
   (gs:Lz dH H ss sg)(gh:∀d∈sg,cT d.2)(qs:Lz dJ H ts qd)(qk:∀d∈qd,lx ps d)(sy:Sys H ys sd)
   (k:∀(r nl tl:Addr)(us:List V)(H':Hp),cF H H'->H r=none->H nl=none->H tl=none->H' r=some (.tup [.ref nl,.ref tl])->H' nl=some (.lst (eA sg sd sg.length))->H' tl=some (.lst us)->ej H' us ((fR 0 (gv qd)).filter (c8 qd sd))->Q (.ref r) H')
def iz:Sp:=λvs H Q _=>F4 vs H Q
theorem yt:cI ["_law_things_here", "_law_sights", "_law_talks", "_law_sayings", "_law_numbers"] ["_law_things_here"] (cG pA):={}
theorem CT (D:Df K mg "_law_open" pA ["_law_things_here"] f fd) (T:Txt K mg kw C) (G__law_free:Gd P w K mg base 1 "_law_free" sF) (G__law_tellings:Gd P w K mg base 1 "_law_tellings" vN) (G__law_is_open:Gd P w K mg base 2 "_law_is_open" pj):Gd P w K mg base 3 "_law_open" iz:=by
 refine aH D yt λX H vs Q E hh h=>?_;obtain⟨tt,s,t,y,ps,ss,ts,ys,sg,qd,sd,rfl,htt,hs,ht,hy,sl,tl,gs,gh,qs,qk,sy,k⟩:=h;obtain⟨S0,S1,S2,S3,S4,_⟩:=hh.eB [0,1,2,3,4];have B_len:=hh.b T.b_len;have B_range:=hh.b T.b_range;have C__law_tellings:=hh.c G__law_tellings;have CI__law_free:=hh.ci G__law_free;have CI__law_is_open:=hh.ci G__law_is_open;have hsz:sizeLine=16777216:=sizeLine_eq;refine⟨_,(ag (bO (aa S0) (bq hh.calm (aF (aG S1 hh.nd) (aF (aG S2 hh.nd) (aF (aG S3 hh.nd) bh)))))
 (ag (bL (is:=[1,3]) (xs:=["_law_i"]) (ns:=["_law_sights", "_law_sayings"]) S4 hh.nd hh.calm (b5 B_range (ao (aE B_len bw L2.dE (ao (aa S1))))) {} (λ_ _ _ _ _=>(aR (i:=0) (by decide+kernel) rfl rfl)) (λ_ _ _ _ _=>(bz (aQ (aw (CI__law_free.lg rfl) (aM (aY (i:=2) rfl rfl (by decide) (by decide)) (af bf (af bX (aY (i:=1) rfl rfl (by decide) (by decide)) (aK (i:=0) rfl rfl (by decide) (by decide)) aX) ae ah) (af bf (af bX (aY (i:=1) rfl rfl (by decide) (by decide)) (aK (i:=0) rfl rfl (by decide) (by decide)) aX) ae ah)))))) (λ_ _ _ _ _=>(aK (i:=0) rfl rfl (by decide) (by decide))) hh.hsc hh.hN (by decide+kernel))
 (aj (au (aV (aA (aa S4) (bK (is:=[2,3]) (xs:=["_law_telling"]) (ns:=["_law_talks", "_law_sayings"]) hh.calm (aO (aw C__law_tellings (ao (aa S2)))) {} (λ_ _ _ _ _=>(aR (i:=0) (by decide+kernel) rfl rfl)) (λ_ _ _ _ _=>(bz (aQ (aw (CI__law_is_open.lg rfl) (aM (aY (i:=1) rfl rfl (by decide) (by decide)) (aY (i:=2) rfl rfl (by decide) (by decide)) (aK (i:=0) rfl rfl (by decide) (by decide))))))) (λ_ _ _ _ _=>(aK (i:=0) rfl rfl (by decide) (by decide))) hh.hsc hh.hN))))))),?_⟩
 refine⟨_,rfl,tt,_,rfl,cW.of htt,rfl,_,_,rfl,_,_,rfl,_,_,rfl,rfl,?_⟩;refine⟨_,rfl,s,_,rfl,.inl (cL.of hs),(ss.length:Int),rfl,by omega,by omega,yo (lo:=0) (N:=((ss.length:Nat):Int).toNat) (iq sg (eG sd)) (λi=>V.int (0+(i:Int))) (by omega) ?_ ?_⟩
 ·intro i os H2 K1 K2 hi hos s2 k1 k2
  obtain⟨o,rfl⟩:=osA hos
  ·
   rw[Int.toNat_natCast]at hi;have hv:ss[i]? =some ss[i]:=getElem?_eq_getElem hi;generalize ss[i]=v at hv;obtain⟨g,hg,a,ta,rfl,ha⟩:=gs.at hv;rw[dI hg]at k1 k2;have ha2:=s2 _ _ ha;have av:nM ss ((0:Int)+(i:Int))=some (.ref a):=by rw[Int.zero_add];exact cQ hv
   have g0:=gh g (mem_of_getElem? hg);exact⟨⟨[_],rfl,rfl⟩,_,rfl,_,rfl,_,rfl,xL (s2 _ _ hs) av (xT ha2 rfl ⟨_,rfl,_,rfl,xL (s2 _ _ hs) av (xT ha2 rfl ⟨y,ys,g.1,g.2,sd,rfl,s2 _ _ hy,sy.mono (Tk.of s2),g0.1,λH3 s3=>⟨_,rfl,cZ (λhb=>⟨_,rfl,k1 hb H3 s3⟩) (λhb=>k2 (eq_false_of_ne_true hb) H3 s3)⟩⟩)⟩)⟩
 ·intro nl H1 nln s1 hnl
  have e:((List.range ((ss.length:Nat):Int).toNat).filter (iq sg (eG sd))).map (λ(i:Nat)=>V.int (0+(i:Int)))=eA sg sd sg.length:=by
   rw[Int.toNat_natCast,gs.1];unfold eA;exact map_congr_left λi _=>by rw[Int.zero_add]
  rw[e]at hnl;refine⟨_,rfl,_,rfl,t,ts,qd,rfl,s1 _ _ ht,qs.mono (dJ.mono (Tk.of s1)),tl,λl us H2 s2 ln hl tus=>?_⟩;have s12:=s1.trans s2;have ul:us.length<=240:=by
   have:=iB (gv qd) 0;have:=tus.1;have:=(BN qs).1;omega
  refine⟨l,rfl,⟨_,cL.of hl⟩,dj (xs:=us) (iq (us.zip (fR 0 (gv qd))) λx=>c8 qd sd x.2) (rX (us.zip (fR 0 (gv qd))) λx=>x.1) (cL.of hl) (by omega) ?_ ?_⟩
  ·intro i os v H3 K1 K2 hv hos s3 k1 k2
   obtain⟨o,rfl⟩:=osA hos
   ·
    have hi:i < us.length:=(List.getElem?_eq_some_iff.mp hv).1;obtain⟨tk,htk⟩:∃tk,(fR 0 (gv qd))[i]? =some tk:=⟨_,getElem?_eq_getElem (by rw[<-tus.1];exact hi)⟩;rw[dI (j8 hv htk)]at k1 k2;rw[fc (j8 hv htk)]at k1;obtain⟨q,hq,_⟩:=HG qk (mem_of_getElem? htk);have s13:=s12.trans s3;exact⟨⟨[_],rfl,rfl⟩,_,rfl,_,rfl,_,rfl,t,y,ts,ys,v,tk,qd,sd,q,rfl,s13 _ _ ht,s13 _ _ hy,qs.mono (dJ.mono (Tk.of s13)),sy.mono (Tk.of s13),(tus.2 i v tk hv htk).mono (Tk.of s3),hq,(qk q (mem_of_getElem? hq)).1,λH4 s4=>⟨_,rfl,cZ (λhb=>⟨_,rfl,k1 hb H4 s4⟩) (λhb=>k2 (eq_false_of_ne_true hb) H4 s4)⟩⟩
  ·intro m H3 mn s3 hm
   have zl:(us.zip (fR 0 (gv qd))).length=us.length:=by
    rw[length_zip,<-tus.1,min_self]
   rw[<-zl,dw (λx=>c8 qd sd x.2) (λx=>x.1) (us.zip (fR 0 (gv qd)))]at hm;refine⟨DV,λr hr=>?_⟩;have s4:=cF.upd (o:=.tup [.ref nl,.ref m]) hr;have s13:=s12.trans s3;exact k r nl m _ _ (s13.trans s4) (s13.free hr) nln (s12.free mn) cD (s4 _ _ (s3 _ _ (s2 _ _ hnl))) (s4 _ _ hm) ((uF (c8 qd sd) tus).mono (Tk.of (s3.trans s4)))
def oG:Str:= "bcdfghjklmnpqrstvwxz"
def sD(i:Int):Nat:=oG.cps.toList.getD i.toNat 0
theorem As:∀i:Fin 20,nM oG.cps.toList ((i.val:Nat):Int)=some (sD (i.val:Nat))/\sD (i.val:Nat)∈lets.cps.toList:=by decide+kernel
theorem tw:∀i j:Fin 20,sD (i.val:Nat)=sD (j.val:Nat)->i=j:=by decide+kernel
theorem xA{i:Int}(h0:0<=i)(h1:i < 20):nM oG.cps.toList i=some (sD i)/\sD i∈lets.cps.toList:=by
 have e:((i.toNat:Nat):Int)=i:=Int.toNat_of_nonneg h0;have:=As ⟨i.toNat,by omega⟩;rw[e]at this;exact this
theorem Bm{i j:Int}(h0:0<=i)(h1:i < 20)(g0:0<=j)(g1:j < 20)(h:sD i=sD j):i=j:=by
 have e:((i.toNat:Nat):Int)=i:=Int.toNat_of_nonneg h0;have f:((j.toNat:Nat):Int)=j:=Int.toNat_of_nonneg g0;have:=tw ⟨i.toNat,by omega⟩ ⟨j.toNat,by omega⟩ (by rw[e,f];exact h);have:=congrArg Fin.val this;dsimp only at this;omega
def lf(c a k:Int)(j:Nat):Nat:=sD ((c+((j:Int) * j+3 * k * (if decide (V.int (j:Int)=V.int a)=true then 1 else 0))) % 20)
def wordOf(c a k:Int):Nat->Str
 |0=> ""
 |j+1=>wordOf c a k j++⟨#[lf c a k j]⟩
theorem gb(c a k:Int):∀n,(wordOf c a k n).cps.toList=(List.range n).map (lf c a k)
 |0=>rfl
 |n+1=>by
  show(wordOf c a k n++⟨#[lf c a k n]⟩).cps.toList=_;rw[nI,gb c a k n,range_succ,map_append];rfl
theorem gj(c a k:Int)(n:Nat):(wordOf c a k n).length=n:=by
 rw[<-lu,gb,length_map,length_range]
theorem Iu(c a k:Int)(j:Nat):lf c a k j∈lets.cps.toList:=(xA (cY _ (by decide)).1 (cY _ (by decide)).2).2
theorem wk(c a k:Int)(n:Nat):vC (wordOf c a k n):=λx hx=>by
 rw[gb]at hx;obtain⟨j,_,rfl⟩:=mem_map.mp hx;exact Iu c a k j
def J7(n:Int):Str:=Txt.mul "m" n
def nameOf(c a:Int)(n:Nat)(k:Nat):Str:=wordOf c a k n++J7 ((k:Int) / 20)
theorem rL{k:Nat}(h:k < 24):((k:Int) / 20=0\/(k:Int) / 20=1)/\(J7 ((k:Int) / 20)).length=k / 20/\vC (J7 ((k:Int) / 20)):=by
 by_cases c:k < 20
 ·have e:(k:Int) / 20=0:=by omega
  rw[e];exact⟨.inl rfl,by rw[show k / 20=0 by omega];rfl,λx hx=>by have:x∈([]:List Nat):=hx;cases this⟩
 ·have e:(k:Int) / 20=1:=by omega
  rw[e];refine⟨.inr rfl,by rw[show k / 20=1 by omega];decide+kernel,?_⟩;show vC "m";intro x hx
  revert x
  decide+kernel
theorem Dj{c a:Int}{n k:Nat}(n1:1<=n)(n2:n<=11)(hk:k < 24):dN (nameOf c a n k)=true:=by
 obtain⟨_,hl,hL⟩:=rL hk;have e:(nameOf c a n k).length=n+k / 20:=by
  unfold nameOf;rw[DU,gj,hl]
 exact AA (BX (wk c a k n) hL) (by omega) (by omega)
theorem Cd{c a:Int}{n i j:Nat}(a0:0<=a)(an:a < n)(hij:i < j)(hj:j < 24):nameOf c a n i≠nameOf c a n j:=by
 intro e;obtain⟨_,li,_⟩:=rL (k:=i) (by omega);obtain⟨_,lj,_⟩:=rL hj;have e1:=congrArg (λz:Str=>z.cps.toList) e;unfold nameOf at e1;rw[nI,nI]at e1;have hl:(wordOf c a i n).cps.toList.length=(wordOf c a j n).cps.toList.length:=by rw[lu,lu,gj,gj]
 obtain⟨w,m⟩:=List.append_inj e1 hl;have m2:=congrArg List.length m;rw[lu,lu,li,lj]at m2;rw[gb,gb]at w;have aN:a.toNat < n:=by omega
 have w2:=congrArg (λl:List Nat=>l[a.toNat]?) w;rw[getElem?_map,getElem?_map,List.getElem?_range aN]at w2;have w3:lf c a i a.toNat=lf c a j a.toNat:=Option.some.inj w2;have ea:((a.toNat:Nat):Int)=a:=Int.toNat_of_nonneg a0;unfold lf at w3;rw[ea,decide_eq_true rfl]at w3;have w4:=Bm (cY _ (by decide)).1 (cY _ (by decide)).2 (cY _ (by decide)).1 (cY _ (by decide)).2 w3;simp only[if_true,Int.mul_one]at w4;generalize a * a=A at w4;omega
theorem nodup_range{f:Nat->Str}{n:Nat}(h:∀i j,i < j->j < n->f i≠f j):((List.range n).map f).Nodup:=by
 unfold List.Nodup;rw[List.pairwise_map];exact List.Pairwise.imp_of_mem (λ{a b} _ hb hab=>h a b hab (mem_range.mp hb)) List.pairwise_lt_range
inductive yW  (vs:List V)(H:Hp)(Q:VK):Prop
 |mk(c m:Int)(h0:vs=[.int c,.int m])(h1:0<=c)(h2:1<=m)(h3:m<=24)(h4:∀(l:Addr)(us:List Str)(H':Hp),cF H H'->H l=none->H' l=some (.lst (us.map V.str))->fH us->Q (.ref l) H')
def pD  :Sp:=λvs H Q _=>yW  vs H Q
theorem vh:cI ["_law_cell", "_law_many", "_law_letters", "_law_size", "_law_at", "_law_names_here", "_law_k", "_law_word", "_law_j", "_law_step"] ["_law_cell", "_law_many"] (cG lR):={}
theorem yS (D:Df K mg "_law_names" lR ["_law_cell", "_law_many"] f fd) (T:Txt K mg kw C):Gd P w K mg base 1 "_law_names" pD:=by
 refine aH D vh λX H vs Q E hh h=>?_;obtain⟨c,m,rfl,c0,m1,m24,k⟩:=h;obtain⟨S0,S1,S2,S3,S4,S5,S6,S7,S8,S9,_⟩:=hh.eB [0,1,2,3,4,5,6,7,8,9];have B_int:=hh.b T.b_int;have B_range:=hh.b T.b_range;have hsz:sizeLine=16777216:=sizeLine_eq;refine⟨_,(ag (aD S2 hh.nd aP)
 (ag (aD S3 hh.nd (az bD ae (az a8 (aa S0) ae)))
 (ag (aD S4 hh.nd (az a8 (az bj (aa S0) ae) (aa S3)))
 (ag (aD S5 hh.nd (ba bE))
 (ag (bo hh.own hh.calm (b5 B_range (ao (aa S1))) (aG S6 hh.nd)
 (ag (aD S7 hh.nd aP)
 (ag (bo hh.own hh.calm (b5 B_range (ao (aa S3))) (aG S8 hh.nd)
 (ag (aD S9 hh.nd (az bD (az bP (aa S8) (aa S8)) (az bP (az bP ae (aa S6)) (bC B_int J.jE L2.qS (ao (aT aL (aa S8) (aa S4) (L2.cJ _)))))))
 (aj (aD S7 hh.nd (az J.iR (aa S7) (af J.vn (aa S2) (az a8 (az bD (az bj (aa S0) ae) (aa S9)) ae) cz))))))
 (aj (bG (bM plainAttrs_list PySem.F.slot_list_append PySem.F.type_list_append bN (aa S5) (ao (az J.iR (aa S7) (az J.rP aP (az bj (aa S6) ae))))))))))
 (aj (au (aa S5)))))))),?_⟩
 have m11:=cY c (m:=11) (by decide);refine⟨_,rfl,_,_,rfl,rfl,(by show(0:Int) < 11;decide),_,_,rfl,rfl,?_⟩;dsimp only;have sb:1<=1+c % 11/\1+c % 11<=11:=by omega
 generalize 1+c % 11=S at sb;clear m11;refine⟨_,rfl,_,_,rfl,rfl,⟨by decide,by decide⟩,_,rfl,_,_,rfl,rfl,(by omega),?_⟩;have ab:=cY (c / 11) (m:=S) (by omega);dsimp only;generalize c / 11 % S=A at ab;refine⟨wW,λl hl=>?_⟩;refine⟨_,rfl,m,rfl,by omega,by omega,jz (lo:=0) (n:=m.toNat) (λi σ H2=>∃e1 e2 e3 e4:Option V,σ=[some (.int c),some (.int m),some (.str oG),some (.int S),some (.int A),some (.ref l),e1,e2,e3,e4]/\cF H H2/\H2 l=some (.lst ((List.range i).map λj=>V.str (nameOf (c / 121) A S.toNat j))))
  ⟨none,none,none,none,rfl,cF.upd hl,cD⟩ ?_ ?_⟩
 ·rintro i σ H2 hi ⟨e1,e2,e3,e4,rfl,s2,hl2⟩
  rw[Int.zero_add];refine⟨_,rfl,S,rfl,by omega,by omega,jz (lo:=0) (n:=S.toNat) (λj σ H3=>∃e3 e4:Option V,σ=[some (.int c),some (.int m),some (.str oG),some (.int S),some (.int A),some (.ref l),some (.int i),some (.str (wordOf (c / 121) A i j)),e3,e4]/\H3=H2)
   ⟨_,_,rfl,rfl⟩ ?_ ?_⟩
  ·rintro j σ H3 hj ⟨e3,e4,rfl,rfl⟩
   rw[Int.zero_add];have jb:(j:Int) < S:=by omega
   refine⟨_,rfl,_,rfl,_,_,rfl,rfl,.inl ⟨by omega,by omega⟩,_,rfl,_,_,rfl,rfl,.inl ⟨by decide,by decide⟩,_,rfl,_,rfl,rfl,.inr ⟨_,rfl,_,_,rfl,rfl,.inl ⟨by omega,by omega⟩,_,_,rfl,rfl,?_⟩⟩;have am:=cY (c / 121+((j:Int) * j+3 * (i:Int) * (if decide (V.int (j:Int)=V.int A)=true then 1 else 0))) (m:=20) (by decide);have wl:=gj (c / 121) A i j;refine⟨_,rfl,_,rfl,_,rfl,_,_,rfl,rfl,⟨by decide,by decide⟩,_,rfl,_,_,rfl,rfl,_,_,rfl,rfl,(by show(0:Int) < 20;decide),oG,_,_,rfl,rfl,(by show oG.length<=sizeLine;decide+kernel),(xA am.1 am.2).1,_,_,rfl,rfl,(by show _+1<=_;omega),_,_,rfl,rfl⟩
  ·rintro σ H3 ⟨e3,e4,rfl,rfl⟩
   have wl:=gj (c / 121) A i S.toNat;obtain⟨h01,el,_⟩:=rL (k:=i) (by omega);refine⟨_,rfl,.inl ⟨rfl,_,cL.of hl2⟩,_,rfl,_,rfl,_,_,rfl,rfl,⟨by decide,by decide⟩,_,_,rfl,rfl,h01,_,_,rfl,rfl,(by show _+(J7 _).length<=_;omega),l,_,_,rfl,rfl,hl2,(by rw[length_map,length_range];omega),_,_,_,_,rfl,λb o e=>?_,?_⟩
   ·rw[cH (cE e hl)]
    exact s2 _ _ e
   ·rw[cD,range_succ,map_append]
    rfl
 ·rintro σ H2 ⟨e1,e2,e3,e4,rfl,s2,hl2⟩
  refine⟨_,rfl,k l ((List.range m.toNat).map λj=>nameOf (c / 121) A S.toNat j) H2 s2 hl (by rw[map_map];exact hl2) ⟨by rw[length_map,length_range];omega,by rw[length_map,length_range];omega,nodup_range λi j hij hj=>Cd ab.1 (by omega) hij (by omega),λz hz=>?_⟩⟩;obtain⟨j,hj,rfl⟩:=mem_map.mp hz;have:=mem_range.mp hj;exact Dj (by omega) (by omega) (by omega)
theorem GN{ps:List Str}{H:Hp}{v:V}{d:SD}(h:t7 H v d)(k:CZ ps d):eY ps H v:=by
 obtain⟨a,e,ha⟩:=h;refine⟨a,e,?_⟩;cases d with
 |knew p h=>exact .inl ⟨p,h,ha,k.1,k.2⟩
 |unh p h=>
  refine .inr (.inl ⟨p,oV h,ha,k.1,?_⟩);cases h with
  |none=>exact .inl rfl
  |some i=>exact .inr ⟨i,rfl,k.2 i rfl⟩
 |sil p b e=>exact .inr (.inr (.inl ⟨p,b,e,ha,k.1,k.2.1,k.2.2.1,k.2.2.2⟩))
 |bar p q=>exact .inr (.inr (.inr ⟨p,q,ha,k.1,k.2.1,k.2.2⟩))
inductive Ea(c nl cl tt S Tt Y:Addr)(H5:Hp)(ps:List Str)(i:Nat)(σ:St)(H':Hp):Prop
 |mk(ss ts ys:List V)(e1 e2 e3 e4 e5 e6 e7 e8 e9:Option V)(e:σ=[some (.ref c),some (.ref nl),some (.ref cl),some (.ref tt),e1,e2,e3,e4,e5,e6,e7,e8,e9])
   (hs:H' S=some (.lst ss))(ht:H' Tt=some (.lst ts))(hy:H' Y=some (.lst ys))(kp:∀b o,H5 b=some o->b≠S->b≠Tt->b≠Y->H' b=some o)
   (ls:ss.length<=24)(li:ss.length<=i)(lt:ts.length<=i)(ly:ys.length<=i)(gs:∀v∈ss,d7 ps H' v)(gt:∀v∈ts,fh ps H' v)(gy:∀v∈ys,eY ps H' v)
inductive B3(vs:List V)(H:Hp)(Q:VK):Prop
 |mk(c nl cl:Addr)(ns:List Int)(ps:List Str)(hs:List Int)(e:vs=[.ref c,.ref nl,.ref cl])(hc:H c=some (.lst (ns.map V.int)))(n60:ns.length<=60)(hn:H nl=some (.lst (ps.map V.str)))(po:fH ps)(hcl:H cl=some (.lst (hs.map V.int)))(ck:n8 hs)
   (k:∀(tt s t y:Addr)(ss ts ys:List V)(H':Hp),cF H H'->H tt=none->H s=none->H t=none->H y=none->[tt,s,t,y].Nodup->H' tt=some (.tup [.ref s,.ref t,.ref y])->H' s=some (.lst ss)->H' t=some (.lst ts)->H' y=some (.lst ys)->ss.length<=24->ts.length<=60->ys.length<=ns.length->
    (∀v∈ss,d7 ps H' v)->(∀v∈ts,fh ps H' v)->(∀v∈ys,eY ps H' v)->Q (.ref tt) H')
def pG:Sp:=λvs H Q _=>B3 vs H Q
theorem wI{ps:List Str}{i:Int}(h0:0<=i)(h1:i < ps.length):∃z,nM (ps.map V.str) i=some (.str z)/\z∈ps:=by
 have hi:i.toNat < ps.length:=by omega
 have e:((i.toNat:Nat):Int)=i:=Int.toNat_of_nonneg h0;have:=cQ (xs:=ps.map V.str) (j:=i.toNat) (v:=V.str ps[i.toNat]) (by rw[getElem?_map,getElem?_eq_getElem hi];rfl);rw[e]at this;exact⟨_,this,getElem_mem hi⟩
theorem HQ{ps:List Str}{d:SD}(w:L4 ps d):∃v1 v2:V,nM d.tup 1=some v1/\nM d.tup 2=some v2/\FG v1 v2=true/\(v1≠v2->CZ ps d):=by
 cases d with
 |knew p h=>exact⟨_,_,rfl,rfl,rfl,λ_=>w⟩
 |unh p h=>
  cases h with
  |none=>exact⟨_,_,rfl,rfl,rfl,λ_=>w⟩
  |some i=>exact⟨_,_,rfl,rfl,rfl,λ_=>w⟩
 |sil p b e=>exact⟨_,_,rfl,rfl,rfl,λ_=>w⟩
 |bar p q=>exact⟨_,_,rfl,rfl,rfl,λn=>⟨w.1,w.2,λe=>n (congrArg V.str e)⟩⟩
theorem EY:dN "red" =true:=by decide+kernel
theorem ux:cI ["_law_cells", "_law_names_here", "_law_clock_here", "_law_things_here", "_law_k", "_law_number", "_law_at", "_law_first", "_law_steps", "_law_one", "_law_other", "_law_saying_here", "_law_way"] ["_law_cells", "_law_names_here", "_law_clock_here"] (cG kg):={}
theorem yv (D:Df K mg "_law_things" kg ["_law_cells", "_law_names_here", "_law_clock_here"] f fd) (T:Txt K mg kw C) (G__law_mix:Gd P w K mg base 1 "_law_mix" wN) (G__law_spot:Gd P w K mg base 1 "_law_spot" vm) (G__law_saying:Gd P w K mg base 1 "_law_saying" uV):Gd P w K mg base 2 "_law_things" pG:=by
 refine aH D ux λX H vs Q E hh h=>?_;obtain⟨c,nl,cl,ns,ps,hs,rfl,hc,n60,hn,po,hcl,ck,k⟩:=h;obtain⟨S0,S1,S2,S3,S4,S5,S6,S7,S8,S9,S10,S11,S12,_⟩:=hh.eB [0,1,2,3,4,5,6,7,8,9,10,11,12];have B_len:=hh.b T.b_len;have B_range:=hh.b T.b_range;have C__law_mix:=hh.c G__law_mix;have C__law_saying:=hh.c G__law_saying;have C__law_spot:=hh.c G__law_spot;have hsz:sizeLine=16777216:=sizeLine_eq;have pl:(ps.map V.str).length=ps.length:=length_map ..;have plo:=po.lo;have nln:(ns.map V.int).length=ns.length:=length_map ..;refine⟨_,(ag (aD S3 hh.nd (aV (aM (ba bE) (ba bE) (ba bE))))
 (ag (bo hh.own hh.calm (b5 B_range (ao (aE B_len bw L2.dE (ao (aa S0))))) (aG S4 hh.nd)
 (ag (aD S5 hh.nd (aw C__law_mix (aA (af aZ (aa S0) (aa S4) aX) (aa S4))))
 (ag (bO (aw C__law_spot (aM (aa S5) (aa S4) (aE B_len bw L2.dE (ao (aa S1))))) (bq hh.calm (aF (aG S6 hh.nd) (aF (aG S7 hh.nd) (aF (aG S8 hh.nd) bh)))))
 (ag (aD S9 hh.nd (af aZ (aa S1) (aa S7) aX))
 (ag (aD S10 hh.nd (af aZ (aa S1) (az a8 (az bD (aa S7) (aa S8)) (aE B_len bw L2.dE (ao (aa S1)))) cz))
 (aj (aI (aS (bg (aB aL (aa S4) ae (L2.cJ _)) (bu (aS (bp (aB aL (az a8 (aa S5) ae) ae (L2.cJ _)) (bA (aB bU (aE B_len bw L2.dE (ao (af ak (aa S3) ae ah))) ae (L2.cJ _))))))))
 (aj (bG (bM plainAttrs_list PySem.F.slot_list_append PySem.F.type_list_append bN (af ak (aa S3) ae ah) (ao (aV (aM (aa S9) (af aZ (aa S2) (aa S6) aX) (aV (ao aP))))))))
 (aj (aI (aS (bg (aB bU (az a8 (aa S5) ae) ae (L2.cJ _)) (bu (aB aL (aa S9) (aa S10) (L2.cJ _)))))
 (ag (aD S11 hh.nd (aw C__law_saying (J.MT (aa S5) (aa S9) (aa S10) (aa S2) (aa S6))))
 (aj (aI (aB bQ (af ak (aa S11) ae ah) (af ak (aa S11) ae ah) (L2.cJ _))
 (aj (bG (bM plainAttrs_list PySem.F.slot_list_append PySem.F.type_list_append bN (af ak (aa S3) ae ah) (ao (aa S11)))))
 aJ)))
 (ag (aD S12 hh.nd (af aZ (ba (aA aP aP)) (az a8 (az bj (aa S5) ae) ae) cz))
 (aj (bG (bM plainAttrs_list PySem.F.slot_list_append PySem.F.type_list_append bN (af ak (aa S3) ae ah) (ao (aV (cj (af aZ (aa S2) (aa S6) aX) (aa S9) (aa S10) (aa S12)))))))))))))))))
 (aj (au (aa S3))))),?_⟩
 refine⟨wW,λS hSn=>⟨wW,λTt hTn=>⟨wW,λY hYn=>⟨m8,λtt httn=>?_⟩⟩⟩⟩;have sS:=cF.upd (o:=.lst []) hSn;have sT:=cF.upd (o:=.lst []) hTn;have sY:=cF.upd (o:=.lst []) hYn;have sU:=cF.upd (o:=.tup [.ref S,.ref Tt,.ref Y]) httn;have nST:S≠Tt:=cE cD hTn;have nSY:S≠Y:=cE (sT _ _ cD) hYn;have nTY:Tt≠Y:=cE cD hYn;have nuS:tt≠S:=(cE (sY _ _ (sT _ _ cD)) httn).symm;have nuT:tt≠Tt:=(cE (sY _ _ cD) httn).symm;have nuY:tt≠Y:=(cE cD httn).symm;have s05:=((sS.trans sT).trans sY).trans sU;have fS:H S=none:=hSn;have fT:H Tt=none:=sS.free hTn;have fY:H Y=none:=(sS.trans sT).free hYn;have fU:H tt=none:=((sS.trans sT).trans sY).free httn;have hS5:=sU _ _ (sY _ _ (sT _ _ (show upd H S (.lst []) S=some (.lst []) from cD)));have hT5:=sU _ _ (sY _ _ (show upd (upd H S (.lst [])) Tt (.lst []) Tt=some (.lst []) from cD));have hY5:=sU _ _ (show upd (upd (upd H S (.lst [])) Tt (.lst [])) Y (.lst []) Y=some (.lst []) from cD);have hU5:upd (upd (upd (upd H S (.lst [])) Tt (.lst [])) Y (.lst [])) tt (.tup [.ref S,.ref Tt,.ref Y]) tt=some (.tup [.ref S,.ref Tt,.ref Y]):=cD;generalize upd (upd (upd (upd H S (.lst [])) Tt (.lst [])) Y (.lst [])) tt (.tup [.ref S,.ref Tt,.ref Y])=H5 at s05 hS5 hT5 hY5 hU5;have hc5:=s05 _ _ hc;have hn5:=s05 _ _ hn;have hcl5:=s05 _ _ hcl;have keep:∀{b:Addr}{o:HO}{H6:Hp},(∀b o,H5 b=some o->b≠S->b≠Tt->b≠Y->H6 b=some o)->H b=some o->H6 b=some o:=λkp e=>kp _ _ (s05 _ _ e) (cE e fS) (cE e fT) (cE e fY);clear sS sT sY sU hSn hTn hYn httn;refine⟨_,rfl,c,_,rfl,.inl (cL.of hc5),(ns.length:Int),(by rw[nln]),by omega,by omega,jz (lo:=0) (n:=((ns.length:Nat):Int).toNat) (Ea c nl cl tt S Tt Y H5 ps)
  ⟨[],[],[],none,none,none,none,none,none,none,none,none,rfl,hS5,hT5,hY5,λb o e _ _ _=>e,by decide,le_refl 0,le_refl 0,le_refl 0,(λv hv=>by cases hv),(λv hv=>by cases hv),(λv hv=>by cases hv)⟩ ?_ ?_⟩
 ·rintro i σ H6 hi ⟨ss,ts,ys,e1,e2,e3,e4,e5,e6,e7,e8,e9,rfl,hs6,ht6,hy6,kp,ls,li,lt,ly,gs,gt,gy⟩
  rw[Int.toNat_natCast]at hi;have hc6:=keep kp hc;have hn6:=keep kp hn;have hcl6:=keep kp hcl;have hu6:=kp _ _ hU5 nuS nuT nuY;have av:nM (ns.map V.int) ((0:Int)+(i:Int))=some (.int ns[i]):=by
   rw[Int.zero_add];exact cQ (by rw[getElem?_map,getElem?_eq_getElem hi];rfl)
  refine⟨_,rfl,_,rfl,xL hc6 av ⟨_,rfl,_,_,rfl,by omega,by omega,λN n0 n1=>?_⟩⟩;refine⟨_,rfl,_,rfl,_,rfl,nl,_,rfl,.inl (cL.of hn6),_,_,_,rfl,n0,by omega,by rw[pl];omega,λt a f st H7 s7 htp a0 a20 f0 fm st0=>?_⟩;rw[pl]at fm;obtain⟨y1,ay1,my1⟩:=wI f0 fm;have om:=cY (f+st) (m:=(ps.length:Int)) (by omega);obtain⟨y2,ay2,my2⟩:=wI om.1 om.2;have hn7:=s7 _ _ hn6;have hcl7:=s7 _ _ hcl6;have hu7:=s7 _ _ hu6;have hs7:=s7 _ _ hs6;have ht7:=s7 _ _ ht6;have hy7:=s7 _ _ hy6;have kp7:∀b o,H5 b=some o->b≠S->b≠Tt->b≠Y->H7 b=some o:=λb o e n1 n2 n3=>s7 _ _ (kp b o e n1 n2 n3);have gs7:∀v∈ss,d7 ps H7 v:=λv hv=>(gs v hv).mono (Tk.of s7);have gt7:∀v∈ts,fh ps H7 v:=λv hv=>(gt v hv).mono (Tk.of s7);have gy7:∀v∈ys,eY ps H7 v:=λv hv=>(gy v hv).mono (Tk.of s7);refine⟨t,_,rfl,cW.of htp,rfl,_,_,rfl,_,_,rfl,_,_,rfl,rfl,?_⟩;refine⟨_,rfl,_,rfl,xL hn7 ay1 ?_⟩;refine⟨_,rfl,_,rfl,_,rfl,_,_,rfl,rfl,_,rfl,nl,_,rfl,.inl (cL.of hn7),_,_,rfl,rfl,(by rw[pl];omega),xL hn7 (by rw[pl];exact ay2) ?_⟩;obtain⟨hr,eH,iH,kH⟩:=kT ck (i:=a) a0 a20;clear htp s7 gs gt gy hs6 ht6 hy6 kp hu6 hn6 hcl6 hc6;refine both (G:=ss.length < 24->_) ?_ λput=>both (G:=_) ?_ λother=>⟨_,rfl,rfl,_,rfl,cZ (λhk=>dq (put ?_)) (λ_=>⟨_,rfl,_,_,rfl,rfl,(by show(0:Int) < 8;decide),rfl,_,rfl,cZ (λ_=>⟨_,rfl,xT hu7 rfl ⟨S,_,rfl,.inl (cL.of hs7),_,_,rfl,rfl,_,rfl,cZ (λh24=>put ?_) (λ_=>other)⟩⟩) (λ_=>cV other)⟩)⟩
  ·intro h24
   refine⟨_,rfl,xT hu7 rfl ⟨.inl ⟨rfl,_,cL.of hs7⟩,_,rfl,_,rfl,_,rfl,xL hcl7 eH ⟨Hq,λta hta=>⟨m8,λtp htp=>?_⟩⟩⟩⟩;have s8:=cF.upd (o:=.tup [.str "red"]) hta;have s9:=s8.trans (cF.upd (o:=.tup [.str y1,.int hr,.ref ta]) htp);refine⟨S,ss,.ref tp,rfl,rfl,s9 _ _ hs7,by omega,?_⟩;have tk:=(Tk.of s9).trans (Tk.upd (s9 _ _ hs7) (ys:=ss++[.ref tp]));have n1:tp≠S:=(cE (s8 _ _ hs7) htp).symm;have n2:ta≠S:=(cE hs7 hta).symm;refine⟨ss++[.ref tp],ts,ys,_,_,_,_,_,_,_,_,_,rfl,cD,(by rw[cH nST.symm];exact s9 _ _ ht7),(by rw[cH nSY.symm];exact s9 _ _ hy7),λb o e n1 n2 n3=>(by rw[cH n1];exact s9 _ _ (kp7 b o e n1 n2 n3)),(by rw[length_append];show ss.length+1<=24;omega),(by rw[length_append];show ss.length+1<=i+1;omega),by omega,by omega,λv hv=>?_,λv hv=>(gt7 v hv).mono tk,λv hv=>(gy7 v hv).mono tk⟩;rw[mem_append,mem_singleton]at hv;rcases hv with hv|rfl
   ·exact(gs7 v hv).mono tk
   ·exact⟨tp,y1,hr,ta,["red"],rfl,(by rw[cH n1];exact cD),my1,kH,(by rw[cH n2];exact(cF.upd htp) _ _ cD),by decide,by decide,λx hx=>by rw[mem_singleton]at hx;rw[hx];exact EY⟩
  ·refine both (G:=_) ?_ λsaying=>⟨_,rfl,_,_,rfl,rfl,(by show(0:Int) < 8;decide),_,_,rfl,rfl,_,rfl,cZ (λ_=>dq saying) (λ_=>⟨_,rfl,_,rfl,rfl,_,rfl,cZ (λ_=>saying) (λhne=>?_)⟩)⟩
   ·refine⟨_,rfl,_,rfl,_,rfl,_,rfl,_,rfl,N,a,y1,y2,cl,hs,ps,rfl,hcl7,ck,a0,a20,my1,my2,λv d H8 s8 sd8 w8=>?_⟩
    obtain⟨b,rfl,hb⟩:=sd8;have keep8:∀{b:Addr}{o:HO},H7 b=some o->H8 b=some o:=λe=>s8 _ _ e;have fN:Ea c nl cl tt S Tt Y H5 ps (i+1) [some (.ref c),some (.ref nl),some (.ref cl),some (.ref tt),some (.int (0+(i:Int))),some (.int N),some (.int a),some (.int f),some (.int st),some (.str y1),some (.str y2),some (.ref b),e9] H8:=
     ⟨ss,ts,ys,_,_,_,_,_,_,_,_,_,rfl,s8 _ _ hs7,s8 _ _ ht7,s8 _ _ hy7,λb o e n1 n2 n3=>s8 _ _ (kp7 b o e n1 n2 n3),ls,by omega,by omega,by omega,λv hv=>(gs7 v hv).mono (Tk.of s8),λv hv=>(gt7 v hv).mono (Tk.of s8),λv hv=>(gy7 v hv).mono (Tk.of s8)⟩
    obtain⟨v1,v2,av1,av2,sc12,ok12⟩:=HQ w8;refine⟨_,rfl,xT hb av1 ⟨_,rfl,xT hb av2 ⟨sc12,_,rfl,cZ (λhne=>?_) (λ_=>fN)⟩⟩⟩;have ok:=ok12 λe=>by rw[decide_eq_true e]at hne;cases hne
    have si:=GN ⟨b,rfl,hb⟩ ok;refine⟨_,rfl,xT (s8 _ _ hu7) rfl ⟨.inl ⟨rfl,_,cL.of (s8 _ _ hy7)⟩,_,rfl,Y,ys,.ref b,rfl,rfl,s8 _ _ hy7,by omega,?_⟩⟩;have tk:=(Tk.of s8).trans (Tk.upd (s8 _ _ hy7) (ys:=ys++[.ref b]));refine⟨ss,ts,ys++[.ref b],_,_,_,_,_,_,_,_,_,rfl,(by rw[cH nSY];exact s8 _ _ hs7),(by rw[cH nTY];exact s8 _ _ ht7),cD,λb o e n1 n2 n3=>(by rw[cH n3];exact s8 _ _ (kp7 b o e n1 n2 n3)),ls,by omega,by omega,(by rw[length_append];show ys.length+1<=i+1;omega),λv hv=>(gs7 v hv).mono tk,λv hv=>(gt7 v hv).mono tk,λv hv=>?_⟩;rw[mem_append,mem_singleton]at hv;rcases hv with hv|rfl
    ·exact(gy7 v hv).mono tk
    ·exact si.mono (Tk.upd (s8 _ _ hy7))
   ·obtain⟨wv,hw,hwm⟩:=Er (xs:=[V.str "both",V.str "one"]) (i:=N / 8192 % 2) (Int.emod_nonneg _ (by decide)) (by
     have:N / 8192 % 2 < 2:=Int.emod_lt_of_pos _ (by decide);show _ < (2:Int);omega)
    have hwy:∃wy:Str,wv=.str wy/\(wy= "both" \/wy= "one"):=by
     simp only[mem_cons,not_mem_nil,or_false]at hwm;rcases hwm with rfl|rfl
     ·exact⟨_,rfl,.inl rfl⟩
     ·exact⟨_,rfl,.inr rfl⟩
    obtain⟨wy,rfl,hwy⟩:=hwy;refine⟨DV,λb3 hb3=>?_⟩;have s8:=cF.upd (o:=.lst [.str "both",.str "one"]) hb3;refine⟨_,rfl,_,_,rfl,rfl,⟨by decide,by decide⟩,_,_,rfl,rfl,(by show(0:Int) < 2;decide),xL cD hw ?_⟩;refine⟨_,rfl,xT (s8 _ _ hu7) rfl ⟨.inl ⟨rfl,_,cL.of (s8 _ _ ht7)⟩,_,rfl,_,rfl,xL (s8 _ _ hcl7) eH ⟨_,rfl,_,rfl,_,rfl,K6,λtp htp=>?_⟩⟩⟩;have s9:=s8.trans (cF.upd (o:=.tup [.int hr,.str y1,.str y2,.str wy]) htp);refine⟨Tt,ts,.ref tp,rfl,rfl,s9 _ _ ht7,by omega,?_⟩;have tk:=(Tk.of s9).trans (Tk.upd (s9 _ _ ht7) (ys:=ts++[.ref tp]));have n1:tp≠Tt:=(cE (s8 _ _ ht7) htp).symm;refine⟨ss,ts++[.ref tp],ys,_,_,_,_,_,_,_,_,_,rfl,(by rw[cH nST];exact s9 _ _ hs7),cD,(by rw[cH nTY.symm];exact s9 _ _ hy7),λb o e n1 n2 n3=>(by rw[cH n2];exact s9 _ _ (kp7 b o e n1 n2 n3)),ls,by omega,(by rw[length_append];show ts.length+1<=i+1;omega),by omega,λv hv=>(gs7 v hv).mono tk,λv hv=>?_,λv hv=>(gy7 v hv).mono tk⟩;rw[mem_append,mem_singleton]at hv;rcases hv with hv|rfl
    ·exact(gt7 v hv).mono tk
    ·exact⟨tp,hr,y1,y2,wy,rfl,(by rw[cH n1];exact cD),kH,my1,my2,λe=>hne (decide_eq_true (congrArg V.str e)),hwy⟩
  ·have:((0:Int)+(i:Int))=0:=by injection of_decide_eq_true hk
   omega
  ·rw[decide_eq_true_iff]at h24
   omega
 ·rintro σ H6 ⟨ss,ts,ys,e1,e2,e3,e4,e5,e6,e7,e8,e9,rfl,hs6,ht6,hy6,kp,ls,li,lt,ly,gs,gt,gy⟩
  rw[Int.toNat_natCast]at li lt ly;refine⟨_,rfl,k tt S Tt Y ss ts ys H6 (λb o e=>keep kp e) fU fS fT fY ?_ (kp _ _ hU5 nuS nuT nuY) hs6 ht6 hy6 ls (by omega) (by omega) gs gt gy⟩;simp only[nodup_cons,mem_cons,not_mem_nil,or_false,not_or,nodup_nil,and_true,not_false_eq_true];exact⟨⟨nuS,nuT,nuY⟩,⟨nST,nSY⟩,nTY⟩
def SK(kvs:List (Key×V))(zs:List Str):Prop:=kvs.map (·.1)=zs.map Sum.inr
def HS(kvs:List (Key×V)):Prop:=∃zs,SK kvs zs/\zs.Nodup
theorem zu{kvs:List (Key×V)}{zs:List Str}{z:Str}(h:SK kvs zs):z∈zs↔(dz kvs (Sum.inr z)).isSome=true:=by
 rw[<-gq,any_eq_true];constructor
 ·intro m
  have:Sum.inr z∈kvs.map (·.1):=by rw[show kvs.map (·.1)=zs.map Sum.inr from h];exact List.mem_map_of_mem m
  obtain⟨kv,m1,e⟩:=mem_map.mp this;exact⟨kv,m1,decide_eq_true e⟩
 ·rintro⟨kv,m,e⟩
  have:(Sum.inr z:Key)∈zs.map Sum.inr:=by rw[<-show kvs.map (·.1)=zs.map Sum.inr from h,<-of_decide_eq_true e];exact List.mem_map_of_mem m
  obtain⟨y,m1,e1⟩:=mem_map.mp this;cases e1;exact m1
theorem BJ{kvs:List (Key×V)}{z:Str}{v:V}(h:HS kvs):HS (putK kvs (Sum.inr z) v):=by
 obtain⟨zs,h,nd⟩:=h;have e0:kvs.map (·.1)=zs.map Sum.inr:=h;unfold putK;rw[gq];cases c:(dz kvs (Sum.inr z)).isSome with
 |true=>
  rw[if_pos rfl];refine⟨zs,?_,nd⟩;show(kvs.map _).map _=_;rw[<-e0,map_map];refine map_congr_left λkv _=>?_;show(if kv.1=_ then(kv.1,v) else kv).1=kv.1;split<;>rfl
 |false=>
  rw[if_neg Bool.false_ne_true];refine⟨zs++[z],?_,List.nodup_append.mpr ⟨nd,nodup_cons.mpr ⟨not_mem_nil,nodup_nil⟩,λa ha b hb e=>?_⟩⟩
  ·show(kvs++[_]).map _=_
   rw[map_append,map_append,e0];rfl
  ·rw[mem_singleton.mp hb]at e
   have:=(zu h).mp (e ▸ ha);rw[c]at this;cases this
theorem oH:∀{zs ps:List Str},zs.Nodup->(∀z∈zs,z∈ps)->zs.length<=ps.length
 |[],_,_,_=>zero_le _
 |z::r,ps,nd,m=>by
  obtain⟨n1,n2⟩:=nodup_cons.mp nd;have mz:=m z mem_cons_self;have:=oH (ps:=ps.erase z) n2 λy hy=>(List.mem_erase_of_ne λe=>n1 (by rw[<-e];exact hy)).mpr (m y (mem_cons_of_mem _ hy));rw[List.length_erase_of_mem mz]at this;have pl:=List.length_pos_of_mem mz;show r.length+1<=_;omega
def Mq(kvs:List (Key×V)):Prop:=∀(z:Str) (v:V),dz kvs (Sum.inr z)=some v->∃i:Int,v=.int i
def pV(F:Str->Option Int):SD->Bool
 |.knew q h=>match F q with
  |none=>false
  |some i=>decide (i<=h)
 |_=>true
inductive xV  (vs:List V)(H:Hp)(Q:VK):Prop
 |mk(y d:Addr)(ys:List V)(sd:List SD)(kvs:List (Key×V))(F:Str->Option Int)(h0:vs=[.ref y,.ref d])(h1:H y=some (.lst ys))(h2:Sys H ys sd)(h3:H d=some (.dK kvs))(h4:(∀z,dz kvs (Sum.inr z)=(F z).map V.int))(h5:Q (.bl (sd.all (pV F))) H)
def gQ  :Sp:=λvs H Q _=>xV  vs H Q
theorem sL:cI ["_law_sayings", "_law_found", "_law_row"] ["_law_sayings", "_law_found"] (cG jk):={}
theorem vT (D:Df K mg "_law_knew_so" jk ["_law_sayings", "_law_found"] f fd):Gd P w K mg base 1 "_law_knew_so" gQ:=by
 refine aH D sL λX H vs Q E hh h=>?_;obtain⟨y,m,ys,sd,kvs,F,rfl,hy,sy,hm,get,k⟩:=h;obtain⟨S0,S1,S2,_⟩:=hh.eB [0,1,2];have hu:=eU hh.room;refine⟨_,(ag (bo hh.own hh.calm (aO (aa S0)) (aG S2 hh.nd)
 (aj (aI (aS (bp (aB aL (af ak (aa S2) ae ah) aP (L2.cJ _)) (bA (aS (bg (J.qu hu (af ak (aa S2) ae ah) (aa S1)) (bu (aB bW (bS hu (aa S1) (af ak (aa S2) ae ah) b8) (af ak (aa S2) ae ah) (L2.cJ _))))))))
 (aj (au a9))
 aJ)))
 (aj (au a9))),?_⟩
 refine⟨_,rfl,y,rfl,⟨_,cL.of hy⟩,da (K:=X.K) (a:=y) (xs:=ys) (λi σ H2=>∃e:Option V,σ=[some (.ref y),some (.ref m),e]/\H2=H/\∀d∈sd.take i,pV F d=true)
  ⟨none,rfl,rfl,λd hd=>by cases hd⟩ ?_ ?_ ?_⟩
 ·rintro i σ H2 hi ⟨e,rfl,rfl,al⟩
  exact cL.of hy
 ·rintro i v σ H2 hv ⟨e,rfl,rfl,al⟩
  obtain⟨d,a,hd,rfl,ha⟩:=sy.at hv;have nx:pV F d=true->∃e:Option V,[some (V.ref y),some (.ref m),some (.ref a)]=[some (.ref y),some (.ref m),e]/\H2=H2/\∀d∈sd.take (i+1),pV F d=true:=λo=>⟨_,rfl,rfl,λd' hd'=>by
   rw[take_add_one,hd,mem_append]at hd';rcases hd' with h|h
   ·exact al d' h
   ·rw[mem_singleton.mp h]
    exact o⟩
  have no:pV F d=false->Q (.bl false) H2:=λo=>by
   have e:sd.all (pV F)=false:=List.all_eq_false.mpr ⟨d,mem_of_getElem? hd,by rw[o];exact Bool.false_ne_true⟩;rw[<-e];exact k
  cases d with
  |unh q i'=>exact⟨_,rfl,xT ha rfl ⟨rfl,_,rfl,iN (cV (nx rfl))⟩⟩
  |sil q b e'=>exact⟨_,rfl,xT ha rfl ⟨rfl,_,rfl,iN (cV (nx rfl))⟩⟩
  |bar q q'=>exact⟨_,rfl,xT ha rfl ⟨rfl,_,rfl,iN (cV (nx rfl))⟩⟩
  |knew q h=>
   have dg:=eT.k (k:=Sum.inr q) hm;rw[get]at dg;have ke:pV F (.knew q h)=(match F q with|none=>false|some i=>decide (i<=h)):=rfl;refine⟨_,rfl,xT ha rfl ⟨rfl,_,rfl,iP ⟨_,rfl,xT ha rfl ⟨_,rfl,m,_,rfl,dg,_,rfl,?_⟩⟩⟩⟩;cases hF:F q with
   |none=>
    rw[hF]at ke;exact eZ rfl (dq (no ke))
   |some j=>
    rw[hF]at ke dg;refine hZ Bool.false_ne_true ⟨_,rfl,_,rfl,xT ha rfl ⟨m,_,rfl,dg,_,rfl,xT ha rfl ⟨_,_,rfl,rfl,_,rfl,cZ (λe=>no ?_) (λe=>nx ?_)⟩⟩⟩
    ·rw[ke]
     have:=of_decide_eq_true e;exact decide_eq_false (by omega)
    ·rw[ke]
     have:¬j > h:=λx=>e (decide_eq_true x);exact decide_eq_true (by omega)
 ·rintro σ H2 ⟨e,rfl,rfl,al⟩
  rw[sy.1,take_length]at al;rw[all_eq_true.mpr al]at k;exact k
abbrev FH:=Str->Option Int
def mv:Option Int->Nat
 |none=>1000000000000000002
 |some i=>i.toNat
def nv:Option Int->Nat
 |none=>1
 |some _=>0
def mu(g:Option Int->Nat)(F:FH):List Str->Nat
 |[]=>0
 |z::r=>g (F z)+mu g F r
def iF(F:FH)(z:Str)(h:Int):FH:=λy=>if y=z then some h else F y
theorem dQ{F:FH}{z:Str}{h:Int}:iF F z h z=some h:=if_pos rfl
theorem dP{F:FH}{z y:Str}{h:Int}(n:¬y=z):iF F z h y=F y:=if_neg n
theorem AB{g:Option Int->Nat}{F:FH}{z:Str}{h:Int}(l:g (some h)<=g (F z)):∀ps:List Str,mu g (iF F z h) ps<=mu g F ps
 |[]=>le_refl _
 |y::r=>by
  have ih:=AB l r;show g (iF F z h y)+mu g (iF F z h) r<=g (F y)+mu g F r;by_cases e:y=z
  ·subst e
   rw[dQ];omega
  ·rw[dP e]
   omega
theorem Bw{g:Option Int->Nat}{F:FH}{z:Str}{h:Int}(l:g (some h) < g (F z)):∀ps:List Str,z∈ps->mu g (iF F z h) ps < mu g F ps
 |[],m=>by cases m
 |y::r,m=>by
  have ih:=AB (le_of_lt l) r;show g (iF F z h y)+mu g (iF F z h) r < g (F y)+mu g F r;by_cases e:y=z
  ·subst e
   rw[dQ];omega
  ·rw[dP e]
   rcases mem_cons.mp m with e'|m'
   ·exact absurd e'.symm e
   ·have:=Bw l r m'
    omega
theorem xm:∀ps:List Str,mu nv (λ_=>none) ps=ps.length
 |[]=>rfl
 |z::r=>by
  show 1+mu nv (λ_=>none) r=r.length+1;rw[xm r];omega
structure zZ(R:Str->Int->Prop)(ps:List Str)(kvs:List (Key×V))(F:FH):Prop where
 get:∀z,dz kvs (Sum.inr z)=(F z).map V.int
 ok:∀z i,F z=some i->cT i
 rc:∀z i,F z=some i->R z i
 len:kvs.length+mu nv F ps<=ps.length
 sk:HS kvs
theorem zZ.new{R:Str->Int->Prop}{ps:List Str}:zZ R ps [] (λ_=>none):=⟨λ_=>rfl,(λ_ _ e=>by cases e),(λ_ _ e=>by cases e),(by rw[xm];show 0+_<=_;omega),⟨[],rfl,nodup_nil⟩⟩
theorem zZ.put{R:Str->Int->Prop}{ps:List Str}{kvs:List (Key×V)}{F:FH}{z:Str}{h:Int}(d:zZ R ps kvs F)(hz:z∈ps)(hh:cT h)(hc:R z h):zZ R ps (putK kvs (Sum.inr z) (.int h)) (iF F z h):=by
 refine⟨λy=>?_,λy i e=>?_,λy i e=>?_,?_,BJ d.sk⟩
 ·rw[gd]
  by_cases e:y=z
  ·subst e
   rw[if_pos rfl,dQ];rfl
  ·rw[if_neg (λq=>e (Sum.inr.inj q)),dP e]
   exact d.get y
 ·by_cases q:y=z
  ·subst q
   rw[dQ]at e;cases e;exact hh
  ·rw[dP q]at e
   exact d.ok y i e
 ·by_cases q:y=z
  ·subst q
   rw[dQ]at e;cases e;exact hc
  ·rw[dP q]at e
   exact d.rc y i e
 ·have dl:=d.len
  unfold putK;rw[gq,d.get z];cases hF:F z with
  |none=>
   have:=Bw (g:=nv) (F:=F) (z:=z) (h:=h) (by rw[hF];exact Nat.zero_lt_one) ps hz;show(kvs++[_]).length+_<=_;rw[length_append];show kvs.length+1+_<=_;omega
  |some j=>
   have:=AB (g:=nv) (F:=F) (z:=z) (h:=h) (zero_le _) ps;show(kvs.map _).length+_<=_;rw[length_map];omega
def Kb(F:FH)(g:GD):Prop:=∃j,F g.1=some j/\j<=g.2
def H0(qd:List QD)(F:FH)(t:TK):Prop:=∀a,F t.2.1=some a->a < d4 qd t.1->∃b,F t.2.2=some b/\b<=d4 qd t.1
theorem Kb.set{F:FH}{g:GD}{z:Str}{m:Int}(h:Kb F g)(l:∀j,F z=some j->m<=j):Kb (iF F z m) g:=by
 obtain⟨j,e,k⟩:=h;by_cases q:g.1=z
 ·have:=l j (by rw[<-q];exact e)
  exact⟨m,(by rw[q];exact dQ),by omega⟩
 ·exact⟨j,(by rw[dP q];exact e),k⟩
def sQ(sg:List GD)(F:FH)(ix:List Nat):Prop:=∀i∈ix,∀g,sg[i]? =some g->Kb F g
theorem sQ.set{sg:List GD}{F:FH}{ix:List Nat}{z:Str}{m:Int}(h:sQ sg F ix)(l:∀j,F z=some j->m<=j):sQ sg (iF F z m) ix:=λi hi g hg=>(h i hi g hg).set l
theorem qm{α:Type}{l:List α}{i:Nat}{x y:α}(h:l[i]? =some x)(m:y∈l.take (i+1)):y∈l.take i\/y=x:=by
 rw[take_add_one,h,mem_append]at m;rcases m with m|m
 ·exact .inl m
 ·exact .inr (mem_singleton.mp m)
inductive jq(sg:List GD)(qd:List QD)(ix:List Nat)(ks:List TK):Str->Int->Prop
 |saw {i:Nat}{g:GD}(m:i∈ix)(e:sg[i]? =some g):jq sg qd ix ks g.1 g.2
 |hrd {t:TK}{h':Int}(m:t∈ks)(r:jq sg qd ix ks t.2.1 h')(l:h' < d4 qd t.1):jq sg qd ix ks t.2.2 (d4 qd t.1)
inductive Kk(vs:List V)(H:Hp)(Q:VK):Prop
 |mk(th nb tl s t y:Addr)(ps:List Str)(ss ts us:List V)(sg:List GD)(qd:List QD)(ix:List Nat)(ks:List TK)(e:vs=[.ref th,.ref nb,.ref tl])(hth:H th=some (.tup [.ref s,.ref t,.ref y]))(hs:H s=some (.lst ss))(ht:H t=some (.lst ts))(hnb:H nb=some (.lst (ix.map λi=>V.int (i:Nat))))(htl:H tl=some (.lst us))
   (gs:Lz dH H ss sg)(gk:∀d∈sg,d.1∈ps/\cT d.2)(qs:Lz dJ H ts qd)(qk:∀d∈qd,cT d.1)(tu:ej H us ks)(kk:∀t∈ks,t.1 < qd.length/\t.2.2∈ps)(ik:∀i∈ix,i < sg.length)(pl:ps.length<=24)
   (k:∀(d:Addr)(kvs:List (Key×V))(F:FH)(H':Hp),cF H H'->H d=none->H' d=some (.dK kvs)->zZ (jq sg qd ix ks) ps kvs F->sQ sg F ix->(∀t∈ks,H0 qd F t)->Q (.ref d) H')
def sV:Sp:=λvs H Q _=>Kk vs H Q
inductive LH(R:Str->Int->Prop)(th nb tl s t y d:Addr)(H1:Hp)(ps:List Str)(sg:List GD)(ix:List Nat)(i:Nat)(σ:St)(H2:Hp):Prop
 |mk(e1:Option V)(kvs:List (Key×V))(F:FH)(e:σ=[some (.ref th),some (.ref nb),some (.ref tl),some (.ref s),some (.ref t),some (.ref y),some (.ref d),e1,none,none,none,none,none])(kp:∀b o,H1 b=some o->b≠d->H2 b=some o)(hd:H2 d=some (.dK kvs))(hr:zZ R ps kvs F)(so:sQ sg F (ix.take i))
inductive L3(R:Str->Int->Prop)(th nb tl s t y d:Addr)(H1:Hp)(ps:List Str)(sg:List GD)(qd:List QD)(ix:List Nat)(ks:List TK)(m:Nat)(σ:St)(H2:Hp):Prop
 |mk(b:Bool)(e1 e2 e3 e4 e5:Option V)(kvs:List (Key×V))(F:FH)(e:σ=[some (.ref th),some (.ref nb),some (.ref tl),some (.ref s),some (.ref t),some (.ref y),some (.ref d),e1,some (.bl b),e2,e3,e4,e5])(kp:∀b o,H1 b=some o->b≠d->H2 b=some o)(hd:H2 d=some (.dK kvs))(hr:zZ R ps kvs F)(so:sQ sg F ix)(to:b=false->∀t∈ks,H0 qd F t)(me:m=2 * mu mv F ps+b.toNat)
inductive Kv(R:Str->Int->Prop)(th nb tl s t y d:Addr)(H1:Hp)(ps:List Str)(sg:List GD)(qd:List QD)(ix:List Nat)(ks:List TK)(F0:FH)(i:Nat)(σ:St)(H2:Hp):Prop
 |mk(b:Bool)(e1 e2 e3 e4 e5:Option V)(kvs:List (Key×V))(F:FH)(e:σ=[some (.ref th),some (.ref nb),some (.ref tl),some (.ref s),some (.ref t),some (.ref y),some (.ref d),e1,some (.bl b),e2,e3,e4,e5])(kp:∀b o,H1 b=some o->b≠d->H2 b=some o)(hd:H2 d=some (.dK kvs))(hr:zZ R ps kvs F)(so:sQ sg F ix)(to:b=false->F=F0/\∀t∈ks.take i,H0 qd F t)(me:b=true->mu mv F ps < mu mv F0 ps)
theorem u9:cI ["_law_things_here", "_law_numbers", "_law_tellings_here", "_law_sights", "_law_talks", "_law_sayings", "_law_found", "_law_i", "_law_changing", "_law_k", "_law_teller", "_law_hearer", "_law_when"] ["_law_things_here", "_law_numbers", "_law_tellings_here"] (cG lY):={}
theorem zT (D:Df K mg "_law_hours" lY ["_law_things_here", "_law_numbers", "_law_tellings_here"] f fd) (T:Txt K mg kw C):Gd P w K mg base 1 "_law_hours" sV:=by
 refine aH D u9 λX H vs Q E hh h=>?_;obtain⟨th,nb,tl,s,t,y,ps,ss,ts,us,sg,qd,ix,ks,rfl,hth,hs,ht,hnb,htl,gs,gk,qs,qk,tu,kk,ik,pl,k⟩:=h;obtain⟨S0,S1,S2,S3,S4,S5,S6,S7,S8,S9,S10,S11,S12,_⟩:=hh.eB [0,1,2,3,4,5,6,7,8,9,10,11,12];have B_min:=hh.b T.b_min;have hu:=eU hh.room;have hsz:sizeLine=16777216:=sizeLine_eq;have small:∀{kvs:List (Key×V)}{F:FH},zZ (jq sg qd ix ks) ps kvs F->kvs.length < sizeLine:=λhr=>by
  have:=hr.len;omega
 clear hsz;refine⟨_,(ag (bO (aa S0) (bq hh.calm (aF (aG S3 hh.nd) (aF (aG S4 hh.nd) (aF (aG S5 hh.nd) bh)))))
 (ag (aD S6 hh.nd cn)
 (ag (bo hh.own hh.calm (aO (aa S1)) (aG S7 hh.nd)
 (aj (bZ hu (aa S6) (af ak (af aZ (aa S3) (aa S7) aX) ae ah) (aE B_min (J.fX hh.calm) L2.rE (aA (af ak (af aZ (aa S3) (aa S7) aX) ae ah) (J.Iv hu (aa S6) (af ak (af aZ (aa S3) (aa S7) aX) ae ah) (af ak (af aZ (aa S3) (aa S7) aX) ae ah)))))))
 (ag (aD S8 hh.nd a9)
 (ag (J.KC hh.own (J.xx (aa S8))
 (ag (aD S8 hh.nd a9)
 (aj (bo hh.own hh.calm (aO (aa S2)) (bq hh.calm (aF (aG S9 hh.nd) (aF (aG S10 hh.nd) (aF (aG S11 hh.nd) bh))))
 (ag (aD S12 hh.nd (af ak (af aZ (aa S4) (aa S9) aX) ae ah))
 (aj (aI (aS (bp (J.EJ hu (aa S10) (aa S6)) (bp (aB bU (bS hu (aa S6) (aa S10) aX) (aa S12) (L2.cJ _)) (bA (aB bW (J.Iv hu (aa S6) (aa S11) (az bD (aa S12) ae)) (aa S12) (L2.cJ _))))))
 (ag (bZ hu (aa S6) (aa S11) (aa S12))
 (aj (aD S8 hh.nd a9)))
 aJ)))))))
 (aj (au (aa S6)))))))),?_⟩
 refine⟨_,rfl,th,_,rfl,cW.of hth,rfl,_,_,rfl,_,_,rfl,_,_,rfl,rfl,λd hdn=>?_⟩;have s1:=cF.upd (o:=.dK []) hdn;have hd1:upd H d (.dK []) d=some (.dK []):=cD;generalize upd H d (.dK [])=H1 at s1 hd1;have keep:∀{b:Addr}{o:HO}{H2:Hp},(∀b o,H1 b=some o->b≠d->H2 b=some o)->H b=some o->H2 b=some o:=λkp e=>kp _ _ (s1 _ _ e) (cE e hdn);refine⟨_,rfl,nb,rfl,⟨_,cL.of (s1 _ _ hnb)⟩,da (K:=X.K) (a:=nb) (xs:=ix.map λi=>V.int (i:Nat)) (LH (jq sg qd ix ks) th nb tl s t y d H1 ps sg ix)
  ⟨none,[],_,rfl,λb o e _=>e,hd1,zZ.new,(λi hi=>by cases hi)⟩ ?_ ?_ ?_⟩
 ·rintro i σ H2 hi ⟨e1,kvs,F,rfl,kp,hd,hr,so⟩
  exact cL.of (keep kp hnb)
 ·rintro i v σ H2 hv ⟨e1,kvs,F,rfl,kp,hd,hr,so⟩
  rw[getElem?_map]at hv;obtain⟨n,hn,rfl⟩:=map_eq_some_iff.mp hv;have hnl:=ik n (mem_of_getElem? hn);obtain⟨g,hg⟩:∃g,sg[n]? =some g:=⟨_,getElem?_eq_getElem hnl⟩;obtain⟨vg,hvg⟩:∃vg,ss[n]? =some vg:=⟨_,getElem?_eq_getElem (by rw[gs.1];exact hnl)⟩;obtain⟨a,ta,rfl,ha⟩:=gs.2 _ _ _ hvg hg;have gk':=gk g (mem_of_getElem? hg);have hs2:=keep kp hs;have ha2:=keep kp ha;have dg:=eT.k (k:=Sum.inr g.1) hd;rw[hr.get]at dg;have put:∀m:Int,cT m->jq sg qd ix ks g.1 m->m<=g.2->(∀j,F g.1=some j->m<=j)->LH (jq sg qd ix ks) th nb tl s t y d H1 ps sg ix (i+1) [some (.ref th),some (.ref nb),some (.ref tl),some (.ref s),some (.ref t),some (.ref y),some (.ref d),some (.int (n:Nat)),none,none,none,none,none] (upd H2 d (.dK (putK kvs (Sum.inr g.1) (.int m)))):=λm mo mc ml mj=>
   ⟨_,_,_,rfl,(λb o e n'=>by rw[cH n'];exact kp b o e n'),cD,hr.put gk'.1 mo mc,λq hq g' hg'=>by
    rcases qm hn hq with hq|rfl
    ·exact(so q hq g' hg').set mj
    ·rw[hg]at hg'
     cases hg';exact⟨m,dQ,ml⟩⟩
  have lk:kvs.length < sizeLine:=small hr;cases hF:F g.1 with
  |none=>
   rw[hF]at dg;exact⟨_,rfl,_,rfl,xL hs2 (cQ hvg) (xT ha2 rfl ⟨_,rfl,d,rfl,.inl ⟨_,.inl hd⟩,_,rfl,_,rfl,xL hs2 (cQ hvg) (xT ha2 rfl ⟨_,rfl,_,rfl,xL hs2 (cQ hvg) (xT ha2 rfl ⟨_,dg,g.2,g.2,rfl,_,rfl,_,rfl,_,rfl,xL hs2 (cQ hvg) (xT ha2 rfl ⟨d,_,rfl,l6.k (k:=Sum.inr g.1) hd lk,put _ (by split<;>exact gk'.2) (by split<;>exact .saw (mem_of_getElem? hn) hg) (by split<;>omega) (λj e=>by rw[hF]at e;cases e)⟩)⟩)⟩)⟩)⟩
  |some j=>
   rw[hF]at dg;have jo:=hr.ok _ _ hF;exact⟨_,rfl,_,rfl,xL hs2 (cQ hvg) (xT ha2 rfl ⟨_,rfl,d,rfl,.inl ⟨_,.inl hd⟩,_,rfl,_,rfl,xL hs2 (cQ hvg) (xT ha2 rfl ⟨_,rfl,_,rfl,xL hs2 (cQ hvg) (xT ha2 rfl ⟨_,dg,g.2,j,rfl,_,rfl,_,rfl,_,rfl,xL hs2 (cQ hvg) (xT ha2 rfl ⟨d,_,rfl,l6.k (k:=Sum.inr g.1) hd lk,put _ (by split;exact jo;exact gk'.2) (by split;exact hr.rc _ _ hF;exact .saw (mem_of_getElem? hn) hg) (by split<;>omega) (λj' e=>by rw[hF]at e;cases e;split<;>omega)⟩)⟩)⟩)⟩)⟩
 ·rintro σ H2 ⟨e1,kvs,F,rfl,kp,hd,hr,so⟩
  rw[length_map,take_length]at so;refine⟨L3 (jq sg qd ix ks) th nb tl s t y d H1 ps sg qd ix ks,⟨_,true,_,_,_,_,_,_,_,rfl,kp,hd,hr,so,(λe=>by cases e),rfl⟩,?_⟩;clear kp hd hr so;rintro m σ H3 ⟨b,e1,e2,e3,e4,e5,kvs,F,rfl,kp,hd,hr,so,to,me⟩;refine⟨_,rfl,b,rfl,?_⟩;cases b with
  |false=>exact cV ⟨_,rfl,k d kvs F H3 (λb o e=>keep kp e) hdn hd hr so (to rfl)⟩
  |true=>
   refine dq ⟨λσ' H'=>∃m',m' < m/\L3 (jq sg qd ix ks) th nb tl s t y d H1 ps sg qd ix ks m' σ' H',λ_ _ h=>h,?_⟩;refine⟨_,rfl,tl,rfl,⟨_,cL.of (keep kp htl)⟩,da (K:=X.K) (a:=tl) (xs:=us) (Kv (jq sg qd ix ks) th nb tl s t y d H1 ps sg qd ix ks F)
    ⟨false,_,_,_,_,_,kvs,F,rfl,kp,hd,hr,so,(λ_=>⟨rfl,λt ht=>by cases ht⟩),λe=>by cases e⟩ ?_ ?_ ?_⟩
   ·rintro i σ H4 hi ⟨b,e1,e2,e3,e4,e5,kvs,F',rfl,kp,hd,hr,so,to,me'⟩
    exact cL.of (keep kp htl)
   ·rintro i v σ H4 hv ⟨b,f1,f2,f3,f4,f5,kvs',F',rfl,kp',hd',hr',so',to',me'⟩
    obtain⟨tk,htk⟩:∃tk,ks[i]? =some tk:=⟨_,getElem?_eq_getElem (by rw[<-tu.1];exact(List.getElem?_eq_some_iff.mp hv).1)⟩;obtain⟨a,rfl,ha⟩:=tu.2 _ _ _ hv htk;have kt:=kk tk (mem_of_getElem? htk);obtain⟨q,hq⟩:∃q,qd[tk.1]? =some q:=⟨_,getElem?_eq_getElem kt.1⟩;obtain⟨vq,hvq⟩:∃vq,ts[tk.1]? =some vq:=⟨_,getElem?_eq_getElem (by rw[qs.1];exact kt.1)⟩;obtain⟨aq,rfl,haq⟩:=qs.2 _ _ _ hvq hq;have qo:=qk q (mem_of_getElem? hq);have ha4:=keep kp' ha;have haq4:=keep kp' haq;have ht4:=keep kp' ht;have dt:=eT.k (k:=Sum.inr tk.2.1) hd';have dh:=eT.k (k:=Sum.inr tk.2.2) hd';rw[hr'.get]at dt dh;have lk:kvs'.length < sizeLine:=small hr';have fN:H0 qd F' tk->Kv (jq sg qd ix ks) th nb tl s t y d H1 ps sg qd ix ks F (i+1) [some (.ref th),some (.ref nb),some (.ref tl),some (.ref s),some (.ref t),some (.ref y),some (.ref d),f1,some (.bl b),some (.int (tk.1:Nat)),some (.str tk.2.1),some (.str tk.2.2),some (.int q.1)] H4:=λok=>
     ⟨b,_,_,_,_,_,kvs',F',rfl,kp',hd',hr',so',(λe=>⟨(to' e).1,λt' ht'=>by
      rcases qm htk ht' with ht'|rfl
      ·exact(to' e).2 t' ht'
      ·exact ok⟩),me'⟩
    have put:jq sg qd ix ks tk.2.2 q.1->mv (some q.1) < mv (F' tk.2.2)->(∀j,F' tk.2.2=some j->q.1<=j)->Kv (jq sg qd ix ks) th nb tl s t y d H1 ps sg qd ix ks F (i+1) [some (.ref th),some (.ref nb),some (.ref tl),some (.ref s),some (.ref t),some (.ref y),some (.ref d),f1,some (.bl true),some (.int (tk.1:Nat)),some (.str tk.2.1),some (.str tk.2.2),some (.int q.1)] (upd H4 d (.dK (putK kvs' (Sum.inr tk.2.2) (.int q.1)))):=λrc lt mj=>
     ⟨true,_,_,_,_,_,_,_,rfl,(λb o e n'=>by rw[cH n'];exact kp' b o e n'),cD,hr'.put kt.2 qo rc,so'.set mj,(λe=>by cases e),λ_=>by
      have l1:=Bw lt ps kt.2;cases b with
      |false=>
       rw[(to' rfl).1]at l1;rw[(to' rfl).1];exact l1
      |true=>
       have:=me' rfl;omega⟩
    have hh1:=eP hq;refine⟨a,_,rfl,cW.of ha4,rfl,_,_,rfl,_,_,rfl,_,_,rfl,rfl,?_⟩;refine⟨_,rfl,_,rfl,xL ht4 (cQ hvq) (xT haq4 rfl ?_)⟩;refine⟨_,rfl,_,rfl,d,_,rfl,dt,_,rfl,?_⟩;cases hT:F' tk.2.1 with
    |none=>exact hZ Bool.false_ne_true (cV (fN λx e=>by rw[hT]at e;cases e))
    |some x=>
     rw[hT]at dt;refine eZ rfl ⟨_,rfl,_,rfl,d,_,rfl,dt,_,rfl,_,_,rfl,rfl,_,rfl,cZ (λlt=>?_) (λnlt=>cV (fN λx' e l=>?_))⟩
     ·have rc:jq sg qd ix ks tk.2.2 q.1:=by
       have:=jq.hrd (mem_of_getElem? htk) (hr'.rc _ _ hT) (by rw[hh1];exact of_decide_eq_true lt)
       rwa [hh1]at this
      cases hF:F' tk.2.2 with
      |none=>
       rw[hF]at dh;refine⟨_,rfl,d,rfl,.inl ⟨_,.inl hd'⟩,_,rfl,_,rfl,_,_,rfl,rfl,_,dh,_,rfl,q.1+1,q.1,rfl,rfl,_,rfl,eZ (decide_eq_true (by omega)) ⟨_,rfl,_,rfl,_,rfl,d,_,rfl,l6.k (k:=Sum.inr tk.2.2) hd' lk,put rc ?_ (λj e=>by rw[hF]at e;cases e)⟩⟩;rw[hF];show q.1.toNat < 1000000000000000002;have h18:(10:Int) ^ Int.toNat 18=1000000000000000000:=by decide
       have:=qo.2;rw[h18]at this;omega
      |some j=>
       rw[hF]at dh;have jo:=hr'.ok _ _ hF;refine⟨_,rfl,d,rfl,.inl ⟨_,.inl hd'⟩,_,rfl,_,rfl,_,_,rfl,rfl,_,dh,_,rfl,j,q.1,rfl,rfl,_,rfl,cZ (λgt=>⟨_,rfl,_,rfl,_,rfl,d,_,rfl,l6.k (k:=Sum.inr tk.2.2) hd' lk,put rc ?_ ?_⟩) (λngt=>fN λx' e l=>?_)⟩
       ·rw[hF]
        rw[decide_eq_true_iff]at gt;show q.1.toNat < j.toNat;have:=qo.1;omega
       ·intro j' e
        rw[hF]at e;cases e;rw[decide_eq_true_iff]at gt;omega
       ·rw[decide_eq_true_iff]at ngt
        exact⟨j,hF,by rw[hh1];omega⟩
     ·rw[hT]at e
      cases e;rw[hh1]at l;exact absurd (decide_eq_true l) nlt
   ·rintro σ H4 ⟨b,f1,f2,f3,f4,f5,kvs',F',rfl,kp',hd',hr',so',to',me'⟩
    rw[tu.1,take_length]at to';refine⟨_,?_,b,_,_,_,_,_,kvs',F',rfl,kp',hd',hr',so',λe=>(to' e).2,rfl⟩;cases b with
    |false=>
     rw[(to' rfl).1,me];exact lt_succ_self _
    |true=>
     have:=me' rfl;rw[me];show 2 * _+1 < 2 * _+1;omega
theorem Kh{te:TE}{σ:St}{H:Hp}{K1:VK}{K2:Hp->Prop}(h:te σ H K1):tQ σ H λb H5=>if b=true then te σ H5 K1 else K2 H5:=h
theorem DQ(bs:List Bool):Hn bs=bs.all id:=by
 unfold Hn;rw[Bool.eq_iff_iff,all_eq_true,all_eq_true];constructor
 ·intro h b hb
  obtain⟨i,hi,rfl⟩:=List.getElem_of_mem hb;have:=h i (mem_range.mpr hi);rw[getD_eq_getElem?_getD,getElem?_eq_getElem hi]at this;exact this
 ·intro h i hi
  have hi':=mem_range.mp hi;rw[getD_eq_getElem?_getD,getElem?_eq_getElem hi'];exact h _ (getElem_mem hi')
theorem DL{J:It}{n:Nat}{is:List Nat}{g:TG}{te:TE}{σ:St}{H:Hp}{Q:VK}{N:Nat}(R:Nat->Hp->V->Prop)(mono:∀j v H H',Tk H H'->R j H v->R j H' v)(hz:N<=sizeLine)(hgo:∀i H2,cF H H2->i < N->J.go i H2)(hstop:∀H2,cF H H2->J.stop N H2)
  (he:∀(i:Nat)(os:St) v H2 H3 (K1:VK),i < N->os.length=n->cF H H2->J.yld i H2 v H3->(∀y H6,cF H2 H6->R i H6 y->K1 y H6)->
   g v (os++d9 is σ) H3 λσ' H4=>(∃os':St,os'.length=n/\σ'=os'++d9 is σ)/\te σ' H4 K1)
  (gm:∀v σ H (Q1 Q2:St->Hp->Prop),(∀σ' H',Q1 σ' H'->Q2 σ' H')->g v σ H Q1->g v σ H Q2)
  (q:∀D ys H',H D=none->cF H H'->H' D=some (.lst ys)->ys.length=N->(∀(j:Nat) v,ys[j]? =some v->R j H' v)->Q (.ref D) H'):eX J n is g tQ te σ H Q:=by
 intro D hDn;refine⟨λi m ys H2=>m=N - i/\i<=N/\cF H H2/\H2 D=some (.lst ys)/\ys.length=i/\∀(j:Nat) v,ys[j]? =some v->R j H2 v,⟨_,rfl,zero_le _,cF.upd hDn,cD,rfl,λj v h=>by cases h⟩,?_⟩;rintro i m ys H2 ⟨rfl,hi,sm,hd,rfl,ra⟩;refine⟨hd,?_⟩;by_cases hlt:ys.length < N
 ·refine .inr ⟨hgo _ H2 sm hlt,λos v H3 hos y=>?_⟩
  refine gm _ _ _ _ _ (λσ' H' h=>⟨h.1,dq (B:=∃m',m' < N - ys.length/\m'=N - (ys.length+1)/\ys.length+1<=N/\cF H H'/\H' D=some (.lst ys)/\ys.length=ys.length+1/\∀(j:Nat) v,ys[j]? =some v->R j H' v) h.2⟩) (he _ os v H2 H3 _ hlt hos sm y λz H6 s6 rz=>⟨s6 _ _ hd,by omega,N - (ys.length+1),by omega,rfl,hlt,λb o e=>?_,cD,by rw[length_append];rfl,λj u hu=>?_⟩)
  ·rw[cH (cE e hDn)]
   exact s6 _ _ (sm _ _ e)
  ·have tk:=Tk.upd (s6 _ _ hd) (ys:=ys++[z])
   by_cases hj:j < ys.length
   ·rw[getElem?_append_left hj]at hu
    exact mono _ _ _ _ ((Tk.of s6).trans tk) (ra j u hu)
   ·have e:j=ys.length:=by
     have:=(List.getElem?_eq_some_iff.mp hu).1;rw[length_append]at this;have:j < ys.length+1:=this;omega
    subst e;rw[getElem?_append_right (le_refl _),sub_self]at hu;cases hu;exact mono _ _ _ _ tk rz
 ·have e:ys.length=N:=by omega
  exact .inl ⟨by rw[e];exact hstop H2 sm,q D ys H2 hDn sm hd e ra⟩
theorem oz{K:PySem.W.Frag}{is:List Nat}{te:TE}{σ:St}{H:Hp}{Q:VK}{a:Addr}{xs:List V}(R:Nat->Hp->V->Prop)(mono:∀j v H H',Tk H H'->R j H v->R j H' v)(hq:cL K H a xs)(hz:xs.length<=sizeLine)
  (he:∀(i:Nat) v H2 (K1:VK),xs[i]? =some v->cF H H2->(∀y H6,cF H2 H6->R i H6 y->K1 y H6)->te ([some v]++d9 is σ) H2 K1)
  (q:∀D ys H',H D=none->cF H H'->H' D=some (.lst ys)->ys.length=xs.length->(∀(j:Nat) v,ys[j]? =some v->R j H' v)->Q (.ref D) H'):eX (BU K a) 1 is (eQ 0) tQ te σ H Q:=
 DL R mono hz (λi H2 sm hi=>⟨xs,xs[i],sm.seq hq,by simp[hi]⟩) (λH2 sm=>⟨xs,sm.seq hq,le_refl _⟩) (λi os v H2 H3 K1 hi hos sm y k1=>by
  obtain⟨rfl,y⟩:=y
  obtain⟨o,rfl⟩:=osA hos
  exact⟨⟨[some v],rfl,rfl⟩,he i v _ K1 (y xs (sm.seq hq)) sm k1⟩) (λ_ _ _ _ _ h k=>h _ _ k) q
theorem Dt{i:Nat}{v:V}{tc:TT}{u t2:TS}{D:Ends}{σ:St}{H:Hp}(R:St->Hp->Prop)(hR:∀σ' H',R σ' H'->t2 D σ' H')(b:Bool)(hc:∀Q:Bool->Hp->Prop,Q b H->tc (σ.set i (some v)) H Q)(h1:b=true->(∀σ' H',R σ' H'->t2 D σ' H')->u { D with nx:=t2 D } (σ.set i (some v)) H)(h2:b=false->R (σ.set i (some v)) H):
  eQ i v σ H (λσ2 H2=>vZ (ve tc u oS) t2 D σ2 H2):=by
 refine hc _ ?_;cases b with
 |true=>exact dq (h1 rfl hR)
 |false=>exact cV (hR _ _ (h2 rfl))
theorem Lz.snoc{α:Type}{R:Hp->V->α->Prop}{H:Hp}{xs:List V}{ds:List α}{v:V}{d:α}(h:Lz R H xs ds)(hv:R H v d):Lz R H (xs++[v]) (ds++[d]):=by
 refine⟨by rw[length_append,length_append,h.1];rfl,λi u e hu he=>?_⟩;by_cases hi:i < xs.length
 ·rw[getElem?_append_left hi]at hu
  rw[getElem?_append_left (by rw[<-h.1];exact hi)]at he;exact h.2 i u e hu he
 ·rw[getElem?_append_right (by omega)]at hu
  rw[getElem?_append_right (by rw[<-h.1];omega),<-h.1]at he;obtain⟨h1,h2⟩:=List.getElem?_eq_some_iff.mp hu;have h0:i - xs.length=0:=by
   have:i - xs.length < 1:=h1;omega
  rw[h0]at hu he;cases hu;cases he;exact hv
theorem jY{ps:List Str}{qd:List QD}(qk:∀d∈qd,lx ps d){tk:TK}(h:tk∈fR 0 (gv qd)):∃q,qd[tk.1]? =some q/\tk.2.1∈ps/\tk.2.2∈ps:=by
 obtain⟨j,d',hj,e1,e2⟩:=rS h;unfold gv at hj;rw[getElem?_map]at hj;obtain⟨q,hq,rfl⟩:=map_eq_some_iff.mp hj;have qo:=qk q (mem_of_getElem? hq);rw[zero_add]at e1;refine⟨q,(by rw[e1];exact hq),?_⟩;rcases e2 with e2|e2
 ·rw[e2]
  exact⟨qo.2.1,qo.2.2.1⟩
 ·rw[e2]
  exact⟨qo.2.2.1,qo.2.1⟩
inductive Kw(C:Addr)(vs:List V)(H:Hp)(Q:VK):Prop
 |mk(nl th s t y:Addr)(ps:List Str)(ss ts ys:List V)(e:vs=[.ref nl,.ref th])(hn:H nl=some (.lst (ps.map V.str)))(hth:H th=some (.tup [.ref s,.ref t,.ref y]))(hs:H s=some (.lst ss))(ht:H t=some (.lst ts))(hy:H y=some (.lst ys))(pa:Parts H ps ss ts ys)
   (k:∀(x p' s' t' y':Addr)(H':Hp),cF H H'->H x=none->Bk C H' x p' s' t' y' ps ss ts ys->Q (.ref x) H')
def AS(C:Addr):Sp:=λvs H Q _=>Kw C vs H Q
theorem yP:cI ["_law_names_here", "_law_things_here"] ["_law_names_here", "_law_things_here"] (cG oW):={}
theorem CO (D:Df K mg "_law_book" oW ["_law_names_here", "_law_things_here"] f fd) (T:Txt K mg kw C) (G_Book:Kd P w K mg base 7 "Book" C (vB C)):Gd P w K mg base 9 "_law_book" (AS C):=by
 refine aH D yP λX H vs Q E hh h=>?_;obtain⟨nl,th,s,t,y,ps,ss,ts,ys,rfl,hn,hth,hs,ht,hy,pa,k⟩:=h;obtain⟨S0,S1,_⟩:=hh.eB [0,1];have B_list:=hh.b T.b_list;have K_Book:=hh.Lg G_Book rfl (by decide) (by decide);refine⟨_,(aj (au (J.Lg K_Book (cj (bC B_list bI L2.dG (ao (aa S0))) (bC B_list bI L2.dG (ao (af ak (aa S1) ae ah))) (bC B_list bI L2.dG (ao (af ak (aa S1) ae ah))) (bC B_list bI L2.dG (ao (af ak (aa S1) ae ah))))))),?_⟩;refine⟨_,rfl,nl,_,rfl,.inl (cL.of hn),λl1 n1=>?_⟩;have s1:=cF.upd (o:=.lst (ps.map V.str)) n1;have k1:upd H l1 (.lst (ps.map V.str)) l1=some (.lst (ps.map V.str)):=cD;generalize upd H l1 (.lst (ps.map V.str))=H1 at s1 k1;refine⟨_,rfl,xT (s1 _ _ hth) rfl ⟨s,_,rfl,.inl (cL.of (s1 _ _ hs)),λl2 n2=>?_⟩⟩;have s2:=cF.upd (o:=.lst ss) n2;have k2:upd H1 l2 (.lst ss) l2=some (.lst ss):=cD;generalize upd H1 l2 (.lst ss)=H2 at s2 k2;have t2:=s1.trans s2;refine⟨_,rfl,xT (t2 _ _ hth) rfl ⟨t,_,rfl,.inl (cL.of (t2 _ _ ht)),λl3 n3=>?_⟩⟩;have s3:=cF.upd (o:=.lst ts) n3;have k3:upd H2 l3 (.lst ts) l3=some (.lst ts):=cD;generalize upd H2 l3 (.lst ts)=H3 at s3 k3;have t3:=t2.trans s3;refine⟨_,rfl,xT (t3 _ _ hth) rfl ⟨y,_,rfl,.inl (cL.of (t3 _ _ hy)),λl4 n4=>?_⟩⟩;have s4:=cF.upd (o:=.lst ys) n4;have k4:upd H3 l4 (.lst ys) l4=some (.lst ys):=cD;generalize upd H3 l4 (.lst ys)=H4 at s4 k4;have t4:=t3.trans s4;intro x dx nx ndx nex;have s5:cF H4 (upd (upd H4 dx (.own x)) x (.ins C dx [])):=λb o e=>by
  rw[cH (cE e nx),cH (cE e ndx)];exact e
 have t5:=t4.trans s5;refine⟨x,dx,l1,l2,l3,l4,ps,ss,ts,ys,rfl,cD,s5 _ _ (s4 _ _ (s3 _ _ (s2 _ _ k1))),s5 _ _ (s4 _ _ (s3 _ _ k2)),s5 _ _ (s4 _ _ k3),s5 _ _ k4,pa.mono (Tk.of t5),λp' s' t' y' H6 _ _ _ _ bk kp=>⟨rfl,?_⟩⟩;exact k x p' s' t' y' H6 (λb o e=>kp b o (t5 _ _ e) (cE e (t4.free nx))) (t4.free nx) bk
structure vP(ps:List Str)(H:Hp)(th s t y:Addr)(ss ts ys:List V):Prop where
 hth:H th=some (.tup [.ref s,.ref t,.ref y])
 hs:H s=some (.lst ss)
 ht:H t=some (.lst ts)
 hy:H y=some (.lst ys)
 ls:ss.length<=24
 lt:ts.length<=60
 ly:ys.length<=30
 gs:∀v∈ss,d7 ps H v
 gt:∀v∈ts,fh ps H v
 gy:∀v∈ys,eY ps H v
theorem vP.mono{ps:List Str}{H H':Hp}{th s t y:Addr}{ss ts ys:List V}(sm:cF H H')(o:vP ps H th s t y ss ts ys):vP ps H' th s t y ss ts ys:=
 ⟨sm _ _ o.hth,sm _ _ o.hs,sm _ _ o.ht,sm _ _ o.hy,o.ls,o.lt,o.ly,λv hv=>(o.gs v hv).mono (Tk.of sm),λv hv=>(o.gt v hv).mono (Tk.of sm),λv hv=>(o.gy v hv).mono (Tk.of sm)⟩
theorem yZ(us:List Int)(lo hi:Option Int):fO (us.map V.int) lo hi=(((us.drop (HT.eJ us.length 0 lo)).take (HT.eJ us.length us.length hi - HT.eJ us.length 0 lo))).map V.int:=by
 unfold fO;rw[length_map,List.map_take,List.map_drop]
theorem uo(us:List Int){k:Int}(h0:0<=k):∃vs:List Int,fO (us.map V.int) none (some k)=vs.map V.int/\vs.length<=k.toNat:=by
 refine⟨_,yZ ..,?_⟩;have e:HT.eJ us.length us.length (some k)=min k.toNat us.length:=by
  show(if k < 0 then(k+(us.length:Int)).toNat else min k.toNat us.length)=_;rw[if_neg (Int.not_lt.mpr h0)]
 rw[length_take,length_drop,HT.Bh,e];exact le_trans (Nat.min_le_left _ _) (le_trans (Nat.sub_le _ _) (Nat.min_le_left _ _))
theorem zO{K:PySem.W.Frag}{is:List Nat}{tc:TT}{te:TE}{σ:St}{H:Hp}{Q:VK}{a:Addr}{xs:List V}(hq:cL K H a xs)(hz:xs.length<=sizeLine)
  (he:∀(i:Nat) v H2 (K1:VK)(K2:Hp->Prop),xs[i]? =some v->cF H H2->(∀H6,cF H2 H6->K1 v H6)->(∀H5,cF H2 H5->K2 H5)->tc ([some v]++d9 is σ) H2 λb H5=>if b=true then te ([some v]++d9 is σ) H5 K1 else K2 H5)
  (q:∀D ys H',H D=none->cF H H'->H' D=some (.lst ys)->ys.length<=xs.length->(∀v∈ys,v∈xs)->Q (.ref D) H'):eX (BU K a) 1 is (eQ 0) tc te σ H Q:=by
 intro D hDn;refine⟨λi m ys H2=>m=xs.length - i/\i<=xs.length/\cF H H2/\H2 D=some (.lst ys)/\ys.length<=i/\∀v∈ys,v∈xs,⟨_,rfl,zero_le _,cF.upd hDn,cD,le_refl 0,λv h=>by cases h⟩,?_⟩;rintro i m ys H2 ⟨rfl,hi,sm,hd,yl,ya⟩;refine⟨hd,?_⟩;by_cases hlt:i < xs.length
 ·refine .inr ⟨⟨xs,xs[i],sm.seq hq,by simp[hlt]⟩,λos v H3 hos y=>?_⟩
  obtain⟨rfl,y⟩:=y;have hv:=y xs (sm.seq hq)
  obtain⟨o,rfl⟩:=osA hos
  ·
   refine⟨⟨[some v],rfl,rfl⟩,he i v _ _ _ hv sm (λH6 s6=>⟨s6 _ _ hd,by omega,xs.length - (i+1),by omega,rfl,hlt,λb o e=>?_,cD,?_,λu hu=>?_⟩) (λH5 s5=>⟨xs.length - (i+1),by omega,rfl,hlt,sm.trans s5,s5 _ _ hd,by omega,ya⟩)⟩
   ·rw[cH (cE e hDn)]
    exact s6 _ _ (sm _ _ e)
   ·rw[length_append]
    show ys.length+1<=i+1;omega
   ·rcases mem_append.mp hu with hu|hu
    ·exact ya u hu
    ·rw[mem_singleton.mp hu]
     exact mem_of_getElem? hv
 ·have e:i=xs.length:=by omega
  subst e;exact .inl ⟨⟨xs,sm.seq hq,le_refl _⟩,q D ys H2 hDn sm hd yl ya⟩
theorem B5{tc:TT}{u t2:TS}{D:Ends}{σ:St}{H:Hp}(R:St->Hp->Prop)(hR:∀σ' H',R σ' H'->t2 D σ' H')(b:Bool)(hc:∀Q:Bool->Hp->Prop,Q b H->tc σ H Q)(h1:b=true->(∀σ' H',R σ' H'->t2 D σ' H')->u { D with nx:=t2 D } σ H)(h2:b=false->R σ H):
  vZ (ve tc u oS) t2 D σ H:=by
 refine hc _ ?_;cases b with
 |true=>exact dq (h1 rfl hR)
 |false=>exact cV (hR _ _ (h2 rfl))
theorem Kt{H:Hp}{v:V}{d:SD}(h:t7 H v d):Sys H [v] [d]:=⟨rfl,λi u e hu he=>by
 cases i with
 |zero=>
  cases hu;cases he;exact h
 |succ i=>cases hu⟩
inductive KL(K:PySem.W.Frag)(vs:List V)(H:Hp)(Q:VK):Prop
 |mk(sc:Addr)(ns:List Int)(e:vs=[.ref sc,.int 30])(hsc:cL K H sc (ns.map V.int))(n63:ns.length<=63)
   (k:∀(r nl th s t y:Addr)(W:Int)(ps:List Str)(ss ts ys:List V)(H':Hp),cF H H'->H' r=some (.tup [.int W,.ref nl,.ref th])->0<=W->W < 2147483647->H' nl=some (.lst (ps.map V.str))->fH ps->vP ps H' th s t y ss ts ys->Q (.ref r) H')
def AZ(K:PySem.W.Frag):Sp:=λvs H Q _=>KL K vs H Q
theorem vH:cI ["_law_script", "_law_most", "_law_whole", "_law_names_here", "_law_things_here", "_law_numbers", "_law_tellings_here", "_law_found", "_law_kept"] ["_law_script", "_law_most"] (cG lX):={}
theorem zx (D:Df K mg "_law_drawn" lX ["_law_script", "_law_most"] f fd) (T:Txt K mg kw C) (G__law_mix:Gd P w K mg base 1 "_law_mix" wN) (G__law_names:Gd P w K mg base 1 "_law_names" pD) (G__law_clock:Gd P w K mg base 1 "_law_clock" rb) (G__law_things:Gd P w K mg base 2 "_law_things" pG) (G__law_open:Gd P w K mg base 3 "_law_open" iz) (G__law_hours:Gd P w K mg base 1 "_law_hours" sV) (G__law_knew_so:Gd P w K mg base 1 "_law_knew_so" gQ):Gd P w K mg base 4 "_law_drawn" (AZ K):=by
 refine aH D vH λX H vs Q E hh h=>?_;obtain⟨sc,ns,rfl,hsc,n63,k⟩:=h;rw[<-hh.fK]at hsc;obtain⟨S0,S1,S2,S3,S4,S5,S6,S7,S8,_⟩:=hh.eB [0,1,2,3,4,5,6,7,8];have B_int:=hh.b T.b_int;have B_sum:=hh.b T.b_sum;have C__law_clock:=hh.c G__law_clock;have C__law_hours:=hh.c G__law_hours;have C__law_mix:=hh.c G__law_mix;have C__law_names:=hh.c G__law_names;have C__law_open:=hh.c G__law_open;have C__law_things:=hh.c G__law_things;have CI__law_knew_so:=hh.ci G__law_knew_so;have hsz:sizeLine=16777216:=sizeLine_eq;refine⟨_,(ag (aD S2 hh.nd (aw C__law_mix (aA (aE B_sum (J.jA hh.calm) L2.zP (ao (cb cy (aa S0) b6 (b9 ae)))) ae)))
 (ag (aD S3 hh.nd (aw C__law_names (aA (aa S2) (af aZ (ba (aA (az bD ae (az a8 (az bj (aa S2) ae) ae)) (az bD ae (az a8 (az bj (aa S2) ae) ae)))) (bC B_int J.jE L2.qS (ao (aT aL (az a8 (az bj (aa S2) ae) ae) ae (L2.cJ _)))) J.sH))))
 (ag (aD S4 hh.nd (aw C__law_things (aM (cb cy (aa S0) b6 (b9 (aa S1))) (aa S3) (aw C__law_clock (ao (aw C__law_mix (aA (aE B_sum (J.jA hh.calm) L2.zP (ao (cb cy (aa S0) b6 (b9 ae)))) ae)))))))
 (ag (aI (aB aL (az a8 (az bj (aa S2) ae) ae) ae (L2.cJ _))
 (aj (bG (J.Lx plainAttrs_list PySem.F.slot_list_reverse PySem.F.type_list_reverse J.jZ (af ak (aa S4) ae ah))))
 aJ)
 (ag (aI (aB bW (az a8 (az bj (aa S2) ae) ae) ae (L2.cJ _))
 (ag (bO (aw C__law_open (ao (aa S4))) (bq hh.calm (aF (aG S5 hh.nd) (aF (aG S6 hh.nd) bh))))
 (ag (aD S7 hh.nd (aw C__law_hours (aM (aa S4) (aa S5) (aa S6))))
 (ag (bL (is:=[7]) (xs:=["_law_row"]) (ns:=["_law_found"]) S8 hh.nd hh.calm (aO (af ak (aa S4) ae ah)) {} (λ_ _ _ _ _=>(aR (i:=0) (by decide+kernel) rfl rfl)) (λ_ _ _ _ _=>(bz (aS (bg (aB bQ (af bf (aK (i:=0) rfl rfl (by decide) (by decide)) ae ah) aP (L2.cJ _)) (bu (aQ (aw (CI__law_knew_so.lg rfl) (aA (ba (ao (aK (i:=0) rfl rfl (by decide) (by decide)))) (aY (i:=1) rfl rfl (by decide) (by decide)))))))))) (λ_ _ _ _ _=>(aK (i:=0) rfl rfl (by decide) (by decide))) hh.hsc hh.hN (by decide+kernel))
 (aj (aD S4 hh.nd (aV (aM (af ak (aa S4) ae ah) (af ak (aa S4) ae ah) (aa S8))))))))
 aJ)
 (aj (au (aV (aM (aa S2) (aa S3) (aa S4)))))))))),?_⟩
 obtain⟨n1,c1,_⟩:=uo ns (k:=63) (by decide);obtain⟨n2,c2,l2⟩:=uo ns (k:=30) (by decide);refine⟨_,rfl,_,rfl,sc,_,rfl,hsc,λp1 np1=>?_⟩;have s1:=cF.upd (o:=.lst (fO (ns.map V.int) none (some 63))) np1;refine⟨p1,n1,rfl,cL.of (by rw[<-c1];exact cD),_,_,rfl,by decide,by decide,λW W0 W1=>?_⟩;generalize upd H p1 (.lst (fO (ns.map V.int) none (some 63)))=H1 at s1;have a6:=cY (W / 7) (m:=6) (by decide);have a24:=cY (W / 42) (m:=24) (by decide);refine⟨_,rfl,_,rfl,_,_,rfl,rfl,⟨by decide,by decide⟩,_,_,rfl,rfl,(by show(0:Int) < 6;decide),_,_,rfl,rfl,_,rfl,_,_,rfl,rfl,⟨by decide,by decide⟩,_,_,rfl,rfl,(by show(0:Int) < 24;decide),_,_,rfl,rfl,DV,λb1 nb1=>?_⟩;obtain⟨bv,hb,hbm⟩:=Er (xs:=[V.int (2+W / 7 % 6),V.int (1+W / 42 % 24)]) (i:=if decide (V.int (W / 1008 % 4)=V.int 0) then 1 else 0) (by split<;>decide) (by show _ < (2:Int);split<;>decide);have hbv:∃m:Int,bv=.int m/\1<=m/\m<=24:=by
  simp only[mem_cons,not_mem_nil,or_false]at hbm;rcases hbm with rfl|rfl
  ·exact⟨_,rfl,by omega,by omega⟩
  ·exact⟨_,rfl,by omega,by omega⟩
 obtain⟨m,rfl,m1,m24⟩:=hbv;clear hbm a6 a24;have s2:=s1.trans (cF.upd (o:=.lst [V.int (2+W / 7 % 6),V.int (1+W / 42 % 24)]) nb1);refine⟨_,rfl,_,_,rfl,rfl,⟨by decide,by decide⟩,_,_,rfl,rfl,(by show(0:Int) < 4;decide),rfl,.inr ⟨_,rfl,xL cD hb ⟨W,m,rfl,W0,m1,m24,λnl ps H3 s3 nln hnl po=>?_⟩⟩⟩;have s03:=s2.trans s3;clear s2 s3 hb nb1;refine⟨_,rfl,_,rfl,_,rfl,sc,_,rfl,s03.seq hsc,λp2 np2=>?_⟩;have s4:=s03.trans (cF.upd (o:=.lst (fO (ns.map V.int) none (some 30))) np2);have hp2:upd H3 p2 (.lst (fO (ns.map V.int) none (some 30))) p2=some (.lst (n2.map V.int)):=by
  rw[<-c2];exact cD
 have hnl4:=cF.upd (o:=.lst (fO (ns.map V.int) none (some 30))) np2 _ _ hnl;generalize upd H3 p2 (.lst (fO (ns.map V.int) none (some 30)))=H4 at s4 hp2 hnl4;refine⟨_,rfl,_,rfl,_,rfl,sc,_,rfl,s4.seq hsc,λp3 np3=>?_⟩;have s45:=cF.upd (o:=.lst (fO (ns.map V.int) none (some 63))) np3;refine⟨p3,n1,rfl,cL.of (by rw[<-c1];exact cD),_,_,rfl,by decide,by decide,λZ Z0 Z1=>?_⟩;refine⟨_,rfl,λcl hs H6 s6 ncl hcl ck=>?_⟩;have s46:=s45.trans s6;refine⟨p2,nl,cl,n2,ps,hs,rfl,s46 _ _ hp2,(by omega),s46 _ _ hnl4,po,hcl,ck,λtt s t y ss ts ys H7 s7 ntt ns' nt ny nd htt hs7 ht7 hy7 ls lt ly gs gt gy=>?_⟩;have s07:=(s4.trans s46).trans s7;have hnl7:=s7 _ _ (s46 _ _ hnl4);have ok7:vP ps H7 tt s t y ss ts ys:=⟨htt,hs7,ht7,hy7,ls,lt,(by omega),gs,gt,gy⟩;have ntd:t≠nl/\t≠s/\t≠y:=by
  simp only[nodup_cons,mem_cons,not_mem_nil,or_false,not_or,nodup_nil,and_true,not_false_eq_true]at nd;refine⟨λe=>?_,λe=>nd.2.1.1 e.symm,nd.2.2⟩;rw[e,s46 _ _ hnl4]at nt;cases nt
 have t0:H t=none:=(s4.trans s46).free nt;clear s46 s6 s45 s4 hp2 hnl4 hcl ck ntt ns' nt ny nd htt hs7 ht7 hy7 gs gt gy ls lt ly np3 np2 s03 s7;dsimp only;refine Dt (λσ' H'=>∃ts',σ'=[some (.ref sc),some (.int 30),some (.int W),some (.ref nl),some (.ref tt),none,none,none,none]/\cF H H'/\H' nl=some (.lst (ps.map V.str))/\vP ps H' tt s t y ss ts' ys) ?_ (decide (V.int (W / 5 % 3)=V.int 0)) (λQ' q'=>?_) (λ_ hR=>?_) (λ_=>?_)
 ·rintro σ' H8 ⟨ts',rfl,s08,hnl8,ok8⟩
  clear ok7 hnl7 s07 ntd;refine B5 (λσ' H'=>∃(th s' t' y':Addr) (ss' ts' ys':List V) (e5 e6 e7 e8:Option V),σ'=[some (.ref sc),some (.int 30),some (.int W),some (.ref nl),some (.ref th),e5,e6,e7,e8]/\cF H H'/\H' nl=some (.lst (ps.map V.str))/\vP ps H' th s' t' y' ss' ts' ys') ?_ (decide (W / 3 % 3 > 0)) (λQ' q'=>?_) (λ_ hR=>?_) (λ_=>?_)
  ·rintro σ' H9 ⟨th,s',t',y',ss',ts',ys',e5,e6,e7,e8,rfl,s9,hnl9,ok9⟩
   refine⟨_,rfl,_,rfl,_,rfl,m8,λr nr=>?_⟩;exact k r nl th s' t' y' W ps ss' ts' ys' _ (s9.trans (cF.upd nr)) cD W0 W1 (cF.upd nr _ _ hnl9) po (ok9.mono (cF.upd nr))
  ·exact⟨_,rfl,_,_,rfl,rfl,⟨by decide,by decide⟩,_,_,rfl,rfl,(by show(0:Int) < 3;decide),_,_,rfl,rfl,_,rfl,q'⟩
  ·obtain⟨sg,gs,gk⟩:=m6 ok8.gs
   obtain⟨qd,qs,qk⟩:=zq ok8.gt;obtain⟨sd,sy,sk⟩:=lZ ok8.gy;refine⟨_,rfl,tt,s,t,y,ps,ss,ts',ys,sg,qd,sd,rfl,ok8.hth,ok8.hs,ok8.ht,ok8.hy,ok8.ls,(by have:=ok8.lt;omega),gs,(λd hd=>(gk d hd).2),qs,qk,sy,λr nb tl us H9 s9 _ _ _ hr hnb htl tu=>?_⟩;refine⟨r,_,rfl,cW.of hr,rfl,_,_,rfl,_,_,rfl,rfl,?_⟩;have ok9:=ok8.mono s9;refine⟨_,rfl,_,rfl,_,rfl,tt,nb,tl,s,t,y,ps,ss,ts',us,sg,qd,(List.range sg.length).filter (iq sg (eG sd)),(fR 0 (gv qd)).filter (c8 qd sd),rfl,ok9.hth,ok9.hs,ok9.ht,hnb,htl,gs.mono (dH.mono (Tk.of s9)),gk,qs.mono (dJ.mono (Tk.of s9)),(λd hd=>(qk d hd).1),tu,(λtk hk=>?_),(λi hi=>mem_range.mp (mem_filter.mp hi).1),po.hi,λfo kvs F H10 s10 nfo hfo hrd _ _=>?_⟩
   ·obtain⟨q,hq,_,m2⟩:=jY qk (mem_filter.mp hk).1
    exact⟨(List.getElem?_eq_some_iff.mp hq).1,m2⟩
   ·have s810:=s9.trans s10
    have ok10:=ok9.mono s10;refine⟨_,rfl,xT ok10.hth rfl ⟨y,rfl,⟨_,cL.of ok10.hy⟩,zO (cL.of ok10.hy) (by have:=ok10.ly;omega) ?_ ?_⟩⟩
    ·intro i v H11 K1 K2 hv s11 k1 k2
     obtain⟨e,⟨a,rfl,ha⟩,_⟩:=tV (ok10.gy v (mem_of_getElem? hv));have ha11:=s11 _ _ ha;cases e with
     |unh q i'=>exact⟨_,rfl,xT ha11 rfl ⟨rfl,_,rfl,iP (dq (B:=K2 H11) ⟨_,rfl,k1 H11 (cF.refl _)⟩)⟩⟩
     |sil q b e'=>exact⟨_,rfl,xT ha11 rfl ⟨rfl,_,rfl,iP (dq (B:=K2 H11) ⟨_,rfl,k1 H11 (cF.refl _)⟩)⟩⟩
     |bar q q'=>exact⟨_,rfl,xT ha11 rfl ⟨rfl,_,rfl,iP (dq (B:=K2 H11) ⟨_,rfl,k1 H11 (cF.refl _)⟩)⟩⟩
     |knew q h=>
      refine⟨_,rfl,xT ha11 rfl ⟨rfl,_,rfl,iN ⟨_,rfl,Hq,λl1 nl1=>?_⟩⟩⟩;have s12:=cF.upd (o:=.lst [.ref a]) nl1;exact⟨_,rfl,l1,fo,[.ref a],[SD.knew q h],kvs,F,rfl,cD,Kt ⟨a,rfl,s12 _ _ ha11⟩,s12 _ _ (s11 _ _ hfo),hrd.get,⟨_,rfl,cZ (λ_=>⟨_,rfl,k1 _ s12⟩) (λ_=>k2 _ s12)⟩⟩
    ·intro ke zs H11 nke s11 hke zl zi
     have ok11:=ok10.mono s11;refine⟨_,rfl,xT ok11.hth rfl ⟨_,rfl,xT ok11.hth rfl ⟨_,rfl,m8,λt3 nt3=>?_⟩⟩⟩;have s12:=cF.upd (o:=.tup [.ref s,.ref t,.ref ke]) nt3;have s813:=(s810.trans s11).trans s12;refine hR _ _ ⟨t3,s,t,ke,ss,ts',zs,_,_,_,_,rfl,s08.trans s813,s813 _ _ hnl8,cD,s12 _ _ ok11.hs,s12 _ _ ok11.ht,s12 _ _ hke,ok11.ls,ok11.lt,(by have:=ok11.ly;omega),?_,?_,?_⟩
     ·exact λv hv=>(ok11.gs v hv).mono (Tk.of s12)
     ·exact λv hv=>(ok11.gt v hv).mono (Tk.of s12)
     ·exact λv hv=>(ok11.gy v (zi v hv)).mono (Tk.of s12)
  ·exact⟨tt,s,t,y,ss,ts',ys,none,none,none,none,rfl,s08,hnl8,ok8⟩
 ·exact⟨_,rfl,_,_,rfl,rfl,⟨by decide,by decide⟩,_,_,rfl,rfl,(by show(0:Int) < 3;decide),rfl,_,rfl,q'⟩
 ·refine⟨_,rfl,xT ok7.hth rfl ⟨.inl ⟨rfl,_,cL.of ok7.ht⟩,t,ts,rfl,rfl,ok7.ht,hR _ _ ⟨ts.reverse,rfl,λb o e=>?_,?_,?_⟩⟩⟩
  ·rw[cH (cE e t0)]
   exact s07 _ _ e
  ·rw[cH ntd.1.symm]
   exact hnl7
  ·have tk:=Tk.upd ok7.ht (ys:=ts.reverse)
   exact⟨tk _ _ ok7.hth,(by rw[cH ntd.2.1.symm];exact ok7.hs),cD,(by rw[cH ntd.2.2.symm];exact ok7.hy),ok7.ls,(by rw[length_reverse];exact ok7.lt),ok7.ly,λv hv=>(ok7.gs v hv).mono tk,λv hv=>(ok7.gt v (mem_reverse.mp hv)).mono tk,λv hv=>(ok7.gy v hv).mono tk⟩
 ·exact⟨ts,rfl,s07,hnl7,ok7⟩
inductive EW
 |saw (i:Nat)
 |hrd (k:Nat)(te:Str)
abbrev ED:=Str×Int×EW
def v9(H:Hp)(wa:Addr):EW->Prop
 |.saw i=>H wa=some (.tup [.str "saw",.int (i:Nat)])
 |.hrd k te=>H wa=some (.tup [.str "heard",.int (k:Nat),.str te])
def dS(H:Hp)(a:Addr)(d:ED):Prop:=∃wa,H a=some (.tup [.str d.1,.int d.2.1,.ref wa])/\v9 H wa d.2.2
theorem v9.mono{H H':Hp}(s:Tk H H'){wa:Addr}{w:EW}(h:v9 H wa w):v9 H' wa w:=by
 cases w with
 |saw i=>exact s _ _ h
 |hrd k te=>exact s _ _ h
theorem dS.mono{H H':Hp}(s:Tk H H'){a:Addr}{d:ED}(h:dS H a d):dS H' a d:=by
 obtain⟨wa,h1,h2⟩:=h;exact⟨wa,s _ _ h1,h2.mono s⟩
structure Lf(H:Hp)(kvs:List (Key×V))(F:FH):Prop where
 no:∀z,F z=none->dz kvs (Sum.inr z)=none
 yes:∀z h,F z=some h->∃a w,dz kvs (Sum.inr z)=some (.ref a)/\H a=some (.tup [.str z,.int h,w])
def nJ(F:FH)(d:ED):Bool:=match d.2.2 with
 |.saw _=>true
 |.hrd _ te=>match F te with
  |none=>false
  |some a=>decide (a < d.2.1)
inductive HN  (vs:List V)(H:Hp)(Q:VK):Prop
 |mk(a:Addr)(z:Str)(h:Int)(w:V)(h0:vs=[.ref a])(h1:H a=some (.tup [.str z,.int h,w]))(h2:Q (.int h) H)
def AF  :Sp:=λvs H Q _=>HN  vs H Q
inductive Jo  (vs:List V)(H:Hp)(Q:VK):Prop
 |mk(kn a:Addr)(kvs:List (Key×V))(F:FH)(d:ED)(h0:vs=[.ref kn,.ref a])(h1:H kn=some (.dK kvs))(h2:Lf H kvs F)(h3:dS H a d)(h4:Q (.bl (nJ F d)) H)
def Gg  :Sp:=λvs H Q _=>Jo  vs H Q
theorem vS:cI ["entry"] ["entry"] (cG l5):={}
theorem Ig (D:Df K mg "hour_of" l5 ["entry"] f fd):Gd P w K mg base 1 "hour_of" AF:=by
 refine aH D vS λX H vs Q E hh h=>?_;obtain⟨a,z,h,w,rfl,ha,k⟩:=h;obtain⟨S0,_⟩:=hh.eB [0];exact⟨_,(aj (au (af ak (aa S0) ae ah))),_,rfl,xT ha rfl k⟩
theorem pW:cI ["known", "entry", "way"] ["known", "entry"] (cG iD):={}
theorem Ii (D:Df K mg "can_follow" iD ["known", "entry"] f fd) (G_hour_of:Gd P w K mg base 1 "hour_of" AF):Gd P w K mg base 2 "can_follow" Gg:=by
 refine aH D pW λX H vs Q E hh h=>?_;obtain⟨kn,a,kvs,F,d,rfl,hkn,kd,⟨wa,ha,hw⟩,k⟩:=h;obtain⟨S0,S1,S2,_⟩:=hh.eB [0,1,2];have C_hour_of:=hh.c G_hour_of;have hu:=eU hh.room;refine⟨_,(ag (aD S2 hh.nd (af ak (aa S1) ae ah))
 (ag (aI (aB aL (af ak (aa S2) ae ah) aP (L2.cJ _))
 (aj (au a9))
 aJ)
 (aj (au (aU (J.pJ hu (af ak (aa S2) ae ah) (aa S0)) (a7 (aT bU (aw C_hour_of (ao (bS hu (aa S0) (af ak (aa S2) ae ah) b8))) (aw C_hour_of (ao (aa S1))) (L2.cJ _)))))))),?_⟩
 refine⟨_,rfl,xT ha rfl ?_⟩;obtain⟨z,h,way⟩:=d;cases way with
 |saw i=>exact⟨_,rfl,xT hw rfl ⟨rfl,_,rfl,iP k⟩⟩
 |hrd kk te=>
  refine⟨_,rfl,xT hw rfl ⟨rfl,_,rfl,iN ?_⟩⟩;have dg:=eT.k (k:=Sum.inr te) hkn;have k':Q (.bl (match F te with|none=>false|some a=>decide (a < h))) H:=k;cases hF:F te with
  |none=>
   rw[hF]at k';rw[kd.no te hF]at dg;exact⟨_,rfl,xT hw rfl ⟨_,rfl,kn,_,rfl,dg,_,rfl,cV k'⟩⟩
  |some b=>
   rw[hF]at k';obtain⟨ea,w2,e1,e2⟩:=kd.yes te b hF;rw[e1]at dg;exact⟨_,rfl,xT hw rfl ⟨_,rfl,kn,_,rfl,dg,_,rfl,dq ⟨_,rfl,_,rfl,xT hw rfl ⟨kn,_,rfl,dg,ea,te,b,w2,rfl,e2,_,rfl,a,z,h,_,rfl,ha,_,_,rfl,rfl,k'⟩⟩⟩⟩
inductive mL(ds:List ED):Str->Int->Prop
 |saw {z:Str}{h:Int}{i:Nat}(m:(z,h,EW.saw i)∈ds):mL ds z h
 |hrd {z te:Str}{h h':Int}{k:Nat}(m:(z,h,EW.hrd k te)∈ds)(r:mL ds te h')(l:h' < h):mL ds z h
def sO(H:Hp)(a:Addr):Int:=match H a with
 |some (.tup [_,.int h,_])=>h
 |_=>0
theorem iK{H:Hp}{a:Addr}{d:ED}(h:dS H a d):sO H a=d.2.1:=by
 obtain⟨wa,h1,_⟩:=h;unfold sO;rw[h1]
theorem Dl{H:Hp}{wa:Addr}{w w':EW}(h:v9 H wa w)(h':v9 H wa w'):w=w':=by
 cases w with
 |saw i=>
  cases w' with
  |saw j=>
   have e:=(show H wa=_ from h).symm.trans (show H wa=_ from h');simp only[Option.some.injEq,HO.tup.injEq,List.cons.injEq,V.int.injEq,and_true,true_and]at e;rw[show i=j by omega]
  |hrd k te=>
   have e:=(show H wa=_ from h).symm.trans (show H wa=_ from h');simp at e
 |hrd k te=>
  cases w' with
  |saw j=>
   have e:=(show H wa=_ from h).symm.trans (show H wa=_ from h');simp at e
  |hrd k' te'=>
   have e:=(show H wa=_ from h).symm.trans (show H wa=_ from h');simp only[Option.some.injEq,HO.tup.injEq,List.cons.injEq,V.int.injEq,V.str.injEq,and_true,true_and]at e;rw[show k=k' by omega,e.2]
theorem jC{H:Hp}{a:Addr}{d d':ED}(h:dS H a d)(h':dS H a d'):d=d':=by
 obtain⟨wa,h1,h2⟩:=h;obtain⟨wa',h1',h2'⟩:=h';have e:=h1.symm.trans h1';simp only[Option.some.injEq,HO.tup.injEq,List.cons.injEq,V.int.injEq,V.str.injEq,V.ref.injEq,and_true]at e;obtain⟨e1,e2,rfl⟩:=e;exact Prod.ext e1 (Prod.ext e2 (Dl h2 h2'))
theorem Ao{F:FH}{d e:ED}{z:Str}{h:Int}(h1:nJ (iF F z h) e=true)(le:e.2.1<=h):nJ F e=true:=by
 obtain⟨y,i,w⟩:=e;cases w with
 |saw _=>rfl
 |hrd k te=>
  have h1':(match iF F z h te with|none=>false|some a=>decide (a < i))=true:=h1;show(match F te with|none=>false|some a=>decide (a < i))=true;by_cases c:te=z
  ·subst c
   rw[dQ]at h1';have h2:decide (h < i)=true:=h1';rw[decide_eq_true_iff]at h2;have:i<=h:=le;omega
  ·rw[dP c]at h1'
   exact h1'
theorem xn{F:FH}{d:ED}{z:Str}{h:Int}(n:F z=none)(c:nJ F d=true):nJ (iF F z h) d=true:=by
 obtain⟨y,i,w⟩:=d;cases w with
 |saw _=>rfl
 |hrd k te=>
  have c':(match F te with|none=>false|some a=>decide (a < i))=true:=c;show(match iF F z h te with|none=>false|some a=>decide (a < i))=true;rw[dP (λe=>by rw[e,n]at c';cases c')];exact c'
def pE(F:FH)(z:Str)(h:Int)(d:ED):Bool:=decide (d.1=z) && (decide (d.2.1=h) && nJ F d)
theorem zG{F:FH}{z:Str}{h:Int}{d:ED}(e:pE F z h d=true):d.1=z/\d.2.1=h/\nJ F d=true:=by
 unfold pE at e;rw[and_eq_true,and_eq_true]at e;exact⟨of_decide_eq_true e.1,of_decide_eq_true e.2.1,e.2.2⟩
theorem xG{α:Type}{p:α->Bool}:∀{l:List α}{j:Nat}{x:α},l[j]? =some x->(∀y∈l.take j,p y=false)->p x=true->l.find? p=some x
 |[],_,_,h,_,_=>by cases h
 |y::r,0,x,h,_,hx=>by
  cases h;rw[find?_cons_of_pos hx]
 |y::r,j+1,x,h,hn,hx=>by
  rw[find?_cons_of_neg (by rw[hn y mem_cons_self];exact Bool.false_ne_true)];exact xG (j:=j) h (λu hu=>hn u (mem_cons_of_mem _ hu)) hx
theorem uJ{α β:Type}{p:α->Bool}{q:β->Bool}:∀{as:List α}{ds:List β}{a:α},as.length=ds.length->(∀(i:Nat) a d,as[i]? =some a->ds[i]? =some d->p a=q d)->as.find? p=some a->∃(d:β) (i:Nat),ds.find? q=some d/\as[i]? =some a/\ds[i]? =some d
 |[],_,_,_,_,h=>by cases h
 |_::_,[],_,l,_,_=>by cases l
 |b::as,d::ds,a,l,e,h=>by
  have e0:=e 0 b d rfl rfl;cases c:p b with
  |true=>
   rw[find?_cons_of_pos c]at h;cases h;exact⟨d,0,by rw[find?_cons_of_pos (by rw[<-e0];exact c)],rfl,rfl⟩
  |false=>
   rw[find?_cons_of_neg (by rw[c];exact Bool.false_ne_true)]at h;obtain⟨d',i,h1,h2,h3⟩:=uJ (ds:=ds) (Nat.succ.inj l) (λi a d h1 h2=>e (i+1) a d h1 h2) h;exact⟨d',i+1,by rw[find?_cons_of_neg (by rw[<-e0,c];exact Bool.false_ne_true)];exact h1,h2,h3⟩
theorem m7{α:Type}{l:List α}{j:Nat}{y:α}(h:y∈l.take j):∃i,i < j/\l[i]? =some y:=by
 obtain⟨i,hi⟩:=getElem?_of_mem h;have il:=(List.getElem?_eq_some_iff.mp hi).1;rw[length_take]at il;rw[getElem?_take_of_lt (by omega)]at hi;exact⟨i,by omega,hi⟩
open Classical in
theorem vI{H:Hp}{zs as:List Addr}{ds:List ED}{F:FH}{a:Addr}{d:ED}{j:Nat}(ll:as.length=ds.length)(le:∀(i:Nat) a d,as[i]? =some a->ds[i]? =some d->dS H a d)(fl:∀i,zs.filter (λa=>decide (sO H a=i))=as.filter (λa=>decide (sO H a=i)))
  (hj:zs[j]? =some a)(ev:dS H a d)(cf:nJ F d=true)(no:∀j' a' d',j' < j->zs[j']? =some a'->dS H a' d'->d'.1=d.1->nJ F d'=false):ds.find? (pE F d.1 d.2.1)=some d:=by
 have pv:∀a' d',dS H a' d'->decide (∃d2,dS H a' d2/\pE F d.1 d.2.1 d2=true)=pE F d.1 d.2.1 d':=λa' d' e=>by
  rw[Bool.eq_iff_iff,decide_eq_true_iff];exact⟨λ⟨d2,e2,h⟩=>jC e2 e ▸ h,λh=>⟨d',e,h⟩⟩
 have pt:pE F d.1 d.2.1 d=true:=by
  unfold pE;rw[cf,decide_eq_true rfl,decide_eq_true rfl];rfl
 have f1:zs.find? (λa'=>decide (∃d2,dS H a' d2/\pE F d.1 d.2.1 d2=true))=some a:=by
  refine xG hj (λy hy=>?_) (by rw[pv a d ev];exact pt);obtain⟨i,hi,e⟩:=m7 hy;refine decide_eq_false λ⟨d2,e2,h⟩=>?_;obtain⟨h1,_,h3⟩:=zG h;rw[no i y d2 hi e e2 h1]at h3;cases h3
 have q:∀l:List Addr,l.find? (λa'=>decide (∃d2,dS H a' d2/\pE F d.1 d.2.1 d2=true))=(l.filter (λa=>decide (sO H a=d.2.1))).find? (λa'=>decide (∃d2,dS H a' d2/\pE F d.1 d.2.1 d2=true)):=λl=>by
  rw[List.find?_filter]
  congr 1
  funext a'
  rw[Bool.eq_iff_iff];refine⟨λh=>decide_eq_true ⟨decide_eq_true ?_,h⟩,λh=>(of_decide_eq_true h).2⟩;obtain⟨d2,e2,h⟩:=of_decide_eq_true h;rw[iK e2];exact(zG h).2.1
 have f2:=f1;rw[q zs,fl,<-q as]at f2;obtain⟨d',i,h1,h2,h3⟩:=uJ ll (λi a d e1 e2=>pv a d (le i a d e1 e2)) f2;rw[h1,jC ev (le i a d' h2 h3)]
def Lr(H:Hp)(zs:List Addr)(F:FH)(kvs:List (Key×V))(i:Nat):Prop:=∀z h,F z=some h->∃a d j,dz kvs (Sum.inr z)=some (.ref a)/\j < i/\zs[j]? =some a/\dS H a d/\d.1=z/\d.2.1=h/\nJ F d=true/\∀j' a' d',j' < j->zs[j']? =some a'->dS H a' d'->d'.1=z->nJ F d'=false
def KO(H:Hp)(ds:List ED)(F:FH)(kvs:List (Key×V)):Prop:=∀z h,F z=some h->∃a w,dz kvs (Sum.inr z)=some (.ref a)/\dS H a (z,h,w)/\ds.find? (pE F z h)=some (z,h,w)
structure dM(ds:List ED)(F:FH):Prop where
 cl:∀d∈ds,nJ F d=true->∃b,b<=d.2.1/\F d.1=some b
 so:∀z h,F z=some h->mL ds z h
inductive Ey(H:Hp)(en kn l:Addr)(zs:List Addr)(ds:List ED)(i:Nat)(σ:St)(H2:Hp):Prop
 |mk(e2:Option V)(kvs:List (Key×V))(F:FH)(e:σ=[some (.ref en),some (.ref kn),e2])(s:cF H H2)(hl:H2 l=some (.lst (zs.map V.ref)))(hk:H2 kn=some (.dK kvs))(kl:kvs.length<=i)(kd:Lf H2 kvs F)(c:∀j a d,j < i->zs[j]? =some a->dS H a d->nJ F d=true->∃b,b<=d.2.1/\F d.1=some b)(so:∀z h,F z=some h->mL ds z h)(m:∀z h,F z=some h->∀j a,i<=j->zs[j]? =some a->h<=sO H a)(sk:HS kvs)(ft:Lr H zs F kvs i)
inductive M6(vs:List V)(H:Hp)(Q:VK):Prop
 |mk(en:Addr)(as:List Addr)(ds:List ED)(e:vs=[.ref en])(he:H en=some (.lst (as.map V.ref)))(al:as.length<=500)(ll:as.length=ds.length)(le:∀(i:Nat) a d,as[i]? =some a->ds[i]? =some d->dS H a d)
   (k:∀(kn:Addr)(kvs:List (Key×V))(F:FH)(H':Hp),cF H H'->H kn=none->H' kn=some (.dK kvs)->Lf H' kvs F->dM ds F->HS kvs->KO H' ds F kvs->Q (.ref kn) H')
def GP:Sp:=λvs H Q _=>M6 vs H Q
theorem lO:cI ["entries", "known", "entry"] ["entries"] (cG fJ):={}
theorem Hr (D:Df K mg "first_entries" fJ ["entries"] f fd) (T:Txt K mg kw C) (G_hour_of:Gd P w K mg base 1 "hour_of" AF) (G_can_follow:Gd P w K mg base 2 "can_follow" Gg):Gd P w K mg base 4 "first_entries" GP:=by
 refine aH D lO λX H vs Q E hh h=>?_;obtain⟨en,as,ds,rfl,he,al,ll,le,k⟩:=h;have ed:∀a∈as,∃d∈ds,dS H a d:=λa ha=>by
  obtain⟨i,hi⟩:=getElem?_of_mem ha;obtain⟨d,hd⟩:∃d,ds[i]? =some d:=⟨_,getElem?_eq_getElem (by rw[<-ll];exact(List.getElem?_eq_some_iff.mp hi).1)⟩;exact⟨d,mem_of_getElem? hd,le i a d hi hd⟩
 have de:∀d∈ds,∃a∈as,dS H a d:=λd hd=>by
  obtain⟨i,hi⟩:=getElem?_of_mem hd;obtain⟨a,ha⟩:∃a,as[i]? =some a:=⟨_,getElem?_eq_getElem (by rw[ll];exact(List.getElem?_eq_some_iff.mp hi).1)⟩;exact⟨a,mem_of_getElem? ha,le i a d ha hi⟩
 obtain⟨S0,S1,S2,_⟩:=hh.eB [0,1,2];have B_sorted:=hh.b T.b_sorted;have C_can_follow:=hh.c G_can_follow;have CS_hour_of:=hh.Jh G_hour_of rfl (by first|decide|exact le_refl _) (by decide);have hu:=eU hh.room;have hsz:sizeLine=16777216:=sizeLine_eq;refine⟨_,(ag (aD S1 hh.nd cn)
 (ag (bo hh.own hh.calm (aO (J.IM B_sorted CS_hour_of (ao (aa S0)))) (aG S2 hh.nd)
 (aj (aI (aS (bp (J.qu hu (af ak (aa S2) ae ah) (aa S1)) (bA (aQ (aw C_can_follow (aA (aa S1) (aa S2)))))))
 (aj (bZ hu (aa S1) (af ak (aa S2) ae ah) (aa S2)))
 aJ)))
 (aj (au (aa S1))))),?_⟩
 intro kn nkn;have s1:=cF.upd (o:=.dK []) nkn;have hk1:upd H kn (.dK []) kn=some (.dK []):=cD;generalize upd H kn (.dK [])=H1 at s1 hk1;refine⟨_,rfl,en,as,sO H,rfl,cL.of (s1 _ _ he),λa ha Q' q'=>?_,λl zs nl pm pw fl=>?_⟩
 ·obtain⟨d,_,en'⟩:=ed a ha
  rw[iK en']at q';obtain⟨wa,h1,_⟩:=en';exact⟨a,_,_,_,rfl,s1 _ _ h1,q'⟩
 have s2:=s1.trans (cF.upd (o:=.lst (zs.map V.ref)) nl);have hl2:upd H1 l (.lst (zs.map V.ref)) l=some (.lst (zs.map V.ref)):=cD;have hk2:=cF.upd (o:=.lst (zs.map V.ref)) nl _ _ hk1;generalize upd H1 l (.lst (zs.map V.ref))=H2 at s2 hl2 hk2;have zl:zs.length<=500:=by rw[pm.length_eq];exact al
 have ent:∀{i:Nat}{a:Addr},zs[i]? =some a->∃d∈ds,dS H a d:=λh=>ed _ (pm.mem_iff.mp (mem_of_getElem? h));have BW:∀{i j:Nat}{a b:Addr},i < j->zs[i]? =some a->zs[j]? =some b->sO H a<=sO H b:=λ{i j a b} ij ha hb=>by
  obtain⟨h1,e1⟩:=List.getElem?_eq_some_iff.mp ha;obtain⟨h2,e2⟩:=List.getElem?_eq_some_iff.mp hb;have:=List.pairwise_iff_getElem.mp pw i j h1 h2 ij
  rwa [e1,e2]at this
 refine⟨l,rfl,⟨_,cL.of hl2⟩,da (K:=X.K) (a:=l) (xs:=zs.map V.ref) (Ey H en kn l zs ds) ⟨none,[],λ_=>none,rfl,s2,hl2,hk2,le_refl 0,⟨λ_ _=>rfl,λ_ _ e=>by cases e⟩,(λj a d hj=>by omega),(λ_ _ e=>by cases e),(λ_ _ e=>by cases e),⟨[],rfl,nodup_nil⟩,(λ_ _ e=>by cases e)⟩ ?_ ?_ ?_⟩
 ·rintro i σ H3 hi ⟨e2,kvs,F,rfl,s3,hl3,hk3,kl,kd,c,so,m,sk,ft⟩
  exact cL.of hl3
 ·rintro i v σ H3 hv ⟨e2,kvs,F,rfl,s3,hl3,hk3,kl,kd,c,so,m,sk,ft⟩
  rw[getElem?_map]at hv;obtain⟨a,ha,rfl⟩:=map_eq_some_iff.mp hv;have il:=(List.getElem?_eq_some_iff.mp ha).1;obtain⟨d,md,ev⟩:=ent ha;have hra:=iK ev;obtain⟨wa,h1,h2⟩:=id ev;have h3:=s3 _ _ h1;have dg:=eT.k (k:=Sum.inr d.1) hk3;have fN:(nJ F d=true->∃b,b<=d.2.1/\F d.1=some b)->Ey H en kn l zs ds (i+1) [some (.ref en),some (.ref kn),some (.ref a)] H3:=λcd=>
   ⟨_,kvs,F,rfl,s3,hl3,hk3,by omega,kd,λj a' d' hj ha' ev' cf=>by
    by_cases e:j=i
    ·subst e
     rw[ha]at ha';cases ha';rw[<-jC ev ev']at cf ⊢;exact cd cf
    ·exact c j a' d' (by omega) ha' ev' cf,so,λz h e j a' hj ha'=>m z h e j a' (by omega) ha',sk,λz h e=>by
     obtain⟨a0,d0,j0,q1,q2,q3⟩:=ft z h e;exact⟨a0,d0,j0,q1,by omega,q3⟩⟩
  cases hF:F d.1 with
  |some b=>
   obtain⟨ea,w2,e1,_⟩:=kd.yes _ _ hF;rw[e1]at dg;exact⟨_,rfl,xT h3 rfl ⟨_,rfl,kn,_,rfl,dg,_,rfl,cV (cV (fN λ_=>⟨b,by rw[<-hra];exact m _ _ hF i a (le_refl _) ha,hF⟩))⟩⟩
  |none=>
   rw[kd.no _ hF]at dg;refine⟨_,rfl,xT h3 rfl ⟨_,rfl,kn,_,rfl,dg,_,rfl,dq ⟨_,rfl,_,rfl,kn,a,kvs,F,d,rfl,hk3,kd,ev.mono (Tk.of s3),_,rfl,?_⟩⟩⟩;cases hc:nJ F d with
   |false=>exact cV (fN λh=>by rw[hc]at h;cases h)
   |true=>
    refine dq ⟨_,rfl,_,rfl,_,rfl,xT h3 rfl ⟨kn,_,rfl,l6.k (k:=Sum.inr d.1) hk3 (by omega),?_⟩⟩;have nka:a≠kn:=λe=>by rw[e,hk3]at h3;cases h3
    have nkl:l≠kn:=λe=>by rw[e,hk3]at hl3;cases hl3
    have kp:∀b o,b≠kn->H3 b=some o->upd H3 kn (.dK (putK kvs (Sum.inr d.1) (.ref a))) b=some o:=λb o n e=>by rw[cH n];exact e
    refine⟨_,putK kvs (Sum.inr d.1) (.ref a),iF F d.1 d.2.1,rfl,λb o e=>kp b o (cE e nkn) (s3 _ _ e),kp _ _ nkl hl3,cD,le_trans (gz _ _ _) (by omega),⟨λz e=>?_,λz h e=>?_⟩,λj a' d' hj ha' ev' cf=>?_,λz h e=>?_,λz h e j a' hj ha'=>?_,BJ sk,λz h e=>?_⟩
    ·by_cases c':z=d.1
     ·rw[c',dQ]at e
      cases e
     ·rw[dP c']at e
      rw[gd,if_neg (λx=>c' (Sum.inr.inj x))];exact kd.no z e
    ·by_cases c':z=d.1
     ·rw[c',dQ]at e
      cases e;exact⟨a,.ref wa,by rw[gd,if_pos (by rw[c'])],by rw[c'];exact kp _ _ nka h3⟩
     ·rw[dP c']at e
      obtain⟨ea,w2,e1,e2'⟩:=kd.yes z h e;exact⟨ea,w2,by rw[gd,if_neg (λx=>c' (Sum.inr.inj x))];exact e1,kp _ _ (λx=>by rw[x,hk3]at e2';cases e2') e2'⟩
    ·by_cases e:j=i
     ·subst e
      rw[ha]at ha';cases ha';rw[<-jC ev ev'];exact⟨_,Int.le_refl _,dQ⟩
     ·have le:d'.2.1<=d.2.1:=by
       rw[<-iK ev',<-hra];exact BW (by omega) ha' ha
      obtain⟨b,b1,b2⟩:=c j a' d' (by omega) ha' ev' (Ao (d:=d) cf le);exact⟨b,b1,by rw[dP (λx=>by rw[x,hF]at b2;cases b2)];exact b2⟩
    ·by_cases c':z=d.1
     ·rw[c',dQ]at e
      cases e;rw[c'];obtain⟨y,i',w'⟩:=d;cases w' with
      |saw _=>exact .saw md
      |hrd kk te=>
       have hc':(match F te with|none=>false|some a=>decide (a < i'))=true:=hc;cases hT:F te with
       |none=>rw[hT]at hc';cases hc'
       |some x=>
        rw[hT]at hc';exact .hrd md (so _ _ hT) (of_decide_eq_true hc')
     ·rw[dP c']at e
      exact so z h e
    ·by_cases c':z=d.1
     ·rw[c',dQ]at e
      cases e;rw[<-hra];exact BW (by omega) ha ha'
     ·rw[dP c']at e
      exact m z h e j a' (by omega) ha'
    ·have no:∀j' a' d',j' < i->zs[j']? =some a'->dS H a' d'->nJ (iF F d.1 d.2.1) d'=true->nJ F d'=true:=λj' a' d' hj ha' ev' cf=>Ao (d:=d) cf (by
      rw[<-iK ev',<-hra];exact BW hj ha' ha)
     by_cases c':z=d.1
     ·rw[c',dQ]at e
      cases e;refine⟨a,d,i,by rw[c',gd,if_pos rfl],lt_succ_self i,ha,ev,c'.symm,rfl,xn hF hc,λj' a' d' hj ha' ev' ed'=>?_⟩;cases cc:nJ (iF F d.1 d.2.1) d' with
      |false=>rfl
      |true=>
       obtain⟨b,_,b2⟩:=c j' a' d' hj ha' ev' (no j' a' d' hj ha' ev' cc);rw[ed',c',hF]at b2;cases b2
     ·rw[dP c']at e
      obtain⟨a0,d0,j0,q1,q2,q3,q4,q5,q6,q7,q8⟩:=ft z h e;refine⟨a0,d0,j0,by rw[gd,if_neg (λx=>c' (Sum.inr.inj x))];exact q1,by omega,q3,q4,q5,q6,xn hF q7,λj' a' d' hj ha' ev' ed'=>?_⟩;cases cc:nJ (iF F d.1 d.2.1) d' with
      |false=>rfl
      |true=>
       have:=q8 j' a' d' hj ha' ev' ed';rw[no j' a' d' (by omega) ha' ev' cc]at this;cases this
 ·rintro σ H3 ⟨e2,kvs,F,rfl,s3,hl3,hk3,kl,kd,c,so,m,sk,ft⟩
  refine⟨_,rfl,k kn kvs F H3 s3 nkn hk3 kd ⟨λd hd cf=>?_,so⟩ sk λz h e=>?_⟩
  rotate_left
  ·obtain⟨a0,d0,j0,q1,q2,q3,q4,q5,q6,q7,q8⟩:=ft z h e
   have ff:=vI ll le fl q3 q4 q7 (by rw[q5];exact q8);obtain⟨y,i',w'⟩:=d0;cases q5;cases q6;exact⟨a0,w',q1,q4.mono (Tk.of s3),ff⟩
  obtain⟨a,ha,ev⟩:=de d hd;obtain⟨j,hj⟩:=getElem?_of_mem (pm.mem_iff.mpr ha);have jl:=(List.getElem?_eq_some_iff.mp hj).1;exact c j a d (by rw[length_map];exact jl) hj ev cf
def dW(H:Hp)(v:V)(d:ED):Prop:=∃a,v=.ref a/\dS H a d
theorem dW.mono{H H':Hp}(s:Tk H H')(v:V)(d:ED)(h:dW H v d):dW H' v d:=by
 obtain⟨a,e,h⟩:=h;exact⟨a,e,h.mono s⟩
def sP(sg:List GD)(i:Nat):ED:=match sg[i]? with
 |some g=>(g.1,g.2,.saw i)
 |none=>("",0,.saw i)
def qi(qd:List QD)(t:TK):ED:=(t.2.2,d4 qd t.1,.hrd t.1 t.2.1)
def fI(sg:List GD)(qd:List QD)(sd:List SD):List ED:=((List.range sg.length).filter (iq sg (eG sd))).map (sP sg)++((fR 0 (gv qd)).filter (c8 qd sd)).map (qi qd)
inductive Ir(x sb tb l:Addr)(H5:Hp)(d0:List ED)(td:List ED)(i:Nat)(σ:St)(H6:Hp):Prop
 |mk(us:List V)(e4 e5 e6:Option V)(e:σ=[some (.ref x),some (.ref sb),some (.ref tb),some (.ref l),e4,e5,e6])(kp:∀b o,H5 b=some o->b≠l->H6 b=some o)(hl:H6 l=some (.lst us))(ul:us.length<=24+i)(lz:Lz dW H6 us (d0++td.take i))
inductive MN(C:Addr)(vs:List V)(H:Hp)(Q:VK):Prop
 |mk(x p s t y:Addr)(ps:List Str)(ss ts ys:List V)(sg:List GD)(qd:List QD)(sd:List SD)(e:vs=[.ref x])(bk:Bk C H x p s t y ps ss ts ys)(pl:ps.length<=24)(sl:ss.length<=24)(tl:ts.length<=120)(gs:Lz dH H ss sg)(gp:∀d∈sg,d.1∈ps)(qs:Lz dJ H ts qd)(qk:∀d∈qd,lx ps d)(sy:Sys H ys sd)(l:ys.length<=60)
   (k:∀(l:Addr)(us:List V)(H':Hp),cF H H'->H l=none->H' l=some (.lst us)->Lz dW H' us (fI sg qd sd)->us.length<=400->Q (.ref l) H')
def EU(C:Addr):Sp:=λvs H Q _=>MN C vs H Q
theorem nA:cI ["book", "sights", "talks", "entries", "k", "teller", "hearer"] ["book"] (cG gr):={}
theorem Jg (D:Df K mg "open_entries" gr ["book"] f fd) (T:Txt K mg kw C) (G_sights:Md P w K mg base 1 C "sights" (dC C λ_ s _ _=>s)) (G_talks:Md P w K mg base 1 C "talks" (dC C λ_ _ t _=>t)) (G_open_sights:Gd P w K mg base 4 "open_sights" (qY C)) (G_open_tellings:Gd P w K mg base 4 "open_tellings" (rQ C)):Gd P w K mg base 5 "open_entries" (EU C):=by
 refine aH D nA λX H vs Q E hh h=>?_;obtain⟨x,p,s,t,y,ps,ss,ts,ys,sg,qd,sd,rfl,bk,pl,sl,tl,gs,gp,qs,qk,sy,l60,k⟩:=h;obtain⟨S0,S1,S2,S3,S4,S5,S6,_⟩:=hh.eB [0,1,2,3,4,5,6];have C_open_sights:=hh.c G_open_sights;have C_open_tellings:=hh.c G_open_tellings;have M_sights:=hh.met G_sights (by decide);have M_talks:=hh.met G_talks (by decide);have hsz:sizeLine=16777216:=sizeLine_eq;refine⟨_,(ag (aD S1 hh.nd (bR M_sights (aa S0) rfl))
 (ag (aD S2 hh.nd (bR M_talks (aa S0) rfl))
 (ag (bL (is:=[1]) (xs:=["i"]) (ns:=["sights"]) S3 hh.nd hh.calm (aO (aw C_open_sights (ao (aa S0)))) {} (λ_ _ _ _ _=>(aR (i:=0) (by decide+kernel) rfl rfl)) (λ_ _ _ _ _=>bV) (λ_ _ _ _ _=>(aV (aM (af bf (af bX (aY (i:=1) rfl rfl (by decide) (by decide)) (aK (i:=0) rfl rfl (by decide) (by decide)) aX) ae ah) (af bf (af bX (aY (i:=1) rfl rfl (by decide) (by decide)) (aK (i:=0) rfl rfl (by decide) (by decide)) aX) ae ah) (aV (aA aP (aK (i:=0) rfl rfl (by decide) (by decide))))))) hh.hsc hh.hN (by decide+kernel))
 (ag (bo hh.own hh.calm (aO (aw C_open_tellings (ao (aa S0)))) (bq hh.calm (aF (aG S4 hh.nd) (aF (aG S5 hh.nd) (aF (aG S6 hh.nd) bh))))
 (aj (bG (bM plainAttrs_list PySem.F.slot_list_append PySem.F.type_list_append bN (aa S3) (ao (aV (aM (aa S6) (af ak (af aZ (aa S2) (aa S4) aX) ae ah) (aV (aM aP (aa S4) (aa S5))))))))))
 (aj (au (aa S3))))))),?_⟩
 obtain⟨⟨dx,hx⟩,hp,hs,ht,hy⟩:=id bk;refine⟨_,rfl,x,dx,_,rfl,hx,iO _ _ _ _ (by decide+kernel) (by decide+kernel) (by decide+kernel) (by decide+kernel),x,p,s,t,y,ss,rfl,⟨dx,hx⟩,hs,λsb nsb=>?_⟩;have s1:=cF.upd (o:=.lst ss) nsb;have hsb1:upd H sb (.lst ss) sb=some (.lst ss):=cD;generalize upd H sb (.lst ss)=H1 at s1 hsb1;refine⟨_,rfl,x,dx,_,rfl,s1 _ _ hx,iO _ _ _ _ (by decide+kernel) (by decide+kernel) (by decide+kernel) (by decide+kernel),x,p,s,t,y,ts,rfl,⟨dx,s1 _ _ hx⟩,s1 _ _ ht,λtb ntb=>?_⟩;have s2:=s1.trans (cF.upd (o:=.lst ts) ntb);have hsb2:=cF.upd (o:=.lst ts) ntb _ _ hsb1;have htb2:upd H1 tb (.lst ts) tb=some (.lst ts):=cD;generalize upd H1 tb (.lst ts)=H2 at s2 hsb2 htb2;refine⟨_,rfl,x,p,s,t,y,ps,ss,ts,ys,sg,sd,rfl,bk.mono s2,pl,sl,gs.mono (dH.mono (Tk.of s2)),gp,sy.mono (Tk.of s2),l60,λlo H3 s3 nlo hlo=>?_⟩;have s03:=s2.trans s3;have hsb3:=s3 _ _ hsb2;have htb3:=s3 _ _ htb2;have gl:=gs.1;have ol:=pO sg sd sg.length;refine⟨lo,rfl,⟨_,cL.of hlo⟩,oz (λj H' v=>∃i,((List.range sg.length).filter (iq sg (eG sd)))[j]? =some i/\dW H' v (sP sg i)) (λj v H H' tk ⟨i,e,h⟩=>⟨i,e,h.mono tk⟩) (cL.of hlo) (by omega) ?_ ?_⟩
 ·intro j v H4 K1 hv s4 k1
  unfold eA at hv;rw[getElem?_map]at hv;obtain⟨i,hi,rfl⟩:=map_eq_some_iff.mp hv;have il:i < sg.length:=mem_range.mp (mem_filter.mp (mem_of_getElem? hi)).1;obtain⟨vg,hvg⟩:∃vg,ss[i]? =some vg:=⟨_,getElem?_eq_getElem (by omega)⟩;have hg:sg[i]? =some sg[i]:=getElem?_eq_getElem il;obtain⟨ga,tale,rfl,hga⟩:=gs.2 _ _ _ hvg hg;have ga4:=s4 _ _ (s03 _ _ hga);have sb4:=s4 _ _ hsb3;have sdE:sP sg i=(sg[i].1,sg[i].2,.saw i):=by
   unfold sP;rw[hg]
  refine⟨_,rfl,_,rfl,xL sb4 (cQ hvg) (xT ga4 rfl ⟨_,rfl,_,rfl,xL sb4 (cQ hvg) (xT ga4 rfl ⟨_,rfl,DV,λwa nwa=>⟨m8,λta nta=>?_⟩⟩)⟩)⟩;refine k1 _ _ ((cF.upd nwa).trans (cF.upd nta)) ⟨i,hi,ta,rfl,?_⟩;rw[sdE];exact⟨wa,cD,cF.upd nta _ _ cD⟩
 ·intro l us0 H4 nl s4 hl ul0 ur
  have s04:=s03.trans s4;have lz0:Lz dW H4 us0 (((List.range sg.length).filter (iq sg (eG sd))).map (sP sg)):=by
   refine⟨by rw[ul0,length_map];unfold eA;rw[length_map],λj v d hv hd=>?_⟩;obtain⟨i,hi,he⟩:=ur j v hv;rw[getElem?_map,hi]at hd;cases hd;exact he
  have ul24:us0.length<=24:=by omega
  clear ur;refine⟨_,rfl,x,p,s,t,y,ps,ss,ts,ys,qd,sd,rfl,bk.mono s04,pl,tl,qs.mono (dJ.mono (Tk.of s04)),qk,sy.mono (Tk.of s04),l60,λm vs H5 s5 nm hm tu=>?_⟩;have s05:=s04.trans s5;have hl5:=s5 _ _ hl;have htb5:=s5 _ _ (s4 _ _ htb3);have tll:=tu.1;have tlen:=iB (gv qd) 0;have qle:(gv qd).length=qd.length:=length_map _;have qsl:=qs.1;have fl:=length_filter_le (c8 qd sd) (fR 0 (gv qd));have nml:m≠l:=λe=>by rw[e,hl]at nm;cases nm
  have nlt:tb≠l:=λe=>by rw[<-e,htb3]at nl;cases nl
  refine⟨m,rfl,⟨_,cL.of hm⟩,da (K:=X.K) (a:=m) (xs:=vs) (Ir x sb tb l H5 (((List.range sg.length).filter (iq sg (eG sd))).map (sP sg)) (((fR 0 (gv qd)).filter (c8 qd sd)).map (qi qd))) ⟨us0,none,none,none,rfl,λb o e _=>e,hl5,by omega,by rw[take_zero,append_nil];exact lz0.mono (dW.mono (Tk.of s5))⟩ ?_ ?_ ?_⟩
  ·rintro i σ H6 hi ⟨us,e4,e5,e6,rfl,kp,hl6,ul,lz⟩
   exact cL.of (kp _ _ hm nml)
  ·rintro i v σ H6 hv ⟨us,e4,e5,e6,rfl,kp,hl6,ul,lz⟩
   have il:=(List.getElem?_eq_some_iff.mp hv).1;obtain⟨tk,htk⟩:∃tk,((fR 0 (gv qd)).filter (c8 qd sd))[i]? =some tk:=⟨_,getElem?_eq_getElem (by rw[<-tu.1];exact il)⟩;obtain⟨a,rfl,ha⟩:=tu.2 _ _ _ hv htk;obtain⟨q,hq,_⟩:=jY qk (mem_filter.mp (mem_of_getElem? htk)).1;obtain⟨vq,hvq⟩:∃vq,ts[tk.1]? =some vq:=⟨_,getElem?_eq_getElem (by rw[qs.1];exact(List.getElem?_eq_some_iff.mp hq).1)⟩;obtain⟨aq,rfl,haq⟩:=qs.2 _ _ _ hvq hq;have ntup:∀{b:Addr}{zs:List V},H5 b=some (.tup zs)->b≠l:=λh e=>by rw[e,hl5]at h;cases h
   have haq5:=s05 _ _ haq;have ha6:=kp _ _ ha (ntup ha);have haq6:=kp _ _ haq5 (ntup haq5);have htb6:=kp _ _ htb5 nlt;refine⟨a,_,rfl,cW.of ha6,rfl,_,_,rfl,_,_,rfl,_,_,rfl,rfl,?_⟩;refine⟨_,rfl,.inl ⟨rfl,_,cL.of hl6⟩,_,rfl,_,rfl,_,rfl,xL htb6 (cQ hvq) (xT haq6 rfl ⟨_,rfl,_,rfl,m8,λwa nwa=>⟨m8,λta nta=>?_⟩⟩)⟩;have sA:=cF.upd (o:=.tup [.str "heard",.int (tk.1:Nat),.str tk.2.1]) nwa;have sB:=cF.upd (o:=.tup [.str tk.2.2,.int q.1,.ref wa]) nta;have sAB:=sA.trans sB;have hl7:=sAB _ _ hl6;refine⟨l,us,.ref ta,rfl,rfl,hl7,by omega,?_⟩;have tkU:=Tk.upd hl7 (ys:=us++[.ref ta]);have tdE:qi qd tk=(tk.2.2,q.1,.hrd tk.1 tk.2.1):=by
    unfold qi;rw[eP hq]
   have tt:(((fR 0 (gv qd)).filter (c8 qd sd)).map (qi qd)).take (i+1)=(((fR 0 (gv qd)).filter (c8 qd sd)).map (qi qd)).take i++[qi qd tk]:=by
    rw[take_add_one,getElem?_map,htk];rfl
   refine⟨us++[.ref ta],_,_,_,rfl,λb o e n=>by rw[cH n];exact sAB _ _ (kp b o e n),cD,by rw[length_append];show us.length+1<=_;omega,?_⟩;rw[tt,<-append_assoc];refine Lz.snoc ((lz.mono (dW.mono (Tk.of sAB))).mono (dW.mono tkU)) ⟨ta,rfl,?_⟩;rw[tdE];exact dS.mono tkU ⟨wa,cD,sB _ _ cD⟩
  ·rintro σ H6 ⟨us,e4,e5,e6,rfl,kp,hl6,ul,lz⟩
   refine⟨_,rfl,k l us H6 (λb o e=>kp b o (s05 _ _ e) (cE e (s03.free nl))) (s03.free nl) hl6 ?_ (by omega)⟩;rw[take_of_length_le (by rw[length_map];omega)]at lz;exact lz
def GK(ds:List ED)(F:FH)(z:Str):ED:=(ds.find? (pE F z ((F z).getD 0))).getD (z,0,.saw 0)
theorem E4{ds:List ED}{F:FH}{z:Str}{h:Int}{d:ED}(hF:F z=some h)(e:ds.find? (pE F z h)=some d):GK ds F z=d:=by
 unfold GK;rw[hF];show(ds.find? (pE F z h)).getD _=d;rw[e];rfl
structure kf(ds:List ED)(F:FH)(st:List ED):Prop where
 nd:(st.map (·.1)).Nodup
 so:PyProof.Rows.sortedS (st.map (·.1))=true
 me:∀z,z∈st.map (·.1)↔(F z).isSome=true
 fi:∀d∈st,F d.1=some d.2.1/\ds.find? (pE F d.1 d.2.1)=some d
theorem uz{ds:List ED}{z:Str}{h:Int}(r:mL ds z h):∃d∈ds,d.1=z:=by
 cases r with
 |saw m=>exact⟨_,m,rfl⟩
 |hrd m _ _=>exact⟨_,m,rfl⟩
inductive M9(vs:List V)(H:Hp)(Q:VK):Prop
 |mk(en:Addr)(as:List Addr)(ds:List ED)(ps:List Str)(e:vs=[.ref en])(he:H en=some (.lst (as.map V.ref)))(al:as.length<=500)(ll:as.length=ds.length)(le:∀(i:Nat) a d,as[i]? =some a->ds[i]? =some d->dS H a d)(pl:ps.length<=24)(pm:∀d∈ds,d.1∈ps)
   (k:∀(l:Addr)(us:List V)(F:FH)(st:List ED)(H':Hp),cF H H'->H l=none->H' l=some (.lst us)->Lz dW H' us st->dM ds F->kf ds F st->Q (.ref l) H')
def Hc:Sp:=λvs H Q _=>M9 vs H Q
theorem oB:cI ["entries", "known"] ["entries"] (cG gE):={}
theorem Ht (D:Df K mg "first_story" gE ["entries"] f fd) (T:Txt K mg kw C) (G_first_entries:Gd P w K mg base 4 "first_entries" GP):Gd P w K mg base 5 "first_story" Hc:=by
 refine aH D oB λX H vs Q E hh h=>?_;obtain⟨en,as,ds,ps,rfl,he,al,ll,le,pl,pmm,k⟩:=h;obtain⟨S0,S1,_⟩:=hh.eB [0,1];have B_sorted:=hh.b T.b_sorted;have C_first_entries:=hh.c G_first_entries;have hu:=eU hh.room;have hsz:sizeLine=16777216:=sizeLine_eq;refine⟨_,(ag (aD S1 hh.nd (aw C_first_entries (ao (aa S0))))
 (aj (au (bK (is:=[1]) (xs:=["person"]) (ns:=["known"]) hh.calm (aO (aE B_sorted (J.fP hh.calm) L2.jy (ao (aa S1)))) {} (λ_ _ _ _ _=>(aR (i:=0) (by decide+kernel) rfl rfl)) (λ_ _ _ _ _=>bV) (λ_ _ _ _ _=>(bS hu (aY (i:=1) rfl rfl (by decide) (by decide)) (aK (i:=0) rfl rfl (by decide) (by decide)) aX)) hh.hsc hh.hN)))),?_⟩
 refine⟨_,rfl,en,as,ds,rfl,he,al,ll,le,λkn kvs F H1 s1 nkn hkn kd fo sk fst=>?_⟩;obtain⟨zs,sk,nd⟩:=sk;have zF:∀z,z∈zs↔(F z).isSome=true:=λz=>by
  rw[zu sk];cases hF:F z with
  |none=>
   rw[kd.no z hF];exact⟨λh=>(by cases h),λh=>(by cases h)⟩
  |some h=>
   obtain⟨a,w,e,_⟩:=kd.yes z h hF;rw[e];exact⟨λ_=>rfl,λ_=>rfl⟩
 have zl:zs.length<=ps.length:=oH nd λz hz=>by
  obtain⟨h,hF⟩:=isSome_iff_exists.mp ((zF z).mp hz);obtain⟨d,md,rfl⟩:=uz (fo.so z h hF);exact pmm d md
 refine⟨_,rfl,kn,kvs,zs,rfl,hkn,sk,by omega,λl1 zs' nl1 _ pm so=>?_⟩;have s2:=cF.upd (o:=.lst (zs'.map V.str)) nl1;have hl1:upd H1 l1 (.lst (zs'.map V.str)) l1=some (.lst (zs'.map V.str)):=cD;generalize upd H1 l1 (.lst (zs'.map V.str))=H2 at s2 hl1;have nd':zs'.Nodup:=pm.symm.nodup nd;have zF':∀z,z∈zs'↔(F z).isSome=true:=λz=>(pm.mem_iff).trans (zF z);have zl':=pm.length_eq;have ee:∀z∈zs',∃h a w,F z=some h/\GK ds F z=(z,h,w)/\dz kvs (Sum.inr z)=some (.ref a)/\dS H1 a (z,h,w)/\ds.find? (pE F z h)=some (z,h,w):=λz hz=>by
  obtain⟨h,hF⟩:=isSome_iff_exists.mp ((zF' z).mp hz);obtain⟨a,w,e1,e2,e3⟩:=fst z h hF;exact⟨h,a,w,hF,E4 hF e3,e1,e2,e3⟩
 refine⟨l1,rfl,⟨_,cL.of hl1⟩,oz (λj H v=>∃z,zs'[j]? =some z/\dW H v (GK ds F z)) (λ_ _ _ _ tk ⟨z,e,h⟩=>⟨z,e,h.mono tk⟩) (cL.of hl1) (by rw[length_map];omega) ?_ ?_⟩
 ·intro i v H5 K1 hv s5 k1
  rw[getElem?_map]at hv;obtain⟨z,hz,rfl⟩:=map_eq_some_iff.mp hv;obtain⟨h,a,w,hF,e0,e1,e2,_⟩:=ee z (mem_of_getElem? hz);have dg:=eT.k (k:=Sum.inr z) (s5 _ _ (s2 _ _ hkn));rw[e1]at dg;exact⟨_,rfl,_,rfl,kn,_,rfl,dg,k1 _ _ (cF.refl _) ⟨z,hz,a,rfl,by rw[e0];exact e2.mono (Tk.of (s2.trans s5))⟩⟩
 ·intro rw' ws H5 nrw s5 hrw wl wr
  have e1:(zs'.map (GK ds F)).map (·.1)=zs':=by
   rw[map_map];refine(map_congr_left λz hz=>?_).trans (List.map_id _);obtain⟨h,a,w,_,e0,_⟩:=ee z hz;show(GK ds F z).1=z;rw[e0]
  refine k rw' ws F (zs'.map (GK ds F)) H5 ((s1.trans s2).trans s5) ((s1.trans s2).free nrw) hrw ⟨by rw[wl,length_map,length_map],λj v d hv hd=>?_⟩ fo ⟨by rw[e1];exact nd',by rw[e1];exact so,by rw[e1];exact zF',λd hd=>?_⟩
  ·obtain⟨z,hz,h⟩:=wr j v hv
   rw[getElem?_map,hz]at hd;cases hd;exact h
  ·obtain⟨z,hz,rfl⟩:=mem_map.mp hd
   obtain⟨h,a,w,hF,e0,_,_,ff⟩:=ee z hz;rw[e0];exact⟨hF,ff⟩
theorem wK:∀{us:List V},(∀v∈us,∃a,v=V.ref a)->∃as:List Addr,us=as.map V.ref
 |[],_=>⟨[],rfl⟩
 |v::r,h=>by
  obtain⟨a,rfl⟩:=h v mem_cons_self;obtain⟨as,e⟩:=wK λu hu=>h u (mem_cons_of_mem _ hu);exact⟨a::as,by rw[e];rfl⟩
theorem C4{H:Hp}{us:List V}{ds:List ED}(lz:Lz dW H us ds):∃as:List Addr,us=as.map V.ref/\as.length=ds.length/\∀(i:Nat) a d,as[i]? =some a->ds[i]? =some d->dS H a d:=by
 obtain⟨as,rfl⟩:=wK (us:=us) λv hv=>by
  obtain⟨i,hi⟩:=getElem?_of_mem hv;obtain⟨d,_,a,e,_⟩:=lz.at hi;exact⟨a,e⟩
 refine⟨as,rfl,by rw[<-lz.1,length_map],λi a d ha hd=>?_⟩;obtain⟨a',e,h⟩:=lz.2 i _ d (by rw[getElem?_map,ha];rfl) hd;cases e;exact h
theorem lI{sg:List GD}{qd:List QD}{sd:List SD}{z:Str}{h:Int}{i:Nat}(m:(z,h,EW.saw i)∈fI sg qd sd):i∈(List.range sg.length).filter (iq sg (eG sd))/\sg[i]? =some (z,h):=by
 unfold fI at m;rcases mem_append.mp m with m|m
 ·obtain⟨j,mj,e⟩:=mem_map.mp m
  have jl:=mem_range.mp (mem_filter.mp mj).1;have hg:sg[j]? =some sg[j]:=getElem?_eq_getElem jl;unfold sP at e;rw[hg]at e;have e':(sg[j].1,sg[j].2,EW.saw j)=(z,h,EW.saw i):=e;cases e';exact⟨mj,hg⟩
 ·obtain⟨t,_,e⟩:=mem_map.mp m
  unfold qi at e;cases e
theorem lH{sg:List GD}{qd:List QD}{sd:List SD}{z te:Str}{h:Int}{k:Nat}(m:(z,h,EW.hrd k te)∈fI sg qd sd):(k,te,z)∈(fR 0 (gv qd)).filter (c8 qd sd)/\d4 qd k=h:=by
 unfold fI at m;rcases mem_append.mp m with m|m
 ·obtain⟨j,mj,e⟩:=mem_map.mp m
  unfold sP at e;cases hg:sg[j]? with
  |none=>rw[hg]at e;cases e
  |some g=>rw[hg]at e;cases e
 ·obtain⟨t,mt,e⟩:=mem_map.mp m
  unfold qi at e;cases e;exact⟨mt,rfl⟩
theorem Ku{a b:Str}{i j:Int}:uT [.str a,.int i] [.str b,.int j]=decide (some (a,i)=some (b,j)):=by
 show(((a == b) && ((i == j) && true)) && true)=_;rw[Bool.eq_iff_iff];simp
theorem KR(a:Int)(b c:Str):uT [.int a,.str b,.str c] [.int a,.str b,.str c]=true:=by
 show(((a == a) && ((b == b) && ((c == c) && true))) && true)=true;simp
theorem Cq{H:Hp}{us:List V}{ks:List TK}{k:Nat}{te z:Str}(tu:ej H us ks)(m:(k,te,z)∈ks):us.any (Hh H [.int (k:Nat),.str te,.str z])=true:=by
 obtain⟨i,hi⟩:=getElem?_of_mem m;obtain⟨u,hu⟩:∃u,us[i]? =some u:=⟨_,getElem?_eq_getElem (by rw[tu.1];exact(List.getElem?_eq_some_iff.mp hi).1)⟩;obtain⟨c,rfl,hc⟩:=tu.2 _ _ _ hu hi;refine any_eq_true.mpr ⟨_,mem_of_getElem? hu,?_⟩;show(match H c with|some (.tup zs)=>uT zs _|_=>false)=true;rw[hc];exact KR _ _ _
theorem Bo{H:Hp}{us:List V}{ks:List TK}(tu:ej H us ks):∀v∈us,∃c zs,v=.ref c/\H c=some (.tup zs)/\zs.all df=true:=λv hv=>by
 obtain⟨i,hi⟩:=getElem?_of_mem hv;obtain⟨t,ht⟩:∃t,ks[i]? =some t:=⟨_,getElem?_eq_getElem (by rw[<-tu.1];exact(List.getElem?_eq_some_iff.mp hi).1)⟩;obtain⟨c,rfl,hc⟩:=tu.2 _ _ _ hi ht;exact⟨c,_,rfl,hc,rfl⟩
inductive MG(vs:List V)(H:Hp)(Q:VK):Prop
 |mk(th s t y kn a:Addr)(ps:List Str)(ss ts ys:List V)(sg:List GD)(qd:List QD)(sd:List SD)(kvs:List (Key×V))(F:FH)(d:ED)(e:vs=[.ref th,.ref kn,.ref a])(hth:H th=some (.tup [.ref s,.ref t,.ref y]))(hs:H s=some (.lst ss))(ht:H t=some (.lst ts))(hy:H y=some (.lst ys))(sl:ss.length<=24)(tl:ts.length<=120)
   (gs:Lz dH H ss sg)(gh:∀d∈sg,cT d.2)(qs:Lz dJ H ts qd)(qk:∀d∈qd,lx ps d)(sy:Sys H ys sd)(hkn:H kn=some (.dK kvs))(get:∀z,dz kvs (Sum.inr z)=(F z).map V.int)(ev:dS H a d)(md:d∈fI sg qd sd)(cf:nJ F d=true)(k:∀H',cF H H'->Q (.bl true) H')
def GZ:Sp:=λvs H Q _=>MG vs H Q
theorem pU:cI ["_law_things_here", "_law_known", "_law_row", "_law_numbers", "_law_tellings_here", "_law_person", "_law_when", "_law_way"] ["_law_things_here", "_law_known", "_law_row"] (cG iS):={}
theorem Ia (D:Df K mg "_law_good_way" iS ["_law_things_here", "_law_known", "_law_row"] f fd) (T:Txt K mg kw C) (G__law_open:Gd P w K mg base 3 "_law_open" iz):Gd P w K mg base 4 "_law_good_way" GZ:=by
 refine aH D pU λX H vs Q E hh h=>?_;obtain⟨th,s,t,y,kn,a,ps,ss,ts,ys,sg,qd,sd,kvs,F,d,rfl,hth,hs,ht,hy,sl,tl,gs,gh,qs,qk,sy,hkn,get,ev,md,cf,k⟩:=h;obtain⟨S0,S1,S2,S3,S4,S5,S6,S7,_⟩:=hh.eB [0,1,2,3,4,5,6,7];have B_bool:=hh.b T.b_bool;have B_int:=hh.b T.b_int;have B_isinstance:=hh.b T.b_isinstance;have B_len:=hh.b T.b_len;have B_tuple:=hh.b T.b_tuple;have C__law_open:=hh.c G__law_open;have hu:=eU hh.room;refine⟨_,(ag (bO (aw C__law_open (ao (aa S0))) (bq hh.calm (aF (aG S3 hh.nd) (aF (aG S4 hh.nd) bh))))
 (ag (bO (aa S2) (bq hh.calm (aF (aG S5 hh.nd) (aF (aG S6 hh.nd) (aF (aG S7 hh.nd) bh)))))
 (ag (aI (aS (bg (a5 (aQ (aE B_isinstance bF L2.cK (aA (aa S7) (J.ty B_tuple L2.hU))))) (bg (a5 (aQ (aE B_isinstance bF L2.cK (aA (aa S6) (J.ty B_int L2.qS))))) (bg (aQ (aE B_isinstance bF L2.cK (aA (aa S6) (J.ty B_bool L2.nH)))) (bu (aQ (aE B_isinstance bF L2.cK (aA (af ak (aa S7) ae ah) (J.ty B_bool L2.nH)))))))))
 (aj (au a9))
 aJ)
 (ag (aI (aB aL (af ak (aa S7) ae ah) aP (L2.cJ _))
 (aj (au (aU (aT aL (aE B_len bw L2.dE (ao (aa S7))) ae (L2.cJ _)) (aU (aT J.ip (af ak (aa S7) ae ah) (aa S3) J.gB) (a7 (aT (J.nQ hu) (cb J.wo (af aZ (af ak (aa S0) ae ah) (af ak (aa S7) ae ah) b8) b6 (b9 ae)) (aV (aA (aa S5) (aa S6))) (L2.cJ _)))))))
 aJ)
 (ag (aI (aS (bg (aB bQ (af ak (aa S7) ae ah) aP (L2.cJ _)) (bg (aB bQ (aE B_len bw L2.dE (ao (aa S7))) ae (L2.cJ _)) (bu (aB (J.gH hu) (aV (aM (af ak (aa S7) ae ah) (af ak (aa S7) ae ah) (aa S5))) (aa S4) J.gB)))))
 (aj (au a9))
 aJ)
 (aj (au (aU (aT aL (af ak (af aZ (af ak (aa S0) ae ah) (af ak (aa S7) ae ah) b8) ae ah) (aa S6) (L2.cJ _)) (aU (J.pJ hu (af ak (aa S7) ae ah) (aa S1)) (a7 (aT bU (bS hu (aa S1) (af ak (aa S7) ae ah) b8) (aa S6) (L2.cJ _)))))))))))),?_⟩
 refine⟨_,rfl,th,s,t,y,ps,ss,ts,ys,sg,qd,sd,rfl,hth,hs,ht,hy,sl,tl,gs,gh,qs,qk,sy,λr nb tl us H1 s1 _ _ _ hr hnb htl tu=>?_⟩;refine⟨r,_,rfl,cW.of hr,rfl,_,_,rfl,_,_,rfl,rfl,?_⟩;obtain⟨wa,ha,hw⟩:=ev.mono (Tk.of s1);refine⟨_,rfl,a,_,rfl,cW.of ha,rfl,_,_,rfl,_,_,rfl,_,_,rfl,rfl,?_⟩;obtain⟨z,h,w⟩:=d;cases w with
 |saw i=>
  obtain⟨mi,hg⟩:=lI md;have il:i < sg.length:=(List.getElem?_eq_some_iff.mp hg).1;obtain⟨vg,hvg⟩:∃vg,ss[i]? =some vg:=⟨_,getElem?_eq_getElem (by rw[gs.1];exact il)⟩;obtain⟨ga,tale,rfl,hga⟩:=gs.2 _ _ _ hvg hg;have hw':H1 wa=some (.tup [.str "saw",.int (i:Nat)]):=hw;refine⟨_,rfl,_,_,_,_,rfl,dU.tup hw',kI,_,rfl,iN ⟨_,rfl,_,_,_,_,rfl,dU.int _,kI,_,rfl,iN ⟨_,rfl,_,_,_,_,rfl,dU.int _,kI,_,rfl,iN ⟨_,rfl,xT hw' rfl ⟨_,_,_,_,rfl,dU.int _,kI,_,rfl,cV ?_⟩⟩⟩⟩⟩;refine⟨_,rfl,xT hw' rfl ⟨rfl,_,rfl,iP ?_⟩⟩;refine⟨_,rfl,wa,_,rfl,.inr (cW.of hw'),rfl,_,rfl,eZ (show decide (V.int 2=V.int 2)=true from by decide) ⟨_,rfl,xT hw' rfl ⟨_,rfl,nb,_,rfl,.inl (cL.of hnb),rfl,?_,_,rfl,eZ ?_ ?_⟩⟩⟩
  ·unfold eA
   rw[all_map];exact all_eq_true.mpr λ_ _=>rfl
  ·show Am (.int (i:Nat)) (eA sg sd sg.length)=true
   unfold Am eA;rw[any_map];refine any_eq_true.mpr ⟨i,mi,?_⟩;show((i:Int) == (i:Int))=true;exact beq_self_eq_true _
  ·refine⟨_,rfl,xT (s1 _ _ hth) rfl ⟨_,rfl,xT hw' rfl (xL (s1 _ _ hs) (cQ hvg) ⟨_,rfl,ga,_,rfl,cW.of (s1 _ _ hga),(show ¬(HT.eJ 3 0 none=0/\HT.eJ 3 3 (some 2)=3) from by decide),λp1 np1=>?_⟩)⟩⟩
   have s3:=cF.upd (o:=.tup [.str z,.int h]) np1;have hp1:upd H1 p1 (.tup [.str z,.int h]) p1=some (.tup [.str z,.int h]):=cD;refine⟨_,rfl,_,rfl,DV,λp2 np2=>?_⟩;have s4:=cF.upd (o:=.tup [.str z,.int h]) np2;refine⟨p1,p2,_,_,rfl,rfl,s4 _ _ hp1,cD,rfl,rfl,?_⟩;rw[Ku,decide_eq_true rfl];exact k _ (s1.trans (s3.trans s4))
 |hrd kk te=>
  obtain⟨mt,hh'⟩:=lH md;have hw':H1 wa=some (.tup [.str "heard",.int (kk:Nat),.str te]):=hw;obtain⟨q,hq,_⟩:=jY qk (mem_filter.mp mt).1;obtain⟨vq,hvq⟩:∃vq,ts[kk]? =some vq:=⟨_,getElem?_eq_getElem (by rw[qs.1];exact(List.getElem?_eq_some_iff.mp hq).1)⟩;obtain⟨aq,rfl,haq⟩:=qs.2 _ _ _ hvq hq;have eh:q.1=h:=by rw[<-eP hq];exact hh'
  have cf':(match F te with|none=>false|some a=>decide (a < h))=true:=cf;obtain⟨b,hb,bl⟩:∃b,F te=some b/\b < h:=by
   cases hT:F te with
   |none=>rw[hT]at cf';cases cf'
   |some b=>rw[hT]at cf';exact⟨b,rfl,of_decide_eq_true cf'⟩
  refine⟨_,rfl,_,_,_,_,rfl,dU.tup hw',kI,_,rfl,iN ⟨_,rfl,_,_,_,_,rfl,dU.int _,kI,_,rfl,iN ⟨_,rfl,_,_,_,_,rfl,dU.int _,kI,_,rfl,iN ⟨_,rfl,xT hw' rfl ⟨_,_,_,_,rfl,dU.int _,kI,_,rfl,cV ?_⟩⟩⟩⟩⟩;refine⟨_,rfl,xT hw' rfl ⟨rfl,_,rfl,iN ?_⟩⟩;refine⟨_,rfl,xT hw' rfl ⟨rfl,_,rfl,iN ⟨_,rfl,wa,_,rfl,.inr (cW.of hw'),rfl,_,rfl,hZ (show ¬(!decide (V.int 3=V.int 3))=true from by decide) ⟨_,rfl,xT hw' rfl ⟨_,rfl,xT hw' rfl ⟨_,rfl,m8,λp1 np1=>?_⟩⟩⟩⟩⟩⟩;have s3:=cF.upd (o:=.tup [.int (kk:Nat),.str te,.str z]) np1;have tu3:=tu.mono (Tk.of s3);refine⟨_,rfl,p1,tl,_,_,rfl,rfl,cD,cL.of (s3 _ _ htl),rfl,Bo tu3,_,rfl,hZ ?_ ?_⟩
  ·rw[Cq tu3 mt]
   decide
  ·have s13:=s1.trans s3
   have hw3:=s3 _ _ hw';have dg:=eT.k (k:=Sum.inr te) (s13 _ _ hkn);rw[get,hb]at dg;refine⟨_,rfl,xT (s13 _ _ hth) rfl ⟨_,rfl,xT hw3 rfl (xL (s13 _ _ ht) (cQ hvq) (xT (s13 _ _ haq) rfl ⟨_,rfl,rfl,_,rfl,eZ (decide_eq_true (congrArg V.int eh)) ⟨_,rfl,xT hw3 rfl ⟨_,rfl,kn,_,rfl,dg,_,rfl,dq ⟨_,rfl,_,rfl,xT hw3 rfl ⟨kn,_,rfl,dg,_,rfl,_,_,rfl,rfl,?_⟩⟩⟩⟩⟩))⟩⟩;rw[decide_eq_true bl];exact k _ s13
def iY(st:List ED):List (Key×V):=st.map λd=>(Sum.inr d.1,V.int d.2.1)
theorem tJ{st:List ED}{i:Nat}{d:ED}(nd:(st.map (·.1)).Nodup)(hd:st[i]? =some d):putK (iY (st.take i)) (Sum.inr d.1) (.int d.2.1)=iY (st.take (i+1)):=by
 have no:((iY (st.take i)).any λkv=>decide (kv.1=Sum.inr d.1))=false:=by
  rw[any_eq_false];intro kv hkv e;obtain⟨d',hd',rfl⟩:=mem_map.mp hkv;have e':d'.1=d.1:=Sum.inr.inj (of_decide_eq_true e);obtain⟨j,hj,hj'⟩:=m7 hd';have h1:(st.map (·.1))[j]? =some d.1:=by rw[getElem?_map,hj'];exact congrArg some e'
  have h2:(st.map (·.1))[i]? =some d.1:=by rw[getElem?_map,hd];rfl
  have:=(List.getElem?_inj (by exact(List.getElem?_eq_some_iff.mp h1).1) nd).mp (h1.trans h2.symm);omega
 unfold putK;rw[no,if_neg Bool.false_ne_true,take_add_one,hd];unfold iY;rw[map_append];rfl
theorem i8{ds st:List ED}{F:FH}(so:kf ds F st)(z:Str):dz (iY st) (Sum.inr z)=(F z).map V.int:=by
 unfold dz iY;rw[find?_map];cases h:st.find? ((λkv:Key×V=>decide (kv.1=Sum.inr z)) ∘ λd=>(Sum.inr d.1,V.int d.2.1)) with
 |none=>
  cases hF:F z with
  |none=>rfl
  |some i=>
   obtain⟨d,hd,e⟩:=mem_map.mp ((so.me z).mpr (by rw[hF];rfl));have:=List.find?_eq_none.mp h d hd;exact absurd (decide_eq_true (congrArg Sum.inr e)) this
 |some d=>
  have e0:decide ((Sum.inr d.1:Key)=Sum.inr z)=true:=List.find?_some (p:=(λkv:Key×V=>decide (kv.1=Sum.inr z)) ∘ λd:ED=>(Sum.inr d.1,V.int d.2.1)) h;have e:d.1=z:=Sum.inr.inj (of_decide_eq_true e0);have:=(so.fi d (List.mem_of_find?_eq_some h)).1;rw[e]at this;rw[this];rfl
theorem EO{K:PySem.W.Frag}{H:Hp}{a b:Addr}{zs:List Str}{Q:VK}(s:cL K H a (zs.map V.str))(t:cL K H b (zs.map V.str))(q:Q (.bl false) H):GC K (.ref a) (.ref b) H Q:=by
 refine .same a b _ _ (List.replicate (zs.map V.str).length true) rfl rfl s t (List.length_replicate ..).symm (List.length_replicate ..).symm (λi u v c hu hv hc=>?_) ?_
 ·rw[hu]at hv
  cases hv;rw[List.eq_of_mem_replicate (mem_of_getElem? hc)];obtain⟨z,_,rfl⟩:=mem_map.mp (mem_of_getElem? hu);show(if df (V.str z)=true/\df (V.str z)=true then some (uv (V.str z) (V.str z)) else none)=some true;rw[if_pos ⟨rfl,rfl⟩];show some (z == z)=some true;rw[beq_self_eq_true]
 ·rw[DQ,show(List.replicate (zs.map V.str).length true).all id=true from all_eq_true.mpr λb hb=>List.eq_of_mem_replicate hb]
  exact q
theorem qQ(n:Nat)(f:Nat->V):((List.range n).filter λ_=>false).map f=[]:=by simp
inductive Kl(vs:List V)(H:Hp)(Q:VK):Prop
 |mk(th s t y l:Addr)(ps:List Str)(ss ts ys us:List V)(sg:List GD)(qd:List QD)(sd:List SD)(ds:List ED)(F:FH)(st:List ED)(e:vs=[.ref th,.ref l])(hth:H th=some (.tup [.ref s,.ref t,.ref y]))(hs:H s=some (.lst ss))(ht:H t=some (.lst ts))(hy:H y=some (.lst ys))(sl:ss.length<=24)(tl:ts.length<=120)
   (gs:Lz dH H ss sg)(gh:∀d∈sg,cT d.2)(qs:Lz dJ H ts qd)(qk:∀d∈qd,lx ps d)(sy:Sys H ys sd)(kal:sd.all (pV F)=true)(hl:H l=some (.lst us))(lz:Lz dW H us st)(so:kf ds F st)(sub:∀d∈ds,d∈fI sg qd sd)(stl:st.length<=24)(k:∀H',cF H H'->Q (.bl true) H')
def AL:Sp:=λvs H Q _=>Kl vs H Q
theorem nC:cI ["_law_things_here", "_law_story", "_law_known", "_law_row"] ["_law_things_here", "_law_story"] (cG gf):={}
theorem FN (D:Df K mg "_law_good_story" gf ["_law_things_here", "_law_story"] f fd) (T:Txt K mg kw C) (G__law_knew_so:Gd P w K mg base 1 "_law_knew_so" gQ) (G__law_good_way:Gd P w K mg base 4 "_law_good_way" GZ):Gd P w K mg base 5 "_law_good_story" AL:=by
 refine aH D nC λX H vs Q E hh h=>?_;obtain⟨th,s,t,y,l,ps,ss,ts,ys,us,sg,qd,sd,ds,F,st,rfl,hth,hs,ht,hy,sl,tl,gs,gh,qs,qk,sy,kal,hl,lz,so,sub,stl,k⟩:=h;obtain⟨S0,S1,S2,S3,_⟩:=hh.eB [0,1,2,3];have B_isinstance:=hh.b T.b_isinstance;have B_list:=hh.b T.b_list;have B_sorted:=hh.b T.b_sorted;have C__law_knew_so:=hh.c G__law_knew_so;have BI_isinstance:Hk X "isinstance" :=hh.KW T.b_isinstance (by decide) (by decide);have BI_len:Hk X "len" :=hh.KW T.b_len (by decide) (by decide);have BI_tuple:Hk X "tuple" :=hh.KW T.b_tuple (by decide) (by decide);have CI__law_good_way:=hh.ci G__law_good_way;have hu:=eU hh.room;have hsz:sizeLine=16777216:=sizeLine_eq;have ul:=lz.1;refine⟨_,(ag (aI (aS (bg (a5 (aQ (aE B_isinstance bF L2.cK (aA (aa S1) (J.ty B_list L2.dG))))) (bu (aB (J.lJ hu) (bK (is:=[]) (xs:=["_law_row"]) (ns:=[]) hh.calm (aO (aa S1)) {} (λ_ _ _ _ _=>(aR (i:=0) (by decide+kernel) rfl rfl)) (λ_ _ _ _ _=>(bz (aS (bg (a5 (aQ (aE (BI_isinstance.lg rfl) J.yR L2.cK (aA (aK (i:=0) rfl rfl (by decide) (by decide)) (J.ty (BI_tuple.lg rfl) L2.hU))))) (bu (aB bQ (aE (BI_len.lg rfl) J.pX L2.dE (ao (aK (i:=0) rfl rfl (by decide) (by decide)))) ae (L2.cJ _))))))) (λ_ _ _ _ _=>(aK (i:=0) rfl rfl (by decide) (by decide))) hh.hsc hh.hN) (ba bE) (L2.cJ _)))))
 (aj (au a9))
 aJ)
 (ag (aD S2 hh.nd cn)
 (ag (bo hh.own hh.calm (aO (aa S1)) (aG S3 hh.nd)
 (aj (bZ hu (aa S2) (af ak (aa S3) ae ah) (af ak (aa S3) ae ah))))
 (ag (aI (aS (bg (aB (J.lJ hu) (aE B_sorted (J.fP hh.calm) L2.jy (ao (aa S2))) (bK (is:=[]) (xs:=["_law_row"]) (ns:=[]) hh.calm (aO (aa S1)) {} (λ_ _ _ _ _=>(aR (i:=0) (by decide+kernel) rfl rfl)) (λ_ _ _ _ _=>bV) (λ_ _ _ _ _=>(af bf (aK (i:=0) rfl rfl (by decide) (by decide)) ae ah)) hh.hsc hh.hN) (L2.cJ _)) (bu (a5 (aQ (aw C__law_knew_so (aA (af ak (aa S0) ae ah) (aa S2))))))))
 (aj (au a9))
 aJ)
 (aj (au (aT (J.nN hu) (bK (is:=[0,2]) (xs:=["_law_row"]) (ns:=["_law_things_here", "_law_known"]) hh.calm (aO (aa S1)) {} (λ_ _ _ _ _=>(aR (i:=0) (by decide+kernel) rfl rfl)) (λ_ _ _ _ _=>(bz (a5 (aQ (aw (CI__law_good_way.lg rfl) (aM (aY (i:=1) rfl rfl (by decide) (by decide)) (aY (i:=2) rfl rfl (by decide) (by decide)) (aK (i:=0) rfl rfl (by decide) (by decide)))))))) (λ_ _ _ _ _=>(aK (i:=0) rfl rfl (by decide) (by decide))) hh.hsc hh.hN) (ba bE) (L2.cJ _)))))))),?_⟩
 refine⟨_,rfl,_,_,_,_,rfl,dU.lst hl,kI,_,rfl,iN ⟨_,rfl,l,rfl,⟨_,cL.of hl⟩,dj (xs:=us) (λ_=>false) (λ_=>.non) (cL.of hl) (by omega) ?_ ?_⟩⟩
 ·intro i os v H1 K1 K2 hv hos s1 k1 k2
  obtain⟨o,rfl⟩:=osA hos
  ·
   obtain⟨d,hd,a,rfl,wa,ha,hw⟩:=lz.at hv;have ha1:=s1 _ _ ha;exact⟨⟨[some (.ref a)],rfl,rfl⟩,⟨_,rfl,_,_,_,_,rfl,dU.tup ha1,kI,_,rfl,iN ⟨_,rfl,a,_,rfl,.inr (cW.of ha1),rfl,_,rfl,hZ (show ¬(!decide (V.int 3=V.int 3))=true from by decide) (k2 rfl H1 (cF.refl _))⟩⟩⟩
 intro c1 H1 nc1 s1 hc1;rw[qQ]at hc1;refine⟨wW,λc2 nc2=>?_⟩;have s2:=cF.upd (o:=.lst []) nc2;refine .same c1 c2 [] [] [] rfl rfl (cL.of (s2 _ _ hc1)) (cL.of cD) rfl rfl (λi u v c h=>by cases h) ⟨_,rfl,cV ?_⟩;have s02:=s1.trans s2;generalize upd H1 c2 (.lst [])=H2 at s02;clear hc1 s1 s2 nc1 nc2;intro kn nkn;have s3:=cF.upd (o:=.dK []) nkn;have hk3:upd H2 kn (.dK []) kn=some (.dK []):=cD;generalize upd H2 kn (.dK [])=H3 at s3 hk3;have s03:=s02.trans s3;have nkn0:H kn=none:=s02.free nkn;refine⟨_,rfl,l,rfl,⟨_,cL.of (s03 _ _ hl)⟩,da (K:=X.K) (a:=l) (xs:=us) (λi σ H4=>∃e3:Option V,σ=[some (.ref th),some (.ref l),some (.ref kn),e3]/\cF H H4/\H4 kn=some (.dK (iY (st.take i)))) ⟨none,rfl,s03,hk3⟩ ?_ ?_ ?_⟩
 ·rintro i σ H4 hi ⟨e3,rfl,s4,hk4⟩
  exact cL.of (s4 _ _ hl)
 ·rintro i v σ H4 hv ⟨e3,rfl,s4,hk4⟩
  obtain⟨d,hd,a,rfl,wa,ha,hw⟩:=lz.at hv;have ha4:=s4 _ _ ha;have il:=(List.getElem?_eq_some_iff.mp hd).1;have kl:(iY (st.take i)).length < sizeLine:=by
   unfold iY;rw[length_map,length_take];omega
  refine⟨_,rfl,xT ha4 rfl ⟨_,rfl,_,rfl,xT ha4 rfl ⟨kn,_,rfl,l6.k (k:=Sum.inr d.1) hk4 kl,_,rfl,λb o e=>?_,?_⟩⟩⟩
  ·rw[cH (cE e nkn0)]
   exact s4 _ _ e
  ·rw[cD,tJ so.nd hd]
 ·rintro σ H4 ⟨e3,rfl,s4,hk4⟩
  rw[ul,take_length]at hk4;refine⟨_,rfl,kn,_,st.map (·.1),rfl,hk4,?_,by rw[length_map];omega,λl1 zs' nl1 _ pm zo=>?_⟩
  ·unfold iY
   rw[map_map,map_map];rfl
  cases jU pm zo so.so;have s5:=cF.upd (o:=.lst ((st.map (·.1)).map V.str)) nl1;have hl1:upd H4 l1 (.lst ((st.map (·.1)).map V.str)) l1=some (.lst ((st.map (·.1)).map V.str)):=cD;generalize upd H4 l1 (.lst ((st.map (·.1)).map V.str))=H5 at s5 hl1;have s05:=s4.trans s5;refine⟨_,rfl,l,rfl,⟨_,cL.of (s05 _ _ hl)⟩,oz (λj H v=>∃d,st[j]? =some d/\v=.str d.1) (λ_ _ _ _ _ h=>h) (cL.of (s05 _ _ hl)) (by omega) ?_ ?_⟩
  ·intro i v H6 K1 hv s6 k1
   obtain⟨d,hd,a,rfl,wa,ha,hw⟩:=lz.at hv;exact⟨_,rfl,xT (s6 _ _ (s05 _ _ ha)) rfl (k1 _ _ (cF.refl _) ⟨d,hd,rfl⟩)⟩
  intro l2 ws H6 nl2 s6 hl2 wl wr;have we:ws=(st.map (·.1)).map V.str:=by
   refine List.ext_getElem? λj=>?_;rw[getElem?_map,getElem?_map];cases hw:ws[j]? with
   |none=>
    have:st.length<=j:=by rw[<-ul,<-wl];exact List.getElem?_eq_none_iff.mp hw
    rw[List.getElem?_eq_none_iff.mpr this];rfl
   |some v=>
    obtain⟨d,hd,rfl⟩:=wr j v hw;rw[hd];rfl
  rw[we]at hl2;have s06:=s05.trans s6;have hk6:=s6 _ _ (s5 _ _ hk4);refine EO (cL.of (s6 _ _ hl1)) (cL.of hl2) ⟨_,rfl,hZ Bool.false_ne_true ?_⟩;refine⟨_,rfl,xT (s06 _ _ hth) rfl ⟨_,rfl,y,kn,ys,sd,iY st,F,rfl,s06 _ _ hy,sy.mono (Tk.of s06),hk6,i8 so,?_⟩⟩;rw[kal];refine⟨_,rfl,iN ?_⟩;refine⟨_,rfl,l,rfl,⟨_,cL.of (s06 _ _ hl)⟩,dj (xs:=us) (λ_=>false) (λ_=>.non) (cL.of (s06 _ _ hl)) (by omega) ?_ ?_⟩
  ·intro i os v H8 K1 K2 hv hos s8 k1 k2
   obtain⟨o,rfl⟩:=osA hos
   ·
    have s08:=s06.trans s8;obtain⟨d,hd,a,rfl,ev⟩:=lz.at hv;have fi:=so.fi d (mem_of_getElem? hd);have tk:=Tk.of s08;exact⟨⟨[some (.ref a)],rfl,rfl⟩,⟨_,rfl,_,rfl,_,rfl,th,s,t,y,kn,a,ps,ss,ts,ys,sg,qd,sd,iY st,F,d,rfl,s08 _ _ hth,s08 _ _ hs,s08 _ _ ht,s08 _ _ hy,sl,tl,gs.mono (dH.mono tk),gh,qs.mono (dJ.mono tk),qk,sy.mono tk,s8 _ _ hk6,i8 so,ev.mono tk,sub d (List.mem_of_find?_eq_some fi.2),(zG (List.find?_some fi.2)).2.2,λH9 s9=>⟨_,rfl,iN (k2 rfl H9 s9)⟩⟩⟩
  intro c3 H8 nc3 s8 hc3;rw[qQ]at hc3;refine⟨wW,λc4 nc4=>?_⟩;have s9:=cF.upd (o:=.lst []) nc4;exact .same c3 c4 [] [] [] rfl rfl (cL.of (s9 _ _ hc3)) (cL.of cD) rfl rfl (λi u v c h=>by cases h) (k _ ((s06.trans s8).trans s9))
abbrev RD:=Str×Option Int
def Ki(H:Hp)(v:V)(d:RD):Prop:=∃a:Addr,v=.ref a/\H a=some (.tup [.str d.1,oV d.2])
def BW(ps:List Str):List Str:=ps.mergeSort λa b=> !PySem.Spec.ltCps b.cps.toList a.cps.toList
theorem Ax(ps:List Str):(BW ps).Perm ps:=List.mergeSort_perm ..
theorem vK(ps:List Str):PyProof.Rows.sortedS (BW ps)=true:=by
 refine PyProof.Rows.sortedS_of_pairwise _ ((List.pairwise_mergeSort (le:=λa b=> !PySem.Spec.ltCps b.cps.toList a.cps.toList) (λa b c h1 h2=>?_) (λa b=>?_) ps).imp λ{a b} h=>?_)
 ·rw[not_eq_true']at *
  exact le_trans' h1 h2
 ·rw[Bool.or_eq_true,not_eq_true',not_eq_true',PyProof.Rows.ltCps_eq,PyProof.Rows.ltCps_eq,decide_eq_false_iff_not,decide_eq_false_iff_not,not_lt,not_lt]
  exact List.le_total _ _
 ·rw[not_eq_true']at h
  exact h
theorem BF{zs ps:List Str}(h:zs.Perm ps)(s:PyProof.Rows.sortedS zs=true):zs=BW ps:=jU (h.trans (Ax ps).symm) s (vK ps)
inductive L6(vs:List V)(H:Hp)(Q:VK):Prop
 |mk(l:Addr)(us:List V)(st:List ED)(e:vs=[.ref l])(hl:H l=some (.lst us))(lz:Lz dW H us st)(nd:(st.map (·.1)).Nodup)(sl:st.length<=24)(k:∀d H',cF H H'->H' d=some (.dK (iY st))->Q (.ref d) H')
def DH:Sp:=λvs H Q _=>L6 vs H Q
def J3(F:FH)(q:Str)(o:Option Int):Bool:=match F q with
 |none=>true
 |some i=>match o with
  |none=>false
  |some j=>decide (i > j)
inductive L8(vs:List V)(H:Hp)(Q:VK):Prop
 |mk(d:Addr)(q:Str)(h:Int)(kvs:List (Key×V))(F:FH)(e:vs=[.ref d,.str q,.int h])(hd:H d=some (.dK kvs))(get:∀z,dz kvs (Sum.inr z)=(F z).map V.int)(k:Q (.bl (pV F (.knew q h))) H)
def FJ:Sp:=λvs H Q _=>L8 vs H Q
inductive Ng(vs:List V)(H:Hp)(Q:VK):Prop
 |mk(d:Addr)(q:Str)(o:Option Int)(kvs:List (Key×V))(F:FH)(e:vs=[.ref d,.str q,oV o])(hd:H d=some (.dK kvs))(get:∀z,dz kvs (Sum.inr z)=(F z).map V.int)(k:Q (.bl (J3 F q o)) H)
def Ff:Sp:=λvs H Q _=>Ng vs H Q
def Cf(q:Str)(d:ED):Bool:=match d.2.2 with
 |.saw _=>false
 |.hrd _ te=>decide (te=q)
inductive My(vs:List V)(H:Hp)(Q:VK):Prop
 |mk(l:Addr)(us:List V)(st:List ED)(q:Str)(b e:Int)(ev:vs=[.ref l,.str q,.int b,.int e])(hl:H l=some (.lst us))(lz:Lz dW H us st)(sl:st.length<=24)(no:∀d∈st,Cf q d=true->¬(b<=d.2.1/\d.2.1<=e))(k:∀H',cF H H'->Q (.bl true) H')
def Gy:Sp:=λvs H Q _=>My vs H Q
inductive Ma(vs:List V)(H:Hp)(Q:VK):Prop
 |mk(l:Addr)(us:List V)(st:List ED)(p q:Str)(ev:vs=[.ref l,.str p,.str q])(hl:H l=some (.lst us))(lz:Lz dW H us st)(sl:st.length<=24)(no:∀d∈st,d.1=p->Cf q d=false)(k:∀H',cF H H'->Q (.bl true) H')
def FC:Sp:=λvs H Q _=>Ma vs H Q
def Gh(p:Str)(d:ED):Bool:=decide (d.1=p) && (match d.2.2 with|.saw _=>false|.hrd _ _=>true)
theorem xl{H:Hp}:∀{us:List V}{st:List ED},Lz dW H us st->∃ws:List (Addr×ED),ws.map (·.2)=st/\∀(i:Nat) v pr,us[i]? =some v->ws[i]? =some pr->∃a,v=.ref a/\H a=some (.tup [.str pr.2.1,.int pr.2.2.1,.ref pr.1])/\v9 H pr.1 pr.2.2.2
 |[],[],_=>⟨[],rfl,λi v pr h=>by cases h⟩
 |[],_::_,lz=>by cases lz.1
 |_::_,[],lz=>by cases lz.1
 |u::us,d::st,lz=>by
  obtain⟨a,rfl,wa,ha,hw⟩:=lz.2 0 u d rfl rfl;obtain⟨ws,e,h⟩:=xl (us:=us) (st:=st) ⟨Nat.succ.inj lz.1,λi v d h1 h2=>lz.2 (i+1) v d h1 h2⟩;refine⟨(wa,d)::ws,by rw[map_cons,e],λi v pr h1 h2=>?_⟩;cases i with
  |zero=>
   cases h1;cases h2;exact⟨a,rfl,ha,hw⟩
  |succ j=>exact h j v pr h1 h2
theorem any_none{bs:List Bool}(h:∀b∈bs,b=false):bs.any id=false:=by
 rw[any_eq_false];intro b hb;rw[h b hb];exact Bool.false_ne_true
theorem tR:cI ["story", "hours", "person", "hour", "way"] ["story"] (cG jL):={}
theorem Iq (D:Df K mg "hours_in" jL ["story"] f fd):Gd P w K mg base 1 "hours_in" DH:=by
 refine aH D tR λX H vs Q E hh h=>?_;obtain⟨l,us,st,rfl,hl,lz,nd,sl,k⟩:=h;obtain⟨S0,S1,S2,S3,S4,_⟩:=hh.eB [0,1,2,3,4];have hu:=eU hh.room;have hsz:sizeLine=16777216:=sizeLine_eq;refine⟨_,(ag (aD S1 hh.nd cn)
 (ag (bo hh.own hh.calm (aO (aa S0)) (bq hh.calm (aF (aG S2 hh.nd) (aF (aG S3 hh.nd) (aF (aG S4 hh.nd) bh))))
 (aj (bZ hu (aa S1) (aa S2) (aa S3))))
 (aj (au (aa S1))))),?_⟩
 intro kn nkn;have s3:=cF.upd (o:=.dK []) nkn;have hk3:upd H kn (.dK []) kn=some (.dK []):=cD;generalize upd H kn (.dK [])=H3 at s3 hk3;refine⟨_,rfl,l,rfl,⟨_,cL.of (s3 _ _ hl)⟩,da (K:=X.K) (a:=l) (xs:=us) (λi σ H4=>∃e2 e3 e4:Option V,σ=[some (.ref l),some (.ref kn),e2,e3,e4]/\cF H H4/\H4 kn=some (.dK (iY (st.take i)))) ⟨none,none,none,rfl,s3,hk3⟩ ?_ ?_ ?_⟩
 ·rintro i σ H4 hi ⟨e2,e3,e4,rfl,s4,hk4⟩
  exact cL.of (s4 _ _ hl)
 ·rintro i v σ H4 hv ⟨e2,e3,e4,rfl,s4,hk4⟩
  obtain⟨d,hd,a,rfl,wa,ha,hw⟩:=lz.at hv;have il:=(List.getElem?_eq_some_iff.mp hd).1;have kl:(iY (st.take i)).length < sizeLine:=by
   unfold iY;rw[length_map,length_take];omega
  refine⟨a,_,rfl,cW.of (s4 _ _ ha),rfl,_,_,rfl,_,_,rfl,_,_,rfl,rfl,?_⟩;refine⟨_,rfl,_,rfl,_,rfl,kn,_,rfl,l6.k (k:=Sum.inr d.1) hk4 kl,_,_,_,rfl,λb o e=>?_,?_⟩
  ·rw[cH (cE e nkn)]
   exact s4 _ _ e
  ·rw[cD,tJ nd hd]
 ·rintro σ H4 ⟨e2,e3,e4,rfl,s4,hk4⟩
  rw[lz.1,take_length]at hk4;exact⟨_,rfl,k kn H4 s4 hk4⟩
theorem sN:cI ["hours", "person", "hour"] ["hours", "person", "hour"] (cG jh):={}
theorem Jz (D:Df K mg "fits_knew" jh ["hours", "person", "hour"] f fd):Gd P w K mg base 1 "fits_knew" FJ:=by
 refine aH D sN λX H vs Q E hh h=>?_;obtain⟨d,q,h,kvs,F,rfl,hd,get,k⟩:=h;obtain⟨S0,S1,S2,_⟩:=hh.eB [0,1,2];have hu:=eU hh.room;refine⟨_,(aj (au (aU (J.pJ hu (aa S1) (aa S0)) (a7 (aT bJ (bS hu (aa S0) (aa S1) aX) (aa S2) (L2.cJ _)))))),?_⟩;have dg:=eT.k (k:=Sum.inr q) hd;rw[get]at dg;have k':Q (.bl (match F q with|none=>false|some i=>decide (i<=h))) H:=k;cases hF:F q with
 |none=>
  rw[hF]at k' dg;exact⟨_,rfl,_,rfl,d,_,rfl,dg,_,rfl,cV k'⟩
 |some i=>
  rw[hF]at k' dg;exact⟨_,rfl,_,rfl,d,_,rfl,dg,_,rfl,dq ⟨_,rfl,_,rfl,d,_,rfl,dg,_,rfl,_,_,rfl,rfl,k'⟩⟩
theorem nB:cI ["hours", "person", "hour"] ["hours", "person", "hour"] (cG f9):={}
theorem Je (D:Df K mg "fits_unheard" f9 ["hours", "person", "hour"] f fd):Gd P w K mg base 1 "fits_unheard" Ff:=by
 refine aH D nB λX H vs Q E hh h=>?_;obtain⟨d,q,o,kvs,F,rfl,hd,get,k⟩:=h;obtain⟨S0,S1,S2,_⟩:=hh.eB [0,1,2];have hu:=eU hh.room;refine⟨_,(aj (au (J.sZ (J.lS hu (aa S1) (aa S0)) (a7 (aU (aT cv (aa S2) bB (L2.cJ _)) (a7 (aT bW (bS hu (aa S0) (aa S1) aX) (aa S2) (L2.cJ _)))))))),?_⟩;have dg:=eT.k (k:=Sum.inr q) hd;rw[get]at dg;unfold J3 at k;cases hF:F q with
 |none=>
  rw[hF]at k dg;exact⟨_,rfl,_,rfl,d,_,rfl,dg,_,rfl,dq k⟩
 |some i=>
  rw[hF]at k dg;cases o with
  |none=>exact⟨_,rfl,_,rfl,d,_,rfl,dg,_,rfl,cV ⟨_,rfl,rfl,_,rfl,cV k⟩⟩
  |some j=>exact⟨_,rfl,_,rfl,d,_,rfl,dg,_,rfl,cV ⟨_,rfl,rfl,_,rfl,dq ⟨_,rfl,_,rfl,d,_,rfl,dg,_,rfl,_,_,rfl,rfl,k⟩⟩⟩
theorem pq:cI ["story", "person", "begin", "end", "heard"] ["story", "person", "begin", "end"] (cG gJ):={}
theorem IX (D:Df K mg "fits_silent" gJ ["story", "person", "begin", "end"] f fd) (T:Txt K mg kw C):Gd P w K mg base 1 "fits_silent" Gy:=by
 refine aH D pq λX H vs Q E hh h=>?_;obtain⟨l,us,st,q,b,e,rfl,hl,lz,sl,no,k⟩:=h;obtain⟨S0,S1,S2,S3,S4,_⟩:=hh.eB [0,1,2,3,4];have B_any:=hh.b T.b_any;have hsz:sizeLine=16777216:=sizeLine_eq;have ul:=lz.1;refine⟨_,(ag (bL (is:=[1]) (xs:=["hearer", "hour", "way"]) (ns:=["person"]) S4 hh.nd hh.calm (aO (aa S0)) {} (λ_ _ _ _ _=>(b4 (n:=3) hh.calm (aF (aR (i:=0) (by decide+kernel) rfl rfl) (aF (aR (i:=1) (by decide+kernel) rfl rfl) (aF (aR (i:=2) (by decide+kernel) rfl rfl) bh))))) (λ_ _ _ _ _=>(bz (aS (bp (aB aL (af bf (aK (i:=2) rfl rfl (by decide) (by decide)) ae ah) aP (L2.cJ _)) (bA (aB aL (af bf (aK (i:=2) rfl rfl (by decide) (by decide)) ae ah) (aY (i:=3) rfl rfl (by decide) (by decide)) (L2.cJ _))))))) (λ_ _ _ _ _=>(aK (i:=1) rfl rfl (by decide) (by decide))) hh.hsc hh.hN (by decide+kernel))
 (aj (au (J.mM (aE B_any (J.ig hh.calm) L2.vJ (ao (bK (is:=[2,3]) (xs:=["hour"]) (ns:=["begin", "end"]) hh.calm (aO (aa S4)) {} (λ_ _ _ _ _=>(aR (i:=0) (by decide+kernel) rfl rfl)) (λ_ _ _ _ _=>bV) (λ_ _ _ _ _=>(J.gW bJ bJ (aY (i:=1) rfl rfl (by decide) (by decide)) (aK (i:=0) rfl rfl (by decide) (by decide)) (aY (i:=2) rfl rfl (by decide) (by decide)) L2.j3)) hh.hsc hh.hN))))))),?_⟩
 refine⟨_,rfl,l,rfl,⟨_,cL.of hl⟩,dj (xs:=us) (iq st (Cf q)) (rX st λd=>V.int d.2.1) (cL.of hl) (by omega) ?_ ?_⟩
 ·intro i os v H2 K1 K2 hv hos s2 k1 k2
  obtain⟨o1,o2,o3,rfl⟩:=osC hos
  ·
   obtain⟨d,hd,a,rfl,wa,ha,hw⟩:=lz.at hv;rw[dI hd]at k1 k2;rw[fc hd]at k1;refine⟨a,_,rfl,cW.of (s2 _ _ ha),rfl,_,_,rfl,_,_,rfl,_,_,rfl,rfl,⟨[some (.str d.1),some (.int d.2.1),some (.ref wa)],rfl,rfl⟩,?_⟩;obtain⟨z,h,w⟩:=d;cases w with
   |saw i'=>exact⟨_,rfl,xT (s2 _ _ hw) rfl ⟨rfl,_,rfl,iN (cV (k2 rfl H2 (cF.refl _)))⟩⟩
   |hrd kk te=>
    refine⟨_,rfl,xT (s2 _ _ hw) rfl ⟨rfl,_,rfl,iP ⟨_,rfl,xT (s2 _ _ hw) rfl ⟨_,rfl,rfl,_,rfl,cZ (λhq=>⟨_,rfl,k1 ?_ H2 (cF.refl _)⟩) (λhq=>k2 ?_ H2 (cF.refl _))⟩⟩⟩⟩
    ·exact decide_eq_true (V.str.inj (of_decide_eq_true hq))
    ·exact decide_eq_false λe=>hq (decide_eq_true (congrArg V.str e))
 intro o H1 no1 s1 ho;rw[ul,dw]at ho;have fl:=length_filter_le (Cf q) st;refine⟨_,rfl,o,rfl,⟨_,cL.of ho⟩,dj (xs:=(st.filter (Cf q)).map λd=>V.int d.2.1) (iq (st.filter (Cf q)) λ_=>true) (rX (st.filter (Cf q)) λ_=>V.bl false) (cL.of ho) (by rw[length_map];omega) ?_ ?_⟩
 ·intro i os v H2 K1 K2 hv hos s2 k1 k2
  obtain⟨o1,rfl⟩:=osA hos
  ·
   rw[getElem?_map]at hv;obtain⟨d,hd,rfl⟩:=map_eq_some_iff.mp hv;rw[dI hd]at k1;rw[fc hd]at k1;obtain⟨md,mf⟩:=mem_filter.mp (mem_of_getElem? hd);have nd:=no d md mf;refine⟨⟨[some (.int d.2.1)],rfl,rfl⟩,dq (B:=K2 H2) ⟨_,rfl,_,rfl,_,_,rfl,rfl,_,rfl,cZ (λhb=>⟨_,rfl,_,_,rfl,rfl,?_⟩) (λhb=>?_)⟩⟩
   ·rw[decide_eq_false λx=>nd ⟨of_decide_eq_true hb,x⟩]
    exact k1 rfl H2 (cF.refl _)
   ·exact k1 rfl H2 (cF.refl _)
 ·intro D2 H3 hD2 s3 hd3
  rw[length_map,dw,List.filter_eq_self.mpr (λ_ _=>rfl)]at hd3;have e2:((st.filter (Cf q)).map λ_=>V.bl false)=((st.filter (Cf q)).map λ_=>false).map V.bl:=by rw[map_map];rfl
  rw[e2]at hd3;refine⟨D2,_,rfl,cL.of hd3,?_⟩;rw[any_none λb hb=>by obtain⟨_,_,rfl⟩:=mem_map.mp hb;rfl];exact⟨_,rfl,k _ (s1.trans s3)⟩
theorem pR:cI ["story", "person", "other", "ways"] ["story", "person", "other"] (cG gK):={}
theorem Jn (D:Df K mg "fits_barred" gK ["story", "person", "other"] f fd) (T:Txt K mg kw C):Gd P w K mg base 1 "fits_barred" FC:=by
 refine aH D pR λX H vs Q E hh h=>?_;obtain⟨l,us,st,p,q,rfl,hl,lz,sl,no,k⟩:=h;obtain⟨S0,S1,S2,S3,_⟩:=hh.eB [0,1,2,3];have B_any:=hh.b T.b_any;have hsz:sizeLine=16777216:=sizeLine_eq;obtain⟨ws,we,wr⟩:=xl lz;have ul:=lz.1;have wl:ws.length=st.length:=by rw[<-we,length_map]
 have wat:∀{i:Nat}{v:V},us[i]? =some v->∃pr,ws[i]? =some pr:=λh=>⟨_,getElem?_eq_getElem (by rw[wl,<-ul];exact(List.getElem?_eq_some_iff.mp h).1)⟩;refine⟨_,(ag (bL (is:=[1]) (xs:=["hearer", "hour", "way"]) (ns:=["person"]) S3 hh.nd hh.calm (aO (aa S0)) {} (λ_ _ _ _ _=>(b4 (n:=3) hh.calm (aF (aR (i:=0) (by decide+kernel) rfl rfl) (aF (aR (i:=1) (by decide+kernel) rfl rfl) (aF (aR (i:=2) (by decide+kernel) rfl rfl) bh))))) (λ_ _ _ _ _=>(bz (aS (bp (aB aL (aK (i:=0) rfl rfl (by decide) (by decide)) (aY (i:=3) rfl rfl (by decide) (by decide)) (L2.cJ _)) (bA (aB aL (af bf (aK (i:=2) rfl rfl (by decide) (by decide)) ae ah) aP (L2.cJ _))))))) (λ_ _ _ _ _=>(aK (i:=2) rfl rfl (by decide) (by decide))) hh.hsc hh.hN (by decide+kernel))
 (aj (au (J.mM (aE B_any (J.ig hh.calm) L2.vJ (ao (bK (is:=[2]) (xs:=["way"]) (ns:=["other"]) hh.calm (aO (aa S3)) {} (λ_ _ _ _ _=>(aR (i:=0) (by decide+kernel) rfl rfl)) (λ_ _ _ _ _=>bV) (λ_ _ _ _ _=>(aT aL (af bf (aK (i:=0) rfl rfl (by decide) (by decide)) ae ah) (aY (i:=1) rfl rfl (by decide) (by decide)) (L2.cJ _))) hh.hsc hh.hN))))))),?_⟩
 refine⟨_,rfl,l,rfl,⟨_,cL.of hl⟩,dj (xs:=us) (iq ws λpr=>Gh p pr.2) (rX ws λpr=>V.ref pr.1) (cL.of hl) (by omega) ?_ ?_⟩
 ·intro i os v H2 K1 K2 hv hos s2 k1 k2
  obtain⟨o1,o2,o3,rfl⟩:=osC hos
  ·
   obtain⟨⟨wa,d⟩,hpr⟩:=wat hv;obtain⟨a,rfl,ha,hw⟩:=wr i _ _ hv hpr;rw[dI hpr]at k1 k2;rw[fc hpr]at k1;refine⟨a,_,rfl,cW.of (s2 _ _ ha),rfl,_,_,rfl,_,_,rfl,_,_,rfl,rfl,⟨[some (.str d.1),some (.int d.2.1),some (.ref wa)],rfl,rfl⟩,?_⟩;obtain⟨z,h,w⟩:=d;refine⟨_,rfl,_,rfl,rfl,_,rfl,cZ (λe1=>?_) (λe1=>cV (k2 ?_ H2 (cF.refl _)))⟩
   ·have e1':z=p:=V.str.inj (of_decide_eq_true e1)
    cases w with
    |saw i'=>
     refine⟨_,rfl,xT (s2 _ _ hw) rfl ⟨rfl,_,rfl,iN (k2 ?_ H2 (cF.refl _))⟩⟩;exact Bool.and_false _
    |hrd kk te=>
     refine⟨_,rfl,xT (s2 _ _ hw) rfl ⟨rfl,_,rfl,iP ⟨_,rfl,k1 ?_ H2 (cF.refl _)⟩⟩⟩;show(decide (z=p) && true)=true;rw[decide_eq_true e1'];rfl
   ·show(decide (z=p) && _)=false
    rw[decide_eq_false λe=>e1 (decide_eq_true (congrArg V.str e))];rfl
 intro o H1 no1 s1 ho;rw[ul,<-wl,dw]at ho;have fl:=length_filter_le (λpr:Addr×ED=>Gh p pr.2) ws;refine⟨_,rfl,o,rfl,⟨_,cL.of ho⟩,dj (xs:=(ws.filter λpr=>Gh p pr.2).map λpr=>V.ref pr.1) (iq (ws.filter λpr=>Gh p pr.2) λ_=>true) (rX (ws.filter λpr=>Gh p pr.2) λ_=>V.bl false) (cL.of ho) (by rw[length_map];omega) ?_ ?_⟩
 ·intro i os v H2 K1 K2 hv hos s2 k1 k2
  obtain⟨o1,rfl⟩:=osA hos
  ·
   rw[getElem?_map]at hv;obtain⟨⟨wa,d⟩,hd,rfl⟩:=map_eq_some_iff.mp hv;rw[dI hd]at k1;rw[fc hd]at k1;obtain⟨md,mf⟩:=mem_filter.mp (mem_of_getElem? hd);obtain⟨j,hj⟩:=getElem?_of_mem md;obtain⟨vj,hvj⟩:∃vj,us[j]? =some vj:=⟨_,getElem?_eq_getElem (by rw[ul,<-wl];exact(List.getElem?_eq_some_iff.mp hj).1)⟩;obtain⟨a,_,_,hw⟩:=wr j _ _ hvj hj;have mst:d∈st:=by rw[<-we];exact mem_map.mpr ⟨_,md,rfl⟩
   obtain⟨z,h,w⟩:=d;cases w with
   |saw i'=>
    have mf':(decide (z=p) && false)=true:=mf;rw[Bool.and_false]at mf';cases mf'
   |hrd kk te=>
    have mf':(decide (z=p) && true)=true:=mf;rw[Bool.and_true]at mf';have nf:=no _ mst (of_decide_eq_true mf');have nf':decide (te=q)=false:=nf;refine⟨⟨[some (.ref wa)],rfl,rfl⟩,dq (B:=K2 H2) ⟨_,rfl,xT (s2 _ _ (s1 _ _ hw)) rfl ⟨_,rfl,rfl,?_⟩⟩⟩;rw[show decide (V.str te=V.str q)=false from decide_eq_false λe=>(of_decide_eq_false nf') (V.str.inj e)];exact k1 rfl H2 (cF.refl _)
 ·intro D2 H3 hD2 s3 hd3
  rw[length_map,dw,List.filter_eq_self.mpr (λ_ _=>rfl)]at hd3;have e2:((ws.filter λpr=>Gh p pr.2).map λ_=>V.bl false)=((ws.filter λpr=>Gh p pr.2).map λ_=>false).map V.bl:=by rw[map_map];rfl
  rw[e2]at hd3;refine⟨D2,_,rfl,cL.of hd3,?_⟩;rw[any_none λb hb=>by obtain⟨_,_,rfl⟩:=mem_map.mp hb;rfl];exact⟨_,rfl,k _ (s1.trans s3)⟩
theorem qX{sg:List GD}{qd:List QD}{sd:List SD}{F:FH}{ds st:List ED}{d:ED}(so:kf ds F st)(sub:∀d∈ds,d∈fI sg qd sd)(m:d∈st):gD d.2.1 (floorOf d.1 sd)=true/\∀k te,d.2.2=.hrd k te->sd.any (rK te d.2.1)=false/\sd.any (uc d.1 te)=false:=by
 have mo:=sub d (List.mem_of_find?_eq_some (so.fi d m).2);obtain⟨z,h,w⟩:=d;cases w with
 |saw i=>
  obtain⟨mi,hg⟩:=lI mo;have:=(mem_filter.mp mi).2;rw[dI hg]at this;exact⟨this,λ_ _ e=>by cases e⟩
 |hrd k te=>
  obtain⟨mt,eh⟩:=lH mo;have:=(mem_filter.mp mt).2;unfold c8 at this;rw[and_eq_true,not_eq_true',Bool.or_eq_false_iff]at this;rw[show d4 qd (k,te,z).1=h from eh]at this;exact⟨this.1,λk' te' e=>by cases e;exact this.2⟩
theorem xE:∀{l:List (Option Int)},none ∉ l->∃vs:List Int,l=vs.map some
 |[],_=>⟨[],rfl⟩
 |none::_,h=>absurd mem_cons_self h
 |some v::r,h=>by
  obtain⟨vs,e⟩:=xE λm=>h (mem_cons_of_mem _ m);exact⟨v::vs,by rw[e];rfl⟩
theorem uk{h:Int}{q:Str}{o:Option Int}{sd:List SD}(ab:gD h (floorOf q sd)=true)(m:SD.unh q o∈sd):∃j,o=some j/\j < h:=by
 have mo:o∈i7 q sd:=mem_map.mpr ⟨.unh q o,mem_filter.mpr ⟨m,decide_eq_true rfl⟩,rfl⟩;unfold floorOf at ab;by_cases n:none∈i7 q sd
 ·rw[kZ n]at ab
  cases ab
 ·obtain⟨vs,e⟩:=xE n
  obtain⟨m',e',_,le⟩:=kj vs (-1);rw[e]at mo ab;rw[e']at ab;obtain⟨j,mj,rfl⟩:=mem_map.mp mo;have:=le j (mem_cons_of_mem _ mj);have ab':m' < h:=of_decide_eq_true ab;exact⟨j,rfl,by omega⟩
theorem zI{sd:List SD}{f:SD->Bool}{d:SD}(h:sd.any f=false)(m:d∈sd):f d=false:=eq_false_iff.mpr (any_eq_false.mp h d m)
inductive Mw(vs:List V)(H:Hp)(Q:VK):Prop
 |mk(l a:Addr)(us:List V)(sg:List GD)(qd:List QD)(sd:List SD)(F:FH)(ds st:List ED)(d:SD)(e:vs=[.ref l,.ref a])(hl:H l=some (.lst us))(lz:Lz dW H us st)(so:kf ds F st)(sub:∀d∈ds,d∈fI sg qd sd)(sl:st.length<=24)(ha:H a=some (.tup d.tup))(md:d∈sd)(k:∀H',cF H H'->Q (.bl (pV F d)) H')
def E8:Sp:=λvs H Q _=>Mw vs H Q
def bx(F:FH)(sd:List SD):List Nat:=(List.range sd.length).filter (iq sd λd=> !pV F d)
theorem lQ{F:FH}{sd:List SD}(h:bx F sd=[]):sd.all (pV F)=true:=by
 rw[all_eq_true];intro d hd;obtain⟨i,hi⟩:=getElem?_of_mem hd;have:=List.filter_eq_nil_iff.mp h i (mem_range.mpr (List.getElem?_eq_some_iff.mp hi).1);rw[dI hi]at this;cases c:pV F d with
 |true=>rfl
 |false=>rw[c]at this;exact absurd rfl this
inductive Mm(C:Addr)(vs:List V)(H:Hp)(Q:VK):Prop
 |mk(x p s t y l:Addr)(ps:List Str)(ss ts ys us:List V)(sg:List GD)(qd:List QD)(sd:List SD)(F:FH)(ds st:List ED)(e:vs=[.ref x,.ref l])(bk:Bk C H x p s t y ps ss ts ys)(sy:Sys H ys sd)(l60:ys.length<=60)(hl:H l=some (.lst us))(lz:Lz dW H us st)(so:kf ds F st)(sub:∀d∈ds,d∈fI sg qd sd)(sl:st.length<=24)
   (k:∀o H',cF H H'->H' o=some (.lst ((bx F sd).map λi=>V.int (i:Nat)))->Q (.ref o) H')
def FV(C:Addr):Sp:=λvs H Q _=>Mm C vs H Q
inductive EG(C:Addr)(vs:List V)(H:Hp)(Q:VK):Prop
 |mk(x p s t y:Addr)(ps:List Str)(ss ts ys:List V)(sg:List GD)(qd:List QD)(sd:List SD)(e:vs=[.ref x])(bk:Bk C H x p s t y ps ss ts ys)(pl:ps.length<=24)(sl:ss.length<=24)(tl:ts.length<=120)(gs:Lz dH H ss sg)(gp:∀d∈sg,d.1∈ps)(qs:Lz dJ H ts qd)(qk:∀d∈qd,lx ps d)(sy:Sys H ys sd)(l:ys.length<=60)
   (k1:∀(r l:Addr) (us:List V) (F:FH) (st:List ED) (H':Hp),cF H H'->H' r=some (.tup [.str "story",.ref l])->H l=none->H' l=some (.lst us)->Lz dW H' us st->dM (fI sg qd sd) F->kf (fI sg qd sd) F st->st.length<=24->bx F sd=[]->Q (.ref r) H')
   (k2:∀(r l:Addr) (us:List V) (F G:FH) (n:Nat) (m:List Nat) (H':Hp),cF H H'->H' r=some (.tup [.str "paper",.ref l,.int (n:Nat)])->H l=none->H' l=some (.lst us)->Lz Ki H' us ((BW ps).map λz=>(z,G z))->dM (fI sg qd sd) F->dM (fI sg qd sd) G->bx F sd=n::m->Q (.ref r) H')
def LQ(C:Addr):Sp:=λvs H Q _=>EG C vs H Q
theorem E5{ds st:List ED}{F:FH}{ps:List Str}(so:kf ds F st)(fo:dM ds F)(pl:ps.length<=24)(pm:∀d∈ds,d.1∈ps):st.length<=24:=by
 have:=oH so.nd (ps:=ps) λz hz=>by
  obtain⟨h,hF⟩:=isSome_iff_exists.mp ((so.me z).mp hz);obtain⟨d,md,rfl⟩:=uz (fo.so z h hF);exact pm d md
 rw[length_map]at this;omega
theorem Gm{sg:List GD}{qd:List QD}{sd:List SD}{ps:List Str}(gp:∀d∈sg,d.1∈ps)(qk:∀d∈qd,lx ps d):∀d∈fI sg qd sd,d.1∈ps:=λd hd=>by
 obtain⟨z,h,w⟩:=d;cases w with
 |saw i=>exact gp _ (mem_of_getElem? (lI hd).2)
 |hrd kk te=>
  obtain⟨q,hq,m1,m2⟩:=jY qk (mem_filter.mp (lH hd).1).1;exact m2
theorem CW:cI ["story", "saying"] ["story", "saying"] (cG wq):={}
theorem HB (D:Df K mg "fits" wq ["story", "saying"] f fd) (G_hours_in:Gd P w K mg base 1 "hours_in" DH) (G_fits_knew:Gd P w K mg base 1 "fits_knew" FJ) (G_fits_unheard:Gd P w K mg base 1 "fits_unheard" Ff) (G_fits_silent:Gd P w K mg base 1 "fits_silent" Gy) (G_fits_barred:Gd P w K mg base 1 "fits_barred" FC):Gd P w K mg base 2 "fits" E8:=by
 refine aH D CW λX H vs Q E hh h=>?_;obtain⟨l,a,us,sg,qd,sd,F,ds,st,d,rfl,hl,lz,so,sub,sl,ha,md,k⟩:=h;obtain⟨S0,S1,_⟩:=hh.eB [0,1];have C_fits_barred:=hh.c G_fits_barred;have C_fits_knew:=hh.c G_fits_knew;have C_fits_silent:=hh.c G_fits_silent;have C_fits_unheard:=hh.c G_fits_unheard;have C_hours_in:=hh.c G_hours_in;refine⟨_,(ag (aI (aB aL (af ak (aa S1) ae ah) aP (L2.cJ _))
 (aj (au (aw C_fits_knew (aM (aw C_hours_in (ao (aa S0))) (af ak (aa S1) ae ah) (af ak (aa S1) ae ah)))))
 aJ)
 (ag (aI (aB aL (af ak (aa S1) ae ah) aP (L2.cJ _))
 (aj (au (aw C_fits_unheard (aM (aw C_hours_in (ao (aa S0))) (af ak (aa S1) ae ah) (af ak (aa S1) ae ah)))))
 aJ)
 (ag (aI (aB aL (af ak (aa S1) ae ah) aP (L2.cJ _))
 (aj (au (aw C_fits_silent (cj (aa S0) (af ak (aa S1) ae ah) (af ak (aa S1) ae ah) (af ak (aa S1) ae ah)))))
 aJ)
 (aj (au (aw C_fits_barred (aM (aa S0) (af ak (aa S1) ae ah) (af ak (aa S1) ae ah)))))))),?_⟩
 cases d with
 |knew q h=>
  refine⟨_,rfl,xT ha rfl ⟨rfl,_,rfl,iP ⟨_,rfl,l,us,st,rfl,hl,lz,so.nd,sl,λkn H1 s1 hk=>?_⟩⟩⟩;exact⟨_,rfl,xT (s1 _ _ ha) rfl ⟨_,rfl,xT (s1 _ _ ha) rfl ⟨kn,q,h,_,F,rfl,hk,i8 so,k _ s1⟩⟩⟩
 |unh q o=>
  refine⟨_,rfl,xT ha rfl ⟨rfl,_,rfl,iN ⟨_,rfl,xT ha rfl ⟨rfl,_,rfl,iP ⟨_,rfl,l,us,st,rfl,hl,lz,so.nd,sl,λkn H1 s1 hk=>?_⟩⟩⟩⟩⟩;refine⟨_,rfl,xT (s1 _ _ ha) rfl ⟨_,rfl,xT (s1 _ _ ha) rfl ⟨kn,q,o,_,F,rfl,hk,i8 so,?_⟩⟩⟩;have e:J3 F q o=true:=by
   unfold J3;cases hF:F q with
   |none=>rfl
   |some h=>
    obtain⟨d,hd,rfl⟩:=mem_map.mp ((so.me q).mpr (by rw[hF];rfl));have fi:=(so.fi d hd).1;rw[hF]at fi;cases fi;obtain⟨j,rfl,jl⟩:=uk (qX so sub hd).1 md;exact decide_eq_true jl
  rw[e];exact k _ s1
 |sil q b e=>
  refine⟨_,rfl,xT ha rfl ⟨rfl,_,rfl,iN ⟨_,rfl,xT ha rfl ⟨rfl,_,rfl,iN ⟨_,rfl,xT ha rfl ⟨rfl,_,rfl,iP ?_⟩⟩⟩⟩⟩⟩;refine⟨_,rfl,_,rfl,xT ha rfl ⟨_,rfl,xT ha rfl ⟨_,rfl,xT ha rfl ⟨l,us,st,q,b,e,rfl,hl,lz,sl,λd hd fr le=>?_,k⟩⟩⟩⟩;have op:=(qX so sub hd).2;obtain⟨z,h,w⟩:=d;cases w with
  |saw i=>exact absurd fr Bool.false_ne_true
  |hrd kk te=>
   have e1:te=q:=of_decide_eq_true fr;subst e1;have:=zI (op kk te rfl).1 md;have t:rK te h (.sil te b e)=true:=by
    show(decide (te=te) && (if b<=h then decide (h<=e) else false))=true;rw[if_pos le.1,decide_eq_true rfl,decide_eq_true le.2];rfl
   rw[t]at this;cases this
 |bar p o=>
  refine⟨_,rfl,xT ha rfl ⟨rfl,_,rfl,iN ⟨_,rfl,xT ha rfl ⟨rfl,_,rfl,iN ⟨_,rfl,xT ha rfl ⟨rfl,_,rfl,iN ?_⟩⟩⟩⟩⟩⟩;refine⟨_,rfl,_,rfl,xT ha rfl ⟨_,rfl,xT ha rfl ⟨l,us,st,p,o,rfl,hl,lz,sl,λd hd e=>?_,k⟩⟩⟩;have op:=(qX so sub hd).2;obtain⟨z,h,w⟩:=d;cases w with
  |saw i=>rfl
  |hrd kk te=>
   have e1:z=p:=e;subst e1;have:=zI (op kk te rfl).2 md;refine decide_eq_false λe2=>?_;subst e2;have t:uc z te (.bar z te)=true:=by
    show(decide (z=z) && decide (te=te))=true;rw[decide_eq_true rfl,decide_eq_true rfl];rfl
   rw[t]at this;cases this
theorem tD:cI ["book", "story"] ["book", "story"] (cG jN):={}
theorem IV (D:Df K mg "unfitted" jN ["book", "story"] f fd) (T:Txt K mg kw C) (G_sayings:Md P w K mg base 1 C "sayings" (dC C λ_ _ _ y=>y)) (G_fits:Gd P w K mg base 2 "fits" E8):Gd P w K mg base 3 "unfitted" (FV C):=by
 refine aH D tD λX H vs Q E hh h=>?_;obtain⟨x,p,s,t,y,l,ps,ss,ts,ys,us,sg,qd,sd,F,ds,st,rfl,bk,sy,l60,hl,lz,so,sub,sl,k⟩:=h;obtain⟨S0,S1,_⟩:=hh.eB [0,1];have B_enumerate:=hh.b T.b_enumerate;have CI_fits:=hh.ci G_fits;have M_sayings:=hh.met G_sayings (by decide);have hsz:sizeLine=16777216:=sizeLine_eq;refine⟨_,(aj (au (bK (is:=[1]) (xs:=["k", "saying"]) (ns:=["story"]) hh.calm (J.kU B_enumerate (ao (bR M_sayings (aa S0) rfl))) {} (λ_ _ _ _ _=>(b4 (n:=2) hh.calm (aF (aR (i:=0) (by decide+kernel) rfl rfl) (aF (aR (i:=1) (by decide+kernel) rfl rfl) bh)))) (λ_ _ _ _ _=>(bz (a5 (aQ (aw (CI_fits.lg rfl) (aA (aY (i:=2) rfl rfl (by decide) (by decide)) (aK (i:=1) rfl rfl (by decide) (by decide)))))))) (λ_ _ _ _ _=>(aK (i:=0) rfl rfl (by decide) (by decide))) hh.hsc hh.hN))),?_⟩;obtain⟨⟨dx,hx⟩,hp,hs,ht,hy⟩:=id bk;refine⟨_,rfl,x,dx,_,rfl,hx,iO _ _ _ _ (by decide+kernel) (by decide+kernel) (by decide+kernel) (by decide+kernel),x,p,s,t,y,ys,rfl,⟨dx,hx⟩,hy,λyl nyl=>?_⟩;have s1:=cF.upd (o:=.lst ys) nyl;have hyl:upd H yl (.lst ys) yl=some (.lst ys):=cD;generalize upd H yl (.lst ys)=H1 at s1 hyl;refine⟨yl,rfl,⟨_,cL.of hyl⟩,tE (xs:=ys) (iq sd λd=> !pV F d) (λi=>V.int (i:Nat)) (cL.of hyl) (by omega) ?_ ?_⟩
 ·intro i os v q H2 K1 K2 hv hos s3 hq k1 k2
  obtain⟨o1,o2,rfl⟩:=osB hos
  ·
   obtain⟨d,a,hd,rfl,ha⟩:=sy.at hv;rw[dI hd]at k1 k2;have s4:=cF.upd (o:=.tup [.int i,.ref a]) hq;have s14:=(s1.trans s3).trans s4;refine⟨q,_,rfl,cW.of cD,rfl,_,_,rfl,_,_,rfl,rfl,⟨[_,_],rfl,rfl⟩,?_⟩;refine⟨_,rfl,_,rfl,l,a,us,sg,qd,sd,F,ds,st,d,rfl,s14 _ _ hl,lz.mono (dW.mono (Tk.of s14)),so,sub,sl,s14 _ _ ha,mem_of_getElem? hd,λH5 s5=>⟨_,rfl,cZ (λhb=>⟨_,rfl,k1 hb _ (s4.trans s5)⟩) (λhb=>k2 (eq_false_of_ne_true hb) _ (s4.trans s5))⟩⟩
 ·intro D' H' hD' s' hd'
  rw[sy.1]at hd';exact k D' H' (s1.trans s') hd'
theorem AH{ds:List ED}{G:FH}(cl:∀d∈ds,nJ G d=true->∃b,b<=d.2.1/\G d.1=some b){z:Str}{h:Int}(r:mL ds z h):∃b,b<=h/\G z=some b:=by
 induction r with
 |saw m=>exact cl _ m rfl
 |hrd m r l ih=>
  rename_i z te h h' k
  obtain⟨b,b1,b2⟩:=ih;refine cl _ m ?_;show(match G te with|none=>false|some a=>decide (a < h))=true;rw[b2];exact decide_eq_true (by omega)
theorem lG{ds ds':List ED}{F G:FH}(f:dM ds F)(g:dM ds' G)(sub:∀d∈ds,d∈ds'){z:Str}{h:Int}(e:F z=some h):∃b,b<=h/\G z=some b:=AH (λd hd=>g.cl d (sub d hd)) (f.so z h e)
theorem nZ{ds:List ED}{F G:FH}(f:dM ds F)(g:dM ds G):F=G:=by
 funext z
 cases hF:F z with
 |none=>
  cases hG:G z with
  |none=>rfl
  |some b=>
   obtain⟨c,_,e⟩:=lG g f (λ_ h=>h) hG;rw[hF]at e;cases e
 |some a=>
  obtain⟨b,b1,b2⟩:=lG f g (λ_ h=>h) hF;obtain⟨c,c1,c2⟩:=lG g f (λ_ h=>h) b2;rw[hF]at c2;cases c2;rw[b2,show a=b by omega]
theorem lM{ds:List ED}{F:FH}(f:dM ds F){z:Str}{h:Int}(e:F z=some h):∃d∈ds,d.1=z/\d.2.1=h/\nJ F d=true:=by
 cases f.so z h e with
 |saw m=>exact⟨_,m,rfl,rfl,rfl⟩
 |hrd m r l=>
  rename_i te h' k
  obtain⟨b,b1,b2⟩:=AH f.cl r;refine⟨_,m,rfl,rfl,?_⟩;show(match F te with|none=>false|some a=>decide (a < h))=true;rw[b2];exact decide_eq_true (by omega)
theorem kB{ds D:List ED}{F:FH}{p:Str}(f:dM ds F)(nn:∀d∈ds,0<=d.2.1)(sub:∀d∈D,d∈ds)(ot:∀d∈ds,d.1≠p->d∈D)(pk:∀h,F p=some h->∃e∈D,e.1=p/\e.2.1=h/\nJ F e=true):dM D F:=by
 refine⟨λd hd=>f.cl d (sub d hd),?_⟩;have key:∀n:Nat,∀z h,h.toNat < n->F z=some h->mL D z h:=by
  intro n
  induction n with
  |zero=>intro z h hn;exact absurd hn (Nat.not_lt_zero _)
  |succ n ih=>
   intro z h hn e;obtain⟨d,md,e1,e2,cf⟩:∃d∈D,d.1=z/\d.2.1=h/\nJ F d=true:=by
    by_cases c:z=p
    ·rw[c]at e ⊢
     exact pk h e
    ·obtain⟨d,md,e1,e2,cf⟩:=lM f e
     exact⟨d,ot d md (by rw[e1];exact c),e1,e2,cf⟩
   obtain⟨z',h',w⟩:=d;cases e1;cases e2;cases w with
   |saw i=>exact .saw md
   |hrd k te=>
    have cf':(match F te with|none=>false|some a=>decide (a < h'))=true:=cf;cases hT:F te with
    |none=>rw[hT]at cf';cases cf'
    |some b=>
     rw[hT]at cf';have bl:b < h':=of_decide_eq_true cf';obtain⟨d',md',_,e2',_⟩:=lM f hT;have b0:=nn d' md';rw[e2']at b0;have hn':h'.toNat < n+1:=hn;exact .hrd md (ih te b (by omega) hT) bl
 exact λz h e=>key (h.toNat+1) z h (lt_succ_self _) e
theorem qr{F:FH}{sd:List SD}(h:sd.all (pV F)=true):bx F sd=[]:=List.filter_eq_nil_iff.mpr λi hi=>by
 have hd:sd[i]? =some (sd[i]'(mem_range.mp hi)):=getElem?_eq_getElem (mem_range.mp hi);rw[dI hd,all_eq_true.mp h _ (mem_of_getElem? hd)]
 decide
theorem wR{F G:FH}{sd:List SD}(le:∀z h,F z=some h->∃b,b<=h/\G z=some b)(h:bx F sd=[]):bx G sd=[]:=by
 have al:=all_eq_true.mp (lQ h);refine qr (all_eq_true.mpr λd hd=>?_);have k:=al d hd;cases d with
 |knew q t=>
  have k':(match F q with|none=>false|some i=>decide (i<=t))=true:=k;cases hF:F q with
  |none=>rw[hF]at k';cases k'
  |some a=>
   rw[hF]at k';obtain⟨b,b1,b2⟩:=le q a hF;have:a<=t:=of_decide_eq_true k';show(match G q with|none=>false|some i=>decide (i<=t))=true;rw[b2];exact decide_eq_true (by omega)
 |unh q o=>rfl
 |sil q b e=>rfl
 |bar q o=>rfl
inductive Kp(C:Addr)(vs:List V)(H:Hp)(Q:VK):Prop
 |mk(x p s t y en:Addr)(as:List Addr)(ds:List ED)(ps:List Str)(ss ts ys:List V)(sg:List GD)(qd:List QD)(sd:List SD)(e:vs=[.ref x,.ref en])(bk:Bk C H x p s t y ps ss ts ys)(sy:Sys H ys sd)(l60:ys.length<=60)(he:H en=some (.lst (as.map V.ref)))(al:as.length<=500)(ll:as.length=ds.length)(le:∀(i:Nat) a d,as[i]? =some a->ds[i]? =some d->dS H a d)(pl:ps.length<=24)(pm:∀d∈ds,d.1∈ps)(sub:∀d∈ds,d∈fI sg qd sd)
   (k1:∀(l:Addr)(us:List V)(F:FH)(st:List ED)(H':Hp),cF H H'->H l=none->H' l=some (.lst us)->Lz dW H' us st->dM ds F->kf ds F st->st.length<=24->bx F sd=[]->Q (.ref l) H')(k2:∀F H',cF H H'->dM ds F->bx F sd≠[]->Q .non H')
def BE(C:Addr):Sp:=λvs H Q _=>Kp C vs H Q
theorem mK:cI ["book", "entries", "story"] ["book", "entries"] (cG fG):={}
theorem E9 (D:Df K mg "fitting_story" fG ["book", "entries"] f fd) (G_first_story:Gd P w K mg base 5 "first_story" Hc) (G_unfitted:Gd P w K mg base 3 "unfitted" (FV C)):Gd P w K mg base 6 "fitting_story" (BE C):=by
 refine aH D mK λX H vs Q E hh h=>?_;obtain⟨x,p,s,t,y,en,as,ds,ps,ss,ts,ys,sg,qd,sd,rfl,bk,sy,l60,he,al,ll,le,pl,pm,sub,k1,k2⟩:=h;obtain⟨S0,S1,S2,_⟩:=hh.eB [0,1,2];have C_first_story:=hh.c G_first_story;have C_unfitted:=hh.c G_unfitted;have hu:=eU hh.room;refine⟨_,(ag (aD S2 hh.nd (aw C_first_story (ao (aa S1))))
 (aj (au (J.JJ (aB (J.nN hu) (aw C_unfitted (aA (aa S0) (aa S2))) (ba bE) (L2.cJ _)) (aa S2) bB)))),?_⟩
 refine⟨_,rfl,en,as,ds,ps,rfl,he,al,ll,le,pl,pm,λl us F st H1 s1 nl hl lz fo so=>?_⟩;have stl:=E5 so fo pl pm;refine⟨_,rfl,_,rfl,x,p,s,t,y,l,ps,ss,ts,ys,us,sg,qd,sd,F,ds,st,rfl,bk.mono s1,sy.mono (Tk.of s1),l60,hl,lz,so,sub,stl,λo H2 s2 ho=>?_⟩;refine⟨wW,λe0 ne0=>?_⟩;have s3:=cF.upd (o:=.lst []) ne0;have he0:upd H2 e0 (.lst []) e0=some (.lst []):=cD;generalize upd H2 e0 (.lst [])=H3 at s3 he0;have s23:=s2.trans s3;cases hb:bx F sd with
 |nil=>
  rw[hb]at ho;exact .same o e0 [] [] [] rfl rfl (cL.of (s3 _ _ ho)) (cL.of he0) rfl rfl (λi u v c h=>by cases h) ⟨_,rfl,dq ⟨_,rfl,k1 l us F st H3 (s1.trans s23) nl (s23 _ _ hl) (lz.mono (dW.mono (Tk.of s23))) fo so stl hb⟩⟩
 |cons n m=>
  rw[hb]at ho;exact .other o e0 _ [] rfl rfl (cL.of (s3 _ _ ho)) (cL.of he0) (λe=>by cases e) ⟨_,rfl,cV (k2 F H3 (s1.trans s23) fo (by rw[hb];exact List.cons_ne_nil _ _))⟩
structure kW(E:List ED)(sd:List SD)(p:Str)(L:Option Int):Prop where
 no:L=none->∃F,dM (E.filter λd=>decide (d.1≠p)) F/\bx F sd=[]
 un:∀h,L=some h->∀F,dM (E.filter λd=>decide (d.1≠p)) F->bx F sd≠[]
 at':∀h,L=some h->∃e∈E,e.1=p/\e.2.1=h/\∃F,dM ((E.filter λd=>decide (d.1≠p))++[e]) F/\bx F sd=[]/\F p=some h
 up:∀h,L=some h->∀e∈E,e.1=p->h < e.2.1->∀F,dM ((E.filter λd=>decide (d.1≠p))++[e]) F->bx F sd≠[]
open Classical in
noncomputable def tq (O:List ED)(sd:List SD)(e:ED):Bool:=decide (∃F,dM (O++[e]) F/\bx F sd=[])
theorem GS{O:List ED}{sd:List SD}{e:ED}(h:∃F,dM (O++[e]) F/\bx F sd=[]):tq O sd e=true:=by
 unfold tq
 simpa using h
theorem Gw{O:List ED}{sd:List SD}{e:ED}(h:∀F,dM (O++[e]) F->bx F sd≠[]):tq O sd e=false:=by
 unfold tq
 simpa using h
inductive E1(C Ns:Addr)(vs:List V)(H:Hp)(Q:VK)(E:XK):Prop
 |mk(x p s t y:Addr)(z:Str)(ps:List Str)(ss ts ys:List V)(sg:List GD)(qd:List QD)(sd:List SD)(F0:FH)(e:vs=[.ref x,.str z])(bk:Bk C H x p s t y ps ss ts ys)(pl:ps.length<=24)(sl:ss.length<=24)(tl:ts.length<=120)(gs:Lz dH H ss sg)(gp:∀d∈sg,d.1∈ps)(qs:Lz dJ H ts qd)(qk:∀d∈qd,lx ps d)(sy:Sys H ys sd)(l:ys.length<=60)(nn:∀d∈fI sg qd sd,0<=d.2.1)(f0:dM (fI sg qd sd) F0)
   (k:∀(r l:Addr)(us:List V)(ds:List ED)(F:FH)(st:List ED)(H':Hp),cF H H'->H' r=some (.tup [oV (F z),.ref l])->H l=none->H' l=some (.lst us)->Lz dW H' us st->(∀d∈ds,d∈fI sg qd sd)->dM ds F->kf ds F st->st.length<=24->bx F sd=[]->kW (fI sg qd sd) sd z (F z)->((F z=none/\ds=(fI sg qd sd).filter λd=>decide (d.1≠z))\/∃h e,F z=some h/\((fI sg qd sd).filter λd=>decide (d.1=z)).find? (λe=>decide (e.2.1=h) && tq ((fI sg qd sd).filter λd=>decide (d.1≠z)) sd e)=some e/\ds=((fI sg qd sd).filter λd=>decide (d.1≠z))++[e])->Q (.ref r) H')
   (kE:bx F0 sd≠[]->∀H',cF H H'->E (.ref Ns) none H')
def Ak(C Ns:Addr):Sp:=λvs H Q E=>E1 C Ns vs H Q E
theorem sX{α:Type}{p q:α->Bool}{a:α}:∀{l:List α},l.find? q=some a->p a=true->l.find? (λx=>p x && q x)=some a
 |[],h,_=>by cases h
 |x::r,h,hp=>by
  cases hx:q x with
  |true=>
   rw[find?_cons_of_pos (by exact hx)]at h;cases h;exact find?_cons_of_pos (by show(p a && q a)=true;rw[hp,hx];rfl)
  |false=>
   rw[find?_cons_of_neg (by rw[hx];exact Bool.false_ne_true)]at h;rw[find?_cons_of_neg (by show ¬(p x && q x)=true;rw[hx,Bool.and_false];exact Bool.false_ne_true)];exact sX h hp
theorem mZ{α:Type}{p q:α->Bool}(l:List α):(l.filter p).find? q=l.find? (λx=>p x && q x):=by
 induction l with
 |nil=>rfl
 |cons x r ih=>
  rw[filter_cons,find?_cons (p:=λx=>p x && q x)];cases hp:p x with
  |true=>
   rw[if_pos rfl,find?_cons,ih,Bool.true_and]
  |false=>
   rw[if_neg Bool.false_ne_true,ih,Bool.false_and]
theorem wx{A2:List (Addr×ED)}{zs:List Addr}{g:Addr->Int}{fit:ED->Bool}{j:Nat}{a:Addr}{d:ED}{h:Int}(hg:∀q∈A2,g q.1=q.2.2.1)(one:∀q∈A2,∀q'∈A2,q.1=q'.1->q.2=q'.2)(st:∀i,zs.filter (λa=>decide (g a=i))=(A2.map (·.1)).filter (λa=>decide (g a=i)))(mem:∀a∈zs,∃d,(a,d)∈A2)
  (hz:zs[j]? =some a)(hd:(a,d)∈A2)(fd:fit d=true)(dh:d.2.1=h)(bef:∀j' a' d',j' < j->zs[j']? =some a'->(a',d')∈A2->fit d'=false):(A2.map (·.2)).find? (λe=>decide (e.2.1=h) && fit e)=some d:=by
 let fA:Addr->Bool:=λb=>match A2.find? (λq=>decide (q.1=b)) with|none=>false|some q=>fit q.2
 have fAe:∀b e,(b,e)∈A2->fA b=fit e:=λb e m=>by
  show(match A2.find? (λq=>decide (q.1=b)) with|none=>false|some q=>fit q.2)=fit e;cases hf:A2.find? (λq=>decide (q.1=b)) with
  |none=>exact absurd (decide_eq_true rfl) (List.find?_eq_none.mp hf (b,e) m)
  |some q=>
   have e1:q.1=b:=of_decide_eq_true (List.find?_some (p:=λq:Addr×ED=>decide (q.1=b)) hf);exact congrArg fit (one q (List.mem_of_find?_eq_some hf) (b,e) m e1)
 have f1:zs.find? fA=some a:=by
  obtain⟨jl,e⟩:=List.getElem?_eq_some_iff.mp hz;have e1:zs=zs.take j++a::zs.drop (j+1):=by
   rw[<-e,<-List.drop_eq_getElem_cons jl,take_append_drop]
  rw[e1,List.find?_append];have n:(zs.take j).find? fA=none:=List.find?_eq_none.mpr λb hb hf=>by
   obtain⟨j',hj'⟩:=getElem?_of_mem hb;have jl':j' < j:=by
    have:=(List.getElem?_eq_some_iff.mp hj').1;rw[length_take]at this;omega
   rw[getElem?_take_of_lt jl']at hj';obtain⟨d',md⟩:=mem b (mem_of_getElem? hj');rw[fAe b d' md,bef j' b d' jl' hj' md]at hf;cases hf
  rw[n,find?_cons_of_pos (by rw[fAe a d hd];exact fd)];rfl
 have f2:=sX (p:=λb=>decide (g b=h)) f1 (decide_eq_true ((hg _ hd).trans dh));rw[<-mZ,st h,mZ,find?_map]at f2;obtain⟨q,hq,e⟩:=map_eq_some_iff.mp f2;rw[find?_map];have e2:A2.find? ((λe:ED=>decide (e.2.1=h) && fit e) ∘ λq=>q.2)=A2.find? ((λb=>decide (g b=h) && fA b) ∘ λq=>q.1):=by
  have:∀(l:List (Addr×ED)),(∀q∈l,q∈A2)->l.find? ((λe:ED=>decide (e.2.1=h) && fit e) ∘ λq=>q.2)=l.find? ((λb=>decide (g b=h) && fA b) ∘ λq=>q.1):=λl=>by
   induction l with
   |nil=>intro _;rfl
   |cons q r ih=>
    intro hl;have eq:((λe:ED=>decide (e.2.1=h) && fit e) ∘ λq:Addr×ED=>q.2) q=((λb=>decide (g b=h) && fA b) ∘ λq:Addr×ED=>q.1) q:=by
     show(decide (q.2.2.1=h) && fit q.2)=(decide (g q.1=h) && fA q.1);rw[hg q (hl q (.head _)),fAe q.1 q.2 (hl q (.head _))]
    rw[find?_cons,find?_cons,eq,ih λq' hq'=>hl q' (.tail _ hq')]
  exact this A2 λ_ h=>h
 rw[e2,hq];have mq:=List.mem_of_find?_eq_some hq;exact congrArg some (one q mq (a,d) hd e)
theorem uD{α β:Type}:∀{as:List α}{ds:List β},as.length=ds.length->(as.zip ds).map (·.2)=ds
 |[],[],_=>rfl
 |[],_::_,h=>by cases h
 |_::_,[],h=>by cases h
 |a::as,d::ds,h=>by rw[List.zip_cons_cons,map_cons,uD (Nat.succ.inj h)]
theorem Es{as:List Addr}{E:List ED}(f:ED->Bool)(h:as.length=E.length):((as.zip E).filter λq=>f q.2).map (·.2)=E.filter f:=by
 have e:=filter_map (f:=Prod.snd) (p:=f) (l:=as.zip E);have e1:(as.zip E).map Prod.snd=E:=uD h;rw[e1]at e;exact e.symm
theorem BC{K:PySem.W.Frag}{is:List Nat}{te:TE}{σ:St}{H:Hp}{Q:VK}{a:Addr}{xs:List V}(hq:cL K H a xs)(hz:xs.length<=sizeLine)
  (he:∀(i:Nat) v H2 (K1:VK),xs[i]? =some v->cF H H2->(∀b,H2 b=none->K1 (.ref b) (upd H2 b (.lst [v])))->te ([some v]++d9 is σ) H2 K1)
  (q:∀D (bs:List Addr) H',H D=none->cF H H'->H' D=some (.lst (bs.map V.ref))->bs.length=xs.length->(∀(j:Nat) b,bs[j]? =some b->∃v,xs[j]? =some v/\H' b=some (.lst [v]))->Q (.ref D) H'):eX (BU K a) 1 is (eQ 0) tQ te σ H Q:=by
 intro D hDn;refine⟨λi m ys H2=>m=xs.length - i/\i<=xs.length/\cF H H2/\∃bs:List Addr,ys=bs.map V.ref/\H2 D=some (.lst ys)/\bs.length=i/\∀(j:Nat) b,bs[j]? =some b->b≠D/\∃v,xs[j]? =some v/\H2 b=some (.lst [v]),⟨_,rfl,zero_le _,cF.upd hDn,[],rfl,cD,rfl,λj b h=>by cases h⟩,?_⟩;rintro i m ys H2 ⟨rfl,hi,sm,bs,rfl,hd,rfl,ra⟩;refine⟨hd,?_⟩;by_cases hlt:bs.length < xs.length
 ·refine .inr ⟨⟨xs,xs[bs.length],sm.seq hq,by simp[hlt]⟩,λos v H3 hos y=>?_⟩
  obtain⟨rfl,y⟩:=y;have hv:=y xs (sm.seq hq)
  obtain⟨o,rfl⟩:=osA hos
  ·
   refine⟨⟨[some v],rfl,rfl⟩,Kh (he _ v _ _ hv sm λb nb=>?_)⟩;have nD:b≠D:=λe=>by rw[e,hd]at nb;cases nb
   refine⟨cF.upd nb _ _ hd,by rw[length_map];omega,xs.length - (bs.length+1),by omega,rfl,hlt,λc o e=>?_,bs++[b],by rw[map_append];rfl,cD,by rw[length_append];rfl,λj c hc=>?_⟩
   ·rw[cH (cE e hDn)]
    exact cF.upd nb _ _ (sm _ _ e)
   ·by_cases hj:j < bs.length
    ·rw[getElem?_append_left hj]at hc
     obtain⟨n1,u,h1,h2⟩:=ra j c hc;exact⟨n1,u,h1,by rw[cH n1];exact cF.upd nb _ _ h2⟩
    ·have e:j=bs.length:=by
      have:=(List.getElem?_eq_some_iff.mp hc).1;rw[length_append]at this;have:j < bs.length+1:=this;omega
     subst e;rw[getElem?_append_right (le_refl _),sub_self]at hc;cases hc;exact⟨nD,v,hv,by rw[cH nD];exact cD⟩
 ·have e:bs.length=xs.length:=by omega
  exact .inl ⟨⟨xs,sm.seq hq,by rw[e];exact le_refl _⟩,q D bs H2 hDn sm hd e λj b h=>(ra j b h).2⟩
theorem zd:cI ["book", "person", "entries", "others", "own", "chosen", "story"] ["book", "person"] (cG oU):={}
theorem Hd {f:Addr}{fd:FuncData}{Ns:Addr}{bm:List Value}(D:Df K mg "latest" oU ["book", "person"] f fd) (T:Txt K mg kw C) (ON:iZ K Ns bm) (hNs:mg "NoStory" =some (.ref Ns)) (G_open_entries:Gd P w K mg base 5 "open_entries" (EU C)) (G_hour_of:Gd P w K mg base 1 "hour_of" AF) (G_fitting_story:Gd P w K mg base 6 "fitting_story" (BE C)) (G_hours_in:Gd P w K mg base 1 "hours_in" DH):Fh P w K mg base 7 "latest" (Ak C Ns):=by
 refine J.B8 D zd ON hNs rfl (by decide) (λvs H Q E h=>?_) (λX Y H vs Q E hh lift _ rz h=>?_)
 ·obtain⟨x,p,s,t,y,z,ps,ss,ts,ys,sg,qd,sd,F0,rfl,_⟩:=h
  rfl
 ·obtain⟨x,p,s,t,y,z,ps,ss,ts,ys,sg,qd,sd,F0,rfl,bk,pl,sl,tl,gs,gp,qs,qk,sy,l60,nn,f0,k,kE⟩:=h
  obtain⟨S0,S1,S2,S3,S4,S5,S6,_⟩:=hh.eB [0,1,2,3,4,5,6];have B_sorted:=hh.b T.b_sorted;have C_fitting_story:=hh.c G_fitting_story;have C_hours_in:=hh.c G_hours_in;have C_open_entries:=hh.c G_open_entries;have CS_hour_of:=hh.Jh G_hour_of rfl (by first|decide|exact le_refl _) (by decide);have hu:=eU hh.room;have hsz:sizeLine=16777216:=sizeLine_eq;refine⟨_,(ag (lift (aD S2 hh.nd (aw C_open_entries (ao (aa S0)))))
 (ag (lift (bL (is:=[1]) (xs:=["entry"]) (ns:=["person"]) S3 hh.nd hh.calm (aO (aa S2)) {} (λ_ _ _ _ _=>(aR (i:=0) (by decide+kernel) rfl rfl)) (λ_ _ _ _ _=>(bz (aB bQ (af bf (aK (i:=0) rfl rfl (by decide) (by decide)) ae ah) (aY (i:=1) rfl rfl (by decide) (by decide)) (L2.cJ _)))) (λ_ _ _ _ _=>(aK (i:=0) rfl rfl (by decide) (by decide))) hh.hsc hh.hN (by decide+kernel)))
 (ag (lift (bL (is:=[1]) (xs:=["entry"]) (ns:=["person"]) S4 hh.nd hh.calm (aO (aa S2)) {} (λ_ _ _ _ _=>(aR (i:=0) (by decide+kernel) rfl rfl)) (λ_ _ _ _ _=>(bz (aB aL (af bf (aK (i:=0) rfl rfl (by decide) (by decide)) ae ah) (aY (i:=1) rfl rfl (by decide) (by decide)) (L2.cJ _)))) (λ_ _ _ _ _=>(aK (i:=0) rfl rfl (by decide) (by decide))) hh.hsc hh.hN (by decide+kernel)))
 (ag (lift (bo hh.own hh.calm (aO (az J.jD (ba (ao (ba bE))) (bK (is:=[]) (xs:=["entry"]) (ns:=[]) hh.calm (aO (J.Jy B_sorted CS_hour_of (ao (aa S4)))) {} (λ_ _ _ _ _=>(aR (i:=0) (by decide+kernel) rfl rfl)) (λ_ _ _ _ _=>bV) (λ_ _ _ _ _=>(ba (ao (aK (i:=0) rfl rfl (by decide) (by decide))))) hh.hsc hh.hN))) (aG S5 hh.nd)
 (ag (aD S6 hh.nd (aw C_fitting_story (aA (aa S0) (az J.jD (aa S3) (aa S5)))))
 (aj (aI (aB cv (aa S6) bB (L2.cJ _))
 (aj (au (aV (aA (J.HA hu (aw C_hours_in (ao (aa S6))) (aa S1)) (aa S6)))))
 aJ)))))
 (aj (rz (ao aP) rfl)))))),?_⟩
  refine⟨_,rfl,x,p,s,t,y,ps,ss,ts,ys,sg,qd,sd,rfl,bk,pl,sl,tl,gs,gp,qs,qk,sy,l60,λen us H1 s1 nen hen lz ul=>?_⟩;obtain⟨as,rfl,ll,le⟩:=C4 lz;rw[length_map]at ul;have oin:=Gm (sd:=sd) gp qk;generalize hE:fI sg qd sd=Eo at ll le nn f0 oin k lz;have zl:(as.zip Eo).length=as.length:=by rw[length_zip,ll,min_self]
  have zat:∀{i:Nat}{v:V},(as.map V.ref)[i]? =some v->∃q,(as.zip Eo)[i]? =some q/\v=.ref q.1/\dS H1 q.1 q.2:=λ{i v} hv=>by
   rw[getElem?_map]at hv;obtain⟨a,ha,rfl⟩:=map_eq_some_iff.mp hv;obtain⟨d,hd⟩:∃d,Eo[i]? =some d:=⟨_,getElem?_eq_getElem (by rw[<-ll];exact(List.getElem?_eq_some_iff.mp ha).1)⟩;exact⟨(a,d),j8 ha hd,rfl,le i a d ha hd⟩
  have zmem:∀q∈as.zip Eo,dS H1 q.1 q.2/\q.2∈Eo:=λq hq=>by
   obtain⟨i,hi⟩:=getElem?_of_mem hq;obtain⟨h1,h2⟩:=nV hi;exact⟨le i _ _ h1 h2,mem_of_getElem? h2⟩
  refine⟨_,rfl,en,rfl,⟨_,cL.of hen⟩,dj (xs:=as.map V.ref) (iq (as.zip Eo) λq=>decide (q.2.1≠z)) (rX (as.zip Eo) λq=>V.ref q.1) (cL.of hen) (by rw[length_map];omega) ?_ ?_⟩
  ·intro i os v H2 K1 K2 hv hos s2 k1 k2
   obtain⟨o,rfl⟩:=osA hos
   ·
    obtain⟨⟨a,d⟩,hq,rfl,wa,ha,_⟩:=zat hv;rw[dI hq]at k1 k2;rw[fc hq]at k1;refine⟨⟨[some (.ref a)],rfl,rfl⟩,⟨_,rfl,xT (s2 _ _ ha) rfl ⟨_,rfl,rfl,_,rfl,cZ (λe=>⟨_,rfl,k1 ?_ H2 (cF.refl _)⟩) (λe=>k2 ?_ H2 (cF.refl _))⟩⟩⟩
    ·refine decide_eq_true λe2=>?_
     rw[show decide (V.str d.1=V.str z)=true from decide_eq_true (congrArg V.str e2)]at e;cases e
    ·refine decide_eq_false λe2=>e ?_
     rw[show decide (V.str d.1=V.str z)=false from decide_eq_false λx=>e2 (V.str.inj x)];rfl
  intro ot H2 not' s2 hot;rw[length_map,<-zl,dw]at hot;have s12:=s1.trans s2;refine⟨_,rfl,en,rfl,⟨_,cL.of (s2 _ _ hen)⟩,dj (xs:=as.map V.ref) (iq (as.zip Eo) λq=>decide (q.2.1=z)) (rX (as.zip Eo) λq=>V.ref q.1) (cL.of (s2 _ _ hen)) (by rw[length_map];omega) ?_ ?_⟩
  ·intro i os v H3 K1 K2 hv hos s3 k1 k2
   obtain⟨o,rfl⟩:=osA hos
   ·
    obtain⟨⟨a,d⟩,hq,rfl,wa,ha,_⟩:=zat hv;rw[dI hq]at k1 k2;rw[fc hq]at k1;refine⟨⟨[some (.ref a)],rfl,rfl⟩,⟨_,rfl,xT (s3 _ _ (s2 _ _ ha)) rfl ⟨_,rfl,rfl,_,rfl,cZ (λe=>⟨_,rfl,k1 ?_ H3 (cF.refl _)⟩) (λe=>k2 ?_ H3 (cF.refl _))⟩⟩⟩
    ·exact decide_eq_true (V.str.inj (of_decide_eq_true e))
    ·exact decide_eq_false λe2=>e (decide_eq_true (congrArg V.str e2))
  intro ow H3 now' s3 how;rw[length_map,<-zl,dw]at how;have eO:=Es (λd=>decide (d.1≠z)) ll;have eW:=Es (λd=>decide (d.1=z)) ll;have mA1:∀q∈(as.zip Eo).filter (λq=>decide (q.2.1≠z)),dS H1 q.1 q.2/\q.2∈Eo:=λq hq=>zmem q (mem_filter.mp hq).1;have mA2:∀q∈(as.zip Eo).filter (λq=>decide (q.2.1=z)),dS H1 q.1 q.2/\q.2∈Eo/\q.2.1=z:=λq hq=>⟨(zmem q (mem_filter.mp hq).1).1,(zmem q (mem_filter.mp hq).1).2,of_decide_eq_true (mem_filter.mp hq).2⟩;have ownE:∀e∈Eo,e.1=z->∃q∈(as.zip Eo).filter (λq=>decide (q.2.1=z)),q.2=e:=λe he e1=>by
   obtain⟨i,hi⟩:=getElem?_of_mem he;obtain⟨a,ha⟩:∃a,as[i]? =some a:=⟨_,getElem?_eq_getElem (by rw[ll];exact(List.getElem?_eq_some_iff.mp hi).1)⟩;exact⟨(a,e),mem_filter.mpr ⟨mem_of_getElem? (j8 ha hi),decide_eq_true e1⟩,rfl⟩
  have l1:=length_filter_le (λq:Addr×ED=>decide (q.2.1≠z)) (as.zip Eo);have l2:=length_filter_le (λq:Addr×ED=>decide (q.2.1=z)) (as.zip Eo);generalize (as.zip Eo).filter (λq=>decide (q.2.1≠z))=A1 at hot eO mA1 l1;generalize (as.zip Eo).filter (λq=>decide (q.2.1=z))=A2 at how mA2 ownE l2 eW;have s13:=s2.trans s3;have hot3:=s3 _ _ hot;have eO':A1.map (·.2)=Eo.filter λd=>decide (d.1≠z):=eO;generalize hO:(Eo.filter λd=>decide (d.1≠z))=O at eO';have mO:∀d∈O,d∈Eo/\d.1≠z:=λd hd=>by
   rw[<-hO]at hd;exact⟨(mem_filter.mp hd).1,of_decide_eq_true (mem_filter.mp hd).2⟩
  have Om:∀d∈Eo,d.1≠z->d∈O:=λd hd n=>by
   rw[<-hO];exact mem_filter.mpr ⟨hd,decide_eq_true n⟩
  refine⟨wW,λe0 ne0=>⟨Hq,λe1 ne1=>?_⟩⟩;have s4:=cF.upd (o:=.lst []) ne0;have s5:=cF.upd (o:=.lst [V.ref e0]) ne1;have he0:=s5 _ _ (show upd H3 e0 (.lst []) e0=some (.lst []) from cD);have he1:upd (upd H3 e0 (.lst [])) e1 (.lst [V.ref e0]) e1=some (.lst [V.ref e0]):=cD;have s35:=s4.trans s5;generalize upd (upd H3 e0 (.lst [])) e1 (.lst [V.ref e0])=H5 at s35 he0 he1;clear s4 s5 ne0 ne1;have s15:=s13.trans s35;refine⟨_,rfl,ow,A2.map (·.1),sO H1,rfl,by rw[map_map];exact cL.of (s35 _ _ how),λa ha Q' q'=>?_,λl zy nl pm pw stb=>?_⟩
  ·obtain⟨q,hq,rfl⟩:=mem_map.mp ha
   have ev:=(mA2 q hq).1;rw[iK ev]at q';obtain⟨wa,h1,_⟩:=ev;exact⟨q.1,_,_,_,rfl,s15 _ _ h1,q'⟩
  rw[if_pos rfl];have zpm:zy.reverse.Perm (A2.map (·.1)):=(List.reverse_perm zy).trans pm;have zpw:∀{i j:Nat}{a b:Addr},i < j->zy.reverse[i]? =some a->zy.reverse[j]? =some b->sO H1 b<=sO H1 a:=λ{i j a b} ij ha hb=>by
   have pr:zy.reverse.Pairwise λa b=>sO H1 b<=sO H1 a:=List.pairwise_reverse.mpr pw;obtain⟨h1,e1⟩:=List.getElem?_eq_some_iff.mp ha;obtain⟨h2,e2⟩:=List.getElem?_eq_some_iff.mp hb;have:=List.pairwise_iff_getElem.mp pr i j h1 h2 ij
   rwa [e1,e2]at this
  have zst:∀i,zy.reverse.filter (λa=>decide (sO H1 a=i))=(A2.map (·.1)).filter (λa=>decide (sO H1 a=i)):=λi=>by
   have:=stb i;rw[if_pos rfl]at this;rw[List.filter_reverse,this,List.filter_reverse,reverse_reverse]
  generalize zy.reverse=zs at zpm zpw zst;have zlen:zs.length=A2.length:=by rw[zpm.length_eq,length_map]
  have s6:=cF.upd (o:=.lst (zs.map V.ref)) nl;have hl6:upd H5 l (.lst (zs.map V.ref)) l=some (.lst (zs.map V.ref)):=cD;generalize upd H5 l (.lst (zs.map V.ref))=H6 at s6 hl6;have zent:∀{j:Nat}{a:Addr},zs[j]? =some a->∃d,(a,d)∈A2:=λ{j a} h=>by
   obtain⟨q,hq,e⟩:=mem_map.mp (zpm.mem_iff.mp (mem_of_getElem? h));exact⟨q.2,by rw[<-e];exact hq⟩
  have entz:∀q∈A2,∃j,zs[j]? =some q.1:=λq hq=>getElem?_of_mem (zpm.mem_iff.mpr (mem_map.mpr ⟨q,hq,rfl⟩));refine⟨l,rfl,⟨_,cL.of hl6⟩,BC (cL.of hl6) (by rw[length_map];omega) (λi v H7 K1 hv s7 k1=>⟨_,rfl,Hq,λb nb=>k1 b nb⟩) λcm bs H7 ncm s7 hcm bl br=>?_⟩;rw[length_map]at bl;have s57:=s6.trans s7;refine⟨e1,cm,_,_,rfl,rfl,cL.of (s57 _ _ he1),cL.of hcm,by rw[length_map];show 0+1+_<=_;omega,λtr ntr=>?_⟩;have s8:=cF.upd (o:=.lst ([V.ref e0]++bs.map V.ref)) ntr;have htr:upd H7 tr (.lst ([V.ref e0]++bs.map V.ref)) tr=some (.lst ([V.ref e0]++bs.map V.ref)):=cD;generalize upd H7 tr (.lst ([V.ref e0]++bs.map V.ref))=H8 at s8 htr;have s58:=s57.trans s8;have s38:=s35.trans s58;have s18:=s13.trans s38;have he8:=s58 _ _ he0;have hot8:=s38 _ _ hot3;have s08:=s1.trans s18;have cho:∀{i:Nat}{v:V},([V.ref e0]++bs.map V.ref)[i]? =some v->∃(c:Addr) (cp:List (Addr×ED)),v=.ref c/\H8 c=some (.lst (cp.map λq=>V.ref q.1))/\(∀q∈cp,q∈A2)/\((i=0/\cp=[])\/∃j a d,i=j+1/\zs[j]? =some a/\(a,d)∈A2/\cp=[(a,d)]):=λ{i v} hv=>by
   cases i with
   |zero=>
    cases hv;exact⟨e0,[],rfl,he8,(λq hq=>by cases hq),.inl ⟨rfl,rfl⟩⟩
   |succ j=>
    have hv':(bs.map V.ref)[j]? =some v:=hv;rw[getElem?_map]at hv';obtain⟨b,hb,rfl⟩:=map_eq_some_iff.mp hv';obtain⟨u,hu,hbl⟩:=br j b hb;rw[getElem?_map]at hu;obtain⟨a,ha,rfl⟩:=map_eq_some_iff.mp hu;obtain⟨d,hd⟩:=zent ha;exact⟨b,[(a,d)],rfl,s8 _ _ hbl,(λq hq=>by cases mem_singleton.mp hq;exact hd),.inr ⟨j,a,d,rfl,ha,hd,rfl⟩⟩
  refine⟨tr,rfl,⟨_,cL.of htr⟩,da (K:=X.K) (a:=tr) (xs:=[V.ref e0]++bs.map V.ref) (λi σ H9=>∃e5 e6:Option V,σ=[some (.ref x),some (.str z),some (.ref en),some (.ref ot),some (.ref ow),e5,e6]/\cF H8 H9/\(0 < i->∀F,dM O F->bx F sd≠[])/\∀j a d,j+1 < i->zs[j]? =some a->(a,d)∈A2->∀F,dM (O++[d]) F->bx F sd≠[]) ⟨none,none,rfl,cF.refl _,(λh=>absurd h (lt_irrefl 0)),λj a d h=>absurd h (Nat.not_lt_zero _)⟩ ?_ ?_ ?_⟩
  ·rintro i σ H9 hi ⟨e5,e6,rfl,s9,nf1,nf2⟩
   exact cL.of (s9 _ _ htr)
  ·rintro i v σ H9 hv ⟨e5,e6,rfl,s9,nf1,nf2⟩
   obtain⟨c,cp,rfl,hc,mcp,cas⟩:=cho hv;have s89:=s08.trans s9;have cl:cp.length<=1:=by
    rcases cas with ⟨_,rfl⟩|⟨j,a,d,_,_,_,rfl⟩
    ·exact zero_le _
    ·exact le_refl _
   refine⟨_,rfl,_,rfl,_,rfl,ot,c,_,_,rfl,rfl,cL.of (s9 _ _ hot8),cL.of (s9 _ _ hc),by rw[length_map,length_map];omega,λq nq=>?_⟩;have s10:=cF.upd (o:=.lst ((A1.map λq=>V.ref q.1)++cp.map λq=>V.ref q.1)) nq;have hq:upd H9 q (.lst ((A1.map λq=>V.ref q.1)++cp.map λq=>V.ref q.1)) q=some (.lst (((A1++cp).map (·.1)).map V.ref)):=by
    rw[cD,map_map,map_append];rfl
   generalize upd H9 q (.lst ((A1.map λq=>V.ref q.1)++cp.map λq=>V.ref q.1))=H10 at s10 hq;have s010:=s89.trans s10;have s110:=(s18.trans s9).trans s10;have mPL:∀r∈A1++cp,dS H1 r.1 r.2/\r.2∈Eo:=λr hr=>by
    rcases mem_append.mp hr with h|h
    ·exact mA1 r h
    ·exact⟨(mA2 r (mcp r h)).1,(mA2 r (mcp r h)).2.1⟩
   have dsE:(A1++cp).map (·.2)=O++cp.map (·.2):=by rw[map_append,eO']
   refine⟨x,p,s,t,y,q,(A1++cp).map (·.1),(A1++cp).map (·.2),ps,ss,ts,ys,sg,qd,sd,rfl,bk.mono s010,sy.mono (Tk.of s010),l60,hq,by rw[length_map,length_append];omega,by rw[length_map,length_map],λi a d ha hd=>?_,pl,λd hd=>?_,λd hd=>?_,λl us F st H11 s11 nl hl lz fo so stl hb=>?_,λF H11 s11 fo hb=>?_⟩
   ·rw[getElem?_map]at ha hd
    obtain⟨r,hr,rfl⟩:=map_eq_some_iff.mp ha;rw[hr]at hd;cases hd;exact(mPL r (mem_of_getElem? hr)).1.mono (Tk.of s110)
   ·obtain⟨r,hr,rfl⟩:=mem_map.mp hd
    exact oin _ (mPL r hr).2
   ·obtain⟨r,hr,rfl⟩:=mem_map.mp hd
    rw[hE];exact(mPL r hr).2
   ·rw[dsE]at fo so
    refine⟨_,rfl,rfl,_,rfl,dq ⟨_,rfl,l,us,st,rfl,hl,lz,so.nd,stl,λkn H12 s12 hk=>?_⟩⟩;refine⟨kn,rfl,.inl ⟨_,.inl hk⟩,_,rfl,_,eT.k (k:=Sum.inr z) hk,_,rfl,DV,λr nr=>?_⟩;have ov:(dz (iY st) (Sum.inr z)).getD .non=oV (F z):=by
     rw[i8 so];cases F z<;>rfl
    have s13':=cF.upd (o:=.tup [(dz (iY st) (Sum.inr z)).getD .non,V.ref l]) nr;have lc:kW Eo sd z (F z)/\((F z=none/\O++cp.map (·.2)=Eo.filter λd=>decide (d.1≠z))\/∃h e,F z=some h/\(Eo.filter λd=>decide (d.1=z)).find? (λe=>decide (e.2.1=h) && tq (Eo.filter λd=>decide (d.1≠z)) sd e)=some e/\O++cp.map (·.2)=(Eo.filter λd=>decide (d.1≠z))++[e]):=by
     rcases cas with ⟨rfl,rfl⟩|⟨j,a,d,rfl,hz,hd,rfl⟩
     ·rw[map_nil,append_nil]at fo
      have nz:F z=none:=by
       cases hF:F z with
       |none=>rfl
       |some h=>
        obtain⟨d,md,e1,_⟩:=lM fo hF;exact absurd e1 (mO d md).2
      rw[nz];exact⟨⟨λ_=>⟨F,by rw[hO];exact fo,hb⟩,(λh e=>by cases e),(λh e=>by cases e),(λh e=>by cases e)⟩,.inl ⟨rfl,by rw[hO,map_nil,append_nil]⟩⟩
     ·have fo':dM (O++[d]) F:=fo
      have md:=mA2 _ hd;have nf0:=nf1 (succ_pos _);cases hF:F z with
      |none=>
       refine absurd hb (nf0 F (kB (p:=z) fo' (λd' hd'=>?_) (λd' hd'=>mem_append_left _ hd') (λd' hd' n=>?_) λh e=>by rw[hF]at e;cases e))
       ·rcases mem_append.mp hd' with h'|h'
        ·exact nn d' (mO d' h').1
        ·rw[mem_singleton.mp h']
         exact nn d md.2.1
       ·rcases mem_append.mp hd' with h'|h'
        ·exact h'
        ·rw[mem_singleton.mp h']at n
         exact absurd md.2.2 n
      |some h=>
       obtain⟨d',md',e1,e2,_⟩:=lM fo' hF;have ed:d'=d:=by
        rcases mem_append.mp md' with h'|h'
        ·exact absurd e1 (mO d' h').2
        ·exact mem_singleton.mp h'
       subst ed;refine⟨⟨(λe=>by cases e),λh2 e=>by rw[hO];exact nf0,λh2 e=>?_,λh2 e e' he' e1' lt F' fo2=>?_⟩,.inr ⟨h,d',rfl,?_,by rw[hO];rfl⟩⟩
       rotate_left 2
       ·have pf:=wx (A2:=A2) (zs:=zs) (g:=sO H1) (fit:=tq O sd) (j:=j) (a:=a) (d:=d') (h:=h) (λq hq=>iK (mA2 q hq).1) (λq hq q' hq' e=>by
         have h1:=(mA2 q hq).1;rw[e]at h1;exact jC h1 (mA2 q' hq').1) zst (λb hb'=>by
         obtain⟨i',hi'⟩:=getElem?_of_mem hb';exact zent hi') hz hd (GS ⟨F,fo',hb⟩) e2 (λj' a' d'' lt hj' hd'=>Gw λF' f1=>nf2 j' a' d'' (by omega) hj' hd' F' f1)
        rw[hO];exact(congrArg (λl:List ED=>l.find? _) eW.symm).trans pf
       ·cases e
        exact⟨d',md.2.1,e1,e2,F,by rw[hO];exact fo',hb,hF⟩
       ·cases e
        rw[hO]at fo2;obtain⟨q',hq',rfl⟩:=ownE e' he' e1';obtain⟨j',hj'⟩:=entz q' hq';refine nf2 j' q'.1 q'.2 ?_ hj' hq' F' fo2;have c1:=iK (mA2 q' hq').1;have c2:sO H1 a=d'.2.1:=iK md.1;have c3:¬j < j':=λlt'=>by
         have:=zpw lt' hz hj';rw[c1,c2]at this;have e2':d'.2.1=h:=e2;omega
        have c4:j'≠j:=λe=>by
         rw[e,hz]at hj';cases hj';have e2':d'.2.1=h:=e2;have c5:=c1.symm.trans c2;have c6:q'.2.2.1=d'.2.1:=c5;omega
        omega
    refine k r l us _ F st _ (((s010.trans s11).trans s12).trans s13') (by rw[<-ov];exact cD) (s010.free nl) ((s12.trans s13') _ _ hl) (lz.mono (dW.mono (Tk.of (s12.trans s13')))) (λd hd=>?_) fo so stl hb lc.1 lc.2
    ·rw[<-dsE]at hd
     obtain⟨r',hr',rfl⟩:=mem_map.mp hd;exact(mPL r' hr').2
   ·rw[dsE]at fo
    refine⟨_,rfl,rfl,_,rfl,cV ⟨_,_,rfl,(s9.trans s10).trans s11,λ_ F' fo'=>?_,λj a d hj hz hd F' fo'=>?_⟩⟩
    ·rcases cas with ⟨rfl,rfl⟩|⟨j,a,d,rfl,hz,hd,rfl⟩
     ·rw[map_nil,append_nil]at fo
      rw[nZ fo' fo];exact hb
     ·exact nf1 (succ_pos _) F' fo'
    ·rcases cas with ⟨rfl,rfl⟩|⟨j',a',d',rfl,hz',hd',rfl⟩
     ·omega
     ·by_cases e:j=j'
      ·subst e
       rw[hz]at hz';cases hz';have e2:=jC (mA2 _ hd).1 (mA2 _ hd').1;have e2':d=d':=e2;subst e2';rw[nZ fo' (show dM (O++[d]) F from fo)];exact hb
      ·exact nf2 j a d (by omega) hz hd F' fo'
  ·rintro σ H9 ⟨e5,e6,rfl,s9,nf1,nf2⟩
   rw[length_append,length_map,bl]at nf1 nf2;have one:([V.ref e0]:List V).length=1:=rfl;rw[one]at nf1 nf2;refine⟨Hq,kE (λb0=>?_) _ (s08.trans s9)⟩;cases hF:F0 z with
   |none=>exact nf1 (by omega) F0 (kB f0 nn (λd hd=>(mO d hd).1) Om λh e=>by rw[hF]at e;cases e) b0
   |some h=>
    obtain⟨e0',me0,e1',e2',cf⟩:=lM f0 hF;obtain⟨q',hq',rfl⟩:=ownE e0' me0 e1';obtain⟨j',hj'⟩:=entz q' hq';refine nf2 j' q'.1 q'.2 (by have:=(List.getElem?_eq_some_iff.mp hj').1;omega) hj' hq' F0 (kB (p:=z) f0 nn (λd hd=>?_) (λd hd n=>mem_append_left _ (Om d hd n)) λh' e=>?_) b0
    ·rcases mem_append.mp hd with h'|h'
     ·exact(mO d h').1
     ·rw[mem_singleton.mp h']
      exact me0
    ·rw[hF]at e
     cases e;exact⟨q'.2,mem_append_right _ (mem_singleton_self _),e1',e2',cf⟩
theorem DK{P:Nat->Prop}{n:Nat}(hn:P n):∃m,P m/\∀k,P k->m<=k:=by
 induction n using Nat.strongRecOn with
 |_ n ih=>
  by_cases c:∃k,k < n/\P k
  ·obtain⟨k,kl,pk⟩:=c
   exact ih k kl pk
  ·exact⟨n,hn,λk pk=>Nat.le_of_not_lt λl=>c ⟨k,l,pk⟩⟩
theorem AV{ds:List ED}(nn:∀d∈ds,0<=d.2.1){z:Str}{h:Int}(r:mL ds z h):0<=h:=by
 cases r with
 |saw m=>exact nn _ m
 |hrd m _ _=>exact nn _ m
theorem HX{ds:List ED}(nn:∀d∈ds,0<=d.2.1):∃F,dM ds F:=by
 have key:∀z,∃o:Option Int,(∀h,o=some h->mL ds z h)/\∀h,mL ds z h->∃b,b<=h/\o=some b:=λz=>by
  by_cases c:∃n:Nat,mL ds z n
  ·obtain⟨n,hn⟩:=c
   obtain⟨m,hm,mn⟩:=DK (P:=λn=>mL ds z n) hn;refine⟨some m,λh e=>by cases e;exact hm,λh r=>⟨m,?_,rfl⟩⟩;have h0:=AV nn r;have:=mn h.toNat (by rw[Int.toNat_of_nonneg h0];exact r);omega
  ·refine⟨none,(λh e=>by cases e),λh r=>absurd ⟨h.toNat,?_⟩ c⟩
   rw[Int.toNat_of_nonneg (AV nn r)];exact r
 refine⟨λz=>Classical.choose (key z),λd hd cf=>?_,λz h e=>(Classical.choose_spec (key z)).1 h e⟩;obtain⟨z,h,w⟩:=d;refine(Classical.choose_spec (key z)).2 h ?_;cases w with
 |saw i=>exact .saw hd
 |hrd k te=>
  have cf':(match Classical.choose (key te) with|none=>false|some a=>decide (a < h))=true:=cf;cases hT:Classical.choose (key te) with
  |none=>rw[hT]at cf';cases cf'
  |some b=>
   rw[hT]at cf';exact .hrd hd ((Classical.choose_spec (key te)).1 b hT) (of_decide_eq_true cf')
theorem uR{sg:List GD}{qd:List QD}{ix:List Nat}{ks:List TK}{F:FH}(ik:∀i∈ix,i < sg.length)(so:sQ sg F ix)(to:∀t∈ks,H0 qd F t)(rc:∀z i,F z=some i->jq sg qd ix ks z i):dM (ix.map (sP sg)++ks.map (qi qd)) F:=by
 refine⟨λd hd cf=>?_,λz h e=>?_⟩
 ·rcases mem_append.mp hd with hd|hd
  ·obtain⟨i,mi,rfl⟩:=mem_map.mp hd
   obtain⟨g,hg⟩:∃g,sg[i]? =some g:=⟨_,getElem?_eq_getElem (ik i mi)⟩;have e:sP sg i=(g.1,g.2,.saw i):=by
    unfold sP;rw[hg]
   rw[e];obtain⟨j,j1,j2⟩:=so i mi g hg;exact⟨j,j2,j1⟩
  ·obtain⟨t,mt,rfl⟩:=mem_map.mp hd
   have cf':(match F t.2.1 with|none=>false|some a=>decide (a < d4 qd t.1))=true:=cf;cases hT:F t.2.1 with
   |none=>rw[hT]at cf';cases cf'
   |some a=>
    rw[hT]at cf';obtain⟨b,b1,b2⟩:=to t mt a hT (of_decide_eq_true cf');exact⟨b,b2,b1⟩
 ·have r:=rc z h e
  clear e
  induction r with
  |saw m e=>
   rename_i i g
   refine .saw (i:=i) (mem_append_left _ (mem_map.mpr ⟨i,m,?_⟩));unfold sP;rw[e]
  |hrd m r l ih=>exact .hrd (mem_append_right _ (mem_map.mpr ⟨_,m,rfl⟩)) ih l
end K31
namespace K31
open PySem L2
variable {P:Program}{w:World}{K:PySem.W.Frag}{mg:Str->Option Value}{base:Heap}{kw C:Addr}{f:Addr}{fd:FuncData}
def mC(sd sd':List SD):Prop:=∀d,d∈sd↔d∈sd'
theorem mC.symm{sd sd':List SD}(h:mC sd sd'):mC sd' sd:=λd=>(h d).symm
theorem qW{sd sd':List SD}(h:mC sd sd')(z:Str)(o:Option Int)(m:o∈i7 z sd):o∈i7 z sd':=by
 obtain⟨d,hd,e⟩:=mem_map.mp m;exact mem_map.mpr ⟨d,mem_filter.mpr ⟨(h d).mp (mem_filter.mp hd).1,(mem_filter.mp hd).2⟩,e⟩
theorem tU{sd sd':List SD}(h:mC sd sd')(z:Str):floorOf z sd=floorOf z sd':=by
 unfold floorOf;by_cases n:none∈i7 z sd
 ·rw[kZ n,kZ (qW h z _ n)]
 ·have n':none ∉ i7 z sd':=λm=>n (qW h.symm z _ m)
  obtain⟨vs,e⟩:=xE n;obtain⟨vs',e'⟩:=xE n';obtain⟨m,e1,m1,u1⟩:=kj vs (-1);obtain⟨m',e2,m2,u2⟩:=kj vs' (-1);have go:∀{a b:List Int}{sa sb:List SD},mC sa sb->i7 z sa=a.map some->i7 z sb=b.map some->∀x∈(-1:Int)::a,x∈(-1:Int)::b:=λ{a b sa sb} hh ea eb x hx=>by
   rcases mem_cons.mp hx with rfl|hx
   ·exact .head _
   ·have:=qW hh z (some x) (by rw[ea];exact List.mem_map_of_mem hx)
    rw[eb]at this;obtain⟨y,hy,e⟩:=mem_map.mp this;cases e;exact .tail _ hy
  have a1:=u2 m (go h e e' m m1);have a2:=u1 m' (go h.symm e' e m' m2);rw[e,e',e1,e2,show m=m' by omega]
theorem any_eq{sd sd':List SD}(h:mC sd sd')(f:SD->Bool):sd.any f=sd'.any f:=by
 rw[Bool.eq_iff_iff,any_eq_true,any_eq_true];exact⟨λ⟨d,m,e⟩=>⟨d,(h d).mp m,e⟩,λ⟨d,m,e⟩=>⟨d,(h d).mpr m,e⟩⟩
theorem all_eq{sd sd':List SD}(h:mC sd sd')(f:SD->Bool):sd.all f=sd'.all f:=by
 rw[Bool.eq_iff_iff,all_eq_true,all_eq_true];exact⟨λk d m=>k d ((h d).mpr m),λk d m=>k d ((h d).mp m)⟩
theorem qT{sg:List GD}{qd:List QD}{sd sd':List SD}(h:mC sd sd'):fI sg qd sd=fI sg qd sd':=by
 have e1:eG sd=eG sd':=funext λd=>by unfold eG;rw[tU h]
 have e2:c8 qd sd=c8 qd sd':=funext λt=>by unfold c8;rw[tU h,any_eq h,any_eq h]
 unfold fI;rw[e1,e2]
theorem BA{F:FH}{sd:List SD}:bx F sd=[]↔sd.all (pV F)=true:=⟨lQ,qr⟩
def lB(o:Option Int)(i:Int):Bool:=match o with
 |none=>false
 |some m=>decide (m<=i)
def hB(z:Str)(o:Option Int)(d:ED):Bool:=decide (d.1≠z) || lB o d.2.1
theorem Et{z:Str}{o:Option Int}{d:ED}(h:d.1≠z):hB z o d=true:=by
 unfold hB;rw[decide_eq_true h];rfl
theorem AI{z:Str}{o:Option Int}{d:ED}(h:d.1=z):hB z o d=lB o d.2.1:=by
 unfold hB;rw[decide_eq_false (λn=>n h),Bool.false_or]
theorem L5{a b:Str}(e:(!decide (V.str a=V.str b))=true):a≠b:=λe2=>by
 rw[show decide (V.str a=V.str b)=true from decide_eq_true (congrArg V.str e2)]at e;cases e
theorem LW{a b:Str}(e:¬(!decide (V.str a=V.str b))=true):a=b:=Decidable.byContradiction λn=>e (by
 rw[show decide (V.str a=V.str b)=false from decide_eq_false λx=>n (V.str.inj x)];rfl)
def qe(E:List ED)(sd:List SD)(z:Str)(o:Option Int):Prop:=∃F,dM (E.filter (hB z o)) F/\sd.all (pV F)=true
structure Au(E:List ED)(sd:List SD)(z:Str)(hs:List Int)(L:Option Int):Prop where
 no:L=none->qe E sd z none
 un:∀m,L=some m->¬qe E sd z none
 me:∀m,L=some m->m= -1\/(m∈hs/\qe E sd z (some m))
 up:∀m,L=some m->∀h∈hs,qe E sd z (some h)->h<=m
theorem wZ(E:List ED)(z:Str):E.filter (hB z none)=E.filter λd=>decide (d.1≠z):=List.filter_congr λd _=>Bool.or_false _
theorem Bq{E:List ED}{sd:List SD}{z:Str}{hs:List Int}{L L':Option Int}(nn:∀d∈E,0<=d.2.1)(hin:∀d∈E,d.1=z->d.2.1∈hs)(a:kW E sd z L)(b:Au E sd z hs L'):L'=L:=by
 cases L with
 |none=>
  cases L' with
  |none=>rfl
  |some m=>
   obtain⟨F,f1,f2⟩:=a.no rfl;exact absurd ⟨F,by rw[wZ];exact f1,lQ f2⟩ (b.un m rfl)
 |some h=>
  have un:=a.un h rfl;have nOk:¬qe E sd z none:=λ⟨F,f1,f2⟩=>un F (by rw[<-wZ];exact f1) (qr f2);cases L' with
  |none=>exact absurd (b.no rfl) nOk
  |some m=>
   obtain⟨e,me,e1,e2,F,f1,f2,f3⟩:=a.at' h rfl;have hin':=hin e me e1;rw[e2]at hin';have hnn:=nn e me;rw[e2]at hnn;obtain⟨G,g1⟩:=HX (ds:=E.filter (hB z (some h))) λd hd=>nn d (mem_filter.mp hd).1;have Ho:qe E sd z (some h):=by
    refine⟨G,g1,lQ (wR (λy i e'=>lG f1 g1 (λd hd=>?_) e') f2)⟩;rcases mem_append.mp hd with hd|hd
    ·refine mem_filter.mpr ⟨(mem_filter.mp hd).1,?_⟩
     unfold hB;rw[(mem_filter.mp hd).2];rfl
    ·rw[mem_singleton.mp hd]
     refine mem_filter.mpr ⟨me,?_⟩;unfold hB;rw[e2];show(_ || decide (h<=h))=true;rw[decide_eq_true (Int.le_refl h),Bool.or_true]
   have le:=b.up m rfl h hin' Ho;rcases b.me m rfl with rfl|⟨mi,M,m1,m2⟩
   ·omega
   ·have eq:m<=h:=by
     refine Int.not_lt.mp λlt=>?_;have nn':∀d∈E.filter (hB z (some m)),0<=d.2.1:=λd hd=>nn d (mem_filter.mp hd).1;have oth:∀d∈E.filter (hB z (some m)),d.1≠z->d∈E.filter λd=>decide (d.1≠z):=λd hd n=>mem_filter.mpr ⟨(mem_filter.mp hd).1,decide_eq_true n⟩;have bck:∀d∈E.filter (λd=>decide (d.1≠z)),d∈E.filter (hB z (some m)):=λd hd=>by
      refine mem_filter.mpr ⟨(mem_filter.mp hd).1,?_⟩;unfold hB;rw[(mem_filter.mp hd).2];rfl
     cases hM:M z with
     |none=>exact un M (kB (p:=z) m1 nn' bck oth λh' e'=>by rw[hM]at e';cases e') (qr m2)
     |some h'=>
      obtain⟨e',me',e1',e2',cf⟩:=lM m1 hM;obtain⟨mE,hb⟩:=mem_filter.mp me';have ge:m<=e'.2.1:=by
       unfold hB at hb;rw[decide_eq_false (λn=>n e1'),Bool.false_or]at hb;exact of_decide_eq_true hb
      refine a.up h rfl e' mE e1' (by omega) M (kB (p:=z) m1 nn' (λd hd=>?_) (λd hd n=>mem_append_left _ (oth d hd n)) λh2 e3=>?_) (qr m2)
      ·rcases mem_append.mp hd with hd|hd
       ·exact bck d hd
       ·rw[mem_singleton.mp hd]
        exact me'
      ·rw[hM]at e3
       cases e3;exact⟨e',mem_append_right _ (mem_singleton_self _),e1',e2',cf⟩
    rw[show m=h by omega]
def Hm(sg:List GD)(qd:List QD)(ks:List TK)(z:Str):List Int:=(sg.filter λg=>decide (g.1=z)).map (·.2)++(ks.filter λt=>decide (t.2.2=z)).map λt=>d4 qd t.1
inductive Nc(vs:List V)(H:Hp)(Q:VK):Prop
 |mk(th s t y tl:Addr)(z:Str)(ss ts us:List V)(sg:List GD)(qd:List QD)(ks:List TK)(e:vs=[.ref th,.ref tl,.str z])(hth:H th=some (.tup [.ref s,.ref t,.ref y]))(hs:H s=some (.lst ss))(ht:H t=some (.lst ts))(htl:H tl=some (.lst us))(sl:ss.length<=24)(ul:us.length<=240)
   (gs:Lz dH H ss sg)(qs:Lz dJ H ts qd)(tu:ej H us ks)(kk:∀t∈ks,t.1 < qd.length)
   (k:∀l H',cF H H'->H' l=some (.lst ((Hm sg qd ks z).map V.int))->Q (.ref l) H')
def Bg:Sp:=λvs H Q _=>Nc vs H Q
theorem p0:cI ["_law_things_here", "_law_tellings_here", "_law_person", "_law_found"] ["_law_things_here", "_law_tellings_here", "_law_person"] (cG iT):={}
theorem Fj (D:Df K mg "_law_hours_of" iT ["_law_things_here", "_law_tellings_here", "_law_person"] f fd):Gd P w K mg base 1 "_law_hours_of" Bg:=by
 refine aH D p0 λX H vs Q E hh h=>?_;obtain⟨th,s,t,y,tl,z,ss,ts,us,sg,qd,ks,rfl,hth,hs,ht,htl,sl,ul,gs,qs,tu,kk,k⟩:=h;obtain⟨S0,S1,S2,S3,_⟩:=hh.eB [0,1,2,3];have hsz:sizeLine=16777216:=sizeLine_eq;refine⟨_,(ag (bL (is:=[2]) (xs:=["_law_other", "_law_when", "_law_tale"]) (ns:=["_law_person"]) S3 hh.nd hh.calm (aO (af ak (aa S0) ae ah)) {} (λ_ _ _ _ _=>(b4 (n:=3) hh.calm (aF (aR (i:=0) (by decide+kernel) rfl rfl) (aF (aR (i:=1) (by decide+kernel) rfl rfl) (aF (aR (i:=2) (by decide+kernel) rfl rfl) bh))))) (λ_ _ _ _ _=>(bz (aB aL (aK (i:=0) rfl rfl (by decide) (by decide)) (aY (i:=3) rfl rfl (by decide) (by decide)) (L2.cJ _)))) (λ_ _ _ _ _=>(aK (i:=1) rfl rfl (by decide) (by decide))) hh.hsc hh.hN (by decide+kernel))
 (aj (au (az J.jD (aa S3) (bK (is:=[0,2]) (xs:=["_law_k", "_law_teller", "_law_hearer"]) (ns:=["_law_things_here", "_law_person"]) hh.calm (aO (aa S1)) {} (λ_ _ _ _ _=>(b4 (n:=3) hh.calm (aF (aR (i:=0) (by decide+kernel) rfl rfl) (aF (aR (i:=1) (by decide+kernel) rfl rfl) (aF (aR (i:=2) (by decide+kernel) rfl rfl) bh))))) (λ_ _ _ _ _=>(bz (aB aL (aK (i:=2) rfl rfl (by decide) (by decide)) (aY (i:=4) rfl rfl (by decide) (by decide)) (L2.cJ _)))) (λ_ _ _ _ _=>(af bf (af bX (af bf (aY (i:=3) rfl rfl (by decide) (by decide)) ae ah) (aK (i:=0) rfl rfl (by decide) (by decide)) aX) ae ah)) hh.hsc hh.hN))))),?_⟩
 refine⟨_,rfl,xT hth rfl ⟨s,rfl,⟨_,cL.of hs⟩,dj (xs:=ss) (iq sg λg=>decide (g.1=z)) (rX sg λg=>V.int g.2) (cL.of hs) (by omega) ?_ ?_⟩⟩
 ·intro i os v H2 K1 K2 hv hos s2 k1 k2
  obtain⟨o1,o2,o3,rfl⟩:=osC hos
  ·
   obtain⟨g,hg,a,ta,rfl,ha⟩:=gs.at hv;rw[dI hg]at k1 k2;rw[fc hg]at k1;refine⟨a,_,rfl,cW.of (s2 _ _ ha),rfl,_,_,rfl,_,_,rfl,_,_,rfl,rfl,⟨[some (.str g.1),some (.int g.2),some (.ref ta)],rfl,rfl⟩,?_⟩;refine⟨_,rfl,_,rfl,rfl,_,rfl,cZ (λe=>⟨_,rfl,k1 ?_ H2 (cF.refl _)⟩) (λe=>k2 ?_ H2 (cF.refl _))⟩
   ·exact decide_eq_true (V.str.inj (of_decide_eq_true e))
   ·exact decide_eq_false λe2=>e (decide_eq_true (congrArg V.str e2))
 intro o H1 no1 s1 ho;rw[gs.1,dw]at ho;have gfl:=length_filter_le (λg:GD=>decide (g.1=z)) sg;have gl:=gs.1;have tl':=tu.1;refine⟨_,rfl,_,rfl,tl,rfl,⟨_,cL.of (s1 _ _ htl)⟩,dj (xs:=us) (iq ks λt=>decide (t.2.2=z)) (rX ks λt=>V.int (d4 qd t.1)) (cL.of (s1 _ _ htl)) (by omega) ?_ ?_⟩
 ·intro i os v H2 K1 K2 hv hos s2 k1 k2
  obtain⟨o1,o2,o3,rfl⟩:=osC hos
  ·
   obtain⟨tk,htk⟩:∃tk,ks[i]? =some tk:=⟨_,getElem?_eq_getElem (by rw[<-tl'];exact(List.getElem?_eq_some_iff.mp hv).1)⟩;obtain⟨a,rfl,ha⟩:=tu.2 i v tk hv htk;rw[dI htk]at k1 k2;rw[fc htk]at k1;have s02:=s1.trans s2;have kl:=kk tk (mem_of_getElem? htk);obtain⟨vq,hvq⟩:∃vq,ts[tk.1]? =some vq:=⟨_,getElem?_eq_getElem (by rw[qs.1];exact kl)⟩;obtain⟨q,hq,qa,rfl,hqa⟩:=qs.at hvq;rw[eP hq]at k1;refine⟨a,_,rfl,cW.of (s02 _ _ ha),rfl,_,_,rfl,_,_,rfl,_,_,rfl,rfl,⟨[some (.int tk.1),some (.str tk.2.1),some (.str tk.2.2)],rfl,rfl⟩,?_⟩;refine⟨_,rfl,_,rfl,rfl,_,rfl,cZ (λe=>⟨_,rfl,xT (s02 _ _ hth) rfl ⟨_,rfl,xL (s02 _ _ ht) (cQ hvq) (xT (s02 _ _ hqa) rfl (k1 ?_ H2 (cF.refl _)))⟩⟩) (λe=>k2 ?_ H2 (cF.refl _))⟩
   ·exact decide_eq_true (V.str.inj (of_decide_eq_true e))
   ·exact decide_eq_false λe2=>e (decide_eq_true (congrArg V.str e2))
 intro o2 H2 no2 s2 ho2;rw[tl',dw]at ho2;have tfl:=length_filter_le (λt:TK=>decide (t.2.2=z)) ks;refine⟨o,o2,_,_,rfl,rfl,cL.of (s2 _ _ ho),cL.of ho2,by rw[length_map,length_map];omega,λr nr=>?_⟩;refine k r _ ((s1.trans s2).trans (cF.upd nr)) ?_;rw[cD];unfold Hm;rw[map_append,map_map,map_map];rfl
structure EF(ps:List Str)(H:Hp)(th s t y:Addr)(ss ts ys:List V)(sg:List GD)(qd:List QD)(sd:List SD):Prop where
 hth:H th=some (.tup [.ref s,.ref t,.ref y])
 hs:H s=some (.lst ss)
 ht:H t=some (.lst ts)
 hy:H y=some (.lst ys)
 sl:ss.length<=24
 tl:ts.length<=120
 gs:Lz dH H ss sg
 gk:∀d∈sg,d.1∈ps/\cT d.2
 qs:Lz dJ H ts qd
 qk:∀d∈qd,lx ps d
 sy:Sys H ys sd
 pl:ps.length<=24
theorem EF.mono{ps:List Str}{H H':Hp}{th s t y:Addr}{ss ts ys:List V}{sg:List GD}{qd:List QD}{sd:List SD}(sm:cF H H')(T:EF ps H th s t y ss ts ys sg qd sd):EF ps H' th s t y ss ts ys sg qd sd:=
 ⟨sm _ _ T.hth,sm _ _ T.hs,sm _ _ T.ht,sm _ _ T.hy,T.sl,T.tl,T.gs.mono (dH.mono (Tk.of sm)),T.gk,T.qs.mono (dJ.mono (Tk.of sm)),T.qk,T.sy.mono (Tk.of sm),T.pl⟩
inductive IY(vs:List V)(H:Hp)(Q:VK):Prop
 |mk(th s t y:Addr)(z:Str)(o:Option Int)(ps:List Str)(ss ts ys:List V)(sg:List GD)(qd:List QD)(sd:List SD)(e:vs=[.ref th,.str z,oV o])(T:EF ps H th s t y ss ts ys sg qd sd)
   (k:∀(d:Addr)(kvs:List (Key×V))(F:FH)(H':Hp),cF H H'->H' d=some (.dK kvs)->(∀z',dz kvs (Sum.inr z')=(F z').map V.int)->dM ((fI sg qd sd).filter (hB z o)) F->Q (.ref d) H')
def vL:Sp:=λvs H Q _=>IY vs H Q
theorem yk:cI ["_law_things_here", "_law_person", "_law_least", "_law_numbers", "_law_tellings_here", "_law_sights", "_law_some", "_law_more", "_law_k", "_law_teller", "_law_hearer"] ["_law_things_here", "_law_person", "_law_least"] (cG o8):={}
theorem CM (D:Df K mg "_law_held" o8 ["_law_things_here", "_law_person", "_law_least"] f fd) (G__law_open:Gd P w K mg base 3 "_law_open" iz) (G__law_hours:Gd P w K mg base 1 "_law_hours" sV):Gd P w K mg base 4 "_law_held" vL:=by
 refine aH D yk λX H vs Q E hh h=>?_;obtain⟨th,s,t,y,z,o,ps,ss,ts,ys,sg,qd,sd,rfl,T,k⟩:=h;obtain⟨S0,S1,S2,S3,S4,S5,S6,S7,S8,S9,S10,_⟩:=hh.eB [0,1,2,3,4,5,6,7,8,9,10];have C__law_hours:=hh.c G__law_hours;have C__law_open:=hh.c G__law_open;have hsz:sizeLine=16777216:=sizeLine_eq;refine⟨_,(ag (bO (aw C__law_open (ao (aa S0))) (bq hh.calm (aF (aG S3 hh.nd) (aF (aG S4 hh.nd) bh))))
 (ag (aD S5 hh.nd (af ak (aa S0) ae ah))
 (ag (bL (is:=[1,2,5]) (xs:=["_law_i"]) (ns:=["_law_person", "_law_least", "_law_sights"]) S6 hh.nd hh.calm (aO (aa S3)) {} (λ_ _ _ _ _=>(aR (i:=0) (by decide+kernel) rfl rfl)) (λ_ _ _ _ _=>(bz (aS (bg (aB bQ (af bf (af bX (aY (i:=3) rfl rfl (by decide) (by decide)) (aK (i:=0) rfl rfl (by decide) (by decide)) aX) ae ah) (aY (i:=1) rfl rfl (by decide) (by decide)) (L2.cJ _)) (bu (aS (bp (aB cv (aY (i:=2) rfl rfl (by decide) (by decide)) bB (L2.cJ _)) (bA (aB J.xK (af bf (af bX (aY (i:=3) rfl rfl (by decide) (by decide)) (aK (i:=0) rfl rfl (by decide) (by decide)) aX) ae ah) (aY (i:=2) rfl rfl (by decide) (by decide)) (L2.cJ _)))))))))) (λ_ _ _ _ _=>(aK (i:=0) rfl rfl (by decide) (by decide))) hh.hsc hh.hN (by decide+kernel))
 (ag (aD S7 hh.nd (ba bE))
 (ag (bo hh.own hh.calm (aO (aa S4)) (bq hh.calm (aF (aG S8 hh.nd) (aF (aG S9 hh.nd) (aF (aG S10 hh.nd) bh))))
 (aj (aI (aS (bg (aB bQ (aa S10) (aa S1) (L2.cJ _)) (bu (aS (bp (aB cv (aa S2) bB (L2.cJ _)) (bA (aB J.xK (af ak (af aZ (af ak (aa S0) ae ah) (aa S8) aX) ae ah) (aa S2) (L2.cJ _))))))))
 (aj (bG (bM plainAttrs_list PySem.F.slot_list_append PySem.F.type_list_append bN (aa S7) (ao (aV (aM (aa S8) (aa S9) (aa S10)))))))
 aJ)))
 (aj (au (aw C__law_hours (aM (aa S0) (aa S6) (aa S7)))))))))),?_⟩
 refine⟨_,rfl,th,s,t,y,ps,ss,ts,ys,sg,qd,sd,rfl,T.hth,T.hs,T.ht,T.hy,T.sl,T.tl,T.gs,(λd hd=>(T.gk d hd).2),T.qs,T.qk,T.sy,λr nl tl us H1 s1 nr nnl ntl hr hnl htl tu=>?_⟩;have T1:=T.mono s1;refine⟨r,_,rfl,cW.of hr,rfl,_,_,rfl,_,_,rfl,rfl,?_⟩;refine⟨_,rfl,xT T1.hth rfl ?_⟩;have gl:=T.gs.1;have il:=pO sg sd sg.length;have sl:=T.sl;refine⟨_,rfl,nl,rfl,⟨_,cL.of hnl⟩,dj (xs:=eA sg sd sg.length) (iq ((List.range sg.length).filter (iq sg (eG sd))) λi=>hB z o (sP sg i)) (rX ((List.range sg.length).filter (iq sg (eG sd))) λi=>V.int (i:Nat)) (cL.of hnl) (by omega) ?_ ?_⟩
 ·intro j os v H2 K1 K2 hv hos s2 k1 k2
  obtain⟨o1,rfl⟩:=osA hos
  ·
   unfold eA at hv;rw[getElem?_map]at hv;obtain⟨i,hi,rfl⟩:=map_eq_some_iff.mp hv;rw[dI hi]at k1 k2;rw[fc hi]at k1;have ib:i < sg.length:=mem_range.mp (mem_filter.mp (mem_of_getElem? hi)).1;obtain⟨vg,hvg⟩:∃vg,ss[i]? =some vg:=⟨_,getElem?_eq_getElem (by omega)⟩;obtain⟨g,hg,ga,ta,rfl,hga⟩:=T1.gs.at hvg;have eD:sP sg i=(g.1,g.2,.saw i):=by
    unfold sP;rw[hg]
   rw[eD]at k1 k2;refine⟨⟨[some (.int i)],rfl,rfl⟩,?_⟩;have hs2:=s2 _ _ T1.hs;have ga2:=s2 _ _ hga;refine⟨_,rfl,_,rfl,xL hs2 (cQ hvg) (xT ga2 rfl ⟨_,rfl,rfl,_,rfl,cZ (λe=>dq ⟨_,rfl,k1 ?_ H2 (cF.refl _)⟩) (λe=>?_)⟩)⟩
   ·exact Et (d:=(g.1,g.2,.saw i)) (L5 e)
   ·have hb0:hB z o (g.1,g.2,.saw i)=lB o g.2:=AI (d:=(g.1,g.2,.saw i)) (LW e)
    rw[hb0]at k1 k2;cases o with
    |none=>exact⟨_,rfl,rfl,_,rfl,cV (cV (k2 rfl H2 (cF.refl _)))⟩
    |some m=>exact⟨_,rfl,rfl,_,rfl,dq ⟨_,rfl,_,rfl,xL hs2 (cQ hvg) (xT ga2 rfl ⟨_,rfl,_,_,rfl,rfl,_,rfl,cZ (λe=>⟨_,rfl,k1 e H2 (cF.refl _)⟩) (λe=>k2 (eq_false_of_ne_true e) H2 (cF.refl _))⟩)⟩⟩
 intro so H2 nso s2 hso;have e1:(eA sg sd sg.length).length=((List.range sg.length).filter (iq sg (eG sd))).length:=by
  unfold eA;rw[length_map]
 rw[e1,dw]at hso;refine⟨wW,λmo nmo=>?_⟩;have s3:=cF.upd (o:=.lst []) nmo;have hmo:upd H2 mo (.lst []) mo=some (.lst []):=cD;generalize upd H2 mo (.lst [])=H3 at s3 hmo;have s23:=s2.trans s3;have T3:=T1.mono s23;have hso3:=s3 _ _ hso;have htl3:=s23 _ _ htl;generalize hks:(fR 0 (gv qd)).filter (c8 qd sd)=ks at tu;have kk:∀t∈ks,t.1 < qd.length/\t.2.2∈ps:=λt ht=>by
  rw[<-hks]at ht;obtain⟨q,hq,m1,m2⟩:=jY T.qk (mem_filter.mp ht).1;exact⟨(List.getElem?_eq_some_iff.mp hq).1,m2⟩
 have tu3:=tu.mono (Tk.of s23);have ul:us.length<=240:=by
  have h1:=iB (gv qd) 0;have h2:=tu.1;have h3:=length_filter_le (c8 qd sd) (fR 0 (gv qd));have h4:=(BN T.qs).1;have h5:=T.tl;rw[hks]at h3;omega
 refine⟨_,rfl,tl,rfl,⟨_,cL.of htl3⟩,da (K:=X.K) (a:=tl) (xs:=us) (λi σ H4=>∃(ms:List V) (e1 e2 e3:Option V),σ=[some (.ref th),some (.str z),some (oV o),some (.ref nl),some (.ref tl),some (.ref s),some (.ref so),some (.ref mo),e1,e2,e3]/\(∀b u,H3 b=some u->b≠mo->H4 b=some u)/\H4 mo=some (.lst ms)/\ms.length<=i/\ej H4 ms ((ks.take i).filter λt=>hB z o (qi qd t))) ⟨[],none,none,none,rfl,(λb u e _=>e),hmo,le_refl 0,ej.nil⟩ ?_ ?_ ?_⟩
 ·rintro i σ H4 hi ⟨ms,f1,f2,f3,rfl,kp,_⟩
  exact cL.of (kp _ _ htl3 (cE (s2 _ _ htl) nmo))
 ·rintro i v σ H4 hv ⟨ms,f1,f2,f3,rfl,kp,hm4,ml,tm⟩
  obtain⟨tk,htk⟩:∃tk,ks[i]? =some tk:=⟨_,getElem?_eq_getElem (by rw[<-tu.1];exact(List.getElem?_eq_some_iff.mp hv).1)⟩;have iu:=(List.getElem?_eq_some_iff.mp hv).1;obtain⟨a,rfl,ha⟩:=tu3.2 i v tk hv htk;have ha4:=kp _ _ ha (jK ha hmo (by intro z;cases z));obtain⟨kl,_⟩:=kk tk (mem_of_getElem? htk);obtain⟨vq,hvq⟩:∃vq,ts[tk.1]? =some vq:=⟨_,getElem?_eq_getElem (by rw[T.qs.1];exact kl)⟩;obtain⟨q,hq,qa,rfl,hqa⟩:=T3.qs.at hvq;have ht4:=kp _ _ T3.ht (cE (s2 _ _ T1.ht) nmo);have hth4:=kp _ _ T3.hth (jK T3.hth hmo (by intro z;cases z));have hqa4:=kp _ _ hqa (jK hqa hmo (by intro z;cases z));have ek:(ks.take (i+1)).filter (λt=>hB z o (qi qd t))=(ks.take i).filter (λt=>hB z o (qi qd t))++if hB z o (qi qd tk)=true then [tk] else []:=by
   rw[take_add_one,htk,filter_append];show _++[tk].filter _=_;rw[filter_cons,List.filter_nil]
  have teE:qi qd tk=(tk.2.2,q.1,.hrd tk.1 tk.2.1):=by
   unfold qi;rw[eP hq]
  rw[teE]at ek;have yes:hB z o (tk.2.2,q.1,.hrd tk.1 tk.2.1)=true->∀c1,H4 c1=none->ej (upd (upd H4 c1 (.tup [.int tk.1,.str tk.2.1,.str tk.2.2])) mo (.lst (ms++[.ref c1]))) (ms++[.ref c1]) ((ks.take (i+1)).filter λt=>hB z o (qi qd t))/\(∀b u,H3 b=some u->b≠mo->upd (upd H4 c1 (.tup [.int tk.1,.str tk.2.1,.str tk.2.2])) mo (.lst (ms++[.ref c1])) b=some u):=λhb c1 nc1=>by
   have s5:=cF.upd (o:=.tup [.int tk.1,.str tk.2.1,.str tk.2.2]) nc1;have c1m:c1≠mo:=(cE hm4 nc1).symm;refine⟨?_,λb u e n=>?_⟩
   ·rw[ek,if_pos hb]
    refine(tm.mono ((Tk.of s5).trans (Tk.upd (s5 _ _ hm4)))).snoc ⟨c1,rfl,?_⟩;rw[cH c1m];exact cD
   ·rw[cH n]
    exact s5 _ _ (kp b u e n)
  have no:hB z o (tk.2.2,q.1,.hrd tk.1 tk.2.1)=false->ej H4 ms ((ks.take (i+1)).filter λt=>hB z o (qi qd t)):=λhb=>by
   rw[ek,if_neg (by rw[hb];exact Bool.false_ne_true),append_nil];exact tm
  refine⟨a,_,rfl,cW.of ha4,rfl,_,_,rfl,_,_,rfl,_,_,rfl,rfl,?_⟩;have app:hB z o (tk.2.2,q.1,.hrd tk.1 tk.2.1)=true->(qz (KZ X.K "list" rT (iV 7) (dA (F9 (dA (iV 8) (dA (iV 9) (dA (iV 10) mP)))) mP))) { nx:=λσ H4=>∃(ms:List V) (e1 e2 e3:Option V),σ=[some (.ref th),some (.str z),some (oV o),some (.ref nl),some (.ref tl),some (.ref s),some (.ref so),some (.ref mo),e1,e2,e3]/\(∀b u,H3 b=some u->b≠mo->H4 b=some u)/\H4 mo=some (.lst ms)/\ms.length<=i+1/\ej H4 ms ((ks.take (i+1)).filter λt=>hB z o (qi qd t)),rt:=λ_ _=>False } [some (.ref th),some (.str z),some (oV o),some (.ref nl),some (.ref tl),some (.ref s),some (.ref so),some (.ref mo),some (.int tk.1),some (.str tk.2.1),some (.str tk.2.2)] H4:=λhb=>by
   refine⟨_,rfl,.inl ⟨rfl,_,cL.of hm4⟩,_,rfl,_,rfl,_,rfl,m8,λc1 hc1=>?_⟩;obtain⟨y1,y2⟩:=yes hb c1 hc1;exact⟨mo,ms,.ref c1,rfl,rfl,cF.upd hc1 _ _ hm4,by omega,_,_,_,_,rfl,y2,cD,by rw[length_append];show ms.length+1<=i+1;omega,y1⟩
  have app':hB z o (tk.2.2,q.1,.hrd tk.1 tk.2.1)=true->_:=app;refine⟨_,rfl,_,rfl,rfl,_,rfl,cZ (λe=>dq (app' (Et (d:=(tk.2.2,q.1,.hrd tk.1 tk.2.1)) (L5 e)))) (λe=>?_)⟩;have hb0:hB z o (tk.2.2,q.1,.hrd tk.1 tk.2.1)=lB o q.1:=AI (d:=(tk.2.2,q.1,.hrd tk.1 tk.2.1)) (LW e);rw[hb0]at app no;cases o with
  |none=>exact⟨_,rfl,rfl,_,rfl,cV (cV ⟨ms,_,_,_,rfl,kp,hm4,by omega,no rfl⟩)⟩
  |some m=>exact⟨_,rfl,rfl,_,rfl,dq ⟨_,rfl,xT hth4 rfl ⟨_,rfl,xL ht4 (cQ hvq) (xT hqa4 rfl ⟨_,rfl,_,_,rfl,rfl,_,rfl,cZ (λe=>app e) (λe=>⟨ms,_,_,_,rfl,kp,hm4,by omega,no (eq_false_of_ne_true e)⟩)⟩)⟩⟩⟩
 ·rintro σ H4 ⟨ms,f1,f2,f3,rfl,kp,hm4,ml,tm⟩
  rw[tu.1,take_length]at tm;have s14:cF H1 H4:=λb u e=>kp b u (s23 _ _ e) (cE (s2 _ _ e) nmo);have T4:=T1.mono s14;have hso4:=kp _ _ hso3 (cE hso nmo);have ikk:∀i∈((List.range sg.length).filter (iq sg (eG sd))).filter (λi=>hB z o (sP sg i)),i < sg.length:=λi hi=>mem_range.mp (mem_filter.mp (mem_filter.mp hi).1).1;refine⟨_,rfl,_,rfl,_,rfl,th,so,mo,s,t,y,ps,ss,ts,ms,sg,qd,_,_,rfl,T4.hth,T4.hs,T4.ht,hso4,hm4,T4.gs,T.gk,T4.qs,(λd hd=>(T.qk d hd).1),tm,(λt ht=>kk t (mem_filter.mp ht).1),ikk,T.pl,λd kvs F H' s' _ hd' hr' so' to'=>?_⟩;refine k d kvs F H' ((s1.trans s14).trans s') hd' hr'.get ?_;have fe:=uR ikk so' to' hr'.rc;have ee:(((List.range sg.length).filter (iq sg (eG sd))).filter (λi=>hB z o (sP sg i))).map (sP sg)++(ks.filter λt=>hB z o (qi qd t)).map (qi qd)=(fI sg qd sd).filter (hB z o):=by
   unfold fI;rw[hks,filter_append,filter_map,filter_map];rfl
  rw[ee]at fe;exact fe
theorem lC{E:List ED}{sd:List SD}{z:Str}{o:Option Int}{F:FH}(f:dM (E.filter (hB z o)) F):qe E sd z o↔sd.all (pV F)=true:=⟨λ⟨G,g,h⟩=>by rw[nZ f g];exact h,λh=>⟨F,f,h⟩⟩
theorem D4{ps:List Str}{qd:List QD}{sd:List SD}(qk:∀d∈qd,lx ps d):∀t∈(fR 0 (gv qd)).filter (c8 qd sd),t.1 < qd.length/\t.2.2∈ps:=λt ht=>by
 obtain⟨q,hq,m1,m2⟩:=jY qk (mem_filter.mp ht).1;exact⟨(List.getElem?_eq_some_iff.mp hq).1,m2⟩
theorem GH{H:Hp}{us ts:List V}{qd:List QD}{sd:List SD}(qs:Lz dJ H ts qd)(tl:ts.length<=120)(tu:us.length=((fR 0 (gv qd)).filter (c8 qd sd)).length):us.length<=240:=by
 have h1:=iB (gv qd) 0;have h3:=length_filter_le (c8 qd sd) (fR 0 (gv qd));have h4:=(BN qs).1;omega
inductive MU(vs:List V)(H:Hp)(Q:VK):Prop
 |mk(th s t y:Addr)(z:Str)(ps:List Str)(ss ts ys:List V)(sg:List GD)(qd:List QD)(sd:List SD)(e:vs=[.ref th,.str z])(T:EF ps H th s t y ss ts ys sg qd sd)
   (k:∀(L:Option Int)(H':Hp),cF H H'->Au (fI sg qd sd) sd z (Hm sg qd ((fR 0 (gv qd)).filter (c8 qd sd)) z) L->Q (oV L) H')
def FR:Sp:=λvs H Q _=>MU vs H Q
inductive MI(vs:List V)(H:Hp)(Q:VK):Prop
 |mk(th s t y:Addr)(ps:List Str)(ss ts ys:List V)(sg:List GD)(qd:List QD)(sd:List SD)(e:vs=[.ref th])(T:EF ps H th s t y ss ts ys sg qd sd)
   (k:∀(F:FH)(H':Hp),cF H H'->dM (fI sg qd sd) F->Q (.bl (sd.all (pV F))) H')
def E3:Sp:=λvs H Q _=>MI vs H Q
theorem yu:cI ["_law_things_here", "_law_numbers", "_law_tellings_here"] ["_law_things_here"] (cG oP):={}
theorem HM (D:Df K mg "_law_fits" oP ["_law_things_here"] f fd) (G__law_open:Gd P w K mg base 3 "_law_open" iz) (G__law_hours:Gd P w K mg base 1 "_law_hours" sV) (G__law_knew_so:Gd P w K mg base 1 "_law_knew_so" gQ):Gd P w K mg base 4 "_law_fits" E3:=by
 refine aH D yu λX H vs Q E hh h=>?_;obtain⟨th,s,t,y,ps,ss,ts,ys,sg,qd,sd,rfl,T,k⟩:=h;obtain⟨S0,S1,S2,_⟩:=hh.eB [0,1,2];have C__law_hours:=hh.c G__law_hours;have C__law_knew_so:=hh.c G__law_knew_so;have C__law_open:=hh.c G__law_open;refine⟨_,(ag (bO (aw C__law_open (ao (aa S0))) (bq hh.calm (aF (aG S1 hh.nd) (aF (aG S2 hh.nd) bh))))
 (aj (au (aw C__law_knew_so (aA (af ak (aa S0) ae ah) (aw C__law_hours (aM (aa S0) (aa S1) (aa S2)))))))),?_⟩
 refine⟨_,rfl,th,s,t,y,ps,ss,ts,ys,sg,qd,sd,rfl,T.hth,T.hs,T.ht,T.hy,T.sl,T.tl,T.gs,(λd hd=>(T.gk d hd).2),T.qs,T.qk,T.sy,λr nl tl us H1 s1 nr nnl ntl hr hnl htl tu=>?_⟩;have T1:=T.mono s1;refine⟨r,_,rfl,cW.of hr,rfl,_,_,rfl,_,_,rfl,rfl,?_⟩;have ikk:∀i∈(List.range sg.length).filter (iq sg (eG sd)),i < sg.length:=λi hi=>mem_range.mp (mem_filter.mp hi).1;refine⟨_,rfl,xT T1.hth rfl ⟨_,rfl,_,rfl,_,rfl,th,nl,tl,s,t,y,ps,ss,ts,us,sg,qd,_,_,rfl,T1.hth,T1.hs,T1.ht,hnl,htl,T1.gs,T.gk,T1.qs,(λd hd=>(T.qk d hd).1),tu,D4 T.qk,ikk,T.pl,λd kvs F H' s' _ hd' hr' so' to'=>?_⟩⟩;have T2:=T1.mono s';exact⟨y,d,ys,sd,kvs,F,rfl,T2.hy,T2.sy,hd',hr'.get,k F H' (s1.trans s') (uR ikk so' to' hr'.rc)⟩
theorem ug:cI ["_law_things_here", "_law_person", "_law_numbers", "_law_tellings_here", "_law_found", "_law_when"] ["_law_things_here", "_law_person"] (cG jS):={}
theorem Ih (D:Df K mg "_law_latest" jS ["_law_things_here", "_law_person"] f fd) (G__law_open:Gd P w K mg base 3 "_law_open" iz) (G__law_knew_so:Gd P w K mg base 1 "_law_knew_so" gQ) (G__law_held:Gd P w K mg base 4 "_law_held" vL) (G__law_hours_of:Gd P w K mg base 1 "_law_hours_of" Bg):Gd P w K mg base 5 "_law_latest" FR:=by
 refine aH D ug λX H vs Q E hh h=>?_;obtain⟨th,s,t,y,z,ps,ss,ts,ys,sg,qd,sd,rfl,T,k⟩:=h;obtain⟨S0,S1,S2,S3,S4,S5,_⟩:=hh.eB [0,1,2,3,4,5];have C__law_held:=hh.c G__law_held;have C__law_hours_of:=hh.c G__law_hours_of;have C__law_knew_so:=hh.c G__law_knew_so;have C__law_open:=hh.c G__law_open;have hsz:sizeLine=16777216:=sizeLine_eq;refine⟨_,(ag (aI (aQ (aw C__law_knew_so (aA (af ak (aa S0) ae ah) (aw C__law_held (aM (aa S0) (aa S1) bB)))))
 (aj (au bB))
 aJ)
 (ag (bO (aw C__law_open (ao (aa S0))) (bq hh.calm (aF (aG S2 hh.nd) (aF (aG S3 hh.nd) bh))))
 (ag (aD S4 hh.nd (J.tN J.pe ae))
 (ag (bo hh.own hh.calm (aO (aw C__law_hours_of (aM (aa S0) (aa S3) (aa S1)))) (aG S5 hh.nd)
 (aj (aI (aS (bp (aB bW (aa S5) (aa S4) (L2.cJ _)) (bA (aQ (aw C__law_knew_so (aA (af ak (aa S0) ae ah) (aw C__law_held (aM (aa S0) (aa S1) (aa S5)))))))))
 (aj (aD S4 hh.nd (aa S5)))
 aJ)))
 (aj (au (aa S4))))))),?_⟩
 refine⟨_,rfl,xT T.hth rfl ⟨_,rfl,_,rfl,th,s,t,y,z,none,ps,ss,ts,ys,sg,qd,sd,rfl,T,λd kvs F H1 s1 hd get fo=>?_⟩⟩;have T1:=T.mono s1;refine⟨y,d,ys,sd,kvs,F,rfl,T1.hy,T1.sy,hd,get,_,rfl,cZ (λhb=>k none H1 s1 ⟨λ_=>(lC fo).mpr hb,(λm e=>nomatch e),(λm e=>nomatch e),(λm e=>nomatch e)⟩) (λhb=>?_)⟩;have nOk:¬qe (fI sg qd sd) sd z none:=λh=>hb ((lC fo).mp h);refine⟨_,rfl,th,s,t,y,ps,ss,ts,ys,sg,qd,sd,rfl,T1.hth,T1.hs,T1.ht,T1.hy,T1.sl,T1.tl,T1.gs,(λd hd=>(T.gk d hd).2),T1.qs,T1.qk,T1.sy,λr nl tl us H2 s2 nr nnl ntl hr hnl htl tu=>?_⟩;have T2:=T1.mono s2;refine⟨r,_,rfl,cW.of hr,rfl,_,_,rfl,_,_,rfl,rfl,?_⟩;have ul:=GH T.qs T.tl tu.1;have kk:=D4 (sd:=sd) T.qk;generalize hks:(fR 0 (gv qd)).filter (c8 qd sd)=ks at tu k kk;refine⟨_,rfl,_,rfl,_,rfl,_,rfl,th,s,t,y,tl,z,ss,ts,us,sg,qd,ks,rfl,T2.hth,T2.hs,T2.ht,htl,T.sl,ul,T2.gs,T2.qs,tu,(λt ht=>(kk t ht).1),λl H3 s3 hl=>?_⟩;have T3:=T2.mono s3;have s03:=(s1.trans s2).trans s3;generalize Hm sg qd ks z=hs at hl k;refine⟨l,rfl,⟨_,cL.of hl⟩,da (K:=X.K) (a:=l) (xs:=hs.map V.int) (λi σ H4=>∃(m:Int) (e1:Option V),σ=[some (.ref th),some (.str z),some (.ref nl),some (.ref tl),some (.int m),e1]/\cF H3 H4/\(m= -1\/(m∈hs/\qe (fI sg qd sd) sd z (some m)))/\∀h∈hs.take i,qe (fI sg qd sd) sd z (some h)->h<=m) ⟨-1,none,rfl,cF.refl _,.inl rfl,λh hh=>by cases hh⟩ ?_ ?_ ?_⟩
 ·rintro i σ H4 hi ⟨m,e1,rfl,s4,_⟩
  exact cL.of (s4 _ _ hl)
 ·rintro i v σ H4 hv ⟨m,e1,rfl,s4,me,up⟩
  rw[getElem?_map]at hv;obtain⟨h,hh',rfl⟩:=map_eq_some_iff.mp hv;have T4:=T3.mono s4;have tk:∀x∈hs.take (i+1),x∈hs.take i\/x=h:=λx hx=>by
   rw[take_add_one,hh']at hx;rcases mem_append.mp hx with hx|hx
   ·exact .inl hx
   ·exact .inr (mem_singleton.mp hx)
  refine⟨_,rfl,_,rfl,_,_,rfl,rfl,_,rfl,cZ (λgt=>?_) (λng=>cV ⟨m,_,rfl,s4,me,λx hx ox=>?_⟩)⟩
  ·have gt':m < h:=of_decide_eq_true gt
   refine⟨_,rfl,xT T4.hth rfl ⟨_,rfl,_,rfl,_,rfl,th,s,t,y,z,some h,ps,ss,ts,ys,sg,qd,sd,rfl,T4,λd5 kvs5 F5 H5 s5 hd5 get5 fo5=>?_⟩⟩;have T5:=T4.mono s5;refine⟨y,d5,ys,sd,kvs5,F5,rfl,T5.hy,T5.sy,hd5,get5,_,rfl,cZ (λok=>?_) (λno=>?_)⟩
   ·refine⟨_,rfl,h,_,rfl,s4.trans s5,.inr ⟨mem_of_getElem? hh',(lC fo5).mpr ok⟩,λx hx ox=>?_⟩
    rcases tk x hx with hx|rfl
    ·have:=up x hx ox
     omega
    ·exact Int.le_refl _
   ·refine⟨m,_,rfl,s4.trans s5,me,λx hx ox=>?_⟩
    rcases tk x hx with hx|rfl
    ·exact up x hx ox
    ·exact absurd ((lC fo5).mp ox) no
  ·have ng':¬m < h:=λl=>ng (decide_eq_true l)
   rcases tk x hx with hx|rfl
   ·exact up x hx ox
   ·omega
 ·rintro σ H4 ⟨m,e1,rfl,s4,me,up⟩
  rw[length_map,take_length]at up;exact⟨_,rfl,k (some m) H4 (s03.trans s4) ⟨(λe=>nomatch e),λm' _=>nOk,λm' e=>by cases e;exact me,λm' e=>by cases e;exact up⟩⟩
theorem _root_.L2.pZ:bootBuiltins "ValueError" =some (.type "ValueError"):=by decide+kernel
structure Kf(K:PySem.W.Frag)(mg:Str->Option Value)(Kn Ns Nb Nd Nr Ny Sa Tm:Addr):Prop where
 oN:iZ K Ns (.ref Kn::q0)
 oK:iZ K Kn q0
 hN:mg "NoStory" =some (.ref Ns)
 hK:mg "KnewError" =some (.ref Kn)
 g_NoStory:∃u,mg "NoStory" =some u/\RelV (.ref Ns) u
 g_KnewError:∃u,mg "KnewError" =some u/\RelV (.ref Kn) u
 g_NoBook:∃u,mg "NoBook" =some u/\RelV (.ref Nb) u
 g_NoDeed:∃u,mg "NoDeed" =some u/\RelV (.ref Nd) u
 g_NoRow:∃u,mg "NoRow" =some u/\RelV (.ref Nr) u
 g_NoSaying:∃u,mg "NoSaying" =some u/\RelV (.ref Ny) u
 g_Saw:∃u,mg "Saw" =some u/\RelV (.ref Sa) u
 g_TooMuch:∃u,mg "TooMuch" =some u/\RelV (.ref Tm) u
 b_ValueError:mg "ValueError" =none
 k1:kitOne K (.ref Ns) (.ref Ns)=some true
 k2:kitOne K (.ref Ns) (.ref Kn)=some true
 k3:kitOne K (.ref Ns) (.type "ValueError")=some true
 k4:kitOne K (.ref Ns) (.ref Nb)=some false
 k5:kitOne K (.ref Ns) (.ref Nd)=some false
 k6:kitOne K (.ref Ns) (.ref Nr)=some false
 k7:kitOne K (.ref Ns) (.ref Ny)=some false
 k8:kitOne K (.ref Ns) (.ref Sa)=some false
 k9:kitOne K (.ref Ns) (.ref Tm)=some false
inductive Mz(Ns:Addr)(vs:List V)(H:Hp)(Q:VK):Prop
 |mk(ea:Addr)(e:vs=[.ref ea])(h:H ea=some (.ext (D6 ea Ns)))(k:∀H',cF H H'->Q (.bl true) H')
def FI(Ns:Addr):Sp:=λvs H Q _=>Mz Ns vs H Q
section
variable {P:Program}{w:World}{K:PySem.W.Frag}{mg:Str->Option Value}{base:Heap}{kw C Kn Ns Nb Nd Nr Ny Sa Tm:Addr}
theorem p8:cI ["_law_error", "_law_some"] ["_law_error"] (cG iG):={}
theorem Il {f:Addr}{fd:FuncData}(D:Df K mg "_law_no_story" iG ["_law_error"] f fd) (T:Txt K mg kw C) (CL:Kf K mg Kn Ns Nb Nd Nr Ny Sa Tm):Gd P w K mg base 1 "_law_no_story" (FI Ns):=by
 refine aH D p8 λX H vs Q E hh h=>?_;obtain⟨ea,rfl,he,k⟩:=h;obtain⟨S0,S1,_⟩:=hh.eB [0,1];have B_ValueError:Bt X "ValueError" :=hh.bt CL.b_ValueError rfl (by decide) (by decide);have B_isinstance:=hh.b T.b_isinstance;have g_KnewError:∀{p:Pos},J.JE X (.Name "KnewError" p) (L2.tC (.ref Kn)):=bH hh CL.g_KnewError rfl (by decide);have g_NoBook:∀{p:Pos},J.JE X (.Name "NoBook" p) (L2.tC (.ref Nb)):=bH hh CL.g_NoBook rfl (by decide);have g_NoDeed:∀{p:Pos},J.JE X (.Name "NoDeed" p) (L2.tC (.ref Nd)):=bH hh CL.g_NoDeed rfl (by decide);have g_NoRow:∀{p:Pos},J.JE X (.Name "NoRow" p) (L2.tC (.ref Nr)):=bH hh CL.g_NoRow rfl (by decide);have g_NoSaying:∀{p:Pos},J.JE X (.Name "NoSaying" p) (L2.tC (.ref Ny)):=bH hh CL.g_NoSaying rfl (by decide);have g_NoStory:∀{p:Pos},J.JE X (.Name "NoStory" p) (L2.tC (.ref Ns)):=bH hh CL.g_NoStory rfl (by decide);have g_Saw:∀{p:Pos},J.JE X (.Name "Saw" p) (L2.tC (.ref Sa)):=bH hh CL.g_Saw rfl (by decide);have g_TooMuch:∀{p:Pos},J.JE X (.Name "TooMuch" p) (L2.tC (.ref Tm)):=bH hh CL.g_TooMuch rfl (by decide);obtain rfl:=hh.fK;refine⟨_,(ag (aI (aS (bg (a5 (aQ (aE B_isinstance bT L2.cK (aA (aa S0) g_NoStory)))) (bg (a5 (aQ (aE B_isinstance bT L2.cK (aA (aa S0) g_KnewError)))) (bu (a5 (aQ (aE B_isinstance bT L2.cK (aA (aa S0) (J.ty B_ValueError L2.pZ)))))))))
 (aj (au a9))
 aJ)
 (ag (aD S1 hh.nd (ba (aM (aE B_isinstance bT L2.cK (aA (aa S0) g_NoBook)) (aE B_isinstance bT L2.cK (aA (aa S0) g_NoDeed)) (aE B_isinstance bT L2.cK (aA (aa S0) g_NoRow)))))
 (aj (au (aT J.fM a9 (az J.jD (aa S1) (ba (aM (aE B_isinstance bT L2.cK (aA (aa S0) g_NoSaying)) (aE B_isinstance bT L2.cK (aA (aa S0) g_Saw)) (aE B_isinstance bT L2.cK (aA (aa S0) g_TooMuch))))) (by with_unfolding_all rfl)))))),?_⟩
 refine⟨_,rfl,.own ea Ns Kn Ns true rfl he CL.oN CL.oK CL.k1 ⟨_,rfl,cV ⟨_,rfl,.own ea Ns Kn Kn true rfl he CL.oN CL.oK CL.k2 ⟨_,rfl,cV ⟨_,rfl,.ty ea Ns Kn "ValueError" true rfl he CL.oN CL.oK CL.k3 ⟨_,rfl,cV ?_⟩⟩⟩⟩⟩⟩;refine⟨_,rfl,.own ea Ns Kn Nb false rfl he CL.oN CL.oK CL.k4 ⟨_,rfl,.own ea Ns Kn Nd false rfl he CL.oN CL.oK CL.k5 ⟨_,rfl,.own ea Ns Kn Nr false rfl he CL.oN CL.oK CL.k6 ⟨m8,λl1 nl1=>?_⟩⟩⟩⟩;have s1:=cF.upd (o:=.lst [V.bl false,V.bl false,V.bl false]) nl1;have h1:upd H l1 (.lst [V.bl false,V.bl false,V.bl false]) l1=some (.lst [V.bl false,V.bl false,V.bl false]):=cD;generalize upd H l1 (.lst [V.bl false,V.bl false,V.bl false])=H1 at s1 h1;have he1:=s1 _ _ he;refine⟨_,rfl,_,rfl,.own ea Ns Kn Ny false rfl he1 CL.oN CL.oK CL.k7 ⟨_,rfl,.own ea Ns Kn Sa false rfl he1 CL.oN CL.oK CL.k8 ⟨_,rfl,.own ea Ns Kn Tm false rfl he1 CL.oN CL.oK CL.k9 ⟨m8,λl2 nl2=>?_⟩⟩⟩⟩;have s2:=cF.upd (o:=.lst [V.bl false,V.bl false,V.bl false]) nl2;have h2:upd H1 l2 (.lst [V.bl false,V.bl false,V.bl false]) l2=some (.lst [V.bl false,V.bl false,V.bl false]):=cD;generalize upd H1 l2 (.lst [V.bl false,V.bl false,V.bl false])=H2 at s2 h2;refine⟨l1,l2,_,_,rfl,rfl,cL.of (s2 _ _ h1),cL.of h2,by show 3+3<=sizeLine;decide,λl3 nl3=>?_⟩;exact⟨l3,_,rfl,.inl (cL.of cD),rfl,rfl,k _ ((s1.trans s2).trans (cF.upd nl3))⟩
end
inductive LL(C:Addr)(vs:List V)(H:Hp)(Q:VK):Prop
 |mk(x p s t y:Addr)(z:Str)(ps:List Str)(ss ts ys:List V)(sg:List GD)(qd:List QD)(sd:List SD)(F0:FH)(e:vs=[.ref x,.str z])(bk:Bk C H x p s t y ps ss ts ys)(pl:ps.length<=24)(sl:ss.length<=24)(tl:ts.length<=120)(gs:Lz dH H ss sg)(gp:∀d∈sg,d.1∈ps)(qs:Lz dJ H ts qd)(qk:∀d∈qd,lx ps d)(sy:Sys H ys sd)(l:ys.length<=60)(nn:∀d∈fI sg qd sd,0<=d.2.1)(f0:dM (fI sg qd sd) F0)(b0:bx F0 sd≠[])
   (k:∀H',cF H H'->Q (.bl true) H')
def FK(C:Addr):Sp:=λvs H Q _=>LL C vs H Q
section
variable {P:Program}{w:World}{K:PySem.W.Frag}{mg:Str->Option Value}{base:Heap}{kw C Kn Ns Nb Nd Nr Ny Sa Tm:Addr}
theorem rm:cI ["_law_book_here", "_law_person", "_law_error", "e"] ["_law_book_here", "_law_person"] (cG jg):={}
theorem HF {f:Addr}{fd:FuncData}(D:Df K mg "_law_refused" jg ["_law_book_here", "_law_person"] f fd) (CL:Kf K mg Kn Ns Nb Nd Nr Ny Sa Tm) (G_latest:Fh P w K mg base 7 "latest" (Ak C Ns)) (G__law_no_story:Gd P w K mg base 1 "_law_no_story" (FI Ns)):Gd P w K mg base 8 "_law_refused" (FK C):=by
 refine J.CA D rm (λvs H Q E h=>?_) (λX H vs Q E hh stk pal ptl h=>?_)
 ·obtain⟨x,p,s,t,y,z,ps,ss,ts,ys,sg,qd,sd,F0,rfl,_⟩:=h
  rfl
 ·obtain⟨x,p,s,t,y,z,ps,ss,ts,ys,sg,qd,sd,F0,rfl,bk,pl,sl,tl,gs,gp,qs,qk,sy,l60,nn,f0,b0,k⟩:=h
  have OK:=CL.oK;have hK:=CL.hK;obtain⟨S0,S1,S2,S3,_⟩:=hh.eB [0,1,2,3];have C__law_no_story:=hh.c G__law_no_story;obtain rfl:=hh.fK;refine⟨_,(ag (aD S2 hh.nd bB)
 (ag (J.MJ hh stk (J.F8 hh G_latest (pal (aA (aa S0) (aa S1))) rfl (by first|decide|exact le_refl _) (by decide)) OK hK S3 S2 rfl (by decide) rfl (by decide))
 (aj (au (aw C__law_no_story (ao (aa S2))))))),?_⟩
  refine⟨_,rfl,_,rfl,x,p,s,t,y,z,ps,ss,ts,ys,sg,qd,sd,F0,rfl,bk,pl,sl,tl,gs,gp,qs,qk,sy,l60,nn,f0,λr l us ds F st H' s' hr nl hl lz sub fo so stl hb lat=>absurd (wR (λy i e=>lG fo f0 sub e) hb) b0,λ_ H' s'=>?_⟩;refine⟨Ns,.ref Kn::q0,rfl,CL.oN,by simp,λea nea=>?_⟩;have s2:=cF.upd (o:=.ext (D6 ea Ns)) nea;exact⟨_,rfl,ea,rfl,cD,λH'' s3=>k H'' ((s'.trans s2).trans s3)⟩
end
theorem Fx{sg:List GD}{qd:List QD}{sd:List SD}{z:Str}:∀d∈fI sg qd sd,d.1=z->d.2.1∈Hm sg qd ((fR 0 (gv qd)).filter (c8 qd sd)) z:=λd hd e=>by
 obtain⟨y,h,w⟩:=d;have e':y=z:=e;subst e';unfold Hm;cases w with
 |saw i=>
  obtain⟨_,hg⟩:=lI hd;exact mem_append_left _ (mem_map.mpr ⟨(y,h),mem_filter.mpr ⟨mem_of_getElem? hg,decide_eq_true rfl⟩,rfl⟩)
 |hrd k te=>
  obtain⟨mt,eh⟩:=lH hd;exact mem_append_right _ (mem_map.mpr ⟨(k,te,y),mem_filter.mpr ⟨mt,decide_eq_true rfl⟩,eh⟩)
theorem zj{ds st:List ED}{F:FH}(so:kf ds F st)(z:Str):(st.filter λd=>decide (d.1=z)).map (λd=>V.int d.2.1)=match F z with|none=>[]|some h=>[V.int h]:=by
 have mem:∀d∈st.filter (λd=>decide (d.1=z)),F z=some d.2.1:=λd hd=>by
  have e:d.1=z:=of_decide_eq_true (mem_filter.mp hd).2;rw[<-e];exact(so.fi d (mem_filter.mp hd).1).1
 have nd:((st.filter λd=>decide (d.1=z)).map (·.1)).Nodup:=so.nd.sublist ((List.filter_sublist).map _);have all:∀d∈st.filter (λd=>decide (d.1=z)),d.1=z:=λd hd=>of_decide_eq_true (mem_filter.mp hd).2;have ex:(F z).isSome=true->st.filter (λd=>decide (d.1=z))≠[]:=λh e=>by
  obtain⟨d,hd,e1⟩:=mem_map.mp ((so.me z).mpr h);have:=mem_filter (p:=λd:ED=>decide (d.1=z)) |>.mpr ⟨hd,decide_eq_true e1⟩;rw[e]at this;cases this
 generalize st.filter (λd=>decide (d.1=z))=fl at mem nd all ex;cases fl with
 |nil=>
  cases hF:F z with
  |none=>rfl
  |some h=>exact absurd rfl (ex (by rw[hF];rfl))
 |cons d r=>
  cases r with
  |nil=>
   rw[mem d (.head _)];rfl
  |cons d' r'=>
   exfalso
   have n:=(nodup_cons.mp nd).1;refine n (mem_map.mpr ⟨d',.head _,?_⟩);exact(all d' (.tail _ (.head _))).trans (all d (.head _)).symm
inductive Mr(vs:List V)(H:Hp)(Q:VK):Prop
 |mk(th s t y r l:Addr)(z:Str)(ps:List Str)(ss ts ys us:List V)(sg:List GD)(qd:List QD)(sd:List SD)(ds:List ED)(F:FH)(st:List ED)(e:vs=[.ref th,.str z,.ref r])(T:EF ps H th s t y ss ts ys sg qd sd)(hr:H r=some (.tup [oV (F z),.ref l]))(hl:H l=some (.lst us))(lz:Lz dW H us st)(sub:∀d∈ds,d∈fI sg qd sd)(so:kf ds F st)(stl:st.length<=24)(kal:sd.all (pV F)=true)(lat:kW (fI sg qd sd) sd z (F z))(nn:∀d∈fI sg qd sd,0<=d.2.1)
   (k:∀H',cF H H'->Q (.bl true) H')
def Fc:Sp:=λvs H Q _=>Mr vs H Q
theorem oO:cI ["_law_things_here", "_law_person", "_law_told", "_law_due", "_law_there"] ["_law_things_here", "_law_person", "_law_told"] (cG gO):={}
theorem Ji (D:Df K mg "_law_told_well" gO ["_law_things_here", "_law_person", "_law_told"] f fd) (T':Txt K mg kw C) (G__law_good_story:Gd P w K mg base 5 "_law_good_story" AL) (G__law_latest:Gd P w K mg base 5 "_law_latest" FR):Gd P w K mg base 6 "_law_told_well" Fc:=by
 refine aH D oO λX H vs Q E hh h=>?_;obtain⟨th,s,t,y,r,l,z,ps,ss,ts,ys,us,sg,qd,sd,ds,F,st,rfl,Th,hr,hl,lz,sub,so,stl,kal,lat,nn,k⟩:=h;have T:=T';obtain⟨S0,S1,S2,S3,S4,_⟩:=hh.eB [0,1,2,3,4];have B_bool:=hh.b T.b_bool;have B_isinstance:=hh.b T.b_isinstance;have B_len:=hh.b T.b_len;have B_tuple:=hh.b T.b_tuple;have C__law_good_story:=hh.c G__law_good_story;have C__law_latest:=hh.c G__law_latest;have hu:=eU hh.room;have hsz:sizeLine=16777216:=sizeLine_eq;refine⟨_,(ag (aI (aS (bg (a5 (aQ (aE B_isinstance bF L2.cK (aA (aa S2) (J.ty B_tuple L2.hU))))) (bg (aB bQ (aE B_len bw L2.dE (ao (aa S2))) ae (L2.cJ _)) (bu (a5 (aQ (aw C__law_good_story (aA (aa S0) (af ak (aa S2) ae ah)))))))))
 (aj (au a9))
 aJ)
 (ag (aD S3 hh.nd (aw C__law_latest (aA (aa S0) (aa S1))))
 (ag (bL (is:=[1]) (xs:=["_law_row"]) (ns:=["_law_person"]) S4 hh.nd hh.calm (aO (af ak (aa S2) ae ah)) {} (λ_ _ _ _ _=>(aR (i:=0) (by decide+kernel) rfl rfl)) (λ_ _ _ _ _=>(bz (aB aL (af bf (aK (i:=0) rfl rfl (by decide) (by decide)) ae ah) (aY (i:=1) rfl rfl (by decide) (by decide)) (L2.cJ _)))) (λ_ _ _ _ _=>(af bf (aK (i:=0) rfl rfl (by decide) (by decide)) ae ah)) hh.hsc hh.hN (by decide+kernel))
 (ag (aI (aB cB (aa S3) bB (L2.cJ _))
 (aj (au (aU (aT cB (af ak (aa S2) ae ah) bB (L2.cJ _)) (a7 (aT (J.o7 hu) (aa S4) (ba bE) (L2.cJ _))))))
 aJ)
 (aj (au (aU (J.mM (aE B_isinstance bF L2.cK (aA (af ak (aa S2) ae ah) (J.ty B_bool L2.nH)))) (aU (aT aL (af ak (aa S2) ae ah) (aa S3) (L2.cJ _)) (a7 (aT (J.o7 hu) (aa S4) (ba (ao (aa S3))) (L2.cJ _))))))))))),?_⟩
 refine⟨_,rfl,_,_,_,_,rfl,dU.tup hr,kI,_,rfl,iN ⟨_,rfl,r,_,rfl,.inr (cW.of hr),rfl,_,rfl,hZ (show ¬(!decide (V.int 2=V.int 2))=true from by decide) ?_⟩⟩;refine⟨_,rfl,_,rfl,xT hr rfl ⟨th,s,t,y,l,ps,ss,ts,ys,us,sg,qd,sd,ds,F,st,rfl,Th.hth,Th.hs,Th.ht,Th.hy,Th.sl,Th.tl,Th.gs,(λd hd=>(Th.gk d hd).2),Th.qs,Th.qk,Th.sy,kal,hl,lz,so,sub,stl,λH1 s1=>⟨_,rfl,cV ?_⟩⟩⟩;have T1:=Th.mono s1;refine⟨_,rfl,_,rfl,th,s,t,y,z,ps,ss,ts,ys,sg,qd,sd,rfl,T1,λL H2 s2 ll=>?_⟩;have eL:=Bq nn Fx lat ll;subst eL;have s02:=s1.trans s2;have hr2:=s02 _ _ hr;have hl2:=s02 _ _ hl;have lz2:=lz.mono (dW.mono (Tk.of s02));refine⟨_,rfl,xT hr2 rfl ⟨l,rfl,⟨_,cL.of hl2⟩,dj (xs:=us) (iq st λd=>decide (d.1=z)) (rX st λd=>V.int d.2.1) (cL.of hl2) (by have:=lz.1;omega) ?_ ?_⟩⟩
 ·intro i os v H3 K1 K2 hv hos s3 k1 k2
  obtain⟨o1,rfl⟩:=osA hos
  ·
   obtain⟨d,hd,a,rfl,wa,ha,hw⟩:=lz2.at hv;rw[dI hd]at k1 k2;rw[fc hd]at k1;have ha3:=s3 _ _ ha;refine⟨⟨[some (.ref a)],rfl,rfl⟩,⟨_,rfl,xT ha3 rfl ⟨_,rfl,rfl,_,rfl,cZ (λe=>⟨_,rfl,xT ha3 rfl (k1 ?_ H3 (cF.refl _))⟩) (λe=>k2 ?_ H3 (cF.refl _))⟩⟩⟩
   ·exact decide_eq_true (V.str.inj (of_decide_eq_true e))
   ·exact decide_eq_false λe2=>e (decide_eq_true (congrArg V.str e2))
 intro o H3 no3 s3 ho;rw[lz.1,dw,zj so]at ho;have s03:=s02.trans s3;have hr3:=s03 _ _ hr;cases hF:F z with
 |none=>
  rw[hF]at ho hr3;refine⟨_,rfl,rfl,_,rfl,eZ (by exact decide_eq_true rfl) ⟨_,rfl,xT hr3 rfl ⟨rfl,_,rfl,eZ (by exact decide_eq_true rfl) ⟨_,rfl,wW,λe0 ne0=>?_⟩⟩⟩⟩;have s4:=cF.upd (o:=.lst []) ne0;exact⟨o,e0,[],[],[],rfl,rfl,cL.of (s4 _ _ ho),cL.of cD,rfl,rfl,(λi u v c h=>nomatch h),k _ (s03.trans s4)⟩
 |some h=>
  rw[hF]at ho hr3;refine⟨_,rfl,rfl,_,rfl,hZ (by intro z;cases of_decide_eq_true z) ⟨_,rfl,xT hr3 rfl ⟨_,_,_,_,rfl,dU.int _,kI,_,rfl,_,rfl,iP ⟨_,rfl,xT hr3 rfl ⟨_,rfl,?_,_,rfl,eZ (by exact decide_eq_true rfl) ⟨_,rfl,_,rfl,Hq,λe1 ne1=>?_⟩⟩⟩⟩⟩⟩
  ·rfl
  ·have s4:=cF.upd (o:=.lst [V.int h]) ne1
   refine⟨o,e1,[V.int h],[V.int h],[true],rfl,rfl,cL.of (s4 _ _ ho),cL.of cD,rfl,rfl,λi u v c h1 h2 h3=>?_,k _ (s03.trans s4)⟩
   match i with
   |0=>
    cases h1;cases h2;cases h3;show some (h == h)=some true;rw[beq_self_eq_true]
   |i+1=>cases h1
theorem Ds{ds st st':List ED}{F:FH}(a:kf ds F st)(b:kf ds F st'):st=st':=by
 have pm:(st.map (·.1)).Perm (st'.map (·.1)):=(List.perm_ext_iff_of_nodup a.nd b.nd).mpr λz=>(a.me z).trans (b.me z).symm;have e:st.map (·.1)=st'.map (·.1):=(BF (ps:=st'.map (·.1)) pm a.so).trans (BF (List.Perm.refl _) b.so).symm;have len:st.length=st'.length:=by
  have:=congrArg List.length e
  rwa [length_map,length_map]at this
 refine List.ext_getElem len λi h1 h2=>?_;have ei:st[i].1=st'[i].1:=by
  have:=List.getElem_of_eq e (by rw[length_map];exact h1:i < (st.map (·.1)).length)
  rwa [List.getElem_map,List.getElem_map]at this
 have fa:=a.fi _ (getElem_mem h1);have fb:=b.fi _ (getElem_mem h2);rw[ei]at fa;have eh:st[i].2.1=st'[i].2.1:=by
  have:=fa.1.symm.trans fb.1;exact Option.some.inj this
 rw[eh]at fa;exact Option.some.inj (fa.2.symm.trans fb.2)
theorem BG{E:List ED}{sd:List SD}{z:Str}{L L':Option Int}(a:kW E sd z L)(b:kW E sd z L'):L=L':=by
 cases L with
 |none=>
  cases L' with
  |none=>rfl
  |some h'=>
   obtain⟨F,f1,f2⟩:=a.no rfl;exact absurd f2 (b.un h' rfl F f1)
 |some h=>
  cases L' with
  |none=>
   obtain⟨F,f1,f2⟩:=b.no rfl;exact absurd f2 (a.un h rfl F f1)
  |some h'=>
   obtain⟨e,me,e1,e2,F,f1,f2,_⟩:=a.at' h rfl;obtain⟨e',me',e1',e2',F',f1',f2',_⟩:=b.at' h' rfl;have x1:¬h < h':=λlt=>a.up h rfl e' me' e1' (by omega) F' f1' f2';have x2:¬h' < h:=λlt=>b.up h' rfl e me e1 (by omega) F f1 f2;rw[show h=h' by omega]
theorem Gs{E:List ED}{sd sd':List SD}{z:Str}{L:Option Int}(h:mC sd sd')(a:kW E sd' z L):kW E sd z L:=by
 have iff:∀F,bx F sd=[]↔bx F sd'=[]:=λF=>by rw[BA,BA,all_eq h]
 refine⟨λe=>?_,λm e F f b=>a.un m e F f ((iff F).mp b),λm e=>?_,λm e e' h1 h2 h3 F f b=>a.up m e e' h1 h2 h3 F f ((iff F).mp b)⟩
 ·obtain⟨F,f1,f2⟩:=a.no e
  exact⟨F,f1,(iff F).mpr f2⟩
 ·obtain⟨e',h1,h2,h3,F,f1,f2,f3⟩:=a.at' m e
  exact⟨e',h1,h2,h3,F,f1,(iff F).mpr f2,f3⟩
theorem Di(o:Option Int):iU (oV o) (oV o)=some true:=by
 cases o with
 |none=>rfl
 |some i=>
  show some (i == i)=some true;rw[beq_self_eq_true]
theorem AQ{K:PySem.W.Frag}{H:Hp}{l m:Addr}{us ws:List V}{st:List ED}{Q:Prop}(hl:H l=some (.lst us))(hm:H m=some (.lst ws))(lz:Lz dW H us st)(lw:Lz dW H ws st)(q:Q):vA K (.ref l) (.ref m) H Q:=by
 refine⟨l,m,us,ws,rfl,rfl,cL.of hl,cL.of hm,lz.1.trans lw.1.symm,λi u v hu hv=>?_,q⟩;obtain⟨d,hd,a,rfl,wa,ha,hw⟩:=lz.at hu;obtain⟨d',hd',b,rfl,wb,hb,hx⟩:=lw.at hv;rw[hd]at hd';cases hd';refine⟨a,b,_,_,rfl,rfl,cW.of ha,cW.of hb,rfl,λj z y hz hy=>?_⟩
 match j with
 |0=>
  cases hz;cases hy;exact .flat rfl (by show some (d.1 == d.1)=some true;rw[beq_self_eq_true])
 |1=>
  cases hz;cases hy;exact .flat rfl (by show some (d.2.1 == d.2.1)=some true;rw[beq_self_eq_true])
 |2=>
  cases hz;cases hy;obtain⟨z,h,w⟩:=d;cases w with
  |saw i'=>
   refine .tup wa wb _ rfl rfl (cW.of hw) (cW.of hx) λx hx=>?_;rcases mem_cons.mp hx with rfl|hx
   ·rfl
   ·rcases mem_cons.mp hx with rfl|hx
    ·show some ((i':Int) == (i':Int))=some true
     rw[beq_self_eq_true]
    ·cases hx
  |hrd kk te=>
   refine .tup wa wb _ rfl rfl (cW.of hw) (cW.of hx) λx hx=>?_;rcases mem_cons.mp hx with rfl|hx
   ·rfl
   ·rcases mem_cons.mp hx with rfl|hx
    ·show some ((kk:Int) == (kk:Int))=some true
     rw[beq_self_eq_true]
    ·rcases mem_cons.mp hx with rfl|hx
     ·show some (te == te)=some true
      rw[beq_self_eq_true]
     ·cases hx
 |j+3=>cases hz
theorem Ae{H:Hp}{ps:List Str}{ys:List V}{sd:List SD}(sy:Sys H ys sd)(sk:∀v∈ys,eY ps H v)(ne:ys≠[])(l:ys.length<=60):∃sd',Sys H (((List.replicate 60 ys).flatten).take 60) sd'/\mC sd sd'/\(∀v∈((List.replicate 60 ys).flatten).take 60,eY ps H v):=by
 have rl:∀{α β:Type}(k:Nat) (a:List α) (b:List β),a.length=b.length->(List.replicate k a).flatten.length=(List.replicate k b).flatten.length:=λk a b h=>by rw[len_rep,len_rep,h]
 refine⟨((List.replicate 60 sd).flatten).take 60,⟨by rw[length_take,length_take,rl 60 ys sd sy.1],?_⟩,λd=>⟨λhd=>?_,λhd=>?_⟩,λv hv=>?_⟩
 ·have key:∀k (i:Nat) v d,(List.replicate k ys).flatten[i]? =some v->(List.replicate k sd).flatten[i]? =some d->t7 H v d:=λk=>by
   induction k with
   |zero=>intro i v d h;cases h
   |succ k ih=>
    intro i v d h1 h2;rw[replicate_succ,flatten_cons]at h1 h2;by_cases hi:i < ys.length
    ·rw[getElem?_append_left hi]at h1
     rw[getElem?_append_left (by rw[<-sy.1];exact hi)]at h2;exact sy.2 i v d h1 h2
    ·rw[getElem?_append_right (Nat.le_of_not_lt hi)]at h1
     rw[getElem?_append_right (by rw[<-sy.1];exact Nat.le_of_not_lt hi),<-sy.1]at h2;exact ih _ v d h1 h2
  intro i v d h1 h2;have i60:i < 60:=by
   have:=(List.getElem?_eq_some_iff.mp h1).1;rw[length_take]at this;omega
  rw[getElem?_take_of_lt i60]at h1 h2;exact key 60 i v d h1 h2
 ·obtain⟨i,hi⟩:=getElem?_of_mem hd
  have il:=(List.getElem?_eq_some_iff.mp hi).1;refine mem_of_getElem? (i:=i) ?_;rw[getElem?_take_of_lt (by have:=sy.1;omega),show(60:Nat)=59+1 from rfl,replicate_succ,flatten_cons,getElem?_append_left il];exact hi
 ·obtain⟨x,hx,hd'⟩:=List.mem_flatten.mp (mem_of_mem_take hd)
  rw[List.eq_of_mem_replicate hx]at hd';exact hd'
 ·obtain⟨x,hx,hd'⟩:=List.mem_flatten.mp (mem_of_mem_take hv)
  rw[List.eq_of_mem_replicate hx]at hd';exact sk v hd'
theorem Fp{i:Nat}{v:V}{tc:TT}{u t2:TS}{D:Ends}{σ:St}{H:Hp}(R:St->Hp->Prop)(hR:∀σ' H',R σ' H'->t2 D σ' H')(h:(∀σ' H',R σ' H'->t2 D σ' H')->ve tc u oS { D with nx:=t2 D } (σ.set i (some v)) H):eQ i v σ H (λσ2 H2=>vZ (ve tc u oS) t2 D σ2 H2):=h hR
theorem wF{K:PySem.W.Frag}{C:Addr}{bm:List Value}(q:ownIn K C bm=true):iZ K C bm:=by
 unfold ownIn at q;split at q
 ·rename_i dd cd sl ho
  split at q
  ·rename_i C' bm' k0 k1 k2 k3 n k5 hm hs
   simp only[and_eq_true,beq_iff_eq,not_eq_true']at q;obtain⟨⟨⟨⟨⟨⟨rfl,rfl⟩,hdel⟩,rfl⟩,hok⟩,hni⟩,ht⟩:=q;obtain⟨nm,bs,mro,ns,qn,hd,sn,sub,ab,col,del⟩:=cd;dsimp only at hm hdel hok hni;subst hm hdel;have hsl:sl= #[k0,k1,k2,k3,some (.builtin "ValueError.__new__"),k5]:=by
    obtain⟨l⟩:=sl;simp only at hs;rw[hs]
   subst hsl;exact⟨nm,qn,ns,bs,hd,sn,sub,ab,col,dd,k0,k1,k2,k3,k5,ho,hok,(λx hx=>beq_iff_eq.mp (all_eq_true.mp hni x hx)),ht⟩
  ·cases q
 ·cases q
def An(C Ns:Addr):Sp:=λvs H Q _=>E1 C Ns vs H Q E0
inductive EH  (K:PySem.W.Frag)(vs:List V)(H:Hp)(Q:VK):Prop
 |mk(a:Addr)(ns:List Int)(h0:vs=[.ref a])(h1:cL K H a (ns.map V.int))(h2:ns.length<=63)(h3:∀H',Q (.bl true) H')
def xh  (K:PySem.W.Frag):Sp:=λvs H Q _=>EH K vs H Q
section
variable {P:Program}{w:World}{K:PySem.W.Frag}{mg:Str->Option Value}{base:Heap}{kw C Ns:Addr}
theorem Fo:cI ["_law_script", "_law_whole", "_law_names_here", "_law_things_here", "_law_full", "_law_book_here", "_law_person", "_law_told", "_law_due"] ["_law_script"] (cG pB):={}
theorem Ge {f:Addr}{fd:FuncData}(F:pT K "law" "law" pB f fd) (T:Txt K mg kw C) (G__law_drawn:Gd P w K mg base 4 "_law_drawn" (AZ K)) (G__law_book:Gd P w K mg base 9 "_law_book" (AS C)) (G__law_fits:Gd P w K mg base 4 "_law_fits" E3) (G__law_refused:Gd P w K mg base 8 "_law_refused" (FK C)) (G_latest:Gd P w K mg base 7 "latest" (An C Ns)) (G__law_told_well:Gd P w K mg base 6 "_law_told_well" Fc):eC P w K mg base m9 12 f fd ["_law_script"] (xh K):=by
 refine J.nU F Fo (λvs H Q E h=>?_) (λX H vs Q E hh h=>?_)
 ·obtain⟨a,ns,rfl,_⟩:=h
  rfl
 ·obtain⟨sc,ns,rfl,hsc,n63,q⟩:=h
  obtain⟨S0,S1,S2,S3,S4,S5,S6,S7,S8,_⟩:=hh.eB [0,1,2,3,4,5,6,7,8];have B_list:=hh.b T.b_list;have C__law_book:=hh.c G__law_book;have C__law_drawn:=hh.c G__law_drawn;have C__law_fits:=hh.c G__law_fits;have C__law_refused:=hh.c G__law_refused;have C__law_told_well:=hh.c G__law_told_well;have C_latest:=hh.c G_latest;have hu:=eU hh.room;obtain rfl:=hh.fK;have hsz:sizeLine=16777216:=sizeLine_eq;refine⟨_,(ag (bO (aw C__law_drawn (aA (aa S0) ae)) (bq hh.calm (aF (aG S1 hh.nd) (aF (aG S2 hh.nd) (aF (aG S3 hh.nd) bh)))))
 (ag (aD S4 hh.nd (aa S3))
 (ag (aI (aS (bp (aB aL (az a8 (az bj (aa S1) ae) ae) ae (L2.cJ _)) (bA (aB (J.lJ hu) (af ak (aa S3) ae ah) (ba bE) (L2.cJ _)))))
 (aj (aD S4 hh.nd (aV (aM (af ak (aa S3) ae ah) (af ak (aa S3) ae ah) (cb cy (az J.vO (af ak (aa S3) ae ah) ae) b6 (b9 ae))))))
 aJ)
 (ag (aD S5 hh.nd (aw C__law_book (aA (aa S2) (aa S4))))
 (ag (aI (a5 (aQ (aw C__law_fits (ao (aa S3)))))
 (aj (au (aU (aw C__law_refused (aA (aa S5) (af aZ (aa S2) ae ah))) (a7 (aw C__law_refused (aA (aa S5) (af aZ (aa S2) (J.tN J.pe ae) J.IJ)))))))
 aJ)
 (ag (bo hh.own hh.calm (aO (cb cy (aa S2) b6 (b9 ae))) (aG S6 hh.nd)
 (ag (aD S7 hh.nd (aw C_latest (aA (aa S5) (aa S6))))
 (ag (aI (a5 (aQ (aw C__law_told_well (aM (aa S3) (aa S6) (aa S7)))))
 (aj (au a9))
 aJ)
 (ag (aD S8 hh.nd (bC B_list bI L2.dG (ao (af ak (aa S7) ae ah))))
 (ag (bG (J.Lx plainAttrs_list PySem.F.slot_list_clear PySem.F.type_list_clear J.oq (af ak (aa S7) ae ah)))
 (aj (aI (aB (J.pP (L2.EM hh.room)) (aw C_latest (aA (aa S5) (aa S6))) (aV (aA (af ak (aa S7) ae ah) (aa S8))) (L2.cJ _))
 (aj (au a9))
 aJ)))))))
 (aj (au a9)))))))),?_⟩
  refine⟨_,rfl,sc,ns,rfl,hsc,n63,λr nl th s t y W ps ss ts ys H1 s1 hr W0 W1 hnl po ok=>?_⟩;refine⟨r,_,rfl,cW.of hr,rfl,_,_,rfl,_,_,rfl,_,_,rfl,rfl,?_⟩;clear hr;obtain⟨sg,gs,gk⟩:=m6 ok.gs;obtain⟨qd,qs,qk⟩:=zq ok.gt;obtain⟨sd,sy,sk⟩:=lZ ok.gy;have ll:=ok.lt;have ly:=ok.ly;have Th:EF ps H1 th s t y ss ts ys sg qd sd:=⟨ok.hth,ok.hs,ok.ht,ok.hy,ok.ls,by omega,gs,gk,qs,qk,sy,po.hi⟩;refine⟨_,rfl,?_⟩;dsimp only;refine Fp (λσ' H'=>∃(fu yf:Addr) (ysF:List V) (sdF:List SD),σ'=[some (.ref sc),some (.int W),some (.ref nl),some (.ref th),some (.ref fu),none,none,none,none]/\cF H1 H'/\H' fu=some (.tup [.ref s,.ref t,.ref yf])/\H' yf=some (.lst ysF)/\Sys H' ysF sdF/\mC sd sdF/\ysF.length<=60/\∀v∈ysF,eY ps H' v) ?_ (λhR=>?_)
  rotate_left
  ·have base0:∀H',cF H1 H'->∃(fu yf:Addr) (ysF:List V) (sdF:List SD),[some (V.ref sc),some (.int W),some (.ref nl),some (.ref th),some (.ref th),none,none,none,none]=[some (V.ref sc),some (.int W),some (.ref nl),some (.ref th),some (.ref fu),none,none,none,none]/\cF H1 H'/\H' fu=some (.tup [.ref s,.ref t,.ref yf])/\H' yf=some (.lst ysF)/\Sys H' ysF sdF/\mC sd sdF/\ysF.length<=60/\∀v∈ysF,eY ps H' v:=λH' s'=>⟨th,y,ys,sd,rfl,s',s' _ _ ok.hth,s' _ _ ok.hy,sy.mono (Tk.of s'),λ_=>Iff.rfl,by omega,λv hv=>(ok.gy v hv).mono (Tk.of s')⟩
   refine⟨_,rfl,_,_,rfl,rfl,?_,_,_,rfl,rfl,(by show(0:Int) < 8;decide),rfl,_,rfl,cZ (λe0=>?_) (λ_=>cV (hR _ _ (base0 H1 (cF.refl _))))⟩
   ·exact⟨by decide,by decide⟩
   refine⟨_,rfl,xT ok.hth rfl ⟨wW,λem nem=>?_⟩⟩;have s4:=cF.upd (o:=.lst []) nem;have hem:upd H1 em (.lst []) em=some (.lst []):=cD;generalize upd H1 em (.lst [])=H4 at s4 hem;have ok4:=ok.mono s4;by_cases ye:ys=[]
   ·exact .same y em [] [] [] rfl rfl (by rw[<-ye];exact cL.of ok4.hy) (cL.of hem) rfl rfl (λi u v c h=>nomatch h) ⟨_,rfl,cV (hR _ _ (base0 H4 s4))⟩
   ·refine .other y em ys [] rfl rfl (cL.of ok4.hy) (cL.of hem) (λe=>ye (eq_nil_of_length_eq_zero e)) ⟨_,rfl,dq ?_⟩
    refine⟨_,rfl,xT ok4.hth rfl ⟨_,rfl,xT ok4.hth rfl ⟨_,rfl,xT ok4.hth rfl ⟨y,60,ys,rfl,rfl,ok4.hy,by decide,by decide,by show ys.length * 60<=sizeLine;omega,λrp nrp=>?_⟩⟩⟩⟩;have s5:=cF.upd (o:=.lst (List.replicate (Int.toNat 60) ys).flatten) nrp;have hrp:upd H4 rp (.lst (List.replicate (Int.toNat 60) ys).flatten) rp=some (.lst (List.replicate 60 ys).flatten):=cD;generalize upd H4 rp (.lst (List.replicate (Int.toNat 60) ys).flatten)=H5 at s5 hrp;refine⟨_,rfl,rp,_,rfl,cL.of hrp,λcu ncu=>?_⟩;have ec:fO (List.replicate 60 ys).flatten none (some 60)=((List.replicate 60 ys).flatten).take 60:=by
     unfold fO;have e1:HT.eJ (List.replicate 60 ys).flatten.length (List.replicate 60 ys).flatten.length (some 60)=min 60 (List.replicate 60 ys).flatten.length:=HT.Dg _ _ 60;rw[e1,show HT.eJ (List.replicate 60 ys).flatten.length 0 none=0 from rfl,Nat.sub_zero,drop_zero,List.take_eq_take_iff];omega
    rw[ec];have s6:=cF.upd (o:=.lst (((List.replicate 60 ys).flatten).take 60)) ncu;have hcu:upd H5 cu (.lst (((List.replicate 60 ys).flatten).take 60)) cu=some (.lst (((List.replicate 60 ys).flatten).take 60)):=cD;generalize upd H5 cu (.lst (((List.replicate 60 ys).flatten).take 60))=H6 at s6 hcu;refine⟨m8,λfu nfu=>?_⟩;have s7:=cF.upd (o:=.tup [.ref s,.ref t,.ref cu]) nfu;have s17:=((s4.trans s5).trans s6).trans s7;obtain⟨sd',sy',sde,sg'⟩:=Ae (sy.mono (Tk.of s17)) (λv hv=>(ok.gy v hv).mono (Tk.of s17)) ye (by omega);exact hR _ _ ⟨fu,cu,_,sd',rfl,s17,cD,s7 _ _ hcu,sy',sde,by rw[length_take];omega,sg'⟩
  rintro σ' H2 ⟨fu,yf,ysF,sdF,rfl,s2,hfu,hyf,syF,sde,lF,gF⟩;refine⟨_,rfl,_,rfl,nl,fu,s,t,yf,ps,ss,ts,ysF,rfl,s2 _ _ hnl,hfu,s2 _ _ ok.hs,s2 _ _ ok.ht,hyf,⟨po,ok.ls,λv hv=>(ok.gs v hv).mono (Tk.of s2),by omega,λv hv=>(ok.gt v hv).mono (Tk.of s2),lF,gF⟩,λx p' s' t' y' H3 s3 nx bk=>?_⟩;have s13:=s2.trans s3;have nn:∀d∈fI sg qd sd,0<=d.2.1:=λd hd=>by
   obtain⟨z,h,w⟩:=d;cases w with
   |saw i=>exact(gk _ (mem_of_getElem? (lI hd).2)).2.1
   |hrd kk te=>
    obtain⟨mt,eh⟩:=lH hd;obtain⟨q',hq',_⟩:=jY qk (mem_filter.mp mt).1;have e1:=eP hq';have:h=q'.1:=eh.symm.trans e1;show 0<=h;rw[this];exact(qk q' (mem_of_getElem? hq')).1.1
  have plo:=po.lo;have phi:=po.hi;have gp:∀d∈sg,d.1∈ps:=λd hd=>(gk d hd).1;refine⟨_,rfl,th,s,t,y,ps,ss,ts,ys,sg,qd,sd,rfl,Th.mono s13,λF0 H4 s4 f0=>?_⟩;have s34:=s3.trans s4;have s14:=s13.trans s4;have Th4:=Th.mono s14;have bk4:=bk.mono s4;have syF4:=syF.mono (Tk.of s34);have hnl4:=s14 _ _ hnl;have f0F:dM (fI sg qd sdF) F0:=by rw[<-qT sde];exact f0
  have nnF:∀d∈fI sg qd sdF,0<=d.2.1:=by rw[<-qT sde];exact nn
  clear s3 s4 s13 s34 bk;refine⟨_,rfl,cZ (λnb=>?_) (λfit=>?_)⟩
  ·have b0:bx F0 sdF≠[]:=λe=>by
    have:=lQ e;rw[<-all_eq sde]at this;rw[this]at nb;cases nb
   obtain⟨z0,hz0⟩:∃z0,(ps.map V.str)[0]? =some (V.str z0):=⟨ps[0]'(by omega),by rw[getElem?_map,getElem?_eq_getElem (by omega)];rfl⟩;obtain⟨z1,hz1⟩:∃z1,nM (ps.map V.str) (-1)=some (V.str z1):=by
    have ne:ps≠[]:=λe=>by rw[e]at plo;exact absurd plo (by decide)
    refine⟨ps.getLast ne,?_⟩
    conv=>lhs;rw[<-List.dropLast_concat_getLast ne,map_append]
    exact L2.AX _ _
   have rf:∀(z:Str) (H5:Hp),cF H4 H5->∀Q':VK,(∀H6,cF H5 H6->Q' (.bl true) H6)->LL C [.ref x,.str z] H5 Q':=λz H5 s5 Q' k'=>⟨x,p',s',t',y',z,ps,ss,ts,ysF,sg,qd,sdF,F0,rfl,bk4.mono s5,phi,ok.ls,by omega,(Th4.mono s5).gs,gp,(Th4.mono s5).qs,qk,syF4.mono (Tk.of s5),lF,nnF,f0F,b0,k'⟩;refine⟨_,rfl,_,rfl,xL hnl4 (cQ hz0) (rf z0 H4 (cF.refl _) _ λH5 s5=>⟨_,rfl,dq ⟨_,rfl,_,rfl,_,rfl,xL (s5 _ _ hnl4) hz1 (rf z1 H5 s5 _ λH6 _=>q H6)⟩⟩)⟩
  ·have b0:bx F0 sdF=[]:=by
    refine qr ?_;rw[<-all_eq sde];cases hb:sd.all (pV F0) with
    |true=>rfl
    |false=>
     rw[hb]at fit;exact absurd rfl fit
   refine⟨_,rfl,_,rfl,nl,_,rfl,cL.of hnl4,λsl nsl=>?_⟩;have stx:∀v∈fO (ps.map V.str) none (some 10),∃z,v=V.str z:=λv hv=>by
    obtain⟨z,_,rfl⟩:=mem_map.mp (List.mem_of_mem_drop (mem_of_mem_take hv));exact⟨z,rfl⟩
   have s5:=cF.upd (o:=.lst (fO (ps.map V.str) none (some 10))) nsl;have hsl:upd H4 sl (.lst (fO (ps.map V.str) none (some 10))) sl=some (.lst (fO (ps.map V.str) none (some 10))):=cD;generalize upd H4 sl (.lst (fO (ps.map V.str) none (some 10)))=H5 at s5 hsl;generalize fO (ps.map V.str) none (some 10)=cs at stx hsl;have Th5:=Th4.mono s5;have bk5:=bk4.mono s5;have syF5:=syF4.mono (Tk.of s5);refine⟨sl,rfl,⟨_,cL.of hsl⟩,da (K:=X.K) (a:=sl) (xs:=cs) (λi σ H6=>∃e6 e7 e8:Option V,σ=[some (.ref sc),some (.int W),some (.ref nl),some (.ref th),some (.ref fu),some (.ref x),e6,e7,e8]/\cF H5 H6) ⟨none,none,none,rfl,cF.refl _⟩ ?_ ?_ ?_⟩
   ·rintro i σ H6 hi ⟨e6,e7,e8,rfl,s6⟩
    exact cL.of (s6 _ _ hsl)
   ·rintro i v σ H6 hv ⟨e6,e7,e8,rfl,s6⟩
    obtain⟨z,rfl⟩:=stx v (mem_of_getElem? hv);have la:∀(H7:Hp),cF H5 H7->∀Q':VK,(∀(r l:Addr) (us:List V) (ds:List ED) (F:FH) (st:List ED) (H':Hp),cF H7 H'->H' r=some (.tup [oV (F z),.ref l])->H7 l=none->H' l=some (.lst us)->Lz dW H' us st->(∀d∈ds,d∈fI sg qd sdF)->dM ds F->kf ds F st->st.length<=24->bx F sdF=[]->kW (fI sg qd sdF) sdF z (F z)->((F z=none/\ds=(fI sg qd sdF).filter λd=>decide (d.1≠z))\/∃h e,F z=some h/\((fI sg qd sdF).filter λd=>decide (d.1=z)).find? (λe=>decide (e.2.1=h) && tq ((fI sg qd sdF).filter λd=>decide (d.1≠z)) sdF e)=some e/\ds=((fI sg qd sdF).filter λd=>decide (d.1≠z))++[e])->Q' (.ref r) H')->E1 C Ns [.ref x,.str z] H7 Q' E0:=λH7 s7 Q' k'=>⟨x,p',s',t',y',z,ps,ss,ts,ysF,sg,qd,sdF,F0,rfl,bk5.mono s7,phi,ok.ls,by omega,(Th5.mono s7).gs,gp,(Th5.mono s7).qs,qk,syF5.mono (Tk.of s7),lF,nnF,f0F,k',λnb=>absurd b0 nb⟩;refine⟨_,rfl,_,rfl,la H6 s6 _ λr l us ds F st H7 s7 hr nl7 hl lz sub fo so stl hb lat cho=>?_⟩;have s57:=s6.trans s7;have Th7:=Th5.mono s57;refine⟨_,rfl,_,rfl,_,rfl,th,s,t,y,r,l,z,ps,ss,ts,ys,us,sg,qd,sd,ds,F,st,rfl,Th7,hr,hl,lz,(by rw[qT sde];exact sub),so,stl,(by rw[all_eq sde];exact lQ hb),(by rw[qT sde];exact Gs sde lat),nn,λH8 s8=>⟨_,rfl,cV ?_⟩⟩;have hr8:=s8 _ _ hr;have hl8:=s8 _ _ hl;refine⟨_,rfl,xT hr8 rfl ⟨l,us,rfl,.inl (cL.of hl8),λdu ndu=>?_⟩⟩;have s9:=cF.upd (o:=.lst us) ndu;have hdu:upd H8 du (.lst us) du=some (.lst us):=cD;have dul:du≠l:=(cE hl8 ndu).symm;generalize upd H8 du (.lst us)=H9 at s9 hdu;have hr9:=s9 _ _ hr8;have hl9:=s9 _ _ hl8;have lz9:=lz.mono (dW.mono (Tk.of (s8.trans s9)));refine⟨_,rfl,xT hr9 rfl ⟨.inl ⟨rfl,_,cL.of hl9⟩,l,us,rfl,rfl,hl9,?_⟩⟩;have s6a:cF H6 (upd H9 l (.lst [])):=λb u e=>by
     rw[cH (cE e nl7)];exact s9 _ _ (s8 _ _ (s7 _ _ e))
    have tka:Tk H9 (upd H9 l (.lst [])):=Tk.upd hl9;have hra:=tka _ _ hr9;have hdua:upd H9 l (.lst []) du=some (.lst us):=by rw[cH dul];exact hdu
    have lza:=lz9.mono (dW.mono tka);generalize upd H9 l (.lst [])=Ha at s6a hra hdua lza;refine⟨_,rfl,_,rfl,la Ha (s6.trans s6a) _ λr2 l2 us2 ds2 F2 st2 Hb sb hr2 nl2 hl2 lz2 sub2 fo2 so2 stl2 hb2 lat2 cho2=>?_⟩;have eL:F2 z=F z:=BG lat2 lat;have ed:ds2=ds:=by
     rcases cho with ⟨n1,rfl⟩|⟨h,e,n1,f1,rfl⟩
     ·rcases cho2 with ⟨_,rfl⟩|⟨h2,e2,n2,_⟩
      ·rfl
      ·rw[eL,n1]at n2
       cases n2
     ·rcases cho2 with ⟨n2,_⟩|⟨h2,e2,n2,f2,rfl⟩
      ·rw[eL,n1]at n2
       cases n2
      ·rw[eL,n1]at n2
       cases n2;rw[f1]at f2;cases f2;rfl
    subst ed;have eF:=nZ fo2 fo;subst eF;have es:=Ds so2 so;subst es;have hrb:=sb _ _ hra;have hdub:=sb _ _ hdua;refine⟨_,rfl,xT hrb rfl ⟨_,rfl,DV,λtp ntp=>?_⟩⟩;have sc':=cF.upd (o:=.tup [oV (F2 z),.ref du]) ntp;refine .same r2 tp _ _ rfl rfl (cW.of (sc' _ _ hr2)) (cW.of cD) rfl (λj a b ha hb'=>?_) ⟨_,rfl,cV ⟨_,_,_,rfl,((s6.trans s6a).trans sb).trans sc'⟩⟩
    match j with
    |0=>
     cases ha;cases hb';exact .flat rfl (Di _)
    |1=>
     cases ha;cases hb';exact .rows (AQ (sc' _ _ hl2) (sc' _ _ hdub) (lz2.mono (dW.mono (Tk.of sc'))) (lza.mono (dW.mono (Tk.of (sb.trans sc')))) trivial)
    |j+2=>cases ha
   ·rintro σ H6 ⟨e6,e7,e8,rfl,s6⟩
    exact q H6
end
end K31
namespace K31
open PySem L2
theorem len0(us:List Value)(h:us.length=0):us=[]:=eq_nil_of_length_eq_zero h
theorem yC{n:Nat}(us:List Value)(h:us.length=n+1):∃a r,us=a::r/\r.length=n:=by
 cases us with
 |nil=>cases h
 |cons a r=>exact⟨a,r,rfl,Nat.succ.inj h⟩
theorem wc(us:List Value)(h:us.length=1):∃a,us=[a]:=by
 obtain⟨a,r,rfl,h'⟩:=yC us h;exact⟨a,by rw[len0 r h']⟩
theorem Io(us:List Value)(h:us.length=2):∃a b,us=[a,b]:=by
 obtain⟨a,r,rfl,h'⟩:=yC us h;obtain⟨b,rfl⟩:=wc r h';exact⟨a,b,rfl⟩
theorem Jd(us:List Value)(h:us.length=3):∃a b c,us=[a,b,c]:=by
 obtain⟨a,r,rfl,h'⟩:=yC us h;obtain⟨b,c,rfl⟩:=Io r h';exact⟨a,b,c,rfl⟩
theorem Ja(us:List Value)(h:us.length=4):∃a b c d,us=[a,b,c,d]:=by
 obtain⟨a,r,rfl,h'⟩:=yC us h;obtain⟨b,c,d,rfl⟩:=Jd r h';exact⟨a,b,c,d,rfl⟩
theorem FW(us:List Value)(h:us.length=5):∃a b c d e,us=[a,b,c,d,e]:=by
 obtain⟨a,r,rfl,h'⟩:=yC us h;obtain⟨b,c,d,e,rfl⟩:=Ja r h';exact⟨a,b,c,d,e,rfl⟩
theorem MF(us:List Value)(h:us.length=6):∃a b c d e f,us=[a,b,c,d,e,f]:=by
 obtain⟨a,r,rfl,h'⟩:=yC us h;obtain⟨b,c,d,e,f,rfl⟩:=FW r h';exact⟨a,b,c,d,e,f,rfl⟩
theorem FF.d{K:PySem.W.Frag}{h:Heap}{mg:Str->Option Value}{x:Str}{st:Stmt}(F:FF K x st)(X:K.In h)(G:h.Ns mainGlobals mg)(ps:List Str)(hb:∀(kV doc pm:Value)(an:Option Addr)(cdv ct:Value)(us:List Value),us.length=ps.length->bindArgs (fnOf x x (ef st) (cX st) (cG st) .none kV doc pm an cdv ct) ⟨us,[]⟩=pure (ps.zip us):=by intro _ _ _ _ _ _ us hl;first| (obtain⟨_,rfl⟩:=wc us hl;rfl)| (obtain⟨_,_,rfl⟩:=Io us hl;rfl)| (obtain⟨_,_,_,rfl⟩:=Jd us hl;rfl)| (obtain⟨_,_,_,_,rfl⟩:=Ja us hl;rfl)| (obtain⟨_,_,_,_,_,rfl⟩:=FW us hl;rfl)):∃f fd,Df K mg x st ps f fd:=by
 obtain⟨a,l,c,k⟩:=F;have F1:=jc (st:=st) l c k;exact⟨_,_,F1,mg_of X G a,F1.binds hb⟩
theorem kP:∀{zs:List Str}{us:List Value},strsOf us=zs.map some->Vals (zs.map V.str) us
 |[],[],_=>.nil
 |[],_::_,h=>by cases h
 |_::_,[],h=>by cases h
 |z::zs,u::us,h=>by
  have h1:oneOf u::strsOf us=some z::zs.map some:=h;injection h1 with e1 e2
  refine .cons ?_ (kP e2);cases u with
  |str x t=>
   cases e1;exact⟨t,rfl⟩
  |_=>cases e1
theorem all_mk {l:PySem.W.OpenLaw}{w:World}{K:PySem.W.Frag}{h:Heap}{mg:Str->Option Value}{fa:Addr}(X:K.In h) (G:h.Ns mainGlobals mg) (hfa:mg "law" =some (.ref fa)) (FX:Facts K):
  ∃fd:FuncData,(∀(s:Shared) (v:Value),BindsTo s fd ⟨[v],[]⟩ [("_law_script",v)])/\∀base:Heap,K.In base->base.Ns mainGlobals mg->eC l.prog w K mg base m9 12 fa fd ["_law_script"] (xh K):=by
 obtain @⟨kw,C,Kn,Ns,Nb,Nd,Nr,Ny,Sa,Tm,f64,f65,f66,f67,f68,f69,odw,od64,an64,od65,an65,od66,an66,od67,an67,od68,an68,od69,an69,slw,sl64,sl65,sl66,sl67,sl68,sl69,oc64,kV64,dc64,pm64,cd64,ct64,oc65,kV65,dc65,pm65,cd65,ct65,oc66,kV66,dc66,pm66,cd66,ct66,oc67,kV67,dc67,pm67,cd67,ct67,oc68,kV68,dc68,pm68,cd68,ct68,oc69,kV69,dc69,pm69,cd69,ct69,its,nW,tk1,tk2,tk3,tk4,tk5,aW,lW,vW,h1,h2,h3,h4,h5,h6,h7,h8,h9,h10,h11,h12,h13,h14,h15,h16,h17,h18,h19,h20,h21,h22,h23,h24,h25,h26,h27,h28,h29,h30,h31,h32,h33,h34,h35,h36,h37,h38,h39,h40,h41,h42,h43,h44,h45,h46,h47,h48,h49,h50,h51,h52,h53,h54,h55,h56,h57,h58,h59,h60,h61,h62,h63,aC,pg,hd,po,sa,mk,kc,nP,nS,nT,nY,x1,x2,x3,x4,x5,x6,x7,x8,x9,x10,x11,x12,x13,x14,x15,x16,x17,x18,x19,x20,a64,i64,l64,c64,k64,a65,i65,l65,c65,k65,a66,i66,l66,c66,k66,a67,i67,l67,c67,k67,a68,i68,l68,c68,k68,a69,i69,l69,c69,k69,z1,z2,z3,z4,z5,z6,z7,z8,z9,z10,z11,z12,z13,z14,z15,z16,z17,z18,z19,g1,g2,g3,g4,g5⟩:=FX;have vW:=kP (zs:=kept) vW;obtain @⟨f63,oc63,kV63,dc63,pm63,cd63,ct63,od63,an63,sl63,a63,l63,c63,k63⟩:=h63;have e:=hfa.symm.trans (mg_of X G a63);cases e;have hsz:its.size<=sizeLine:=by
  have e:=vW.length;have e2:(kept.map V.str).length=12:=by decide+kernel
  rw[e2,length_toList]at e;have:sizeLine=16777216:=sizeLine_eq;omega
 have T:Txt K mg kw C:=⟨mg_none_of X G z1,mg_none_of X G z2,mg_none_of X G z3,mg_none_of X G z4,mg_none_of X G z5,mg_none_of X G z6,mg_none_of X G z7,mg_none_of X G z8,mg_none_of X G z9,mg_none_of X G z10,mg_none_of X G z11,mg_none_of X G z12,mg_none_of X G z13,mg_none_of X G z14,mg_none_of X G z15,mg_none_of X G z16,mg_none_of X G z17,mg_none_of X G z18,mg_none_of X G z19,mg_of X G aW,⟨_,its,nW,lW,rfl,rfl,hsz,vW⟩,⟨_,mg_of X G g1,⟨_,rfl⟩⟩,⟨_,mg_of X G g2,⟨_,rfl⟩⟩,⟨_,mg_of X G g3,⟨_,rfl⟩⟩,⟨_,mg_of X G g4,⟨_,rfl⟩⟩,⟨_,mg_of X G g5,⟨_,rfl⟩⟩,⟨pg,hd,po,sa⟩,nP,nS,nT,nY⟩;have F63:=jc (st:=pB) l63 c63 k63;have F64:=jc (st:=gZ) l64 c64 k64;have F65:=jc (st:=eN) l65 c65 k65;have F66:=jc (st:=fj) l66 c66 k66;have F67:=jc (st:=fZ) l67 c67 k67;have F68:=jc (st:=eK) l68 c68 k68;have F69:=jc (st:=d8) l69 c69 k69;obtain⟨_,_,D_is_whole⟩:=h1.d X G ["thing"];obtain⟨_,_,D_is_hour⟩:=h2.d X G ["thing"];obtain⟨_,_,D_is_name⟩:=h3.d X G ["thing"];obtain⟨_,_,D_is_list_up_to⟩:=h4.d X G ["thing", "most"];obtain⟨_,_,D_is_tuple_of⟩:=h5.d X G ["thing", "length"];obtain⟨_,_,D_is_person⟩:=h6.d X G ["persons", "thing"];obtain⟨_,_,D_are_unlike_persons⟩:=h7.d X G ["persons", "one", "other"];obtain⟨_,_,D_is_tale⟩:=h8.d X G ["thing"];obtain⟨_,_,D_is_sight⟩:=h9.d X G ["persons", "thing"];obtain⟨_,_,D_is_way⟩:=h10.d X G ["thing"];obtain⟨_,_,D_is_talk⟩:=h11.d X G ["persons", "thing"];obtain⟨_,_,D_is_span⟩:=h12.d X G ["begin", "end"];obtain⟨_,_,D_is_short_saying⟩:=h13.d X G ["persons", "kind", "person", "behind"];obtain⟨_,_,D_is_saying⟩:=h14.d X G ["persons", "thing"];obtain⟨_,_,D_are_persons⟩:=h15.d X G ["thing"];obtain⟨_,_,D_are_sights⟩:=h16.d X G ["persons", "thing"];obtain⟨_,_,D_are_talks⟩:=h17.d X G ["persons", "thing"];obtain⟨_,_,D_are_sayings⟩:=h18.d X G ["persons", "thing"];obtain⟨_,_,D_floor_of⟩:=h19.d X G ["book", "person"];obtain⟨_,_,D_floors_of_all⟩:=h20.d X G ["book"];obtain⟨_,_,D_is_above⟩:=h21.d X G ["hour", "floor"];obtain⟨_,_,D_is_silent⟩:=h22.d X G ["sayings", "person", "hour"];obtain⟨_,_,D_is_barred⟩:=h23.d X G ["sayings", "hearer", "teller"];obtain⟨_,_,D_open_sights⟩:=h24.d X G ["book"];obtain⟨_,_,D_open_tellings⟩:=h25.d X G ["book"];obtain⟨_,_,D_open_entries⟩:=h26.d X G ["book"];obtain⟨_,_,D_hour_of⟩:=h27.d X G ["entry"];obtain⟨_,_,D_can_follow⟩:=h28.d X G ["known", "entry"];obtain⟨_,_,D_first_entries⟩:=h29.d X G ["entries"];obtain⟨_,_,D_first_story⟩:=h30.d X G ["entries"];obtain⟨_,_,D_hours_in⟩:=h31.d X G ["story"];obtain⟨_,_,D_fits_knew⟩:=h32.d X G ["hours", "person", "hour"];obtain⟨_,_,D_fits_unheard⟩:=h33.d X G ["hours", "person", "hour"];obtain⟨_,_,D_fits_silent⟩:=h34.d X G ["story", "person", "begin", "end"];obtain⟨_,_,D_fits_barred⟩:=h35.d X G ["story", "person", "other"];obtain⟨_,_,D_fits⟩:=h36.d X G ["story", "saying"];obtain⟨_,_,D_unfitted⟩:=h37.d X G ["book", "story"];obtain⟨_,_,D_fitting_story⟩:=h38.d X G ["book", "entries"];obtain⟨_,_,D_latest⟩:=h39.d X G ["book", "person"];obtain⟨_,_,D_l_mix⟩:=h40.d X G ["_law_cell", "_law_k"];obtain⟨_,_,D_l_names⟩:=h41.d X G ["_law_cell", "_law_many"];obtain⟨_,_,D_l_clock⟩:=h42.d X G ["_law_cell"];obtain⟨_,_,D_l_saying⟩:=h43.d X G ["_law_number", "_law_one", "_law_other", "_law_clock_here", "_law_at"];obtain⟨_,_,D_l_spot⟩:=h44.d X G ["_law_number", "_law_k", "_law_many"];obtain⟨_,_,D_l_things⟩:=h45.d X G ["_law_cells", "_law_names_here", "_law_clock_here"];obtain⟨_,_,D_l_free⟩:=h46.d X G ["_law_sayings", "_law_person", "_law_when"];obtain⟨_,_,D_l_tellings⟩:=h47.d X G ["_law_talks"];obtain⟨_,_,D_l_is_open⟩:=h48.d X G ["_law_talks", "_law_sayings", "_law_telling"];obtain⟨_,_,D_l_open⟩:=h49.d X G ["_law_things_here"];obtain⟨_,_,D_l_hours⟩:=h50.d X G ["_law_things_here", "_law_numbers", "_law_tellings_here"];obtain⟨_,_,D_l_knew_so⟩:=h51.d X G ["_law_sayings", "_law_found"];obtain⟨_,_,D_l_drawn⟩:=h52.d X G ["_law_script", "_law_most"];obtain⟨_,_,D_l_book⟩:=h53.d X G ["_law_names_here", "_law_things_here"];obtain⟨_,_,D_l_good_way⟩:=h54.d X G ["_law_things_here", "_law_known", "_law_row"];obtain⟨_,_,D_l_good_story⟩:=h55.d X G ["_law_things_here", "_law_story"];obtain⟨_,_,D_l_hours_of⟩:=h56.d X G ["_law_things_here", "_law_tellings_here", "_law_person"];obtain⟨_,_,D_l_held⟩:=h57.d X G ["_law_things_here", "_law_person", "_law_least"];obtain⟨_,_,D_l_latest⟩:=h58.d X G ["_law_things_here", "_law_person"];obtain⟨_,_,D_l_fits⟩:=h59.d X G ["_law_things_here"];obtain⟨_,_,D_l_no_story⟩:=h60.d X G ["_law_error"];obtain⟨_,_,D_l_refused⟩:=h61.d X G ["_law_book_here", "_law_person"];obtain⟨_,_,D_l_told_well⟩:=h62.d X G ["_law_things_here", "_law_person", "_law_told"];have b_m_init:=F64.binds (ps:=["self", "persons", "sights", "talks", "sayings"]) λ_ _ _ _ _ _ us hl=>by
  obtain⟨_,_,_,_,_,rfl⟩:=FW us hl;rfl
 have F_m_init:=F64;have mk_m_init:Mk K C f64:=⟨mk,a64,i64,kc⟩;have b_m_persons:=F65.binds (ps:=["self"]) λ_ _ _ _ _ _ us hl=>by
  obtain⟨_,rfl⟩:=wc us hl;rfl
 have F_m_persons:=F65;have me_m_persons:Meth K C "persons" f65:=⟨a65,i65,k65⟩;have b_m_sights:=F66.binds (ps:=["self"]) λ_ _ _ _ _ _ us hl=>by
  obtain⟨_,rfl⟩:=wc us hl;rfl
 have F_m_sights:=F66;have me_m_sights:Meth K C "sights" f66:=⟨a66,i66,k66⟩;have b_m_talks:=F67.binds (ps:=["self"]) λ_ _ _ _ _ _ us hl=>by
  obtain⟨_,rfl⟩:=wc us hl;rfl
 have F_m_talks:=F67;have me_m_talks:Meth K C "talks" f67:=⟨a67,i67,k67⟩;have b_m_sayings:=F68.binds (ps:=["self"]) λ_ _ _ _ _ _ us hl=>by
  obtain⟨_,rfl⟩:=wc us hl;rfl
 have F_m_sayings:=F68;have me_m_sayings:Meth K C "sayings" f68:=⟨a68,i68,k68⟩;have b_m_tellings:=F69.binds (ps:=["self"]) λ_ _ _ _ _ _ us hl=>by
  obtain⟨_,rfl⟩:=wc us hl;rfl
 have F_m_tellings:=F69;have me_m_tellings:Meth K C "tellings" f69:=⟨a69,i69,k69⟩;have nmB:=mg_of X G aC;have CL:Kf K mg Kn Ns Nb Nd Nr Ny Sa Tm:=⟨wF x10,wF x11,mg_of X G x2,mg_of X G x1,⟨_,mg_of X G x2,rfl⟩,⟨_,mg_of X G x1,rfl⟩,⟨_,mg_of X G x3,rfl⟩,⟨_,mg_of X G x4,rfl⟩,⟨_,mg_of X G x5,rfl⟩,⟨_,mg_of X G x6,rfl⟩,⟨_,mg_of X G x7,rfl⟩,⟨_,mg_of X G x8,rfl⟩,mg_none_of X G x9,x12,x13,x14,x15,x16,x17,x18,x19,x20⟩;refine⟨fnOf "law" "law" (ef pB) (cX pB) (cG pB) .none kV63 dc63 pm63 an63 cd63 ct63,λs v=>.of_eq rfl,λbase _ _=>?_⟩;have G1:Gd l.prog w K mg base 2 "is_hour" (mH K):=⟨_,_,_,Dk D_is_hour.fn D_is_whole T,D_is_hour.nm,D_is_hour.fn.kp,D_is_hour.bi⟩;have G2:Gd l.prog w K mg base 1 "is_name" (oM K):=⟨_,_,_,C1 D_is_name.fn T,D_is_name.nm,D_is_name.fn.kp,D_is_name.bi⟩;have G3:Gd l.prog w K mg base 1 "is_list_up_to" ie:=u4 D_is_list_up_to T;have G4:Gd l.prog w K mg base 1 "is_tuple_of" nX:=y3 D_is_tuple_of T;have G5:Gd l.prog w K mg base 2 "is_person" ic:=xX D_is_person G2;have G6:Gd l.prog w K mg base 3 "are_unlike_persons" kQ:=xP D_are_unlike_persons G5;have G7:Gd l.prog w K mg base 2 "is_tale" vd:=Co D_is_tale T G2;have G8:Gd l.prog w K mg base 3 "is_sight" qZ:=Av D_is_sight G4 G5 G1 G7;have G9:Gd l.prog w K mg base 1 "is_way" zL:=Gv D_is_way T;have G10:Gd l.prog w K mg base 4 "is_talk" u7:=C7 D_is_talk G4 G6 G1 G9;have G11:Gd l.prog w K mg base 3 "is_span" wA:=CK D_is_span G1;have G12:Gd l.prog w K mg base 4 "is_short_saying" rn:=Bd D_is_short_saying G6 G5 G1;have G13:Gd l.prog w K mg base 5 "is_saying" oy:=yM D_is_saying T G5 G11 G12;have G14:Gd l.prog w K mg base 2 "are_persons" l8:=vx D_are_persons T G3 G2;have G15:Gd l.prog w K mg base 4 "are_sights" (iC d7 24):=qc D_are_sights T G3 G8;have G16:Gd l.prog w K mg base 5 "are_talks" (iC fh 120):=rW D_are_talks T G3 G10;have G17:Gd l.prog w K mg base 6 "are_sayings" (iC eY 60):=og D_are_sayings T G3 G13;have GB:Kd l.prog w K mg base 7 "Book" C (vB C):=Dw F_m_init mk_m_init b_m_init nmB T G14 G15 G16 G17;have M1:Md l.prog w K mg base 1 C "persons" (dC C λp _ _ _=>p):=sJ F_m_persons me_m_persons b_m_persons T;have M2:Md l.prog w K mg base 1 C "sights" (dC C λ_ s _ _=>s):=tO F_m_sights me_m_sights b_m_sights T;have M3:Md l.prog w K mg base 1 C "talks" (dC C λ_ _ t _=>t):=u6 F_m_talks me_m_talks b_m_talks T;have M4:Md l.prog w K mg base 1 C "sayings" (dC C λ_ _ _ y=>y):=sI F_m_sayings me_m_sayings b_m_sayings T;have M5:Md l.prog w K mg base 1 C "tellings" (j6 C):=uK F_m_tellings me_m_tellings b_m_tellings T;have G26:Gd l.prog w K mg base 2 "floor_of" (rZ C):=uI D_floor_of T M4;have G27:Gd l.prog w K mg base 3 "floors_of_all" (lq C):=yX D_floors_of_all T M1 G26;have G28:Gd l.prog w K mg base 1 "is_above" nR:=ua D_is_above;have G33:Gd l.prog w K mg base 1 "is_silent" wH:=sf D_is_silent T;have G34:Gd l.prog w K mg base 1 "is_barred" xC:=sv D_is_barred;have G29:Gd l.prog w K mg base 4 "open_tellings" (rQ C):=mw D_open_tellings T M3 M4 M5 G27 G28 G33 G34;have G30:Gd l.prog w K mg base 4 "open_sights" (qY C):=oY D_open_sights T M2 G27 G28;have P1:Gd l.prog w K mg base 1 "hour_of" AF:=Ig D_hour_of;have P2:Gd l.prog w K mg base 2 "can_follow" Gg:=Ii D_can_follow P1;have P3:Gd l.prog w K mg base 4 "first_entries" GP:=Hr D_first_entries T P1 P2;have P4:Gd l.prog w K mg base 5 "open_entries" (EU C):=Jg D_open_entries T M2 M3 G30 G29;have P5:Gd l.prog w K mg base 5 "first_story" Hc:=Ht D_first_story T P3;have P8:Gd l.prog w K mg base 1 "hours_in" DH:=Iq D_hours_in;have P9:Gd l.prog w K mg base 1 "fits_knew" FJ:=Jz D_fits_knew;have P10:Gd l.prog w K mg base 1 "fits_unheard" Ff:=Je D_fits_unheard;have P11:Gd l.prog w K mg base 1 "fits_silent" Gy:=IX D_fits_silent T;have P12:Gd l.prog w K mg base 1 "fits_barred" FC:=Jn D_fits_barred T;have P13:Gd l.prog w K mg base 2 "fits" E8:=HB D_fits P8 P9 P10 P11 P12;have P14:Gd l.prog w K mg base 3 "unfitted" (FV C):=IV D_unfitted T M4 P13;have A1:Gd l.prog w K mg base 1 "_law_mix" wN:=GR D_l_mix;have A2:Gd l.prog w K mg base 1 "_law_names" pD:=yS D_l_names T;have A3:Gd l.prog w K mg base 1 "_law_clock" rb:=Bc D_l_clock T;have A4:Gd l.prog w K mg base 1 "_law_saying" uV:=BZ D_l_saying T;have A5:Gd l.prog w K mg base 1 "_law_spot" vm:=Dh D_l_spot T;have A6:Gd l.prog w K mg base 2 "_law_things" pG:=yv D_l_things T A1 A5 A4;have A7:Gd l.prog w K mg base 1 "_law_free" sF:=CP D_l_free;have A8:Gd l.prog w K mg base 1 "_law_tellings" vN:=DM D_l_tellings T;have A9:Gd l.prog w K mg base 2 "_law_is_open" pj:=uY D_l_is_open T A7;have A10:Gd l.prog w K mg base 3 "_law_open" iz:=CT D_l_open T A7 A8 A9;have A11:Gd l.prog w K mg base 1 "_law_hours" sV:=zT D_l_hours T;have A12:Gd l.prog w K mg base 1 "_law_knew_so" gQ:=vT D_l_knew_so;have A13:Gd l.prog w K mg base 4 "_law_drawn" (AZ K):=zx D_l_drawn T A1 A2 A3 A6 A10 A11 A12;have A14:Gd l.prog w K mg base 9 "_law_book" (AS C):=CO D_l_book T GB;have P16:Gd l.prog w K mg base 6 "fitting_story" (BE C):=E9 D_fitting_story P5 P14;have P17:Fh l.prog w K mg base 7 "latest" (Ak C Ns):=Hd D_latest T CL.oN CL.hN P4 P1 P16 P8;have P18:Gd l.prog w K mg base 7 "latest" (An C Ns):=J.Cc P17;have A15:Gd l.prog w K mg base 4 "_law_good_way" GZ:=Ia D_l_good_way T A10;have A16:Gd l.prog w K mg base 5 "_law_good_story" AL:=FN D_l_good_story T A12 A15;have A17:Gd l.prog w K mg base 1 "_law_hours_of" Bg:=Fj D_l_hours_of;have A18:Gd l.prog w K mg base 4 "_law_held" vL:=CM D_l_held A10 A11;have A19:Gd l.prog w K mg base 5 "_law_latest" FR:=Ih D_l_latest A10 A12 A18 A17;have A20:Gd l.prog w K mg base 4 "_law_fits" E3:=HM D_l_fits A10 A11 A12;have A21:Gd l.prog w K mg base 1 "_law_no_story" (FI Ns):=Il D_l_no_story T CL;have A22:Gd l.prog w K mg base 8 "_law_refused" (FK C):=HF D_l_refused CL P17 A21;have A23:Gd l.prog w K mg base 6 "_law_told_well" Fc:=Ji D_l_told_well T A16 A19;exact Ge F63 T A13 A14 A20 A22 P18 A23
theorem walk{l:PySem.W.OpenLaw}{q:Program}{loose:List Str}{XP:(Str->Option Value)->Heap->Prop}{YP:World->Heap->Prop}{d:DefRec}{K:Params->PySem.W.Frag}(hn:l.most=some 63)(hdf:d.params.defaults=[])
  (hY:∀(w:World)(h:Heap),YP w h->(K w.params).In h)
  (F:∀(w:World)(mg:Str->Option Value)(fa:Addr)(h:Heap),(K w.params).In h->h.Ns mainGlobals mg->mg d.name=some (.ref fa)->
   ∃fd:FuncData,(∀(s:Shared) (u:Value),BindsTo s fd ⟨[u],[]⟩ [("_law_script",u)])/\∀base:Heap,(K w.params).In base->base.Ns mainGlobals mg->eC l.prog w (K w.params) mg base m9 12 fa fd ["_law_script"] (xh (K w.params))):
  PySem.W.WalkO q loose XP YP l.row.toRowW d [] (λf vs=>PySem.call f vs):=
 L2.CY (n:=63) (k:=12) (x:= "_law_script") (CX:=λ_=>m9) (sp:=λw=>xh (K w.params)) hn (by decide) hdf ⟨rfl,by decide,by decide⟩ hY F (λ_ _ a ns hl _ hS=>⟨a,ns,rfl,hS,hl,λ_=>rfl⟩) λ_ _ _ _ _ z=>z
end K31
open PySem PySem.W PyProof.Rows
theorem PySem.Challenge.cw_knewby_k31_latest_hours_holds : PySem.Challenge.rw_knewby_k31_latest_hours.Holds :=
 K31.closing λhdn hdf hY hF=>K31.walk (l:=PySem.Challenge.rw_knewby_k31_latest_hours) rfl hdf hY λw mg fa h KX G hmg=>K31.all_mk KX G (by rw[<-hdn];exact hmg) (hF w mg fa h KX G hmg)
