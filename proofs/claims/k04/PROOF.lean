import PyProof.Rows.All
import Wide.All
import OpenK.KLine
import OpenK.KWalk
import KE.KNestM
import KE.KDictList
import KE.KDictSum
import KE.KIsAll
import Wide.FinOn
import Lean
import PyProof.EqAt
import PyProof.EqKinds
import PyProof.TupleCall
import PyProof.NeKinds
import PyProof.ListRange
import PyProof.Rows.SortStr
import KE.KRevIter
import KE.KDictOf
import PyProof.AttrMissSeq
import PyProof.Rows.SortRunsK
import PyProof.Rows.SortShellK
import PyProof.Rows.CallKwBuiltin
import KE.KSortTup
import PyProof.EqKinds
import KE.KxText
import PyProof.DictWalks
import OpenK.KOwn
import PyProof.RulesAs
import PyProof.RulesDel
import PyProof.Rows.SortKeyStr
import PyProof.InstStoreFacts
import PyProof.Rows.StrMul
import PyProof.FactsAll.tuple_2
import PyProof.Rows.StrJoinRep
import KE.KSortedL
import KE.KSortedM
import KE.KSorted
import PySem.Challenge.RW_knewby_k04_one_more
set_option Elab.async false
set_option linter.all false
set_option maxRecDepth 100000
set_option maxHeartbeats 4000000
namespace L2
open PySem PySem.Spec PyProof.Rows
def inClass (s : Stmt) (j : Nat) : Stmt := match s with
  | .ClassDef _ _ _ body _ _ _ _ _ _ _ => body.getD j (.Pass ⟨0, 0, 0, 0⟩)
  | _ => .Pass ⟨0, 0, 0, 0⟩
def bD (s : Stmt) : Arguments := match s with
  | .FunctionDef _ a _ _ _ _ _ _ _ _ => a
  | _ => { posonlyargs := [], args := [], vararg := none, kwonlyargs := [], kw_defaults := [], kwarg := none, defaults := [] }
def aX (s : Stmt) : List Stmt := match s with
  | .FunctionDef _ _ b _ _ _ _ _ _ _ => b
  | _ => []
def ao (s : Stmt) : Scope := match s with
  | .FunctionDef _ _ _ _ _ _ sc _ _ _ => sc
  | _ => { kind := .function, names := [], isGenerator := false, isCoroutine := false }
end L2
namespace TR
open PySem PySem.W
def vM (stp : SharedT → Thread → Option (SharedT × Thread)) (ok : Thread → Bool) : Nat → SharedT → Thread → Option SharedT
  | 0, _, _ => none
  | n + 1, s, t => match through t with
    | true => some s
    | false => match ok t with
      | false => none
      | true => match stp s t with
        | some (s', t') => vM stp ok n s' t'
        | none => none
theorem pN {tb : String → Option Builtin} {p : Program} {w : World} {n₀ : Nat} {ann : Option Value} : ∀ {n : Nat} {s s' : SharedT} {t : Thread}, vM (stepT (denote tb) p w) (stepOk n₀ ann) n s t = some s' → topRun tb p w n₀ ann n s.abs t = some s'.abs
  | 0, _, _, _, h => by cases h
  | n + 1, s, s', t, h => by
    unfold vM at h
    unfold topRun
    cases he : through t with
    | true => rw [he] at h; cases h; rfl
    | false =>
      rw [he] at h
      cases hk : stepOk n₀ ann t with
      | false => rw [hk] at h; cases h
      | true =>
        rw [hk] at h
        cases hs : stepT (denote tb) p w s t with
        | none => rw [hs] at h; cases h
        | some r =>
          obtain ⟨s₂, t₂⟩ := r
          rw [hs] at h
          rw [stepT_spec hs]
          exact pN h
def grow : List Obj → BT → Nat → Option BT
  | [], t, _ => some t
  | o :: r, t, n => match ((t.ins n o).get n).isSome with
    | true => grow r (t.ins n o) (n + 1)
    | false => none
theorem mR {life : Life} : ∀ {l : List Obj} {t t' : BT} {n : Nat}, grow l t n = some t' → absHeap t' (n + l.length) life = l.foldl (fun h o => h.push o) (absHeap t n life)
  | [], _, _, _, h => by cases h; rfl
  | o :: r, t, t', n, h => by
    unfold grow at h
    cases g : ((t.ins n o).get n).isSome with
    | false => rw [g] at h; cases h
    | true =>
      rw [g] at h
      have ih := mR (life := life) h
      rw [absHeap_ins g] at ih
      rw [List.length_cons, List.foldl_cons, ← ih]
      congr 1
      omega
theorem oh (life : Life) : ∀ (l m : List Obj), l.foldl (fun (h : Heap) o => h.push o) ⟨m.toArray, life⟩ = ⟨(m ++ l).toArray, life⟩
  | [], m => by rw [List.append_nil]; rfl
  | o :: r, m => by
    have : (⟨m.toArray, life⟩ : Heap).push o = ⟨(m ++ [o]).toArray, life⟩ := by
      show (⟨m.toArray.push o, life⟩ : Heap) = _
      rw [List.push_toArray]
    rw [List.foldl_cons, this, oh life r, List.append_assoc]
    rfl
def DC (s : Shared) (t : BT) : SharedT := ⟨t, s.heap.objs.size, s.heap.life, s.gens, s.drawn, s.toks, s.os⟩
theorem vU {s : Shared} {t : BT} (h : grow s.heap.objs.toList .nil 0 = some t) : (DC s t).abs = s := by
  have := mR (life := s.heap.life) h
  rw [Nat.zero_add, show absHeap .nil 0 s.heap.life = ⟨([] : List Obj).toArray, s.heap.life⟩ from rfl, oh, List.nil_append, Array.length_toList] at this
  obtain ⟨⟨objs, life⟩, gens, drawn, toks, os⟩ := s
  show (⟨absHeap t objs.size life, gens, drawn, toks, os⟩ : Shared) = _
  rw [this]
def kC {α : Type} (p : Program) (w : World) (N : Nat) (look : Shared → Shared → α) : Option α := (fencedOpening treeTable p w N).bind fun s₀ => (grow s₀.heap.objs.toList .nil 0).bind fun t => match s₀.heap.isNs mainGlobals && s₀.gens.size == 0 with
  | true => (vM (stepT (denote treeTable) p w) (stepOk s₀.heap.objs.size (s₀.heap.nsMap mainGlobals "__annotations__")) N (DC s₀ t) (topStub p)).bind fun s₁ => some (look s₀ s₁.abs)
  | false => none
theorem lx {α : Type} {p : Program} {w : World} {N : Nat} {look : Shared → Shared → α} {a : α} (h : kC p w N look = some a) : ∃ s₀ s₁, fencedOpening treeTable p w N = some s₀ ∧ (s₀.heap.isNs mainGlobals && s₀.gens.size == 0) = true ∧ topRun treeTable p w s₀.heap.objs.size (s₀.heap.nsMap mainGlobals "__annotations__") N s₀ (topStub p) = some s₁ ∧ look s₀ s₁ = a := by
  unfold kC at h
  obtain ⟨s₀, e0, h⟩ := Option.bind_eq_some_iff.mp h
  obtain ⟨t, eg, h⟩ := Option.bind_eq_some_iff.mp h
  refine ⟨s₀, ?_⟩
  cases c : (s₀.heap.isNs mainGlobals && s₀.gens.size == 0) with
  | false => rw [c] at h; cases h
  | true =>
    rw [c] at h
    obtain ⟨s₁, er, h⟩ := Option.bind_eq_some_iff.mp h
    have r := pN er
    rw [vU eg] at r
    exact ⟨s₁.abs, e0, rfl, r, Option.some.inj h⟩
theorem zO {p q : Program} {loose : List Str} {Xt : Shared → Bool} {α : Type} {Yf : Shared → α} {Ya : World → α} {N : Nat}
    (hA : ∀ w, kC p w N (fun s₀ s₁ => staticsOk (importedModules p.main.body) s₀.heap s₁.heap && namesBound p s₁.heap && gensDone s₁ && laidKept s₀.heap s₁.heap) = some true)
    (hB : ∀ w, kC p w N (fun _ s₁ => openSeen q loose (importedModules p.main.body) Xt true s₁) = some (openGood q loose))
    (hC : ∀ w, kC p w N (fun _ s₁ => Yf s₁) = some (Ya w)) : LeftO p q loose Xt Yf Ya N := fun w => by
  obtain ⟨s₀, s₁, e0, c, r, hA⟩ := lx (hA w)
  obtain ⟨s₀', s₁', e0', _, r', hB⟩ := lx (hB w)
  rw [e0] at e0'
  cases e0'
  rw [r] at r'
  cases r'
  obtain ⟨s₀', s₁', e0', _, r', hC⟩ := lx (hC w)
  rw [e0] at e0'
  cases e0'
  rw [r] at r'
  cases r'
  unfold openEnds
  rw [e0]
  show (topFrom treeTable p w N s₀).map _ = _
  unfold topFrom
  rw [c]
  dsimp only
  rw [r]
  simp only [Option.bind_some]
  rw [hA]
  show some (openSeen q loose (importedModules p.main.body) Xt true s₁, Yf s₁) = _
  rw [hB, hC]
end TR
section
namespace K04
open PySem L2
def top (i : Nat) : Stmt := PySem.Challenge.pw_knewby_k04_one_more.main.body.getD i (.Pass ⟨0, 0, 0, 0⟩)
abbrev eL : Stmt := inClass (top 3) 0
abbrev fq : Stmt := top 12
abbrev iN : Stmt := top 13
abbrev fV : Stmt := top 14
abbrev dv : Stmt := top 21
abbrev ez : Stmt := top 22
abbrev fH : Stmt := top 23
abbrev cf : Stmt := top 24
abbrev gb : Stmt := top 25
abbrev gH : Stmt := top 26
abbrev j4 : Stmt := top 27
abbrev iL : Stmt := top 28
abbrev iU : Stmt := top 29
abbrev cW : Stmt := top 30
abbrev fF : Stmt := top 31
abbrev c9 : Stmt := top 32
abbrev dz : Stmt := top 33
abbrev dR : Stmt := top 34
abbrev df : Stmt := top 35
abbrev eM : Stmt := inClass (top 36) 0
abbrev cF : Stmt := inClass (top 36) 1
abbrev cZ : Stmt := inClass (top 36) 2
abbrev dB : Stmt := inClass (top 36) 3
abbrev cH : Stmt := inClass (top 36) 4
abbrev bM : Stmt := inClass (top 36) 5
abbrev bV : Stmt := inClass (top 36) 6
abbrev bC : Stmt := inClass (top 36) 7
abbrev bc : Stmt := inClass (top 36) 8
abbrev vA : Stmt := inClass (top 36) 9
abbrev gf : Stmt := top 38
abbrev jG : Stmt := top 39
abbrev iA : Stmt := top 40
abbrev jS : Stmt := top 41
abbrev gQ : Stmt := top 42
abbrev jU : Stmt := top 43
abbrev f9 : Stmt := top 44
abbrev jK : Stmt := top 45
abbrev ki : Stmt := top 46
abbrev md : Stmt := top 47
abbrev iV : Stmt := top 48
abbrev jO : Stmt := top 49
abbrev jv : Stmt := top 50
abbrev jR : Stmt := top 51
abbrev j9 : Stmt := top 52
abbrev gB : Stmt := top 53
abbrev ke : Stmt := top 54
def oneOf : Value → Option Str
  | .str x _ => some x
  | _ => none
def strsOf (l : List Value) : List (Option Str) := l.map oneOf
def xU : List (Option Str) := [some "person", some "talk", some "saw", some "knew", some "heard", some "told", some "not", some "nobody", some "never", some "by", some "from", some "to"]
inductive FF (K : PySem.W.Frag) (x : Str) (st : Stmt) : Prop
  | mk {f : Addr} {oc kV dc pm cd ct : Value} {od an : Option Addr} {sl : Array (Option Value)} (a : PySem.W.nsIn K mainGlobals x = some (some (.ref f))) (l : K.lookup f = some ⟨oc, od, .func (PySem.W.fnOf x x (bD st) (aX st) (ao st) .none kV dc pm an cd ct), sl⟩) (c : PySem.W.codeIn K cd x = true) (k : PySem.W.keepIn K (.ref f) = true)
def uq : List Value := [.type "ValueError", .type "Exception", .type "BaseException", .type "object"]
def ownIn (K : PySem.W.Frag) (C : Addr) (bm : List Value) (fi : Option Addr) : Bool := match K.lookup C with
  | some ⟨.type "type", _, .cls cd, sl⟩ => (match cd.mro, sl.toList with
    | .ref C' :: bm', [_, _, _, _, some (.builtin n), _] => C' == C && n == "ValueError.__new__" && !cd.hasDel && cd.hasDict && bm' == bm && PySem.W.nsOkIn K cd.ns && ((["__getattribute__", "__getattr__", "__class__", "__setattr__", "part"] : List Str).all fun x => PySem.W.nsIn K cd.ns x == some none) && (match fi with | some f => PySem.W.nsIn K cd.ns "__init__" == some (some (.ref f)) | none => true)
    | _, _ => false)
  | _ => false
def mL (K : PySem.W.Frag) (C : Addr) (bm : List Value) : Bool := match K.lookup C with
  | some ⟨.type "type", _, .cls cd, sl⟩ => (match cd.mro, sl.toList with
    | .ref C' :: bm', [_, _, _, _, some (.builtin n), _] => C' == C && n == "ValueError.__new__" && !cd.hasDel && bm' == bm && PySem.W.nsOkIn K cd.ns && ((["__init__", "__getattribute__", "__getattr__", "__class__"] : List Str).all fun x => PySem.W.nsIn K cd.ns x == some none) && PySem.W.tailIn K uq bm
    | _, _ => false)
  | _ => false
inductive FC (K : PySem.W.Frag) (Nb f : Addr) : Prop
  | mk {oc kV dc pm cd ct : Value} {od an : Option Addr} {sl : Array (Option Value)} (a : PySem.W.findIn K (.ref Nb) "__init__" = some (some (.ref f))) (l : K.lookup f = some ⟨oc, od, .func (PySem.W.fnOf "__init__" "NoBook.__init__" (bD eL) (aX eL) (ao eL) .none kV dc pm an cd ct), sl⟩) (c : PySem.W.codeIn K cd "NoBook.__init__" = true) (k : PySem.W.keepIn K (.ref f) = true)
inductive Facts (K : PySem.W.Frag) : Prop
  | mk {kw C Kn Ns Nb Nd Nr Ny Sa Tm fI f36 f37 f38 f39 f40 f41 f42 f43 f44 : Addr}
    {odw od36 an36 od37 an37 od38 an38 od39 an39 od40 an40 od41 an41 od42 an42 od43 an43 od44 an44 : Option Addr} {slw sl36 sl37 sl38 sl39 sl40 sl41 sl42 sl43 sl44 : Array (Option Value)} {oc36 kV36 dc36 pm36 cd36 ct36 oc37 kV37 dc37 pm37 cd37 ct37 oc38 kV38 dc38 pm38 cd38 ct38 oc39 kV39 dc39 pm39 cd39 ct39 oc40 kV40 dc40 pm40 cd40 ct40 oc41 kV41 dc41 pm41 cd41 ct41 oc42 kV42 dc42 pm42 cd42 ct42 oc43 kV43 dc43 pm43 cd43 ct43 oc44 kV44 dc44 pm44 cd44 ct44 : Value} {its : Array Value} {nW : Nat} {tk1 tk2 tk3 tk4 tk5 : Tok}
    (aW : PySem.W.nsIn K mainGlobals "KEPT_WORDS" = some (some (.ref kw))) (lW : K.lookup kw = some ⟨.type "tuple", odw, .seq its nW, slw⟩) (vW : strsOf its.toList = xU)
 (h1 : FF K "is_whole" fq) (h2 : FF K "is_hour" iN) (h3 : FF K "is_name" fV) (h4 : FF K "is_list_up_to" dv) (h5 : FF K "is_tuple_of" ez) (h6 : FF K "is_person" fH) (h7 : FF K "are_unlike_persons" cf) (h8 : FF K "is_tale" gb) (h9 : FF K "is_sight" gH) (h10 : FF K "is_way" j4) (h11 : FF K "is_talk" iL) (h12 : FF K "is_span" iU) (h13 : FF K "is_short_saying" cW) (h14 : FF K "is_saying" fF) (h15 : FF K "are_persons" c9) (h16 : FF K "are_sights" dz) (h17 : FF K "are_talks" dR) (h18 : FF K "are_sayings" df) (h19 : FF K "_law_names" gf) (h20 : FF K "_law_hour" jG) (h21 : FF K "_law_tale" iA) (h22 : FF K "_law_talk" jS) (h23 : FF K "_law_saying" gQ) (h24 : FF K "_law_book" jU) (h25 : FF K "_law_alike" f9) (h26 : FF K "_law_told" jK) (h27 : FF K "_law_good" ki) (h28 : FF K "_law_odd" md) (h29 : FF K "_law_asked" iV) (h30 : FF K "_law_done" jO) (h31 : FF K "_law_due" jv) (h32 : FF K "_law_step" jR) (h33 : FF K "_law_deed" j9) (h34 : FF K "_law_filled" gB) (h35 : FF K "law" ke)
    (aC : PySem.W.nsIn K mainGlobals "Book" = some (some (.ref C))) (pg : PySem.W.plainGet K C Str.empty = true) (hd : PySem.W.hasDictIn K C = true) (po : PySem.W.plainOver K C = true) (sa : PySem.W.findIn K (.ref C) "__setattr__" = some (some (.builtin "object.__setattr__"))) (mk : PySem.W.makesIn K C = true) (kc : PySem.W.keepIn K (.ref C) = true)
    (nP : PySem.W.findIn K (.ref C) "kept_persons" = some none) (nS : PySem.W.findIn K (.ref C) "kept_sights" = some none) (nT : PySem.W.findIn K (.ref C) "kept_talks" = some none) (nY : PySem.W.findIn K (.ref C) "kept_sayings" = some none)
    (x1 : PySem.W.nsIn K mainGlobals "KnewError" = some (some (.ref Kn)))
    (x2 : PySem.W.nsIn K mainGlobals "NoStory" = some (some (.ref Ns)))
    (x3 : PySem.W.nsIn K mainGlobals "NoBook" = some (some (.ref Nb)))
    (x4 : PySem.W.nsIn K mainGlobals "NoDeed" = some (some (.ref Nd)))
    (x5 : PySem.W.nsIn K mainGlobals "NoRow" = some (some (.ref Nr)))
    (x6 : PySem.W.nsIn K mainGlobals "NoSaying" = some (some (.ref Ny)))
    (x7 : PySem.W.nsIn K mainGlobals "Saw" = some (some (.ref Sa)))
    (x8 : PySem.W.nsIn K mainGlobals "TooMuch" = some (some (.ref Tm)))
    (x9 : PySem.W.nsIn K mainGlobals "ValueError" = some none)
    (yI : FC K Nb fI)
    (x10 : ownIn K Nb (.ref Kn :: uq) (some fI) = true)
    (x11 : ownIn K Kn uq none = true)
    (x12 : PySem.W.tailIn K uq (.ref Kn :: uq) = true)
    (x13 : PySem.W.isFn K (.ref fI) = true)
    (x14 : PySem.W.kitOne K (.ref Nb) (.ref Nb) = some true)
    (x15 : PySem.W.kitOne K (.ref Nb) (.type "ValueError") = some true)
    (x16 : PySem.W.kitOne K (.ref Nb) (.ref Ns) = some false)
    (x17 : PySem.W.kitOne K (.ref Nb) (.ref Nd) = some false)
    (x18 : PySem.W.kitOne K (.ref Nb) (.ref Nr) = some false)
    (x19 : PySem.W.kitOne K (.ref Nb) (.ref Ny) = some false)
    (x20 : PySem.W.kitOne K (.ref Nb) (.ref Sa) = some false)
    (x21 : PySem.W.kitOne K (.ref Nb) (.ref Tm) = some false)
    (x22 : mL K Ny (.ref Kn :: uq) = true)
    (x23 : mL K Kn uq = true)
    (x24 : PySem.W.kitOne K (.ref Ny) (.ref Nb) = some false)
    (x25 : PySem.W.kitOne K (.ref Ny) (.type "ValueError") = some true)
    (x26 : PySem.W.kitOne K (.ref Ny) (.ref Ns) = some false)
    (x27 : PySem.W.kitOne K (.ref Ny) (.ref Nd) = some false)
    (x28 : PySem.W.kitOne K (.ref Ny) (.ref Nr) = some false)
    (x29 : PySem.W.kitOne K (.ref Ny) (.ref Ny) = some true)
    (x30 : PySem.W.kitOne K (.ref Ny) (.ref Sa) = some false)
    (x31 : PySem.W.kitOne K (.ref Ny) (.ref Tm) = some false)
    (x32 : PySem.W.findIn K (.ref C) "__class__" = some (some (.builtin "object.__class__")))
    (x33 : PySem.W.specialIn K (.builtin "object.__class__") "__get__" = some (some (.builtin "getset_descriptor.__get__")))
    (x34 : PySem.W.takesIn K (.builtin "object.__class__") = some true)
    (x35 : PySem.W.mroIn K C (.type "object") = some true)
    (x36 : PySem.W.kitOne K (.ref C) (.type "str") = some false)
    (a36 : PySem.W.findIn K (.ref C) "__init__" = some (some (.ref f36))) (i36 : PySem.W.isFn K (.ref f36) = true) (l36 : K.lookup f36 = some ⟨oc36, od36, .func (PySem.W.fnOf "__init__" "Book.__init__" (bD eM) (aX eM) (ao eM) .none kV36 dc36 pm36 an36 cd36 ct36), sl36⟩) (c36 : PySem.W.codeIn K cd36 "Book.__init__" = true) (k36 : PySem.W.keepIn K (.ref f36) = true)
    (a37 : PySem.W.findIn K (.ref C) "persons" = some (some (.ref f37))) (i37 : PySem.W.isFn K (.ref f37) = true) (l37 : K.lookup f37 = some ⟨oc37, od37, .func (PySem.W.fnOf "persons" "Book.persons" (bD cF) (aX cF) (ao cF) .none kV37 dc37 pm37 an37 cd37 ct37), sl37⟩) (c37 : PySem.W.codeIn K cd37 "Book.persons" = true) (k37 : PySem.W.keepIn K (.ref f37) = true)
    (a38 : PySem.W.findIn K (.ref C) "sights" = some (some (.ref f38))) (i38 : PySem.W.isFn K (.ref f38) = true) (l38 : K.lookup f38 = some ⟨oc38, od38, .func (PySem.W.fnOf "sights" "Book.sights" (bD cZ) (aX cZ) (ao cZ) .none kV38 dc38 pm38 an38 cd38 ct38), sl38⟩) (c38 : PySem.W.codeIn K cd38 "Book.sights" = true) (k38 : PySem.W.keepIn K (.ref f38) = true)
    (a39 : PySem.W.findIn K (.ref C) "talks" = some (some (.ref f39))) (i39 : PySem.W.isFn K (.ref f39) = true) (l39 : K.lookup f39 = some ⟨oc39, od39, .func (PySem.W.fnOf "talks" "Book.talks" (bD dB) (aX dB) (ao dB) .none kV39 dc39 pm39 an39 cd39 ct39), sl39⟩) (c39 : PySem.W.codeIn K cd39 "Book.talks" = true) (k39 : PySem.W.keepIn K (.ref f39) = true)
    (a40 : PySem.W.findIn K (.ref C) "sayings" = some (some (.ref f40))) (i40 : PySem.W.isFn K (.ref f40) = true) (l40 : K.lookup f40 = some ⟨oc40, od40, .func (PySem.W.fnOf "sayings" "Book.sayings" (bD cH) (aX cH) (ao cH) .none kV40 dc40 pm40 an40 cd40 ct40), sl40⟩) (c40 : PySem.W.codeIn K cd40 "Book.sayings" = true) (k40 : PySem.W.keepIn K (.ref f40) = true)
    (a41 : PySem.W.findIn K (.ref C) "with_sight" = some (some (.ref f41))) (i41 : PySem.W.isFn K (.ref f41) = true) (l41 : K.lookup f41 = some ⟨oc41, od41, .func (PySem.W.fnOf "with_sight" "Book.with_sight" (bD bM) (aX bM) (ao bM) .none kV41 dc41 pm41 an41 cd41 ct41), sl41⟩) (c41 : PySem.W.codeIn K cd41 "Book.with_sight" = true) (k41 : PySem.W.keepIn K (.ref f41) = true)
    (a42 : PySem.W.findIn K (.ref C) "with_talk" = some (some (.ref f42))) (i42 : PySem.W.isFn K (.ref f42) = true) (l42 : K.lookup f42 = some ⟨oc42, od42, .func (PySem.W.fnOf "with_talk" "Book.with_talk" (bD bV) (aX bV) (ao bV) .none kV42 dc42 pm42 an42 cd42 ct42), sl42⟩) (c42 : PySem.W.codeIn K cd42 "Book.with_talk" = true) (k42 : PySem.W.keepIn K (.ref f42) = true)
    (a43 : PySem.W.findIn K (.ref C) "with_saying" = some (some (.ref f43))) (i43 : PySem.W.isFn K (.ref f43) = true) (l43 : K.lookup f43 = some ⟨oc43, od43, .func (PySem.W.fnOf "with_saying" "Book.with_saying" (bD bC) (aX bC) (ao bC) .none kV43 dc43 pm43 an43 cd43 ct43), sl43⟩) (c43 : PySem.W.codeIn K cd43 "Book.with_saying" = true) (k43 : PySem.W.keepIn K (.ref f43) = true)
    (a44 : PySem.W.findIn K (.ref C) "without_saying" = some (some (.ref f44))) (i44 : PySem.W.isFn K (.ref f44) = true) (l44 : K.lookup f44 = some ⟨oc44, od44, .func (PySem.W.fnOf "without_saying" "Book.without_saying" (bD bc) (aX bc) (ao bc) .none kV44 dc44 pm44 an44 cd44 ct44), sl44⟩) (c44 : PySem.W.codeIn K cd44 "Book.without_saying" = true) (k44 : PySem.W.keepIn K (.ref f44) = true)
    (z1 : PySem.W.nsIn K mainGlobals "isinstance" = some none) (z2 : PySem.W.nsIn K mainGlobals "int" = some none) (z3 : PySem.W.nsIn K mainGlobals "bool" = some none) (z4 : PySem.W.nsIn K mainGlobals "str" = some none) (z5 : PySem.W.nsIn K mainGlobals "len" = some none) (z6 : PySem.W.nsIn K mainGlobals "all" = some none) (z7 : PySem.W.nsIn K mainGlobals "range" = some none) (z8 : PySem.W.nsIn K mainGlobals "list" = some none) (z9 : PySem.W.nsIn K mainGlobals "tuple" = some none) (z10 : PySem.W.nsIn K mainGlobals "set" = some none) (z11 : PySem.W.nsIn K mainGlobals "zip" = some none) (z12 : PySem.W.nsIn K mainGlobals "enumerate" = some none) (z13 : PySem.W.nsIn K mainGlobals "min" = some none) (z14 : PySem.W.nsIn K mainGlobals "max" = some none) (z15 : PySem.W.nsIn K mainGlobals "any" = some none) (z16 : PySem.W.nsIn K mainGlobals "sorted" = some none) (z17 : PySem.W.nsIn K mainGlobals "dict" = some none) (z18 : PySem.W.nsIn K mainGlobals "sum" = some none) (z19 : PySem.W.nsIn K mainGlobals "reversed" = some none)
    (g1 : PySem.W.nsIn K mainGlobals "MOST_PERSONS" = some (some (.int 24 tk1))) (g2 : PySem.W.nsIn K mainGlobals "MOST_SIGHTS" = some (some (.int 24 tk2))) (g3 : PySem.W.nsIn K mainGlobals "MOST_TALKS" = some (some (.int 120 tk3))) (g4 : PySem.W.nsIn K mainGlobals "MOST_SAYINGS" = some (some (.int 60 tk4))) (g5 : PySem.W.nsIn K mainGlobals "MOST_WORDS" = some (some (.int 6 tk5))) : Facts K
open PySem.W in
def vw : Program := view PySem.Challenge.rw_knewby_k04_one_more.row.toRowW.prog [0, 2, 3, 4, 5, 6, 7, 8, 9, 11, 12, 13, 14, 16, 17, 18, 19, 20, 21, 22, 23, 24, 25, 26, 27, 28, 29, 30, 31, 32, 33, 34, 35, 36, 38, 39, 40, 41, 42, 43, 44, 45, 46, 47, 48, 49, 50, 51, 52, 53, 54]
end K04
open PySem PySem.W PyProof.Rows
set_option maxRecDepth 100000 in
theorem K04.CY (w : World) : TR.kC (OpenRow.toRowW PySem.Challenge.rw_knewby_k04_one_more.row).prog w 20000 (fun s₀ s₁ => staticsOk (importedModules (OpenRow.toRowW PySem.Challenge.rw_knewby_k04_one_more.row).prog.main.body) s₀.heap s₁.heap && namesBound (OpenRow.toRowW PySem.Challenge.rw_knewby_k04_one_more.row).prog s₁.heap && gensDone s₁ && laidKept s₀.heap s₁.heap) = some true := by
  delta TR.kC PySem.W.fencedOpening; (try rw [PySem.W.Fast.te10274390034422433532]); (try rw [PySem.W.Fast.te4187177175401517315]); (try rw [PySem.W.Fast.te1435165496053646825]); (try rw [PySem.W.Fast.te14289696077712309145]); (try rw [PySem.W.Fast.te11892475500146522536]); (try rw [PySem.W.Fast.te10156331382660048174]); (try rw [PySem.W.Fast.te6613529449190102663]); (try rw [PySem.W.Fast.te14364793385576792824]); (try rw [PySem.W.Fast.te5923862056798008813]); kernel_rfl
set_option maxRecDepth 100000 in
theorem K04.CC (w : World) : TR.kC (OpenRow.toRowW PySem.Challenge.rw_knewby_k04_one_more.row).prog w 20000 (fun _ s₁ => openSeen K04.vw [] (importedModules (OpenRow.toRowW PySem.Challenge.rw_knewby_k04_one_more.row).prog.main.body) (fun s => xlAt K04.vw [] s && recOk (RowW.records (OpenRow.toRowW PySem.Challenge.rw_knewby_k04_one_more.row)) s) true s₁) = some (openGood K04.vw []) := by
  delta TR.kC PySem.W.fencedOpening; (try rw [PySem.W.Fast.te10274390034422433532]); (try rw [PySem.W.Fast.te4187177175401517315]); (try rw [PySem.W.Fast.te1435165496053646825]); (try rw [PySem.W.Fast.te14289696077712309145]); (try rw [PySem.W.Fast.te11892475500146522536]); (try rw [PySem.W.Fast.te10156331382660048174]); (try rw [PySem.W.Fast.te6613529449190102663]); (try rw [PySem.W.Fast.te14364793385576792824]); (try rw [PySem.W.Fast.te5923862056798008813]); kernel_rfl
local macro_rules
  | `(tactic| o_head $H) => `(tactic| (
    refine holds_open (N := 20000) (q := K04.vw) (loose := [])
      (Xt := fun s => xlAt K04.vw [] s && recOk (RowW.records (OpenRow.toRowW PySem.Challenge.rw_knewby_k04_one_more.row)) s)
      (XP := XL K04.vw []) (YP := Hook.says $H) (Ya := Hook.val $H) (Yf := Hook.obs $H)
      ?hl (Hook.of $H) (Hook.keeps $H)
      (fun s e => xl_of s (Bool.and_eq_true_iff.mp e).1) XL.keeps
      (by rfl) (by rfl) (by rfl)
      (fun s e => recFacts_of (Bool.and_eq_true_iff.mp e).2)
      (by rfl) (by first | assumption | decide +kernel) (by decide +kernel)
      ⟨rfl, rfl, rfl, rfl, rfl, by decide +kernel⟩ ?hw ?hc
    (case hl => (refine TR.zO K04.CY K04.CC fun w => ?_; delta TR.kC PySem.W.fencedOpening; (try rw [PySem.W.Fast.te10274390034422433532]); (try rw [PySem.W.Fast.te4187177175401517315]); (try rw [PySem.W.Fast.te1435165496053646825]); (try rw [PySem.W.Fast.te14289696077712309145]); (try rw [PySem.W.Fast.te11892475500146522536]); (try rw [PySem.W.Fast.te10156331382660048174]); (try rw [PySem.W.Fast.te6613529449190102663]); (try rw [PySem.W.Fast.te14364793385576792824]); (try rw [PySem.W.Fast.te5923862056798008813]); kernel_rfl))))
set_option maxRecDepth 100000 in
set_option maxHeartbeats 0 in
theorem K04.closing (HW : ∀ {q : Program} {loose : List Str} {XP : (Str → Option Value) → Heap → Prop} {YP : World → Heap → Prop} {d : DefRec} {K : Params → PySem.W.Frag}, d.name = "law" → d.params.defaults = [] → (∀ (w : World) (h : Heap), YP w h → (K w.params).In h) →
    (∀ (w : World) (mg : Str → Option Value) (fa : Addr) (h : Heap), (K w.params).In h → h.Ns mainGlobals mg → mg d.name = some (.ref fa) → K04.Facts (K w.params)) → PySem.W.WalkO q loose XP YP PySem.Challenge.rw_knewby_k04_one_more.row.toRowW d [] (fun f vs => PySem.call f vs)) : PySem.Challenge.rw_knewby_k04_one_more.Holds := by
  w_on; o_law; k_head; (case hw => w_witness2)
  k_fill
  refine HW rfl rfl (fun w h Y => PySem.W.kIn_of Y) ?F
  case F =>
    intro w mg fa h KX G hmg
    refine' K04.Facts.mk ?aW ?lW ?vW ?h1 ?h2 ?h3 ?h4 ?h5 ?h6 ?h7 ?h8 ?h9 ?h10 ?h11 ?h12 ?h13 ?h14 ?h15 ?h16 ?h17 ?h18 ?h19 ?h20 ?h21 ?h22 ?h23 ?h24 ?h25 ?h26 ?h27 ?h28 ?h29 ?h30 ?h31 ?h32 ?h33 ?h34 ?h35 ?aC ?pg ?hd ?po ?sa ?mk ?kc ?nP ?nS ?nT ?nY ?x1 ?x2 ?x3 ?x4 ?x5 ?x6 ?x7 ?x8 ?x9 ?yI ?x10 ?x11 ?x12 ?x13 ?x14 ?x15 ?x16 ?x17 ?x18 ?x19 ?x20 ?x21 ?x22 ?x23 ?x24 ?x25 ?x26 ?x27 ?x28 ?x29 ?x30 ?x31 ?x32 ?x33 ?x34 ?x35 ?x36 ?a36 ?i36 ?l36 ?c36 ?k36 ?a37 ?i37 ?l37 ?c37 ?k37 ?a38 ?i38 ?l38 ?c38 ?k38 ?a39 ?i39 ?l39 ?c39 ?k39 ?a40 ?i40 ?l40 ?c40 ?k40 ?a41 ?i41 ?l41 ?c41 ?k41 ?a42 ?i42 ?l42 ?c42 ?k42 ?a43 ?i43 ?l43 ?c43 ?k43 ?a44 ?i44 ?l44 ?c44 ?k44 ?z1 ?z2 ?z3 ?z4 ?z5 ?z6 ?z7 ?z8 ?z9 ?z10 ?z11 ?z12 ?z13 ?z14 ?z15 ?z16 ?z17 ?z18 ?z19 ?g1 ?g2 ?g3 ?g4 ?g5
    (case aW => k_is)
    (case lW => k_is)
    (case aC => k_is)
    (case pg => k_is)
    (case hd => k_is)
    (case po => k_is)
    (case sa => k_is)
    (case mk => k_is)
    (case kc => k_is)
    (case nP => k_is)
    (case nS => k_is)
    (case nT => k_is)
    (case nY => k_is)
    (case x1 => k_is)
    (case x2 => k_is)
    (case x3 => k_is)
    (case x4 => k_is)
    (case x5 => k_is)
    (case x6 => k_is)
    (case x7 => k_is)
    (case x8 => k_is)
    (case x9 => k_is)
    (case yI => apply K04.FC.mk <;> k_is)
    (case x10 => kernel_rfl)
    (case x11 => kernel_rfl)
    (case x12 => kernel_rfl)
    (case x13 => kernel_rfl)
    (case x14 => kernel_rfl)
    (case x15 => kernel_rfl)
    (case x16 => kernel_rfl)
    (case x17 => kernel_rfl)
    (case x18 => kernel_rfl)
    (case x19 => kernel_rfl)
    (case x20 => kernel_rfl)
    (case x21 => kernel_rfl)
    (case x22 => kernel_rfl)
    (case x23 => kernel_rfl)
    (case x24 => kernel_rfl)
    (case x25 => kernel_rfl)
    (case x26 => kernel_rfl)
    (case x27 => kernel_rfl)
    (case x28 => kernel_rfl)
    (case x29 => kernel_rfl)
    (case x30 => kernel_rfl)
    (case x31 => kernel_rfl)
    (case x32 => kernel_rfl)
    (case x33 => kernel_rfl)
    (case x34 => kernel_rfl)
    (case x35 => kernel_rfl)
    (case x36 => kernel_rfl)
    (case a36 => k_is)
    (case i36 => k_is)
    (case l36 => k_is)
    (case c36 => k_is)
    (case k36 => k_is)
    (case a37 => k_is)
    (case i37 => k_is)
    (case l37 => k_is)
    (case c37 => k_is)
    (case k37 => k_is)
    (case a38 => k_is)
    (case i38 => k_is)
    (case l38 => k_is)
    (case c38 => k_is)
    (case k38 => k_is)
    (case a39 => k_is)
    (case i39 => k_is)
    (case l39 => k_is)
    (case c39 => k_is)
    (case k39 => k_is)
    (case a40 => k_is)
    (case i40 => k_is)
    (case l40 => k_is)
    (case c40 => k_is)
    (case k40 => k_is)
    (case a41 => k_is)
    (case i41 => k_is)
    (case l41 => k_is)
    (case c41 => k_is)
    (case k41 => k_is)
    (case a42 => k_is)
    (case i42 => k_is)
    (case l42 => k_is)
    (case c42 => k_is)
    (case k42 => k_is)
    (case a43 => k_is)
    (case i43 => k_is)
    (case l43 => k_is)
    (case c43 => k_is)
    (case k43 => k_is)
    (case a44 => k_is)
    (case i44 => k_is)
    (case l44 => k_is)
    (case c44 => k_is)
    (case k44 => k_is)
    (case z1 => k_is)
    (case z2 => k_is)
    (case z3 => k_is)
    (case z4 => k_is)
    (case z5 => k_is)
    (case z6 => k_is)
    (case z7 => k_is)
    (case z8 => k_is)
    (case z9 => k_is)
    (case z10 => k_is)
    (case z11 => k_is)
    (case z12 => k_is)
    (case z13 => k_is)
    (case z14 => k_is)
    (case z15 => k_is)
    (case z16 => k_is)
    (case z17 => k_is)
    (case z18 => k_is)
    (case z19 => k_is)
    (case g1 => k_is)
    (case g2 => k_is)
    (case g3 => k_is)
    (case g4 => k_is)
    (case g5 => k_is)
    (case vW => rfl)
    all_goals (apply K04.FF.mk <;> k_is)
end
namespace L2
open PySem PySem.Spec PyProof.Rows
abbrev Key := Sum Int Str
def jW : Key → Value → Bool
  | .inl k, v => Value.isInt k v
  | .inr x, v => Value.isStrOf x v
def CG (w : World) : Key → Int
  | .inl k => hashInt k
  | .inr x => hashStr w x
theorem bE : ∀ {k : Key} {v : Value}, jW k v = true → (∃ i t, k = Sum.inl i ∧ v = Value.int i t) ∨ (∃ x t, k = Sum.inr x ∧ v = Value.str x t)
  | .inl i, v, h => by
    obtain ⟨t, e⟩ := Value.isInt_shape (k := i) (v := v) h
    exact .inl ⟨i, t, rfl, e⟩
  | .inr x, v, h => by
    obtain ⟨t, e⟩ := Value.isStrOf_shape (x := x) (v := v) h
    exact .inr ⟨x, t, rfl, e⟩
theorem qy (x : Str) (t : Tok) : jW (.inr x) (.str x t) = true := by simp [jW, Value.isStrOf]
theorem yX (a b : Int) : decide ((Sum.inl a : Key) = Sum.inl b) = (a == b) := by
  by_cases e : a = b
  · subst e; simp
  · have h : ¬ (Sum.inl a : Key) = Sum.inl b := fun q => e (Sum.inl.inj q)
    rw [decide_eq_false h]
    exact (beq_eq_false_iff_ne.mpr e).symm
theorem xM (a b : Str) : decide ((Sum.inr a : Key) = Sum.inr b) = decide (a = b) := by
  by_cases e : a = b
  · subst e; simp
  · have h : ¬ (Sum.inr a : Key) = Sum.inr b := fun q => e (Sum.inr.inj q)
    rw [decide_eq_false h, decide_eq_false e]
theorem zk (a : Int) (b : Str) : decide ((Sum.inl a : Key) = Sum.inr b) = false := decide_eq_false (fun q => nomatch q)
theorem xZ (a : Str) (b : Int) : decide ((Sum.inr a : Key) = Sum.inl b) = false := decide_eq_false (fun q => nomatch q)
def bR (prog : Program) (w : World) : PySem.KeyKind prog w Key where
  is := jW
  hash := CG w
  inj := fun v a b ha hb => by
    rcases bE ha with ⟨i, t, rfl, rfl⟩ | ⟨x, t, rfl, rfl⟩
    · rcases bE hb with ⟨j, u, rfl, e⟩ | ⟨y, u, rfl, e⟩
      · injection e with e1 _; rw [e1]
      · exact nomatch e
    · rcases bE hb with ⟨j, u, rfl, e⟩ | ⟨y, u, rfl, e⟩
      · exact nomatch e
      · injection e with e1 _; rw [e1]
  byValue := fun k v h => by
    rcases bE h with ⟨i, t, rfl, rfl⟩ | ⟨x, t, rfl, rfl⟩ <;> rfl
  pyHash := fun hv h => by
    rcases bE hv with ⟨i, t, rfl, rfl⟩ | ⟨x, t, rfl, rfl⟩
    · exact wpAny_pyHash_int h
    · exact wpAny_pyHash_str h
  eqBool := fun hu hv h => by
    rcases bE hu with ⟨i, t, rfl, rfl⟩ | ⟨x, t, rfl, rfl⟩
    · rcases bE hv with ⟨j, u, rfl, rfl⟩ | ⟨y, u, rfl, rfl⟩
      · rw [yX] at h; exact wpAny_eqBool_int h
      · rw [zk] at h; exact SeqAt.EqAt.int_str i t y u _ _ _ _ h
    · rcases bE hv with ⟨j, u, rfl, rfl⟩ | ⟨y, u, rfl, rfl⟩
      · rw [xZ] at h; exact SeqAt.EqAt.str_int x t j u _ _ _ _ h
      · rw [xM] at h; exact wpAny_eqBool_str h
  «strs» := fun k x t v h => by
    rcases bE h with ⟨i, u, rfl, e⟩ | ⟨y, u, rfl, e⟩
    · exact nomatch e
    · injection e with e1 _
      subst e1
      cases v <;> rfl
end L2
namespace L2
open PySem PySem.Spec PyProof.Rows
inductive V where
  | non | bl (b : Bool) | int (i : Int) | str (x : Str) | byt (b : Array UInt8) | flt (b : UInt64) | ref (a : Addr) | ty (n : String)
  deriving DecidableEq
def RelV : V → Value → Prop
  | .non, u => u = Value.none
  | .bl b, u => u = Value.bool b
  | .int i, u => ∃ t, u = Value.int i t
  | .str x, u => ∃ t, u = Value.str x t
  | .byt b, u => ∃ t, u = Value.bytes b t
  | .flt b, u => ∃ t, u = Value.float b t
  | .ref a, u => u = Value.ref a
  | .ty n, u => u = Value.type n
abbrev Vals : List V → List Value → Prop := Paired RelV
theorem Vals.length {xs : List V} {us : List Value} (r : Vals xs us) : xs.length = us.length := Paired.length r
theorem Vals.get : ∀ {xs : List V} {us : List Value} {i : Nat} {x : V}, Vals xs us → xs[i]? = some x → ∃ u, us[i]? = some u ∧ RelV x u
  | _, _, _, _, .nil, e => by simp at e
  | _, _, 0, _, .cons r _, e => by simp at e; subst e; exact ⟨_, rfl, r⟩
  | _, _, i + 1, x, .cons _ t, e => by
    obtain ⟨u, h1, h2⟩ := Vals.get (i := i) (x := x) t (by simpa using e)
    exact ⟨u, by simpa using h1, h2⟩
theorem Vals.set {x : V} {u : Value} (r : RelV x u) : ∀ {xs : List V} {us : List Value} (i : Nat), Vals xs us → Vals (xs.set i x) (us.set i u)
  | _, _, _, .nil => .nil
  | _, _, 0, .cons _ t => .cons r t
  | _, _, i + 1, .cons q t => .cons q (Vals.set r i t)
theorem Vals.append : ∀ {xs ys : List V} {us ws : List Value}, Vals xs us → Vals ys ws → Vals (xs ++ ys) (us ++ ws)
  | _, _, _, _, .nil, s => s
  | _, _, _, _, .cons r t, s => .cons r (Vals.append t s)
theorem Vals.take : ∀ {xs : List V} {us : List Value} (n : Nat), Vals xs us → Vals (xs.take n) (us.take n)
  | _, _, 0, _ => .nil
  | _, _, _ + 1, .nil => .nil
  | _, _, n + 1, .cons r t => .cons r (Vals.take n t)
theorem Vals.drop : ∀ {xs : List V} {us : List Value} (n : Nat), Vals xs us → Vals (xs.drop n) (us.drop n)
  | _, _, 0, r => r
  | _, _, _ + 1, .nil => .nil
  | _, _, n + 1, .cons _ t => Vals.drop n t
def ku : Option V → Option Value → Prop
  | some v, some u => RelV v u
  | none, none => True
  | _, _ => False
def KV {κ : Type} : List (κ × V) → List (κ × Value) → Prop := Paired fun (p : κ × V) (q : κ × Value) => p.1 = q.1 ∧ RelV p.2 q.2
def kV : Key → V
  | .inl i => .int i
  | .inr x => .str x
inductive HO where
  | lst (xs : List V)
  | tup (xs : List V)
  | dK (kvs : List (Key × V)) | dT (kvs : List (List Key × V))
  | set (S : Int → Bool) (n : Nat)
  | ins (C dx : Addr) (fs : List (Str × V))
  | own (x : Addr)
  | xd (fs : List (Str × V))
  | met (f x : Addr)
  | rng (lo hi : Int)
  | frz (o : Obj) (u : HO)
  | tbl (ps : Array Value)
  | ext (φ : Heap → Prop)
abbrev Hp := Addr → Option HO
def upd (H : Hp) (a : Addr) (o : HO) : Hp := fun b => if b = a then some o else H b
theorem aa {H : Hp} {a : Addr} {o : HO} : upd H a o a = some o := by unfold upd; rw [if_pos rfl]
theorem aq {H : Hp} {a b : Addr} {o : HO} (h : b ≠ a) : upd H a o b = H b := by unfold upd; rw [if_neg h]
theorem vB {H : Hp} {a : Addr} {o u : HO} : upd (upd H a o) a u = upd H a u := by
  funext b; unfold upd; split <;> rfl
theorem nI {H : Hp} {a b : Addr} {o u : HO} (h : H a = some o) (h' : H b = some u) (d : o ≠ u) : a ≠ b := by
  intro e; subst e; rw [h] at h'; exact d (Option.some.inj h')
theorem ah {H : Hp} {a b : Addr} {o : HO} (h : H a = some o) (h' : H b = none) : a ≠ b := by
  intro e; subst e; rw [h] at h'; cases h'
section
variable (P : Program) (w : World)
def bA (H : Hp) (h : Heap) (a : Addr) : HO → Prop
  | .lst xs => xs.length ≤ sizeLine ∧ ∃ (its : List Value) (n : Nat), Vals xs its ∧ h.get? a = some { cls := .type "list", data := .seq its.toArray n }
  | .tup xs => xs.length ≤ sizeLine ∧ ∃ its : List Value, Vals xs its ∧ IsTup h a its.toArray
  | .dK kvs => kvs.length ≤ sizeLine ∧ (a == sysModules) = false ∧ ∃ vs, KV kvs vs ∧ h.DictOf (bR P w) a vs
  | .dT kvs => kvs.length ≤ sizeLine ∧ (a == sysModules) = false ∧ ∃ xs : List (List Key × Addr × Value),
      Paired (fun (p : List Key × V) (q : List Key × Addr × Value) => p.1 = q.1 ∧ H q.2.1 = some (.tup (p.1.map kV)) ∧ RelV p.2 q.2.2) kvs xs ∧
      ∃ o es ep, h.get? a = some o ∧ o.ExactDict ∧ o.data = .dict es ep ∧ es.toList = xs.map (entryOfKey (tupleKind (bR P w))) ∧ (xs.map (·.1)).Nodup
  | .set S n => h.SetOf (intKind P w) a S n
  | .ins C dx fs => H dx = some (.own a) ∧ fs.length ≤ 1000 ∧ dx ≠ a ∧ h.get? a = some (PySem.W.instObj C dx) ∧
      ∃ mA, h.Ns1 dx mA ∧ (∀ f, ku (fs.lookup f) (mA f)) ∧ PySem.Within mA (fs.map (·.1))
  | .own _ => ∃ o, h.get? a = some o
  | .xd fs => ∃ mA, h.Ns1 a mA ∧ ∀ f, ku (fs.lookup f) (mA f)
  | .rng lo hi => ∃ t u v, h.get? a = some { cls := .type "range", data := .fields #[.int lo t, .int hi u, .int 1 v] }
  | .frz o u => h.get? a = some o ∧ bA H h a u
  | .tbl ps => h.get? a = some { cls := .none, data := .fields ps }
  | .met f x => h.get? a = some (PySem.W.methodObj (.ref f) (.ref x))
  | .ext φ => φ h ∧ (∃ o, h.get? a = some o) ∧ ∀ h1 h2 : Heap, φ h1 → (∀ o, h1.get? a = some o → h2.get? a = some o) → φ h2
def fz (H : Hp) (h : Heap) : Prop := ∀ a o, H a = some o → bA P w H h a o
end
section
variable {P : Program} {w : World} {H H' : Hp} {h h' : Heap} {a : Addr} {o : HO}
theorem bA.lt (x : bA P w H h a o) : a < h.objs.size := by
  cases o with
  | lst xs => obtain ⟨_, _, _, _, e⟩ := x; exact Heap.lt_size e
  | tup xs => obtain ⟨_, _, _, p⟩ := x; exact p.lt
  | dK kvs => obtain ⟨_, _, _, _, o, _, _, e, _⟩ := x; exact Heap.lt_size e
  | dT kvs => obtain ⟨_, _, _, _, o, _, _, e, _⟩ := x; exact Heap.lt_size e
  | set S n => obtain ⟨o, _, _, _, e, _⟩ := x; exact Heap.lt_size e
  | ins C dx fs => obtain ⟨_, _, _, e, _⟩ := x; exact Heap.lt_size e
  | own y => obtain ⟨_, e⟩ := x; exact Heap.lt_size e
  | xd fs => obtain ⟨_, ⟨_, _, _, e, _⟩, _⟩ := x; exact Heap.lt_size e
  | rng lo hi => obtain ⟨_, _, _, e⟩ := x; exact Heap.lt_size e
  | frz ob u => obtain ⟨e, _⟩ := x; exact Heap.lt_size e
  | tbl ps => exact Heap.lt_size (show h.get? a = some _ from x)
  | met f y => exact Heap.lt_size (show h.get? a = some _ from x)
  | ext φ => obtain ⟨_, ⟨_, e⟩, _⟩ := x; exact Heap.lt_size e
theorem Paired.AB {α β : Type} {F G : α → β → Prop} : ∀ {l₁ : List α} {l₂ : List β}, Paired F l₁ l₂ → (∀ a b, F a b → G a b) → Paired G l₁ l₂
  | _, _, .nil, _ => .nil
  | _, _, .cons r t, f => .cons (f _ _ r) (Paired.AB t f)
theorem bA.fG (x : bA P w H h a o) (k : ∀ b u, (b = a ∨ H b = some (.own a)) → h.get? b = some u → h'.get? b = some u)
    (ho : ∀ b, H b = some (.own a) → H' b = some (.own a)) (ht : ∀ b xs, H b = some (.tup xs) → H' b = some (.tup xs)) : bA P w H' h' a o := by
  induction o with
  | lst xs => obtain ⟨z, its, n, r, e⟩ := x; exact ⟨z, its, n, r, k _ _ (.inl rfl) e⟩
  | tup xs => obtain ⟨z, its, r, ob, e, c⟩ := x; exact ⟨z, its, r, ob, k _ _ (.inl rfl) e, c⟩
  | dK kvs => obtain ⟨z, y, vs, r, ob, es, ep, e, c⟩ := x; exact ⟨z, y, vs, r, ob, es, ep, k _ _ (.inl rfl) e, c⟩
  | dT kvs =>
    obtain ⟨z, y, xs, r, ob, es, ep, e, c⟩ := x
    exact ⟨z, y, xs, Paired.AB r fun p q z => ⟨z.1, ht _ _ z.2.1, z.2.2⟩, ob, es, ep, k _ _ (.inl rfl) e, c⟩
  | set S n => obtain ⟨ob, es, ep, t, e, c⟩ := x; exact ⟨ob, es, ep, t, k _ _ (.inl rfl) e, c⟩
  | ins C dx fs =>
    obtain ⟨d, z, ne, e, mA, ⟨od, es, ep, e2, c⟩, r⟩ := x
    exact ⟨ho _ d, z, ne, k _ _ (.inl rfl) e, mA, ⟨od, es, ep, k _ _ (.inr d) e2, c⟩, r⟩
  | own y => obtain ⟨ob, e⟩ := x; exact ⟨ob, k _ _ (.inl rfl) e⟩
  | xd fs => obtain ⟨mA, ⟨od, es, ep, e, c⟩, r⟩ := x; exact ⟨mA, ⟨od, es, ep, k _ _ (.inl rfl) e, c⟩, r⟩
  | rng lo hi => obtain ⟨t, u, v, e⟩ := x; exact ⟨t, u, v, k _ _ (.inl rfl) e⟩
  | frz ob u ih => obtain ⟨e, q⟩ := x; exact ⟨k _ _ (.inl rfl) e, ih q⟩
  | tbl ps =>
    have e : h.get? a = some { cls := .none, data := .fields ps } := x
    show h'.get? a = some { cls := .none, data := .fields ps }
    exact k a _ (.inl rfl) e
  | met f y =>
    have e : h.get? a = some (PySem.W.methodObj (.ref f) (.ref y)) := x
    show h'.get? a = some (PySem.W.methodObj (.ref f) (.ref y))
    exact k a _ (.inl rfl) e
  | ext φ => obtain ⟨p, ⟨o, e⟩, st⟩ := x; exact ⟨st _ _ p fun o q => k _ _ (.inl rfl) q, ⟨o, k _ _ (.inl rfl) e⟩, st⟩
theorem fz.lt (x : fz P w H h) (e : H a = some o) : a < h.objs.size := (x a o e).lt
theorem fz.fresh (x : fz P w H h) (e : h.objs.size ≤ a) : H a = none := by
  cases q : H a with
  | none => rfl
  | some u => exact absurd (Nat.lt_of_lt_of_le (x.lt q) e) (Nat.lt_irrefl _)
theorem fz.kept (x : fz P w H h) (k : ∀ b u, h.get? b = some u → h'.get? b = some u) : fz P w H h' := fun a o e =>
  (x a o e).fG (fun b u _ q => k b u q) (fun _ q => q) fun _ _ q => q
theorem fz.laid (x : fz P w H h) (k : ∀ b u, h.get? b = some u → h'.get? b = some u) (hp : h.objs.size ≤ a) (new : bA P w (upd H a o) h' a o) : fz P w (upd H a o) h' := fun b u e => by
  have hn := x.fresh hp
  by_cases hb : b = a
  · subst hb; rw [aa] at e; cases e; exact new
  · rw [aq hb] at e
    exact (x b u e).fG (fun c v _ q => k c v q) (fun c q => by rw [aq (ah q hn)]; exact q) fun c xs q => by rw [aq (ah q hn)]; exact q
end
def Rd (H : Hp) (a : Addr) (u : HO) : Prop := H a = some u ∨ ∃ o, H a = some (.frz o u)
theorem Rd.ok {P : Program} {w : World} {H : Hp} {h : Heap} {a : Addr} {u : HO} (r : Rd H a u) (x : fz P w H h) : bA P w H h a u := by
  rcases r with r | ⟨o, r⟩
  · exact x a u r
  · obtain ⟨_, q⟩ := x a _ r
    exact q
def Bw : Option HO → Prop
  | some (.lst _) => True
  | some (.dK _) => True
  | some (.dT _) => True
  | some (.set _ _) => True
  | some (.ins _ _ _) => True
  | some (.ext _) => True
  | _ => False
section
variable {P : Program} {w : World} {H : Hp} {h h' : Heap} {x e : Addr} {o' : HO}
theorem fz.write (ok : fz P w H h) (mu : Bw (H x)) (he : e = x ∨ H e = some (.own x)) (k : ∀ b u, b ≠ e → h.get? b = some u → h'.get? b = some u) (heo : ∃ u, h'.get? e = some u)
    (new : bA P w (upd H x o') h' x o') : fz P w (upd H x o') h' := fun b u q => by
  have nown : ∀ c y, H c = some (.own y) → c ≠ x := fun c y r z => by subst z; rw [r] at mu; exact mu
  have ntup : ∀ c xs, H c = some (.tup xs) → c ≠ x := fun c xs r z => by subst z; rw [r] at mu; exact mu
  by_cases hb : b = x
  · subst hb; rw [aa] at q; cases q; exact new
  · rw [aq hb] at q
    by_cases hbe : b = e
    · have q' : H b = some (.own x) := by
        rcases he with z | z
        · exact absurd (hbe.trans z) hb
        · rw [hbe]; exact z
      rw [q] at q'; cases q'
      obtain ⟨v, hv⟩ := heo
      exact ⟨v, by rw [hbe]; exact hv⟩
    · refine (ok b u q).fG (fun c v hc r => k c v ?_ r) (fun c r => by rw [aq (nown c b r)]; exact r) fun c xs r => by rw [aq (ntup c xs r)]; exact r
      rcases hc with rfl | hc
      · exact hbe
      · rintro rfl
        rcases he with z | z
        · exact nown c b hc z
        · rw [hc] at z; cases z; exact hb rfl
end
structure Un (fs ex : List Addr) (H H' : Hp) (h h' : Heap) : Prop where
  keep : ∀ b o, h.get? b = some o → H b = none → b ∉ fs → b ∉ ex → h'.get? b = some o
  slot : ∀ b o, h.get? b = some o → H b = none → b ∈ fs → b ∉ ex → ∃ sl, h'.get? b = some { o with slots := sl }
  free : ∀ b o, h.get? b = some o → H b = none → b ∉ ex → H' b = none
  there : ∀ b o, h.get? b = some o → b ∉ ex → ∃ o', h'.get? b = some o'
  tups : ∀ b xs, H b = some (.tup xs) → H' b = some (.tup xs)
  frzs : ∀ b o u, H b = some (.frz o u) → H' b = some (.frz o u)
  tbls : ∀ b ps, H b = some (.tbl ps) → ∃ more, H' b = some (.tbl (ps ++ more))
section
variable {fs fs' ex ex' : List Addr} {H H1 H2 : Hp} {h h1 h2 h' : Heap} {a x e : Addr} {o : HO}
theorem Un.any (u : Un fs ex H H1 h h1) {b : Addr} {ob : Obj} (q : h.get? b = some ob) (n : H b = none) (hx : b ∉ ex) : ∃ sl, h1.get? b = some { ob with slots := sl } := by
  by_cases hb : b ∈ fs
  · exact u.slot b ob q n hb hx
  · exact ⟨ob.slots, u.keep b ob q n hb hx⟩
theorem Un.kept (k : ∀ b u, h.get? b = some u → h'.get? b = some u) : Un fs ex H H h h' :=
  ⟨fun b ob q _ _ _ => k b ob q, fun b ob q _ _ _ => ⟨ob.slots, k b ob q⟩, fun _ _ _ n _ => n, fun b ob q _ => ⟨ob, k b ob q⟩, fun _ _ q => q, fun _ _ _ q => q, fun _ ps q => ⟨#[], by rw [q]; simp⟩⟩
theorem Un.refl : Un fs ex H H h h := Un.kept fun _ _ q => q
theorem Un.laid (k : ∀ b u, h.get? b = some u → h'.get? b = some u) (hp : h.objs.size ≤ a) (hn : H a = none) : Un fs ex H (upd H a o) h h' where
  keep := fun b u q _ _ _ => k b u q
  slot := fun b u q _ _ _ => ⟨u.slots, k b u q⟩
  free := fun b u q n _ => by rw [aq (Nat.ne_of_lt (Nat.lt_of_lt_of_le (Heap.lt_size q) hp))]; exact n
  there := fun b u q _ => ⟨u, k b u q⟩
  tups := fun b xs q => by rw [aq (ah q hn)]; exact q
  frzs := fun b u xs q => by rw [aq (ah q hn)]; exact q
  tbls := fun b ps q => ⟨#[], by rw [aq (ah q hn), q]; simp⟩
theorem Un.write (mu : Bw (H x)) (he : e = x ∨ H e = some (.own x)) (k : ∀ b u, b ≠ e → h.get? b = some u → h'.get? b = some u) (heo : ∃ u, h'.get? e = some u) : Un fs ex H (upd H x o) h h' := by
  have hx : ∀ b, H b = none → b ≠ x := fun b n z => by subst z; rw [n] at mu; exact mu
  have hb : ∀ b, H b = none → b ≠ e := fun b n z => by
    subst z
    rcases he with r | r
    · exact hx b n r
    · rw [n] at r; cases r
  have hm : ∀ b u, H b = some u → ¬ Bw (some u) → b ≠ x := fun b u q nm z => by subst z; rw [q] at mu; exact nm mu
  refine ⟨fun b u q n _ _ => k b u (hb b n) q, fun b u q n _ _ => ⟨u.slots, k b u (hb b n) q⟩, fun b u q n _ => by rw [aq (hx b n)]; exact n, fun b u q _ => ?_,
    fun b xs q => by rw [aq (hm b _ q fun z => z)]; exact q, fun b u xs q => by rw [aq (hm b _ q fun z => z)]; exact q, fun b ps q => ⟨#[], by rw [aq (hm b _ q fun z => z), q]; simp⟩⟩
  by_cases hbe : b = e
  · subst hbe; exact heo
  · exact ⟨u, k b u hbe q⟩
end
def u6 (h : Heap) (H : Hp) : List Addr := (List.range h.objs.size).filter fun a => (H a).isSome
def mO (h : Heap) (H : Hp) : Heap := PySem.W.hideAll h (u6 h H)
theorem sd (h : Heap) (H : Hp) : (mO h H).objs.size = h.objs.size := PySem.W.hideAll_size _ _
theorem su {h : Heap} {H : Hp} {b : Addr} {o : Obj} (e : h.get? b = some o) (n : H b = none) : (mO h H).get? b = some o :=
  PySem.W.hideAll_get _ e fun hm => by
    have q : (H b).isSome = true := (List.mem_filter.mp hm).2
    rw [n] at q; simp at q
theorem we {h : Heap} {H : Hp} {b : Addr} {o : Obj} (e : (mO h H).get? b = some o) : h.get? b = some o ∧ H b = none := by
  have e' : h.get? b = some o := PySem.W.of_hideAll (u6 h H) e
  refine ⟨e', ?_⟩
  cases q : H b with
  | none => rfl
  | some x =>
    have hm : b ∈ u6 h H := List.mem_filter.mpr ⟨List.mem_range.mpr (Heap.lt_size e'), by simp [q]⟩
    have z : (mO h H).get? b = none := PySem.W.hideAll_none (u6 h H) hm
    rw [z] at e; cases e
def wK (g h : Heap) (L : Addr) : List (Addr × Obj) := (List.range h.objs.size).filterMap fun a => if a = L ∨ (g.get? a).isSome = true then none else (h.get? a).map fun o => (a, o)
def rest (g h : Heap) (L d : Addr) : List (Addr × Obj) := (wK g h L).filter fun p => decide (p.1 ≠ d)
end L2
namespace L2
open PySem PySem.Spec PyProof.Rows
structure Mod (K : PySem.W.Frag) (mg : Str → Option Value) (base : Heap) : Prop where
  kin : K.In base
  glob : base.Ns mainGlobals mg
  blt : ∃ mb, base.Ns builtinsNs mb ∧ ∀ x : Str, x ≠ "__name__" → mb x = bootBuiltins x
  nolimit : base.NoLimit
structure Cx where
  prog : Program
  w : World
  K : PySem.W.Frag
  mg : Str → Option Value
  base : Heap
  A : Around
  N : List Str
  s₀ : Shared
  H₀ : Hp
  env : Env
  outer : List Env
  stack : List Env
  ex : List Addr
  fn : Str → Bool
  calm : Bool
  pn : List (Addr × Obj)
  xe : Value → Shared → Prop
def di (l : List Env) : List Addr := l.filterMap (·.frame)
abbrev Cx.fs (X : Cx) : List Addr := di X.outer
def Cr (sc : Scope) (x : Str) : Prop := sc.names.lookup x = some .local ∨ sc.names.lookup x = some .cell ∨ sc.names.lookup x = some .free
def Loc (sc : Scope) (x : Str) : Prop := sc.names.lookup x = some .local ∨ sc.names.lookup x = some .cell
def Look (env : Env) (h : Heap) (m : Str → Option Value) (x : Str) (u : Value) : Prop :=
  (env.kindOf x = some .local ∧ m x = some u) ∨ ((env.kindOf x = some .cell ∨ env.kindOf x = some .free) ∧ ∃ c, env.cells.lookup x = some c ∧ h.IsCell c (some u))
structure Cx.Ok (X : Cx) : Prop where
  mod : Mod X.K X.mg X.base
  kind : X.env.scope.kind = .function
  glob : X.env.globals = mainGlobals
  blt : X.env.builtins = builtinsNs
  above : X.s₀.heap.objs.size ≤ X.env.locals
  inj : ∀ x y c, X.env.cells.lookup x = some c → X.env.cells.lookup y = some c → x = y
  has : ∀ x, (X.env.kindOf x = some .cell ∨ X.env.kindOf x = some .free) → ∃ c, X.env.cells.lookup x = some c
  cab : ∀ x c, X.fn x = true → X.env.cells.lookup x = some c → X.s₀.heap.objs.size ≤ c
  hd : X.calm = true → X.A.handled = none
  frames : X.A.frames = some X.stack
  stk : X.stack = X.outer ∨ (X.stack = X.env :: X.outer ∧ X.env.frame = some X.env.locals)
  exf : ∀ b ∈ X.ex, b ≠ X.env.locals ∧ ∀ x c, X.env.cells.lookup x = some c → c ≠ b
  bs : ∀ b o, X.base.get? b = some o → X.s₀.heap.get? b = some o ∧ X.H₀ b = none
  bsz : X.base.objs.size ≤ X.s₀.heap.objs.size
  noex : ∀ b o, X.base.get? b = some o → b ∉ X.ex
  exfs : ∀ b ∈ X.ex, b ∉ X.fs
  iS : X.s₀.heap.FunFrames X.base X.outer
  frf : ∀ b ∈ X.fs, X.H₀ b = none
structure Inv (X : Cx) (pins : List (Addr × Obj)) (σ : List (Option V)) (H : Hp) (s : Shared) : Prop where
  ok : X.Ok
  os : s.os = X.s₀.os
  bare : AllBare s.gens
  base : Un X.fs X.ex X.H₀ H X.s₀.heap s.heap
  loc : ∃ m, s.heap.Ns X.env.locals m ∧ ∀ (i : Nat) (x : Str) (v : V), X.N[i]? = some x → σ[i]? = some (some v) → Cr X.env.scope x → ∃ u, RelV v u ∧ Look X.env s.heap m x u
  cell : ∀ x c, X.env.cells.lookup x = some c → ∃ v, s.heap.IsCell c v
  free : H X.env.locals = none
  freeC : ∀ x c, X.env.cells.lookup x = some c → H c = none
  pin : ∀ p ∈ X.pn ++ pins, s.heap.get? p.1 = some p.2 ∧ H p.1 = none ∧ p.1 ≠ X.env.locals ∧ p.1 ∉ X.fs ∧ ∀ v, p.2.data ≠ .cell v
  hok : fz X.prog X.w H s.heap
  len : σ.length = X.N.length
section
variable {X : Cx} {pins : List (Addr × Obj)} {σ : List (Option V)} {H H' : Hp} {s : Shared} {h' : Heap}
theorem Cx.Ok.Cj (ok : X.Ok) {b : Addr} {o : Obj} (e : X.base.get? b = some o) : b ∉ X.fs := fun hb => by
  have := (ok.iS.mem hb).1
  rw [e] at this; cases this
theorem Inv.bs (I : Inv X pins σ H s) : ∀ b o, X.base.get? b = some o → s.heap.get? b = some o ∧ H b = none := fun b o e =>
  ⟨I.base.keep b o (I.ok.bs b o e).1 (I.ok.bs b o e).2 (I.ok.Cj e) (I.ok.noex b o e), I.base.free b o (I.ok.bs b o e).1 (I.ok.bs b o e).2 (I.ok.noex b o e)⟩
theorem Inv.bk (I : Inv X pins σ H s) : ∀ b o, X.base.get? b = some o → s.heap.get? b = some o := fun b o e => (I.bs b o e).1
theorem Inv.mod (I : Inv X pins σ H s) : Mod X.K X.mg X.base := I.ok.mod
theorem Inv.dr (I : Inv X pins σ H s) : X.K.In s.heap := I.ok.mod.kin.keeps I.bk
theorem Inv.lt (I : Inv X pins σ H s) : X.env.locals < s.heap.objs.size := let ⟨_, hn, _⟩ := I.loc; hn.lt
theorem Inv.sz (I : Inv X pins σ H s) : X.s₀.heap.objs.size ≤ s.heap.objs.size := Nat.le_trans I.ok.above (Nat.le_of_lt I.lt)
theorem Inv.Cd (I : Inv X pins σ H s) {a : Addr} (h : s.heap.objs.size ≤ a) : a ∉ X.fs := fun hb => by
  obtain ⟨_, o, ho, _⟩ := I.ok.iS.mem hb
  exact absurd (Nat.lt_of_lt_of_le (Heap.lt_size ho) (Nat.le_trans I.sz h)) (Nat.lt_irrefl _)
theorem Inv.tE (I : Inv X pins σ H s) : ∀ x c, X.env.cells.lookup x = some c → c ≠ X.env.locals := fun x c e z => by
  obtain ⟨v, o, ho, hd⟩ := I.cell x c e
  obtain ⟨m, ⟨o', es, ep, ho', hd', _⟩, _⟩ := I.loc
  rw [z, ho'] at ho; cases ho; rw [hd'] at hd; cases hd
theorem Inv.iS (I : Inv X pins σ H s) : s.heap.FunFrames X.base X.outer := by
  have all : ∀ (l : List Env), (∀ b ∈ di l, b ∈ X.fs) → X.s₀.heap.FunFrames X.base l → s.heap.FunFrames X.base l := by
    intro l
    induction l with
    | nil => intro _ _; trivial
    | cons env r ih =>
      intro hs hl
      obtain ⟨hk, ⟨L, o, hf, hn, ho, hd⟩, hr⟩ := hl
      have hL : L ∈ X.fs := hs L (by unfold di; rw [List.filterMap_cons, hf]; exact List.mem_cons_self)
      obtain ⟨sl, e⟩ := I.base.slot L o ho (I.ok.frf L hL) hL fun z => I.ok.exfs L z hL
      exact ⟨hk, ⟨L, _, hf, hn, e, hd⟩, ih (fun b hb => hs b (by unfold di; rw [List.filterMap_cons, hf]; exact List.mem_cons_of_mem _ hb)) hr⟩
  exact all X.outer (fun _ hb => hb) I.ok.iS
theorem Inv.stack (I : Inv X pins σ H s) : s.heap.FunFrames X.base X.stack := by
  rcases I.ok.stk with e | ⟨e, hf⟩
  · rw [e]; exact I.iS
  · rw [e]
    obtain ⟨m, hn, _⟩ := I.loc
    refine .cons (by rw [I.ok.kind]; decide) hf hn ?_ I.iS
    exact Heap.get?_none_of_le (Nat.le_trans I.ok.bsz I.ok.above)
theorem Inv.lJ (I : Inv X pins σ H s) : ∀ b ∈ di X.stack, b ∈ X.env.locals :: X.fs := fun b hb => by
  rcases I.ok.stk with e | ⟨e, hf⟩
  · rw [e] at hb; exact List.mem_cons_of_mem _ hb
  · rw [e] at hb
    unfold di at hb
    rw [List.filterMap_cons, hf] at hb
    exact hb
theorem Inv.dX (I : Inv X pins σ H s) : ∀ b ∈ di X.stack, H b = none := fun b hb => by
  rcases List.mem_cons.mp (I.lJ b hb) with e | hb
  · rw [e]; exact I.free
  · obtain ⟨_, o, ho, _⟩ := I.ok.iS.mem hb
    exact I.base.free b o ho (I.ok.frf b hb) fun z => I.ok.exfs b z hb
theorem Inv.step {g' : Array GenState} {t' : Nat} {d' : Drawn} {ch : List Addr} (I : Inv X pins σ H s)
    (hch : ∀ b ∈ ch, (b ∈ X.ex ∨ X.s₀.heap.objs.size ≤ b) ∧ b ≠ X.env.locals ∧ (∀ x c, X.env.cells.lookup x = some c → c ≠ b) ∧ ∀ p ∈ X.pn ++ pins, p.1 ≠ b)
    (keep : ∀ b o, b ≠ X.env.locals → b ∉ X.fs → b ∉ ch → s.heap.get? b = some o → H b = none → h'.get? b = some o)
    (slot : ∀ b o, b ≠ X.env.locals → b ∈ X.fs → b ∉ ch → s.heap.get? b = some o → H b = none → ∃ sl, h'.get? b = some { o with slots := sl }) (free : ∀ b o, b ∉ ch → s.heap.get? b = some o → H b = none → H' b = none)
    (there : ∀ b o, b ∉ ch → s.heap.get? b = some o → ∃ o', h'.get? b = some o')
    (tups : ∀ b xs, H b = some (.tup xs) → H' b = some (.tup xs)) (frzs : ∀ b o u, H b = some (.frz o u) → H' b = some (.frz o u)) (tbls : ∀ b ps, H b = some (.tbl ps) → ∃ more, H' b = some (.tbl (ps ++ more)))
    (ns : ∀ m, s.heap.Ns X.env.locals m → h'.Ns X.env.locals m) (hok : fz X.prog X.w H' h') (hg : AllBare g') :
    Inv X pins σ H' { s with heap := h', gens := g', drawn := d', toks := t' } := by
  have neL : ∀ b o, X.s₀.heap.get? b = some o → b ≠ X.env.locals := fun b o e => Nat.ne_of_lt (Nat.lt_of_lt_of_le (Heap.lt_size e) I.ok.above)
  have neC : ∀ b o, X.s₀.heap.get? b = some o → b ∉ X.ex → b ∉ ch := fun b o e hx hb => by
    rcases (hch b hb).1 with z | z
    · exact hx z
    · exact absurd (Nat.lt_of_lt_of_le (Heap.lt_size e) z) (Nat.lt_irrefl _)
  have cellK : ∀ x c, X.env.cells.lookup x = some c → ∀ v, s.heap.IsCell c v → h'.IsCell c v := fun x c e v ⟨o, ho, hd⟩ => by
    have nch : c ∉ ch := fun z => (hch c z).2.2.1 x c e rfl
    by_cases hc : c ∈ X.fs
    · obtain ⟨sl, q⟩ := slot c o (I.tE x c e) hc nch ho (I.freeC x c e)
      exact ⟨_, q, hd⟩
    · exact ⟨o, keep c o (I.tE x c e) hc nch ho (I.freeC x c e), hd⟩
  refine ⟨I.ok, I.os, hg, ⟨fun b o e n hb hx => ?_, fun b o e n hb hx => ?_, fun b o e n hx => ?_, fun b o e hx => ?_, fun b xs e => tups b xs (I.base.tups b xs e), fun b o xs e => frzs b o xs (I.base.frzs b o xs e), fun b ps e => ?_⟩, ?_, fun x c e => ?_, ?_, fun x c e => ?_, fun p hp => ?_, hok, I.len⟩
  · exact keep b o (neL b o e) hb (neC b o e hx) (I.base.keep b o e n hb hx) (I.base.free b o e n hx)
  · obtain ⟨sl, e1⟩ := I.base.slot b o e n hb hx
    obtain ⟨sl', e2⟩ := slot b _ (neL b o e) hb (neC b o e hx) e1 (I.base.free b o e n hx)
    exact ⟨sl', e2⟩
  · obtain ⟨o', e1⟩ := I.base.there b o e hx
    exact free b o' (neC b o e hx) e1 (I.base.free b o e n hx)
  · obtain ⟨o', e1⟩ := I.base.there b o e hx
    exact there b o' (neC b o e hx) e1
  · obtain ⟨m1, e1⟩ := I.base.tbls b ps e
    obtain ⟨m2, e2⟩ := tbls b _ e1
    exact ⟨m1 ++ m2, by rw [e2, Array.append_assoc]⟩
  · obtain ⟨m, hn, hl⟩ := I.loc
    refine ⟨m, ns m hn, fun i x v e1 e2 e3 => ?_⟩
    obtain ⟨u, r, l⟩ := hl i x v e1 e2 e3
    refine ⟨u, r, ?_⟩
    rcases l with l | ⟨k, c, e, z⟩
    · exact .inl l
    · exact .inr ⟨k, c, e, cellK x c e _ z⟩
  · obtain ⟨v, z⟩ := I.cell x c e
    exact ⟨v, cellK x c e v z⟩
  · obtain ⟨m, ⟨o, _, _, ho, _⟩, _⟩ := I.loc
    exact free _ o (fun z => (hch _ z).2.1 rfl) ho I.free
  · obtain ⟨v, o, ho, hd⟩ := I.cell x c e
    exact free c o (fun z => (hch c z).2.2.1 x c e rfl) ho (I.freeC x c e)
  · obtain ⟨e, n, ne, nf, d⟩ := I.pin p hp
    have nch : p.1 ∉ ch := fun z => (hch p.1 z).2.2.2 p hp rfl
    exact ⟨keep p.1 p.2 ne nf nch e n, free p.1 p.2 nch e n, ne, nf, d⟩
theorem Inv.un {t' : Nat} (I : Inv X pins σ H s) (u : Un X.fs [] H H' s.heap h') (hok : fz X.prog X.w H' h') : Inv X pins σ H' { s with heap := h', toks := t' } := by
  obtain ⟨m, ⟨o, es, ep, ho, r⟩, _⟩ := id I.loc
  obtain ⟨sl, hL⟩ := u.any ho I.free (by simp)
  exact I.step (g' := s.gens) (d' := s.drawn) (ch := []) (fun _ z => nomatch z) (fun b o _ hb _ e n => u.keep b o e n hb (by simp)) (fun b o _ hb _ e n => u.slot b o e n hb (by simp)) (fun b o _ e n => u.free b o e n (by simp)) (fun b o _ e => u.there b o e (by simp)) u.tups u.frzs u.tbls (fun m' hm => by
    obtain ⟨o', es', ep', ho', r'⟩ := hm
    rw [ho] at ho'; cases ho'
    exact ⟨_, es', ep', hL, r'⟩) hok I.bare
theorem Inv.call {g' : Array GenState} {t' : Nat} {d' : Drawn} {ch : List Addr} (I : Inv X pins σ H s) (u : Un (di X.stack) ch H H' s.heap h') (hok : fz X.prog X.w H' h') (hg : AllBare g')
    (hch : ∀ b ∈ ch, (b ∈ X.ex ∨ X.s₀.heap.objs.size ≤ b) ∧ b ≠ X.env.locals ∧ (∀ x c, X.env.cells.lookup x = some c → c ≠ b) ∧ ∀ p ∈ X.pn ++ pins, p.1 ≠ b) :
    Inv X pins σ H' { s with heap := h', gens := g', drawn := d', toks := t' } := by
  obtain ⟨m, ⟨o, es, ep, ho, r⟩, _⟩ := id I.loc
  obtain ⟨sl, hL⟩ := u.any ho I.free fun z => (hch _ z).2.1 rfl
  exact I.step (ch := ch) hch (fun b o hL hb hc e n => u.keep b o e n (fun z => (List.mem_cons.mp (I.lJ b z)).elim hL hb) hc) (fun b o _ _ hc e n => u.any e n hc) (fun b o hc e n => u.free b o e n hc) (fun b o hc e => u.there b o e hc) u.tups u.frzs u.tbls (fun m' hm => by
    obtain ⟨o', es', ep', ho', r'⟩ := hm
    rw [ho] at ho'; cases ho'
    exact ⟨_, es', ep', hL, r'⟩) hok hg
theorem Inv.turned {t' : Nat} {it : Addr} (I : Inv X pins σ H s) (k : ∀ b o, b ≠ it → s.heap.get? b = some o → h'.get? b = some o) (hn : H it = none) (hL : it ≠ X.env.locals)
    (h1 : it ∈ X.ex ∨ X.s₀.heap.objs.size ≤ it) (h2 : ∀ x c, X.env.cells.lookup x = some c → c ≠ it) (h3 : ∀ p ∈ X.pn ++ pins, p.1 ≠ it) : Inv X pins σ H { s with heap := h', toks := t' } := by
  have nit : ∀ b u, H b = some u → b ≠ it := fun b u e z => by rw [z, hn] at e; cases e
  refine I.step (g' := s.gens) (d' := s.drawn) (ch := [it]) (fun b hb => ?_) (fun b o _ _ hc e _ => k b o (fun z => hc (by simp [z])) e) (fun b o _ _ hc e _ => ⟨o.slots, k b o (fun z => hc (by simp [z])) e⟩) (fun _ _ _ _ n => n)
    (fun b o hc e => ⟨o, k b o (fun z => hc (by simp [z])) e⟩) (fun _ _ e => e) (fun _ _ _ e => e) (fun b ps e => ⟨#[], by rw [e]; simp⟩) (fun m hm => ?_) (fun b u e => ?_) I.bare
  · have e : b = it := by simpa using hb
    subst e
    exact ⟨h1, hL, h2, h3⟩
  · obtain ⟨o, es, ep, ho, r⟩ := hm
    exact ⟨o, es, ep, k _ o (Ne.symm hL) ho, r⟩
  · refine (I.hok b u e).fG (fun c v hc q => k c v ?_ q) (fun _ q => q) fun _ _ q => q
    rcases hc with z | z
    · rw [z]; exact nit b u e
    · exact nit c _ z
theorem Inv.tok (I : Inv X pins σ H s) (t : Nat) : Inv X pins σ H { s with toks := t } := I.un (h' := s.heap) (t' := t) Un.refl I.hok
theorem Inv.kept {t' : Nat} (I : Inv X pins σ H s) (k : ∀ b u, s.heap.get? b = some u → h'.get? b = some u) : Inv X pins σ H { s with heap := h', toks := t' } := I.un (Un.kept k) (I.hok.kept k)
theorem Inv.laid {a : Addr} {o : HO} {t' : Nat} (I : Inv X pins σ H s) (k : ∀ b u, s.heap.get? b = some u → h'.get? b = some u) (hp : s.heap.objs.size ≤ a) (new : bA X.prog X.w (upd H a o) h' a o) :
    Inv X pins σ (upd H a o) { s with heap := h', toks := t' } := I.un (Un.laid k hp (I.hok.fresh hp)) (I.hok.laid k hp new)
theorem Inv.write {x e : Addr} {o : HO} {t' : Nat} (I : Inv X pins σ H s) (mu : Bw (H x)) (he : e = x ∨ H e = some (.own x)) (k : ∀ b u, b ≠ e → s.heap.get? b = some u → h'.get? b = some u) (heo : ∃ u, h'.get? e = some u)
    (new : bA X.prog X.w (upd H x o) h' x o) : Inv X pins σ (upd H x o) { s with heap := h', toks := t' } := I.un (Un.write mu he k heo) (I.hok.write mu he k heo new)
theorem Inv.p9 {pins' : List (Addr × Obj)} (I : Inv X pins σ H s) (h : ∀ p ∈ pins', s.heap.get? p.1 = some p.2 ∧ H p.1 = none ∧ p.1 ≠ X.env.locals ∧ p.1 ∉ X.fs ∧ ∀ v, p.2.data ≠ .cell v) : Inv X pins' σ H s :=
  ⟨I.ok, I.os, I.bare, I.base, I.loc, I.cell, I.free, I.freeC, fun p hp => (List.mem_append.mp hp).elim (fun z => I.pin p (List.mem_append_left _ z)) (h p), I.hok, I.len⟩
theorem jF {N : List Str} (hN : N.Nodup) {i j : Nat} {x : Str} (a : N[i]? = some x) (b : N[j]? = some x) : i = j := by
  obtain ⟨h1, e1⟩ := List.getElem?_eq_some_iff.mp a
  obtain ⟨h2, e2⟩ := List.getElem?_eq_some_iff.mp b
  exact (List.getElem_inj hN).mp (e1.trans e2.symm)
theorem rf {M : Model} {A : Around} {E : Value → Shared → Prop} {i : Nat} {x : Str} {v : V} {u : Value} {Q : Unit → Shared → Prop} (I : Inv X pins σ H s) (hN : X.N.Nodup) (hi : X.N[i]? = some x) (hx : Loc X.env.scope x) (r : RelV v u)
    (h : ∀ s', Inv X pins (σ.set i (some v)) H s' → (∃ a, Heap.SameBut a s.heap s'.heap ∧ (a = X.env.locals ∨ X.env.cells.lookup x = some a)) → Q () s') (hf : X.fn x = true ∨ X.env.scope.names.lookup x = some .local := by first | exact .inl rfl | exact .inr rfl | assumption) : wpAny M A (storeName X.env x u) Q E s := by
  obtain ⟨m, hn, hl⟩ := id I.loc
  have hcls : (X.env.scope.kind == .class || (X.env.scope.kind == .module && X.env.locals != X.env.globals)) = false := by rw [I.ok.kind]; rfl
  have hiσ : i < σ.length := by rw [I.len]; exact (List.getElem?_eq_some_iff.mp hi).1
  have tE := I.tE
  have tracked : ∀ {a : Addr} {h' : Heap}, (∃ o, s.heap.get? a = some o ∧ H a = none) → Heap.SameBut a s.heap h' → fz X.prog X.w H h' := fun {a h'} ha hs b ob e => by
    obtain ⟨_, _, hfree⟩ := ha
    refine (I.hok b ob e).fG (fun c w' hc q => (hs.2 c ?_).trans q) (fun _ q => q) fun _ _ q => q
    rintro rfl
    rcases hc with rfl | hc
    · rw [hfree] at e; cases e
    · rw [hfree] at hc; cases hc
  rcases hx with hk | hk
  · refine wpAny_storeName_local hk hn (fun h' hn' hs => ?_) hcls
    obtain ⟨oL, _, _, hoL, _⟩ := id hn
    refine h _ ⟨I.ok, I.os, I.bare, ⟨fun b o e n hb hx => ?_, fun b o e n hb hx => ?_, I.base.free, fun b o e hx => ?_, I.base.tups, I.base.frzs, I.base.tbls⟩, ⟨_, hn', fun j y v' e1 e2 e3 => ?_⟩, fun y c e => ?_, I.free, I.freeC, fun p hp => ?_, tracked ⟨oL, hoL, I.free⟩ hs, by simpa using I.len⟩ ⟨_, hs, .inl rfl⟩
    · exact (hs.2 b (Nat.ne_of_lt (Nat.lt_of_lt_of_le (Heap.lt_size e) I.ok.above))).trans (I.base.keep b o e n hb hx)
    · obtain ⟨sl, e1⟩ := I.base.slot b o e n hb hx
      exact ⟨sl, (hs.2 b (Nat.ne_of_lt (Nat.lt_of_lt_of_le (Heap.lt_size e) I.ok.above))).trans e1⟩
    · obtain ⟨o', e1⟩ := I.base.there b o e hx
      exact ⟨o', (hs.2 b (Nat.ne_of_lt (Nat.lt_of_lt_of_le (Heap.lt_size e) I.ok.above))).trans e1⟩
    · by_cases hj : j = i
      · subst hj
        rw [hi] at e1; cases e1
        rw [List.getElem?_set_self hiσ] at e2
        cases e2
        exact ⟨u, r, .inl ⟨hk, by simp⟩⟩
      · rw [List.getElem?_set_ne (Ne.symm hj)] at e2
        obtain ⟨u', r', q⟩ := hl j y v' e1 e2 e3
        refine ⟨u', r', ?_⟩
        rcases q with ⟨k, e⟩ | ⟨k, c, e, z⟩
        · refine .inl ⟨k, ?_⟩
          have : y ≠ x := fun e => hj (jF hN e1 (e ▸ hi))
          simp [this, e]
        · exact .inr ⟨k, c, e, z.sameBut hs (tE y c e)⟩
    · obtain ⟨w', z⟩ := I.cell y c e
      exact ⟨w', z.sameBut hs (tE y c e)⟩
    · obtain ⟨e, n, ne, nf, d⟩ := I.pin p hp
      exact ⟨(hs.2 p.1 ne).trans e, n, ne, nf, d⟩
  · have hfn : X.fn x = true := by
      rcases hf with z | z
      · exact z
      · rw [z] at hk; cases hk
    obtain ⟨c, hc⟩ := I.ok.has x (.inl hk)
    obtain ⟨w', z⟩ := I.cell x c hc
    refine wpAny_storeName_cell I.ok.kind hk hc z (fun h' hc' hs => ?_)
    obtain ⟨oc, hoc, hocd⟩ := id z
    refine h { s with heap := h' } ⟨I.ok, I.os, I.bare, ⟨fun b o e n hb hx => ?_, fun b o e n hb hx => ?_, I.base.free, fun b o e hx => ?_, I.base.tups, I.base.frzs, I.base.tbls⟩, ⟨m, hn.sameBut hs (Ne.symm (tE x c hc)), fun j y v' e1 e2 e3 => ?_⟩, fun y c' e => ?_, I.free, I.freeC, fun p hp => ?_, tracked ⟨oc, hoc, I.freeC x c hc⟩ hs, by simpa using I.len⟩ ⟨c, hs, .inr hc⟩
    · exact (hs.2 b (Nat.ne_of_lt (Nat.lt_of_lt_of_le (Heap.lt_size e) (I.ok.cab x c hfn hc)))).trans (I.base.keep b o e n hb hx)
    · obtain ⟨sl, e1⟩ := I.base.slot b o e n hb hx
      exact ⟨sl, (hs.2 b (Nat.ne_of_lt (Nat.lt_of_lt_of_le (Heap.lt_size e) (I.ok.cab x c hfn hc)))).trans e1⟩
    · obtain ⟨o', e1⟩ := I.base.there b o e hx
      exact ⟨o', (hs.2 b (Nat.ne_of_lt (Nat.lt_of_lt_of_le (Heap.lt_size e) (I.ok.cab x c hfn hc)))).trans e1⟩
    · by_cases hj : j = i
      · subst hj
        rw [hi] at e1; cases e1
        rw [List.getElem?_set_self hiσ] at e2
        cases e2
        exact ⟨u, r, .inr ⟨.inl hk, c, hc, hc'⟩⟩
      · rw [List.getElem?_set_ne (Ne.symm hj)] at e2
        obtain ⟨u', r', q⟩ := hl j y v' e1 e2 e3
        refine ⟨u', r', ?_⟩
        rcases q with q | ⟨k, c', e, z'⟩
        · exact .inl q
        · refine .inr ⟨k, c', e, z'.sameBut hs ?_⟩
          rintro rfl
          exact hj (jF hN e1 (I.ok.inj _ _ _ e hc ▸ hi))
    · by_cases hcc : c' = c
      · subst hcc; exact ⟨_, hc'⟩
      · obtain ⟨w2, z2⟩ := I.cell y c' e
        exact ⟨w2, z2.sameBut hs hcc⟩
    · obtain ⟨e, n, ne, nf, d⟩ := I.pin p hp
      refine ⟨(hs.2 p.1 ?_).trans e, n, ne, nf, d⟩
      intro q
      rw [q, hoc] at e
      have q' : oc = p.2 := Option.some.inj e
      exact d w' (by rw [← q']; exact hocd)
theorem fT {M : Model} {A : Around} {E : Value → Shared → Prop} {i : Nat} {x : Str} {v : V} {u : Value} {Q : Unit → Shared → Prop} (I : Inv X pins σ H s) (hN : X.N.Nodup) (hi : X.N[i]? = some x) (hx : Loc X.env.scope x) (r : RelV v u)
    (h : ∀ s', Inv X pins (σ.set i (some v)) H s' → Q () s') (hf : X.fn x = true ∨ X.env.scope.names.lookup x = some .local := by first | exact .inl rfl | exact .inr rfl | assumption) : wpAny M A (storeName X.env x u) Q E s :=
  rf I hN hi hx r (fun s' I' _ => h s' I') hf
theorem Inv.nX {s' : Shared} {ch : List Addr} (I : Inv X pins σ H s) (ho : s'.os = s.os) (u : Un (di X.stack) ch H H' s.heap s'.heap) (hok : fz X.prog X.w H' s'.heap) (hg : AllBare s'.gens)
    (hch : ∀ b ∈ ch, (b ∈ X.ex ∨ X.s₀.heap.objs.size ≤ b) ∧ b ≠ X.env.locals ∧ (∀ x c, X.env.cells.lookup x = some c → c ≠ b) ∧ ∀ p ∈ X.pn ++ pins, p.1 ≠ b) : Inv X pins σ H' s' := by
  obtain ⟨h', g', d', t', o'⟩ := s'
  have e : o' = s.os := ho
  subst e
  exact I.call (g' := g') (t' := t') (d' := d') u hok hg hch
end
abbrev XK := Value → Option Addr → Hp → Prop
abbrev St := List (Option V)
abbrev VK := V → Hp → Prop
abbrev TE := St → Hp → VK → Prop
abbrev TT := St → Hp → (Bool → Hp → Prop) → Prop
abbrev TA := St → Hp → (List V → Hp → Prop) → Prop
structure Ends where
  nx : St → Hp → Prop
  rt : VK
  bk : St → Hp → Prop := fun _ _ => False
  ct : St → Hp → Prop := fun _ _ => False
abbrev TS := Ends → St → Hp → Prop
inductive EP (X : Cx) (pins : List (Addr × Obj)) (σ : St) (Q : VK) (u : Value) (s' : Shared) : Prop
  | mk (v : V) (H' : Hp) (I : Inv X pins σ H' s') (r : RelV v u) (q : Q v H')
inductive TP (X : Cx) (pins : List (Addr × Obj)) (σ : St) (Q : Bool → Hp → Prop) (b : Bool) (s' : Shared) : Prop
  | mk (H' : Hp) (I : Inv X pins σ H' s') (q : Q b H')
inductive AP (X : Cx) (pins : List (Addr × Obj)) (σ : St) (Q : List V → Hp → Prop) (us : List Value) (s' : Shared) : Prop
  | mk (vs : List V) (H' : Hp) (I : Inv X pins σ H' s') (r : Vals vs us) (q : Q vs H')
inductive SN (X : Cx) (pins : List (Addr × Obj)) (k : St → Hp → Prop) (s' : Shared) : Prop
  | mk (σ' : St) (H' : Hp) (I : Inv X pins σ' H' s') (q : k σ' H')
def SP (X : Cx) (pins : List (Addr × Obj)) (D : Ends) (f : Flow) (s' : Shared) : Prop :=
  match f with
  | .next => SN X pins D.nx s'
  | .brk => SN X pins D.bk s'
  | .cont => SN X pins D.ct s'
  | .ret u => ∃ v σ' H', Inv X pins σ' H' s' ∧ RelV v u ∧ D.rt v H'
def PE (X : Cx) (e : Expr) (t : TE) : Prop :=
  ∀ (pins : List (Addr × Obj)) (s : Shared) (σ : St) (H : Hp) (Q : VK), Inv X pins σ H s → t σ H Q → wpAny (model X.prog X.w) X.A (eval e X.env) (EP X pins σ Q) X.xe s
def PT (X : Cx) (e : Expr) (t : TT) : Prop :=
  ∀ (pins : List (Addr × Obj)) (s : Shared) (σ : St) (H : Hp) (Q : Bool → Hp → Prop), Inv X pins σ H s → t σ H Q → wpAny (model X.prog X.w) X.A (isTrue e X.env (eval e X.env)) (TP X pins σ Q) X.xe s
def PW (X : Cx) (e : Expr) (t : TT) : Prop :=
  ∀ (whole : Sem Value) (pins : List (Addr × Obj)) (s : Shared) (σ : St) (H : Hp) (Q : Bool → Hp → Prop), Inv X pins σ H s → t σ H Q → wpAny (model X.prog X.w) X.A (isTrue e X.env whole) (TP X pins σ Q) X.xe s
theorem PW.pt {X : Cx} {e : Expr} {t : TT} (h : PW X e t) : PT X e t := h _
def PA (X : Cx) (es : List Expr) (t : TA) : Prop :=
  ∀ (pos : Pos) (pins : List (Addr × Obj)) (s : Shared) (σ : St) (H : Hp) (Q : List V → Hp → Prop), Inv X pins σ H s → t σ H Q → wpAny (model X.prog X.w) X.A (spliced (backTo pos (starEach es X.env))) (AP X pins σ Q) X.xe s
def PS (X : Cx) (st : Stmt) (t : TS) : Prop :=
  ∀ (pins : List (Addr × Obj)) (s : Shared) (σ : St) (H : Hp) (D : Ends), Inv X pins σ H s → t D σ H → wpAny (model X.prog X.w) X.A (exec st X.env) (SP X pins D) X.xe s
def oJ (X : Cx) (st : List Stmt) (t : TS) : Prop :=
  ∀ (pins : List (Addr × Obj)) (s : Shared) (σ : St) (H : Hp) (D : Ends), Inv X pins σ H s → t D σ H → wpAny (model X.prog X.w) X.A (execs st X.env) (SP X pins D) X.xe s
theorem bJ {α : Type} {t : Sem α} {Q Q' : α → Shared → Prop} {M : Model} {A : Around} {E : Value → Shared → Prop} {s : Shared} (h : wpAny M A t Q E s) (hQ : ∀ a s, Q a s → Q' a s) : wpAny M A t Q' E s := wpAny_mono h hQ fun _ _ x => x
end L2
namespace L2
open PySem PySem.Spec PyProof.Rows
section
variable {X : Cx}
inductive Dl (i : Nat) (σ : St) (H : Hp) (Q : VK) : Prop
  | mk (v : V) (h : σ[i]? = some (some v)) (q : Q v H)
def qP (i : Nat) : TE := fun σ H Q => Dl i σ H Q
inductive zY (x : V) (H : Hp) (Q : Bool → Hp → Prop) : Prop
  | mk (c : Bool) (h : x = .bl c) (q : Q c H)
def tC (v : V) : TE := fun _ H Q => Q v H
theorem lS {i : Nat} {x : Str} {pos : Pos} (hN : X.N[i]? = some x) (hv : Cr X.env.scope x) (hd : (x == ("__debug__" : Str)) = false := by decide) (hcd : (x == ("__classdict__" : Str)) = false := by decide) : PE X (.Name x pos) (qP i) := by
  intro pins s σ H Q I h
  obtain ⟨v, e, h⟩ := h
  obtain ⟨m, hn, hl⟩ := I.loc
  obtain ⟨u, r, l⟩ := hl i x v hN e hv
  have fin : EP X pins σ Q u s := ⟨v, H, I, r, h⟩
  rcases l with ⟨hk, hm⟩ | ⟨hk, c, hc, hcell⟩
  · exact wpAny_Name (wpAny_loadName_local I.ok.kind hk hn hm fin) hd
  · rcases hk with hk | hk
    · exact wpAny_Name (wpAny_loadName_cell I.ok.kind hk hc hcell fin) hd
    · exact wpAny_Name (wpAny_loadName_free I.ok.kind hk hc hcell fin hcd) hd
theorem ag {i j pos} : PE X (.Constant (.int i) j pos) (tC (.int i)) := fun _ _ _ H _ I h => wpAny_Constant_int ⟨.int i, H, I.tok _, ⟨_, rfl⟩, h⟩
theorem cq {b j pos} : PE X (.Constant (.bool b) j pos) (tC (.bl b)) := fun _ _ _ H _ I h => Constant_bool ⟨.bl b, H, I, rfl, h⟩
theorem cS {j pos} : PE X (.Constant .none j pos) (tC .non) := fun _ _ _ H _ I h => Constant_none ⟨.non, H, I, rfl, h⟩
theorem aM {x j pos} : PE X (.Constant (.str x) j pos) (tC (.str x)) := fun _ _ _ H _ I h => Calls.Constant_str ⟨.str x, H, I.tok _, ⟨_, rfl⟩, h⟩
def Gl (X : Cx) (x : Str) : Prop := X.env.kindOf x = some .globalImplicit
theorem ie {E : Value → Shared → Prop} {pins : List (Addr × Obj)} {s : Shared} {σ : St} {H : Hp} {x : Str} {u : Value} {pos : Pos} {Q : Value → Shared → Prop} (I : Inv X pins σ H s) (hg : Gl X x) (hm : X.mg x = some u) (h : Q u s)
    (hd : (x == ("__debug__" : Str)) = false := by decide) : wpAny (model X.prog X.w) X.A (eval (.Name x pos) X.env) Q E s :=
  Calls.Name_function_global I.ok.kind hg (Calls.loadGlobal_global (by rw [I.ok.glob]; exact I.mod.glob.keeps I.bk) hm h) hd
theorem gE {E : Value → Shared → Prop} {pins : List (Addr × Obj)} {s : Shared} {σ : St} {H : Hp} {x : Str} {u : Value} {pos : Pos} {Q : Value → Shared → Prop} (I : Inv X pins σ H s) (hg : Gl X x) (hm : X.mg x = none) (hv : bootBuiltins x = some u) (h : Q u s)
    (hn : x ≠ "__name__" := by decide) (hd : (x == ("__debug__" : Str)) = false := by decide) : wpAny (model X.prog X.w) X.A (eval (.Name x pos) X.env) Q E s := by
  obtain ⟨mb, h1, h2⟩ := I.mod.blt
  exact Calls.Name_function_global I.ok.kind hg (Calls.loadGlobal_builtin (by rw [I.ok.glob]; exact I.mod.glob.keeps I.bk) hm (by rw [I.ok.blt]; exact h1.keeps I.bk) ((h2 x hn).trans hv) h) hd
theorem ft {x : Str} {v : V} {u : Value} {pos : Pos} (hg : Gl X x) (hm : X.mg x = some u) (r : RelV v u) (hd : (x == ("__debug__" : Str)) = false := by decide) : PE X (.Name x pos) (tC v) :=
  fun _ _ _ H _ I h => ie I hg hm ⟨v, H, I, r, h⟩ hd
theorem jy {x : Str} {v : V} {u : Value} {pos : Pos} (hg : Gl X x) (hm : X.mg x = none) (hv : bootBuiltins x = some u) (r : RelV v u) (hn : x ≠ "__name__" := by decide) (hd : (x == ("__debug__" : Str)) = false := by decide) : PE X (.Name x pos) (tC v) :=
  fun _ _ _ H _ I h => gE I hg hm hv ⟨v, H, I, r, h⟩ hn hd
def BJ (ta tb : TE) (k : Int → Int → Hp → Prop) : St → Hp → Prop := fun σ H => ta σ H fun x H1 => tb σ H1 fun y H2 => ∃ i j, x = .int i ∧ y = .int j ∧ k i j H2
def FD (ta tb : TE) : TE := fun σ H Q => BJ ta tb (fun i j H2 => Q (.int (i + j)) H2) σ H
def FT (ta tb : TE) : TE := fun σ H Q => BJ ta tb (fun i j H2 => Q (.int (i - j)) H2) σ H
def EI (ta tb : TE) : TE := fun σ H Q => BJ ta tb (fun i j H2 => (-(2 ^ 64) < i ∧ i < 2 ^ 64) ∧ Q (.int (i * j)) H2) σ H
variable {a b : Expr} {ta tb : TE} {pos : Pos}
def PC (X : Cx) (op : CmpOp) (a b : Expr) (t : TE) : Prop :=
  ∀ (pins : List (Addr × Obj)) (s : Shared) (σ : St) (H : Hp) (Q : VK), Inv X pins σ H s → t σ H Q →
    wpAny (model X.prog X.w) X.A (eval a X.env) (fun v s₁ => wpAny (model X.prog X.w) X.A (eval b X.env) (fun u s₂ => wpAny (model X.prog X.w) X.A (compareOp op v u) (EP X pins σ Q) X.xe s₂) X.xe s₁) X.xe s
def qD (p : Int → Int → Bool) (ta tb : TE) : TE := fun σ H Q => BJ ta tb (fun i j H2 => Q (.bl (p i j)) H2) σ H
abbrev Gh : TE → TE → TE := qD fun i j => decide (i < j)
abbrev Gq : TE → TE → TE := qD fun i j => decide (i ≤ j)
abbrev Gk : TE → TE → TE := qD fun i j => decide (j < i)
abbrev Gm : TE → TE → TE := qD fun i j => decide (j ≤ i)
abbrev E5 : TE → TE → TE := qD fun i j => decide (i = j)
abbrev E1 : TE → TE → TE := qD fun i j => !decide (i = j)
def Eu (ta : TE) : TE := fun σ H Q => ta σ H fun x H1 => Q (.bl (decide (x = .non))) H1
def Eo (ta : TE) : TE := fun σ H Q => ta σ H fun x H1 => Q (.bl (!decide (x = .non))) H1
def tB (t : TE) : TT := fun σ H Q => t σ H fun x H1 => zY x H1 Q
theorem oW {e : Expr} {t : TE} (h : PE X e t) (he : ∀ whole, isTrue e X.env whole = (do let v ← whole; standAt e.pos; holding [v] (truthy v)) := by intro _; rfl) : PT X e (tB t) := by
  intro pins s σ H Q I hw
  refine isTrue_plain (bJ (h pins s σ H _ I hw) fun v s1 hpat => ?_) (he _)
  obtain ⟨x, H1, I1, r1, q1⟩ := hpat
  obtain ⟨d, rfl, q⟩ := q1
  cases r1
  exact wpAny_truthy_bool ⟨H1, I1, q⟩
variable {tA tB' : TT} {rest : List Expr}
def zX (t u : TT) : TT := fun σ H Q => t σ H fun c H1 => if c = true then u σ H1 Q else Q false H1
def Eg (t u : TT) : TT := fun σ H Q => t σ H fun c H1 => if c = true then Q true H1 else u σ H1 Q
def AV (t : TT) : TT := fun σ H Q => t σ H fun c H1 => Q (!c) H1
theorem dQ (ha : PT X a tA) : PW X (.BoolOp .And [a] pos) tA := by
  intro wh pins s σ H Q I h
  refine isTrue_and (bJ (ha pins s σ H Q I h) fun c s1 e => ?_)
  cases c with
  | true => exact isTrue_and_nil e
  | false => exact e
theorem c8 (ha : PT X a tA) : PW X (.BoolOp .Or [a] pos) tA := by
  intro wh pins s σ H Q I h
  refine isTrue_or (bJ (ha pins s σ H Q I h) fun c s1 e => ?_)
  cases c with
  | false => exact isTrue_or_nil e
  | true => exact e
theorem fS (ha : PT X a tA) (hb : PW X (.BoolOp .And (b :: rest) pos) tB') : PW X (.BoolOp .And (a :: b :: rest) pos) (zX tA tB') := by
  intro wh pins s σ H Q I h
  refine isTrue_and (bJ (ha pins s σ H _ I h) fun c s1 ⟨H1, I1, q1⟩ => ?_)
  cases c with
  | true => exact hb wh pins s1 σ H1 Q I1 q1
  | false => exact ⟨H1, I1, q1⟩
theorem dW (ha : PT X a tA) (hb : PW X (.BoolOp .Or (b :: rest) pos) tB') : PW X (.BoolOp .Or (a :: b :: rest) pos) (Eg tA tB') := by
  intro wh pins s σ H Q I h
  refine isTrue_or (bJ (ha pins s σ H _ I h) fun c s1 ⟨H1, I1, q1⟩ => ?_)
  cases c with
  | true => exact ⟨H1, I1, q1⟩
  | false => exact hb wh pins s1 σ H1 Q I1 q1
theorem bf (ha : PT X a tA) : PT X (.UnaryOp .Not a pos) (AV tA) := by
  intro pins s σ H Q I h
  exact isTrue_not (bJ (ha pins s σ H (fun c H1 => Q (!c) H1) I h) fun c s1 q => q.casesOn fun H1 I1 q1 => ⟨H1, I1, q1⟩)
def wZ (ta tb : TE) : TE := fun σ H Q => ta σ H fun x H1 => zY x H1 fun c H2 => if c = true then tb σ H2 Q else Q (.bl false) H2
def As (ta tb : TE) : TE := fun σ H Q => ta σ H fun x H1 => zY x H1 fun c H2 => if c = true then Q (.bl true) H2 else tb σ H2 Q
def xm (ta : TE) : TE := fun σ H Q => ta σ H fun x H1 => zY x H1 fun c H2 => Q (.bl (!c)) H2
theorem bw {op} {t : TE} (h : PE X a t) : PE X (.BoolOp op [a] pos) t := fun pins s σ H Q I hw => BoolOp_one (h pins s σ H Q I hw)
theorem a8 (ha : PE X a ta) (hb : PE X (.BoolOp .And (b :: rest) pos) tb) : PE X (.BoolOp .And (a :: b :: rest) pos) (wZ ta tb) := by
  intro pins s σ H Q I h
  refine BoolOp_and (bJ (ha pins s σ H _ I h) fun v s1 hpat => ?_)
  obtain ⟨x, H1, I1, r1, q1⟩ := hpat
  obtain ⟨c, rfl, q1⟩ := q1
  cases r1
  refine wpAny_truthy_bool ?_
  cases c with
  | true => exact hb pins s1 σ H1 Q I1 q1
  | false => exact ⟨.bl false, H1, I1, rfl, q1⟩
theorem uc (ha : PE X a ta) (hb : PE X (.BoolOp .Or (b :: rest) pos) tb) : PE X (.BoolOp .Or (a :: b :: rest) pos) (As ta tb) := by
  intro pins s σ H Q I h
  refine BoolOp_or (bJ (ha pins s σ H _ I h) fun v s1 hpat => ?_)
  obtain ⟨x, H1, I1, r1, q1⟩ := hpat
  obtain ⟨c, rfl, q1⟩ := q1
  cases r1
  refine wpAny_truthy_bool ?_
  cases c with
  | false => exact hb pins s1 σ H1 Q I1 q1
  | true => exact ⟨.bl true, H1, I1, rfl, q1⟩
theorem jN (ha : PE X a ta) : PE X (.UnaryOp .Not a pos) (xm ta) := by
  intro pins s σ H Q I h
  refine UnaryOp_ (bJ (ha pins s σ H _ I h) fun v s1 hpat => ?_)
  obtain ⟨x, H1, I1, r1, q1⟩ := hpat
  obtain ⟨c, rfl, q1⟩ := q1
  cases r1
  exact not_of (wpAny_truthy_bool ⟨.bl (!c), H1, I1, rfl, q1⟩)
def Gr (t : TT) (ta tb : TE) : TE := fun σ H Q => t σ H fun c H1 => if c = true then ta σ H1 Q else tb σ H1 Q
end
end L2
namespace L2
open PySem PySem.Spec PyProof.Rows
def aE (K : PySem.W.Frag) (H : Hp) (a : Addr) (xs : List V) : Prop :=
  Rd H a (.lst xs) ∨
    ∃ (o : Obj) (its : Array Value) (n : Nat), K.lookup a = some o ∧ o.cls = .type "list" ∧ o.dict = none ∧ o.data = .seq its n ∧ its.size ≤ sizeLine ∧ Vals xs its.toList
def br (K : PySem.W.Frag) (H : Hp) (a : Addr) (xs : List V) : Prop :=
  Rd H a (.tup xs) ∨
    ∃ (o : Obj) (its : Array Value) (n : Nat), K.lookup a = some o ∧ o.cls = .type "tuple" ∧ o.data = .seq its n ∧ its.size ≤ sizeLine ∧ Vals xs its.toList
def Dm : Value → Option V
  | .none => some .non
  | .bool b => some (.bl b)
  | .int i _ => some (.int i)
  | .str x _ => some (.str x)
  | .bytes b _ => some (.byt b)
  | .float b _ => some (.flt b)
  | .ref a => some (.ref a)
  | .type n => some (.ty n)
  | _ => none
theorem RelV.abs {x : V} {u : Value} (r : RelV x u) : Dm u = some x := by
  cases x with
  | non => cases r; rfl
  | bl _ => cases r; rfl
  | int _ => obtain ⟨t, rfl⟩ := r; rfl
  | str _ => obtain ⟨t, rfl⟩ := r; rfl
  | byt _ => obtain ⟨t, rfl⟩ := r; rfl
  | flt _ => obtain ⟨t, rfl⟩ := r; rfl
  | ref _ => cases r; rfl
  | ty _ => cases r; rfl
theorem RelV.inj {x y : V} {u : Value} (r : RelV x u) (q : RelV y u) : x = y := Option.some.inj (r.abs.symm.trans q.abs)
theorem Vals.inj : ∀ {xs ys : List V} {us : List Value}, Vals xs us → Vals ys us → xs = ys
  | _, _, _, .nil, .nil => rfl
  | _, _, _, .cons r t, .cons r' t' => by rw [r.inj r', Vals.inj t t']
section
variable {X : Cx} {pins : List (Addr × Obj)} {σ : St} {H : Hp} {s : Shared} {a : Addr} {xs ys : List V}
theorem aE.of {K : PySem.W.Frag} (h : H a = some (.lst xs)) : aE K H a xs := .inl (.inl h)
theorem br.of {K : PySem.W.Frag} (h : H a = some (.tup xs)) : br K H a xs := .inl (.inl h)
theorem Inv.list (I : Inv X pins σ H s) (h : aE X.K H a xs) : ∃ its : List Value, Vals xs its ∧ PlainL s.heap a its.toArray ∧ xs.length ≤ sizeLine := by
  rcases h with h | ⟨o, its, n, hk, hc, hd, hs, hz, r⟩
  · obtain ⟨z, its, n, r, e⟩ := h.ok I.hok
    exact ⟨its, r, ⟨_, n, e, rfl, rfl, rfl⟩, z⟩
  · refine ⟨its.toList, r, ⟨o, n, I.dr a o hk, hc, hd, by simpa using hs⟩, ?_⟩
    have e := r.length
    simp only [Array.length_toList] at e
    omega
theorem Inv.tuple (I : Inv X pins σ H s) (h : br X.K H a xs) : ∃ its : List Value, Vals xs its ∧ IsTup s.heap a its.toArray ∧ xs.length ≤ sizeLine := by
  rcases h with h | ⟨o, its, n, hk, hc, hs, hz, r⟩
  · obtain ⟨z, its, r, p⟩ := h.ok I.hok
    exact ⟨its, r, p, z⟩
  · refine ⟨its.toList, r, ⟨o, I.dr a o hk, hc, n, by simpa using hs⟩, ?_⟩
    have e := r.length
    simp only [Array.length_toList] at e
    omega
theorem Inv.jL (I : Inv X pins σ H s) (h : aE X.K H a xs) (h' : aE X.K H a ys) : xs = ys := by
  obtain ⟨its, r, ⟨o, n, e, _, _, d⟩, _⟩ := I.list h
  obtain ⟨its', r', ⟨o', n', e', _, _, d'⟩, _⟩ := I.list h'
  rw [e] at e'; cases e'
  rw [d] at d'
  injection d' with d1 _
  have : its = its' := by simpa using congrArg Array.toList d1
  subst this
  exact r.inj r'
theorem Inv.lh (I : Inv X pins σ H s) (h : br X.K H a xs) (h' : br X.K H a ys) : xs = ys := by
  obtain ⟨its, r, ⟨o, e, _, n, d⟩, _⟩ := I.tuple h
  obtain ⟨its', r', ⟨o', e', _, n', d'⟩, _⟩ := I.tuple h'
  rw [e] at e'; cases e'
  rw [d] at d'
  injection d' with d1 _
  have : its = its' := by simpa using congrArg Array.toList d1
  subst this
  exact r.inj r'
end
abbrev Cx.gL (X : Cx) (E : Value → Shared → Prop) : Cx := { X with xe := E }
abbrev Cx.gZ (X : Cx) : Cx := X.gL fun _ _ => False
theorem Cx.Ok.gL {X : Cx} (ok : X.Ok) (E : Value → Shared → Prop) : (X.gL E).Ok :=
  ⟨ok.mod, ok.kind, ok.glob, ok.blt, ok.above, ok.inj, ok.has, ok.cab, ok.hd, ok.frames, ok.stk, ok.exf, ok.bs, ok.bsz, ok.noex, ok.exfs, ok.iS, ok.frf⟩
theorem Cx.Ok.c6 {X : Cx} {E : Value → Shared → Prop} (ok : (X.gL E).Ok) : X.Ok :=
  ⟨ok.mod, ok.kind, ok.glob, ok.blt, ok.above, ok.inj, ok.has, ok.cab, ok.hd, ok.frames, ok.stk, ok.exf, ok.bs, ok.bsz, ok.noex, ok.exfs, ok.iS, ok.frf⟩
section
variable {X : Cx} {pins : List (Addr × Obj)} {σ : St} {H : Hp} {s : Shared} {E : Value → Shared → Prop}
theorem Inv.gL (I : Inv X pins σ H s) (E : Value → Shared → Prop) : Inv (X.gL E) pins σ H s := ⟨I.ok.gL E, I.os, I.bare, I.base, I.loc, I.cell, I.free, I.freeC, I.pin, I.hok, I.len⟩
theorem Inv.c6 (I : Inv (X.gL E) pins σ H s) : Inv X pins σ H s := ⟨I.ok.c6, I.os, I.bare, I.base, I.loc, I.cell, I.free, I.freeC, I.pin, I.hok, I.len⟩
theorem SP.c6 {D : Ends} {f : Flow} {s' : Shared} (h : SP (X.gL E) pins D f s') : SP X pins D f s' := by
  cases f with
  | next => obtain ⟨σ', H', I, q⟩ := h; exact ⟨σ', H', I.c6, q⟩
  | brk => obtain ⟨σ', H', I, q⟩ := h; exact ⟨σ', H', I.c6, q⟩
  | cont => obtain ⟨σ', H', I, q⟩ := h; exact ⟨σ', H', I.c6, q⟩
  | ret u => obtain ⟨v, σ', H', I, r, q⟩ := h; exact ⟨v, σ', H', I.c6, r, q⟩
theorem PE.gZ {e : Expr} {t : TE} (h : PE X.gZ e t) : PE X e t := fun pins s σ H Q I hw =>
  wpAny_mono (h pins s σ H Q (I.gL _) hw) (fun _ _ ⟨v, H', I', r, q⟩ => ⟨v, H', I'.c6, r, q⟩) fun _ _ z => False.elim z
theorem PT.gZ {e : Expr} {t : TT} (h : PT X.gZ e t) : PT X e t := fun pins s σ H Q I hw =>
  wpAny_mono (h pins s σ H Q (I.gL _) hw) (fun _ _ ⟨H', I', q⟩ => ⟨H', I'.c6, q⟩) fun _ _ z => False.elim z
theorem oJ.gZ {st : List Stmt} {t : TS} (h : oJ X.gZ st t) : oJ X st t := fun pins s σ H D I hw =>
  wpAny_mono (h pins s σ H D (I.gL _) hw) (fun _ _ q => q.c6) fun _ _ z => False.elim z
end
section
variable {X : Cx} {st : Stmt} {rest : List Stmt} {t u : TS} {e : Expr} {te : TE} {pos : Pos}
def xw : TS := fun D σ H => D.nx σ H
def Ah (t u : TS) : TS := fun D σ H => t { D with nx := u D } σ H
theorem aF : oJ X [] xw := fun _ _ σ H _ I h => wpAny_execs_nil ⟨σ, H, I, h⟩
theorem ai (h1 : PS X st t) (h2 : oJ X rest u) : oJ X (st :: rest) (Ah t u) := by
  intro pins s σ H D I h
  refine wpAny_execs_cons (bJ (h1 pins s σ H { D with nx := u D } I h) fun f s1 q => ?_)
  cases f with
  | next =>
    obtain ⟨σ', H', I', q⟩ := q
    exact h2 pins s1 σ' H' D I' q
  | ret v => exact q
  | brk => exact q
  | cont => exact q
theorem ar (h1 : PS X st t) : oJ X [st] t := by
  intro pins s σ H D I h
  refine wpAny_execs_cons (bJ (h1 pins s σ H D I h) fun f s1 q => ?_)
  cases f with
  | next => exact wpAny_execs_nil q
  | ret v => exact q
  | brk => exact q
  | cont => exact q
def Dk : TS := fun D σ H => D.bk σ H
def El : TS := fun D σ H => D.ct σ H
theorem Inv.quiet {pins : List (Addr × Obj)} {σ : St} {H : Hp} {s : Shared} (I : Inv X pins σ H s) : interactive X.env = false := by simp [interactive, I.ok.kind]
def uh (te : TE) : TS := fun D σ H => te σ H fun _ H1 => D.nx σ H1
theorem wJ (he : PE X e te) (hs : swapsWith e none pos.line X.env = pure false := by rfl) : PS X (.Expr e pos) (uh te) := by
  intro pins s σ H D I h
  exact wpAny_Expr_any (bJ (he pins s σ H _ I h) fun v s1 ⟨x, H1, I1, r1, q1⟩ => ⟨σ, H1, I1, q1⟩) I.quiet hs
def qS (te : TE) : TS := fun D σ H => te σ H D.rt
theorem aw (he : PE X e te) : PS X (.Return (some e) pos) (qS te) := by
  intro pins s σ H D I h
  exact wpAny_Return_some (bJ (he pins s σ H _ I h) fun v s1 ⟨x, H1, I1, r1, q1⟩ => ⟨x, σ, H1, I1, r1, q1⟩)
def DL : TS := fun D _ H => D.rt .non H
def AE (c : TT) (t u : TS) : TS := fun D σ H => c σ H fun b H1 => if b = true then t D σ H1 else u D σ H1
theorem aN {c : Expr} {a b : List Stmt} {tc : TT} (hc : PT X c tc) (ha : oJ X a t) (hb : oJ X b u) : PS X (.If c a b pos) (AE tc t u) := by
  intro pins s σ H D I h
  refine wpAny_If (bJ (hc pins s σ H _ I h) fun d s1 ⟨H1, I1, q1⟩ => ?_)
  cases d with
  | true => exact ha pins s1 σ H1 D I1 q1
  | false => exact hb pins s1 σ H1 D I1 q1
def C7 : TS := fun _ _ _ => False
end
abbrev TG := V → St → Hp → (St → Hp → Prop) → Prop
abbrev jh := List V → St → Hp → (St → Hp → Prop) → Prop
def PG (X : Cx) (target : Expr) (t : TG) : Prop :=
  ∀ (pins : List (Addr × Obj)) (s : Shared) (σ : St) (H : Hp) (v : V) (u : Value) (Q : St → Hp → Prop), Inv X pins σ H s → RelV v u → t v σ H Q →
    wpAny (model X.prog X.w) X.A (assign target X.env u) (fun _ s' => ∃ σ' H', Inv X pins σ' H' s' ∧ Q σ' H') X.xe s
def Am (X : Cx) (ts : List Expr) (t : jh) : Prop :=
  ∀ (pins : List (Addr × Obj)) (s : Shared) (σ : St) (H : Hp) (vs : List V) (us : List Value) (Q : St → Hp → Prop), Inv X pins σ H s → Vals vs us → t vs σ H Q →
    wpAny (model X.prog X.w) X.A (assignInOrder ((assignEach ts X.env).map (·.2)) us) (fun _ s' => ∃ σ' H', Inv X pins σ' H' s' ∧ Q σ' H') X.xe s
abbrev ua := V → V → V → Hp → (Hp → Prop) → Prop
def vH (X : Cx) (t : ua) : Prop :=
  ∀ (pins : List (Addr × Obj)) (s : Shared) (σ : St) (H : Hp) (o i v : V) (ov iv u : Value) (Q : Hp → Prop), Inv X pins σ H s → RelV o ov → RelV i iv → RelV v u → t o i v H Q →
    wpAny (model X.prog X.w) X.A (setItem ov iv u) (fun _ s' => ∃ H', Inv X pins σ H' s' ∧ Q H') X.xe s
abbrev Bx := V → V → Hp → VK → Prop
def Gn (X : Cx) (op : Operator) (t : Bx) : Prop :=
  ∀ (pins : List (Addr × Obj)) (s : Shared) (σ : St) (H : Hp) (x y : V) (v u : Value) (Q : VK), Inv X pins σ H s → RelV x v → RelV y u → t x y H Q →
    wpAny (model X.prog X.w) X.A (inplaceOp op v u) (EP X pins σ Q) X.xe s
section
variable {X : Cx} {pos : Pos}
def fu (i : Nat) : TG := fun v σ H Q => Q (σ.set i (some v)) H
theorem jq {i : Nat} {x : Str} (hN : X.N.Nodup) (hi : X.N[i]? = some x) (hx : Loc X.env.scope x) (hf : X.fn x = true ∨ X.env.scope.names.lookup x = some .local := by first | exact .inl rfl | exact .inr rfl | assumption) : PG X (.Name x pos) (fu i) := by
  intro pins s σ H v u Q I r h
  exact wpAny_assign_Name (fT I hN hi hx r (fun s' I' => ⟨_, H, I', h⟩) hf)
def Ar : jh := fun vs σ H Q => vs = [] ∧ Q σ H
inductive Be (t : TG) (u : jh) (vs : List V) (σ : St) (H : Hp) (Q : St → Hp → Prop) : Prop
  | mk (v : V) (r : List V) (e : vs = v :: r) (q : t v σ H fun σ' H' => u r σ' H' Q)
def xj (t : TG) (u : jh) : jh := fun vs σ H Q => Be t u vs σ H Q
theorem fe : Am X [] Ar := by
  intro pins s σ H vs us Q I r h
  obtain ⟨e, h⟩ := h
  subst e
  cases r
  exact assignInOrder_nil ⟨σ, H, I, h⟩
theorem sP {e : Expr} {es : List Expr} {t : TG} {u : jh} (h1 : PG X e t) (h2 : Am X es u)
    (hs : (assignEach (e :: es) X.env).map (·.2) = assign e X.env :: (assignEach es X.env).map (·.2) := by rfl) : Am X (e :: es) (xj t u) := by
  intro pins s σ H vs us Q I r h
  obtain ⟨v, vr, e1, h⟩ := h
  subst e1
  cases r with
  | cons r rr =>
    rw [hs]
    refine assignInOrder_cons (bJ (h1 pins s σ H _ _ _ I r h) fun _ s1 hpat => ?_)
    obtain ⟨σ1, H1, I1, q1⟩ := hpat
    exact h2 pins s1 σ1 H1 _ _ Q I1 rr q1
inductive Dv (K : PySem.W.Frag) (n : Nat) (t : jh) (v : V) (σ : St) (H : Hp) (Q : St → Hp → Prop) : Prop
  | mk (a : Addr) (xs : List V) (hv : v = .ref a) (s : br K H a xs) (e : xs.length = n) (q : t xs σ H Q)
def zT (K : PySem.W.Frag) (n : Nat) (t : jh) : TG := fun v σ H Q => Dv K n t v σ H Q
theorem gC {es : List Expr} {k : Nat} {t : jh} {n : Nat} (hc : X.calm = true) (h : Am X es t)
    (hn : (assignEach es X.env).length = n := by rfl) (hst : (assignEach es X.env).findIdx? (·.1) = none := by rfl) : PG X (.Tuple es k pos) (zT X.K n t) := by
  intro pins s σ H v u Q I r hw
  obtain ⟨a, xs, e1, hq, hl, hw⟩ := hw
  subst e1
  cases r
  obtain ⟨its, rv, ht, hz⟩ := I.tuple hq
  refine assign_Tuple_tuple (I.ok.hd hc) ht (by simp [hn, ← hl, rv.length]) hst fun h' hx => ?_
  have I1 : Inv X pins σ H { s with heap := h' } := I.kept (t' := s.toks) fun b o e => hx b o (Nat.ne_of_lt (Heap.lt_size e)) e
  exact h pins _ σ H xs _ Q I1 (by simpa using rv) hw
def Au (to ti : TE) (t : ua) : TG := fun v σ H Q => to σ H fun o H1 => ti σ H1 fun i H2 => t o i v H2 fun H3 => Q σ H3
theorem lM {o i : Expr} {to ti : TE} {t : ua} (ho : PE X o to) (hi : PE X i ti) (hs : vH X t)
    (ha : ∀ v, assign (.Subscript o i pos) X.env v = (do
      let ov ← holding [v] (eval o X.env)
      let iv ← holding [v, ov] (eval i X.env)
      standAt pos
      holding [v, ov, iv] (setItem ov iv v)
      release [v, ov, iv] []) := by intro _; rfl) : PG X (.Subscript o i pos) (Au to ti t) := by
  intro pins s σ H v u Q I r h
  rw [ha]
  refine wpAny_bind (wpAny_holding (bJ (ho pins s σ H _ I h) fun ov s1 hpat => ?_))
  obtain ⟨x, H1, I1, r1, q1⟩ := hpat
  refine wpAny_bind (wpAny_holding (bJ (hi pins s1 σ H1 _ I1 q1) fun iv s2 hpat => ?_))
  obtain ⟨y, H2, I2, r2, q2⟩ := hpat
  refine wpAny_bind (wpAny_standAt (wpAny_bind (wpAny_holding (bJ (hs pins s2 σ H2 x y v ov iv u _ I2 r1 r2 r q2) fun _ s3 ⟨H3, I3, q3⟩ => ?_))))
  exact wpAny_release ⟨σ, H3, I3, q3⟩
def o7 (te : TE) (g : TG) : TS := fun D σ H => te σ H fun x H1 => g x σ H1 D.nx
theorem yY {tg e : Expr} {te : TE} {g : TG} (he : PE X e te) (hg : PG X tg g) (hs : swapsWithSole [tg] e pos.line X.env = pure false := by rfl) (hw : swappedStores [tg] e X.env = pure none := by rfl)
    (h1 : (assignEach [tg] X.env).map (·.2) = [assign tg X.env] := by rfl) : PS X (.Assign [tg] e pos) (o7 te g) := by
  intro pins s σ H D I h
  refine wpAny_Assign_stores (bJ (he pins s σ H _ I h) fun v s1 hpat => ?_) hs hw
  obtain ⟨x, H1, I1, r1, q1⟩ := hpat
  rw [h1]
  exact bJ (hg pins s1 σ H1 x v _ I1 r1 q1) fun _ s2 ⟨a, b, c, d⟩ => ⟨a, b, c, d⟩
theorem zg {i : Nat} {x : Str} {e : Expr} {te : TE} {pos' : Pos} (hN : X.N.Nodup) (hi : X.N[i]? = some x) (hx : Loc X.env.scope x) (he : PE X e te) (hs : swapsWith e (some (.Name x pos')) pos.line X.env = pure false := by rfl) (hf : X.fn x = true ∨ X.env.scope.names.lookup x = some .local := by first | exact .inl rfl | exact .inr rfl | assumption) :
    PS X (.Assign [.Name x pos'] e pos) (o7 te (fu i)) := by
  intro pins s σ H D I h
  refine wpAny_Assign_Name (bJ (he pins s σ H _ I h) fun v s1 hpat => ?_) hs
  obtain ⟨y, H1, I1, r1, q1⟩ := hpat
  exact fT I1 hN hi hx r1 (fun s2 I2 => ⟨_, H1, I2, q1⟩) hf
def ER (i j : Nat) (ta : TA) : TS := fun D σ H => ta σ H fun vs H1 => ∃ v w, vs = [v, w] ∧ D.nx ((σ.set i (some v)).set j (some w)) H1
def FE (i : Nat) (te : TE) (ti : Bx) : TS := fun D σ H => ∃ x, σ[i]? = some (some x) ∧ te σ H fun y H1 => ti x y H1 fun z H2 => D.nx (σ.set i (some z)) H2
def DH (to ti te : TE) (tget : V → V → Hp → VK → Prop) (tip : Bx) (tset : ua) : TS := fun D σ H => to σ H fun o H1 => ti σ H1 fun i H2 => tget o i H2 fun x H3 => te σ H3 fun y H4 => tip x y H4 fun z H5 => tset o i z H5 fun H6 => D.nx σ H6
def ET (X : Cx) (t : V → V → Hp → VK → Prop) : Prop :=
  ∀ (pins : List (Addr × Obj)) (s : Shared) (σ : St) (H : Hp) (o i : V) (ov iv : Value) (Q : VK), Inv X pins σ H s → RelV o ov → RelV i iv → t o i H Q →
    wpAny (model X.prog X.w) X.A (getItem ov iv) (EP X pins σ Q) X.xe s
def Ga (f : Int → Int → Int) : Bx := fun x y H Q => ∃ i j, x = .int i ∧ y = .int j ∧ Q (.int (f i j)) H
end
section
variable {X : Cx} {pos : Pos}
def Cu (c : TT) (tb : TS) : TS := fun D σ H => ∃ W : Nat → St → Hp → Prop, (∃ m, W m σ H) ∧ ∀ m σ H, W m σ H →
  c σ H fun b H1 => if b = true then ∃ N : St → Hp → Prop, (∀ σ' H', N σ' H' → ∃ m', m' < m ∧ W m' σ' H') ∧ tb { D with nx := N, ct := N, bk := D.nx } σ H1 else D.nx σ H1
end
structure It where
  go : Nat → Hp → Prop
  yld : Nat → Hp → V → Hp → Prop
  stop : Nat → Hp → Prop
def gK (X : Cx) (pins : List (Addr × Obj)) (H : Hp) (b : Addr) : Prop :=
  H b = none ∧ b ≠ X.env.locals ∧ b ∉ X.fs ∧ (b ∈ X.ex ∨ X.s₀.heap.objs.size ≤ b) ∧ (∀ x c, X.env.cells.lookup x = some c → c ≠ b) ∧ ∀ p ∈ X.pn ++ pins, p.1 ≠ b
theorem Inv.mW {X : Cx} {pins : List (Addr × Obj)} {σ : St} {H H' : Hp} {s : Shared} {b : Addr} (I : Inv X pins σ H s) (hb : s.heap.objs.size ≤ b) (hn : H' b = none) : gK X pins H' b := by
  refine ⟨hn, Nat.ne_of_gt (Nat.lt_of_lt_of_le I.lt hb), I.Cd hb, .inr (Nat.le_trans I.sz hb), fun x c e z => ?_, fun p hp z => ?_⟩
  · obtain ⟨v, q⟩ := I.cell x c e
    exact absurd (Nat.lt_of_lt_of_le q.lt (by rw [z]; exact hb)) (Nat.lt_irrefl _)
  · exact absurd (Nat.lt_of_lt_of_le (Heap.lt_size (I.pin p hp).1) (by rw [z]; exact hb)) (Nat.lt_irrefl _)
structure Turn (P : Program) (w : World) (K : PySem.W.Frag) (tg : Expr) (J : It) (fp : List Addr) (it : Addr) (tn : Nat → Heap → Prop) : Prop where
  mem : it ∈ fp
  obj : ∀ i h, tn i h → ∀ b ∈ fp, ∃ o, h.get? b = some o ∧ ∀ v, o.data ≠ .cell v
  keep : ∀ i h h', tn i h → (∀ b ∈ fp, ∀ o, h.get? b = some o → h'.get? b = some o) → tn i h'
  item : ∀ (X : Cx), X.prog = P → X.w = w → X.K = K → X.calm = true → ∀ (i : Nat) (pins : List (Addr × Obj)) (s : Shared) (σ : St) (H : Hp) (E : Value → Shared → Prop), Inv X pins σ H s → (∀ b ∈ fp, gK X pins H b) → tn i s.heap → J.go i H →
    wpAny (model P w) X.A (pyNext (.ref it)) (fun r s1 => ∃ u, r = some u ∧
      wpAny (model P w) X.A (letOwnedTupleGo tg (.ref it) u) (fun _ s2 => ∃ x H', Inv X pins σ H' s2 ∧ RelV x u ∧ J.yld i H x H' ∧ tn (i + 1) s2.heap ∧ ∀ b ∈ fp, H' b = none) E s1) E s
  done : ∀ (X : Cx), X.prog = P → X.w = w → X.K = K → X.calm = true → ∀ (i : Nat) (pins : List (Addr × Obj)) (s : Shared) (σ : St) (H : Hp) (E : Value → Shared → Prop), Inv X pins σ H s → (∀ b ∈ fp, gK X pins H b) → tn i s.heap → J.stop i H →
    wpAny (model P w) X.A (pyNext (.ref it)) (fun r s1 => r = none ∧ Inv X pins σ H s1) E s
  self : ∀ (A : Around) (i : Nat) (s : Shared) (Q : Value → Shared → Prop) (E : Value → Shared → Prop), tn i s.heap → Q (.ref it) s → wpAny (model P w) A (pyIter (.ref it)) Q E s
abbrev TI := St → Hp → (It → Hp → Prop) → Prop
def Cv (X : Cx) (pins : List (Addr × Obj)) (σ : St) (tg : Expr) (R : It → Hp → Prop) (itv : Value) (s2 : Shared) : Prop :=
  ∃ (it : Addr) (fp : List Addr) (tn : Nat → Heap → Prop) (J : It) (H' : Hp), itv = .ref it ∧ Inv X pins σ H' s2 ∧ Turn X.prog X.w X.K tg J fp it tn ∧ tn 0 s2.heap ∧ (∀ b ∈ fp, gK X pins H' b) ∧ R J H'
def PI (X : Cx) (tg iter : Expr) (wi : TI) : Prop :=
  ∀ (pins : List (Addr × Obj)) (s : Shared) (σ : St) (H : Hp) (R : It → Hp → Prop), Inv X pins σ H s → wi σ H R →
    wpAny (model X.prog X.w) X.A (eval iter X.env) (fun v s1 => wpAny (model X.prog X.w) X.A (pyIter v) (Cv X pins σ tg R) X.xe s1) X.xe s
theorem pP {M : Model} {A : Around} {E : Value → Shared → Prop} {s : Shared} {tg : Expr} {it : Addr} {u : Value} {o : Obj} {n : String} {vs : Array Value} {Q : Unit → Shared → Prop} (ho : s.heap.get? it = some o) (hc : o.cls = .type n) (hd : o.data = .fields vs)
    (hn : ["enumerate", "zip", "dict_itemiterator", "dict_reverseitemiterator", "odict_iterator", "itertools.zip_longest", "itertools.pairwise"].contains n = false) (hQ : Q () s) : wpAny M A (letOwnedTupleGo tg (.ref it) u) Q E s := by
  unfold letOwnedTupleGo
  cases tg <;> first
    | exact wpAny_pure hQ
    | (cases u <;> first
        | exact wpAny_pure hQ
        | (refine wpAny_bind (wpAny_load ho ?_)
           rw [hc, hd]
           show wpAny M A (if (["enumerate", "zip", "dict_itemiterator", "dict_reverseitemiterator", "odict_iterator", "itertools.zip_longest", "itertools.pairwise"].contains n && vs[0]? == some (rawInt _)) = true then _ else _) Q E s
           rw [if_neg (by intro h; rw [hn, Bool.false_and] at h; cases h)]
           exact wpAny_pure hQ))
def Dh (K : PySem.W.Frag) (a : Addr) : It :=
  ⟨fun i H => ∃ xs x, aE K H a xs ∧ xs[i]? = some x, fun i H x H' => H' = H ∧ ∀ xs, aE K H a xs → xs[i]? = some x, fun i H => ∃ xs, aE K H a xs ∧ xs.length ≤ i⟩
def Dr (K : PySem.W.Frag) (a : Addr) : It :=
  ⟨fun i H => ∃ xs x, br K H a xs ∧ xs[i]? = some x, fun i H x H' => H' = H ∧ ∀ xs, br K H a xs → xs[i]? = some x, fun i H => ∃ xs, br K H a xs ∧ xs.length ≤ i⟩
def xn (lo : Int) (n : Nat) : It := ⟨fun i _ => i < n, fun i H x H' => H' = H ∧ x = .int (lo + i), fun i _ => n ≤ i⟩
theorem qi {P : Program} {w : World} {K : PySem.W.Frag} {tg : Expr} (a it : Addr) : Turn P w K tg (Dh K a) [it] it (fun i h => h.IsListIter it a i) where
  mem := by simp
  obj := fun i h st b hb => by
    have e : b = it := by simpa using hb
    subst e
    obtain ⟨o, e, c, d⟩ := st
    exact ⟨o, e, fun v z => by rw [d] at z; cases z⟩
  keep := fun i h h' st k => st.at fun o e => k it (by simp) o e
  item := by
    intro X hP hw hK hc i pins s σ H E I hf st hg
    subst hP hw hK
    obtain ⟨xs, x, hq, hx⟩ := hg
    obtain ⟨its, rv, p, hz⟩ := I.list hq
    obtain ⟨u, hu, ru⟩ := rv.get hx
    obtain ⟨f0, f1, f2, f3, f4, f5⟩ := hf it (by simp)
    refine wpAny_pyNext_list_item st p.isList (x := u) (by simpa using hu) fun h' st' sb => ?_
    have I1 : Inv X pins σ H { s with heap := h' } := I.turned (t' := s.toks) (fun b o hb e => (sb.2 b hb).trans e) f0 f1 f3 f4 f5
    obtain ⟨o, e, c, d⟩ := id st'
    exact ⟨u, rfl, pP (s := { s with heap := h' }) e c d (by decide) ⟨x, H, I1, ru, ⟨rfl, fun ys hy => by rw [I.jL hy hq]; exact hx⟩, st', fun b hb => (hf b hb).1⟩⟩
  done := by
    intro X hP hw hK hc i pins s σ H E I hf st hg
    subst hP hw hK
    obtain ⟨xs, hq, hx⟩ := hg
    obtain ⟨its, rv, p, hz⟩ := I.list hq
    obtain ⟨f0, f1, f2, f3, f4, f5⟩ := hf it (by simp)
    have hl := rv.length
    exact wpAny_pyNext_list_end (I.ok.hd hc) st p.isList (by simp; omega) fun h' eb => ⟨rfl, I.turned (t' := s.toks) (fun b o hb e => eb b o hb e) f0 f1 f3 f4 f5⟩
  self := fun _ _ _ _ _ st h => wpAny_pyIter_listiter st h
theorem oP {P : Program} {w : World} {K : PySem.W.Frag} {tg : Expr} (a it : Addr) : Turn P w K tg (Dr K a) [it] it (fun i h => h.IsTupleIter it a i) where
  mem := by simp
  obj := fun i h st b hb => by
    have e : b = it := by simpa using hb
    subst e
    obtain ⟨o, e, c, d⟩ := st
    exact ⟨o, e, fun v z => by rw [d] at z; cases z⟩
  keep := fun i h h' st k => st.at fun o e => k it (by simp) o e
  item := by
    intro X hP hw hK hc i pins s σ H E I hf st hg
    subst hP hw hK
    obtain ⟨xs, x, hq, hx⟩ := hg
    obtain ⟨its, rv, p, hz⟩ := I.tuple hq
    obtain ⟨u, hu, ru⟩ := rv.get hx
    obtain ⟨f0, f1, f2, f3, f4, f5⟩ := hf it (by simp)
    refine wpAny_pyNext_tuple_item st (show s.heap.IsTuple a its.toArray from p) (x := u) (by simpa using hu) fun h' st' sb => ?_
    have I1 : Inv X pins σ H { s with heap := h' } := I.turned (t' := s.toks) (fun b o hb e => (sb.2 b hb).trans e) f0 f1 f3 f4 f5
    obtain ⟨o, e, c, d⟩ := id st'
    exact ⟨u, rfl, pP (s := { s with heap := h' }) e c d (by decide) ⟨x, H, I1, ru, ⟨rfl, fun ys hy => by rw [I.lh hy hq]; exact hx⟩, st', fun b hb => (hf b hb).1⟩⟩
  done := by
    intro X hP hw hK hc i pins s σ H E I hf st hg
    subst hP hw hK
    obtain ⟨xs, hq, hx⟩ := hg
    obtain ⟨its, rv, p, hz⟩ := I.tuple hq
    obtain ⟨f0, f1, f2, f3, f4, f5⟩ := hf it (by simp)
    have hl := rv.length
    exact wpAny_pyNext_tuple_end (I.ok.hd hc) st (show s.heap.IsTuple a its.toArray from p) (by simp; omega) fun h' eb => ⟨rfl, I.turned (t' := s.toks) (fun b o hb e => eb b o hb e) f0 f1 f3 f4 f5⟩
  self := fun _ _ _ _ _ st h => wpAny_pyIter_tupleiter st h
theorem oz {P : Program} {w : World} {K : PySem.W.Frag} {tg : Expr} (it : Addr) (lo : Int) (n : Nat) : Turn P w K tg (xn lo n) [it] it (fun i h => IsRangeIter h it (lo + (i : Nat) * 1) ((n : Int) - (i : Nat)) 1) where
  mem := by simp
  obj := fun i h st b hb => by
    have e : b = it := by simpa using hb
    subst e
    exact ⟨_, st, fun v z => by
      have z' : Data.fields _ = Data.cell v := z
      cases z'⟩
  keep := fun i h h' st k => k it (by simp) _ st
  item := by
    intro X hP hw hK hc i pins s σ H E I hf st hg
    subst hP hw hK
    obtain ⟨f0, f1, f2, f3, f4, f5⟩ := hf it (by simp)
    have W := Walks.range (prog := X.prog) (w := X.w) (I.ok.hd hc) it lo 1 n
    refine W.item i s _ _ hg st fun v h' tk hv st' kk => ?_
    obtain ⟨t, rfl⟩ := hv
    have I1 : Inv X pins σ H { s with heap := h', toks := tk } := I.turned (fun b o hb e => kk b o (by simpa using hb) e) f0 f1 f3 f4 f5
    refine ⟨_, rfl, pP (s := { s with heap := h', toks := tk }) (n := "range_iterator") st' rfl rfl (by decide) ⟨.int (lo + i), H, I1, ⟨t, ?_⟩, ⟨rfl, rfl⟩, st', fun b hb => (hf b hb).1⟩⟩
    rw [Int.mul_one]
  done := by
    intro X hP hw hK hc i pins s σ H E I hf st hg
    subst hP hw hK
    obtain ⟨f0, f1, f2, f3, f4, f5⟩ := hf it (by simp)
    exact wpAny_pyNext_range_end (I.ok.hd hc) st (by have : n ≤ i := hg; omega) fun h' eb => ⟨rfl, I.turned (t' := s.toks) (fun b o hb e => eb b o hb e) f0 f1 f3 f4 f5⟩
  self := fun _ _ _ _ _ st h => wpAny_pyIter_rangeiter st h
end L2
namespace L2
open PySem PySem.Spec PyProof.Rows
section
variable {X : Cx} {tg : Expr}
inductive yf (K : PySem.W.Frag) (x : V) (H : Hp) (R : It → Hp → Prop) : Prop
  | mk (a : Addr) (e : x = .ref a) (s : ∃ xs, aE K H a xs) (q : R (Dh K a) H)
def w8 (K : PySem.W.Frag) (tl : TE) : TI := fun σ H R => tl σ H fun x H1 => yf K x H1 R
def Bn (K : PySem.W.Frag) (tl : TE) : TI := fun σ H R => tl σ H fun x H1 => ∃ a, x = .ref a ∧ (∃ xs, br K H1 a xs) ∧ R (Dr K a) H1
theorem eW {l : Expr} {tl : TE} (hl : PE X l tl) : PI X tg l (w8 X.K tl) := by
  intro pins s σ H R I h
  refine bJ (hl pins s σ H _ I h) fun v s1 hpat => ?_
  obtain ⟨x, H1, I1, r1, q1⟩ := hpat
  obtain ⟨a, e, ⟨xs, hq⟩, q⟩ := q1
  subst e
  cases r1
  obtain ⟨its, rv, p, hz⟩ := I1.list hq
  refine wpAny_pyIter_list p.isList ?_
  refine ⟨s1.heap.objs.size, [s1.heap.objs.size], _, _, H1, rfl, I1.kept (t' := s1.toks) fun b o e => Heap.get?_push_of_some _ e, qi a _, ⟨_, Heap.get?_push_size _ rfl, rfl, rfl⟩, fun b hb => ?_, q⟩
  have e : b = s1.heap.objs.size := by simpa using hb
  subst e
  exact I1.mW (Nat.le_refl _) (I1.hok.fresh (Nat.le_refl _))
theorem pw {l : Expr} {tl : TE} (hl : PE X l tl) : PI X tg l (Bn X.K tl) := by
  intro pins s σ H R I h
  refine bJ (hl pins s σ H _ I h) fun v s1 hpat => ?_
  obtain ⟨x, H1, I1, r1, q1⟩ := hpat
  obtain ⟨a, e, ⟨xs, hq⟩, q⟩ := q1
  subst e
  cases r1
  obtain ⟨its, rv, p, hz⟩ := I1.tuple hq
  refine wpAny_pyIter_tuple (show s1.heap.IsTuple a its.toArray from p) ?_
  refine ⟨s1.heap.objs.size, [s1.heap.objs.size], _, _, H1, rfl, I1.kept (t' := s1.toks) fun b o e => Heap.get?_push_of_some _ e, oP a _, ⟨_, Heap.get?_push_size _ rfl, rfl, rfl⟩, fun b hb => ?_, q⟩
  have e : b = s1.heap.objs.size := by simpa using hb
  subst e
  exact I1.mW (Nat.le_refl _) (I1.hok.fresh (Nat.le_refl _))
theorem nO {pins : List (Addr × Obj)} {σ : St} {H : Hp} {s : Shared} {R : It → Hp → Prop} {E : Value → Shared → Prop} {lo hi : Int} {t u v : Tok} {tk : Nat} (I : Inv X pins σ H s) (h1 : -(2 ^ 62) ≤ lo) (h2 : lo < 2 ^ 62) (h3 : -(2 ^ 62) ≤ hi) (h4 : hi < 2 ^ 62)
    (q : R (xn lo (hi - lo).toNat) H) : wpAny (model X.prog X.w) X.A (pyIter (.ref s.heap.objs.size)) (Cv X pins σ tg R) E { s with heap := s.heap.push { cls := .type "range", data := .fields #[.int lo t, .int hi u, .int 1 v] }, toks := tk } := by
  refine wpAny_pyIter_range (IsRange.new ..) (small_one h1 h2 h3 h4) ?_
  have I1 : Inv X pins σ H { s with heap := s.heap.push { cls := .type "range", data := .fields #[.int lo t, .int hi u, .int 1 v] }, toks := tk } := I.kept fun b o e => Heap.get?_push_of_some _ e
  refine ⟨(s.heap.push { cls := .type "range", data := .fields #[.int lo t, .int hi u, .int 1 v] }).objs.size, [(s.heap.push { cls := .type "range", data := .fields #[.int lo t, .int hi u, .int 1 v] }).objs.size], _, _, H, rfl,
    I1.kept (t' := tk) fun b o e => Heap.get?_push_of_some _ e, oz _ lo (hi - lo).toNat, ?_, fun b hb => ?_, q⟩
  · have e1 : lo + ((0 : Nat) : Int) * 1 = lo := by simp
    have e2 : (((hi - lo).toNat : Nat) : Int) - ((0 : Nat) : Int) = Builtin.Range.rangeSize lo hi 1 := by rw [rangeSize_one]; split <;> omega
    show IsRangeIter _ _ (lo + ((0 : Nat) : Int) * 1) ((((hi - lo).toNat : Nat) : Int) - ((0 : Nat) : Int)) 1
    rw [e1, e2]
    exact Heap.get?_push_size _ rfl
  · have e : b = (s.heap.push { cls := .type "range", data := .fields #[.int lo t, .int hi u, .int 1 v] }).objs.size := by simpa using hb
    subst e
    exact I1.mW (Nat.le_refl _) (I1.hok.fresh (Nat.le_refl _))
def xq (ta : TA) : TI := fun σ H R => ta σ H fun vs H1 => ∃ j : Int, vs = [.int j] ∧ -(2 ^ 62) ≤ j ∧ j < 2 ^ 62 ∧ R (xn 0 j.toNat) H1
def xl (ta : TA) : TI := fun σ H R => ta σ H fun vs H1 => ∃ i j : Int, vs = [.int i, .int j] ∧ (-(2 ^ 62) ≤ i ∧ i < 2 ^ 62 ∧ -(2 ^ 62) ≤ j ∧ j < 2 ^ 62) ∧ R (xn i (j - i).toNat) H1
theorem eQ {a : Expr} {ta : TA} {p pos : Pos} (hg : Gl X "range") (hm : X.mg "range" = none) (ha : PA X [a] ta) (hs : starEach [a] X.env = [(false, eval a X.env)] := by rfl) : PI X tg (.Call (.Name "range" p) [a] [] pos) (xq ta) := by
  intro pins s σ H R I h
  refine Call_ (gE I hg hm boot_range (PyProof.Rows.callWith_type1 (bJ (ha pos pins s σ H _ I h) fun us s1 hpat => ?_) hs rfl))
  obtain ⟨vs, H1, I1, r1, q1⟩ := hpat
  obtain ⟨j, e, q1, q2, q⟩ := q1
  subst e
  cases r1 with
  | cons r rr =>
    cases rr
    obtain ⟨t, rfl⟩ := r
    exact call_range_1 (nO I1 (by omega) (by omega) q1 q2 (by simpa using q))
theorem iY {a b : Expr} {ta : TA} {p pos : Pos} (hg : Gl X "range") (hm : X.mg "range" = none) (ha : PA X [a, b] ta) (hs : starEach [a, b] X.env = [(false, eval a X.env), (false, eval b X.env)] := by rfl) (hs2 : starEach [b] X.env = [(false, eval b X.env)] := by rfl) :
    PI X tg (.Call (.Name "range" p) [a, b] [] pos) (xl ta) := by
  intro pins s σ H R I h
  refine Call_ (gE I hg hm boot_range (PyProof.Rows.callWith_type1 (bJ (ha pos pins s σ H _ I h) fun us s1 hpat => ?_) (by rw [hs, hs2]) (by rw [hs2]; rfl)))
  obtain ⟨vs, H1, I1, r1, q1⟩ := hpat
  obtain ⟨i, j, e, ⟨q1, q2, q3, q4⟩, q⟩ := q1
  subst e
  cases r1 with
  | cons r rr =>
    cases rr with
    | cons r' rr =>
      cases rr
      obtain ⟨t, rfl⟩ := r
      obtain ⟨t', rfl⟩ := r'
      exact call_range_2 (nO I1 q1 q2 q3 q4 q)
def AL (wi : TI) (g : TG) (tb : TS) : TS := fun D σ H => wi σ H fun J H1 => ∃ W : Nat → Nat → St → Hp → Prop, (∃ m, W 0 m σ H1) ∧ ∀ i m σ H, W i m σ H →
  (J.stop i H ∧ D.nx σ H) ∨ (J.go i H ∧ ∃ N : St → Hp → Prop, (∀ σ' H', N σ' H' → ∃ m', m' < m ∧ W (i + 1) m' σ' H') ∧ ∀ x H', J.yld i H x H' → g x σ H' fun σ2 H2 => tb { D with nx := N, ct := N, bk := D.nx } σ2 H2)
def mD (fp : List Addr) (h : Heap) : List (Addr × Obj) := fp.filterMap fun b => (h.get? b).map fun o => (b, o)
theorem bQ {fp : List Addr} {h : Heap} {b : Addr} {o : Obj} (hb : b ∈ fp) (e : h.get? b = some o) : (b, o) ∈ mD fp h := List.mem_filterMap.mpr ⟨b, hb, by rw [e]; rfl⟩
theorem qF {fp : List Addr} {h : Heap} {p : Addr × Obj} (hp : p ∈ mD fp h) : p.1 ∈ fp ∧ h.get? p.1 = some p.2 := by
  obtain ⟨b, hb, e⟩ := List.mem_filterMap.mp hp
  cases q : h.get? b with
  | none => rw [q] at e; cases e
  | some o =>
    rw [q] at e
    have e' : (b, o) = p := Option.some.inj e
    subst e'
    exact ⟨hb, q⟩
theorem Inv.pinned {pins : List (Addr × Obj)} {σ : St} {H : Hp} {s : Shared} {fp : List Addr} (I : Inv X pins σ H s) (hf : ∀ b ∈ fp, gK X pins H b) (ho : ∀ b ∈ fp, ∃ o, s.heap.get? b = some o ∧ ∀ v, o.data ≠ .cell v) : Inv X (pins ++ mD fp s.heap) σ H s :=
  I.p9 fun p hp => (List.mem_append.mp hp).elim (fun z => I.pin p (List.mem_append_right _ z)) fun z => by
    obtain ⟨hb, e⟩ := qF z
    obtain ⟨f0, f1, f2, _⟩ := hf p.1 hb
    obtain ⟨o, e', d⟩ := ho p.1 hb
    rw [e] at e'; cases e'
    exact ⟨e, f0, f1, f2, d⟩
theorem Inv.dH {pins pl : List (Addr × Obj)} {σ : St} {H : Hp} {s : Shared} (I : Inv X (pins ++ pl) σ H s) : Inv X pins σ H s := I.p9 fun p hp => I.pin p (List.mem_append_right _ (List.mem_append_left _ hp))
theorem gN {iter : Expr} {body : List Stmt} {wi : TI} {g : TG} {tb : TS} {pos : Pos} (hp : PassesOwn (model X.prog X.w) X.A X.env X.xe) (hc : X.calm = true) (hi : PI X tg iter wi) (hg : PG X tg g) (hb : oJ X body tb)
    (hs : ∀ x, foldedSetIterable iter X.env x = pure x := by intro _; rfl) : PS X (.For tg iter body [] pos) (AL wi g tb) := by
  intro pins s σ H D I h
  refine wpAny_For (bJ (hi pins s σ H _ I h) fun v s1 h1 => bJ h1 fun itv s2 h2 => ?_) hs
  obtain ⟨it, fp, tn, J, H2, e, I2, T, st2, f2, W, ⟨m0, w0⟩, turn⟩ := h2
  subst e
  have stat : ∀ {H' : Hp}, (∀ b ∈ fp, H' b = none) → ∀ b ∈ fp, gK X pins H' b := fun hn b hb => ⟨hn b hb, (f2 b hb).2⟩
  refine codeAny_forLoop_any (fun n s' => ∃ i σ' H', Inv X pins σ' H' s' ∧ tn i s'.heap ∧ (∀ b ∈ fp, H' b = none) ∧ W i n σ' H') ?_ m0 ⟨0, σ, H2, I2, st2, fun b hb => (f2 b hb).1, w0⟩
  rintro n s3 ⟨i, σ3, H3, I3, st3, fr3, w3⟩
  rcases turn i n σ3 H3 w3 with ⟨stop, qn⟩ | ⟨go, N, hN, step⟩
  · refine wpAny_passesOwn hp (bJ (T.done X rfl rfl rfl hc i pins s3 σ3 H3 X.xe I3 (stat fr3) st3 stop) fun r s4 ⟨hr, I4⟩ => ?_)
    subst hr
    exact wpAny_execs_nil ⟨σ3, H3, I4, qn⟩
  · refine wpAny_passesOwn hp (bJ (T.item X rfl rfl rfl hc i pins s3 σ3 H3 X.xe I3 (stat fr3) st3 go) fun r s4 ⟨u, hr, h4⟩ => ?_)
    subst hr
    refine wpAny_passesOwn hp (bJ h4 fun _ s5 hpat => ?_)
    obtain ⟨x, H5, I5, r5, y5, st5, fr5⟩ := hpat
    have I5' := I5.pinned (stat fr5) (T.obj _ _ st5)
    refine wpAny_passesOwn hp (bJ (hg _ s5 σ3 H5 x u _ I5' r5 (step x H5 y5)) fun _ s6 hpat => ?_)
    obtain ⟨σ6, H6, I6, q6⟩ := hpat
    refine wpAny_passesOwn hp (bJ (hb _ s6 σ6 H6 _ I6 q6) fun f s7 q7 => ?_)
    have again : ∀ {σ7 : St} {H7 : Hp}, Inv X (pins ++ mD fp s5.heap) σ7 H7 s7 → N σ7 H7 → ∃ m, m < n ∧ ∃ i σ' H', Inv X pins σ' H' s7 ∧ tn i s7.heap ∧ (∀ b ∈ fp, H' b = none) ∧ W i m σ' H' := fun {σ7 H7} I7 n7 => by
      obtain ⟨m', hm, w7⟩ := hN σ7 H7 n7
      refine ⟨m', hm, i + 1, σ7, H7, I7.dH, T.keep _ _ _ st5 fun b hb o e => (I7.pin (b, o) (List.mem_append_right _ (List.mem_append_right _ (bQ hb e)))).1, fun b hb => ?_, w7⟩
      obtain ⟨o, e, d⟩ := T.obj _ _ st5 b hb
      exact (I7.pin (b, o) (List.mem_append_right _ (List.mem_append_right _ (bQ hb e)))).2.1
    cases f with
    | next => obtain ⟨σ7, H7, I7, n7⟩ := q7; exact again I7 n7
    | cont => obtain ⟨σ7, H7, I7, n7⟩ := q7; exact again I7 n7
    | brk => obtain ⟨σ7, H7, I7, q7⟩ := q7; exact ⟨σ7, H7, I7.dH, q7⟩
    | ret v => obtain ⟨x7, σ7, H7, I7, r7, q7⟩ := q7; exact ⟨x7, σ7, H7, I7.dH, r7, q7⟩
end
theorem kF {lo : Int} {n : Nat} {g : TG} {tb : TS} {D : Ends} {σ : St} {H : Hp} (Pv : Nat → St → Hp → Prop) (h0 : Pv 0 σ H)
    (hs : ∀ i σ H, i < n → Pv i σ H → g (.int (lo + i)) σ H fun σ2 H2 => tb { D with nx := Pv (i + 1), ct := Pv (i + 1), bk := D.nx } σ2 H2) (hd : ∀ σ H, Pv n σ H → D.nx σ H) :
    ∃ W : Nat → Nat → St → Hp → Prop, (∃ m, W 0 m σ H) ∧ ∀ i m σ H, W i m σ H →
      ((xn lo n).stop i H ∧ D.nx σ H) ∨ ((xn lo n).go i H ∧ ∃ N : St → Hp → Prop, (∀ σ' H', N σ' H' → ∃ m', m' < m ∧ W (i + 1) m' σ' H') ∧ ∀ x H', (xn lo n).yld i H x H' → g x σ H' fun σ2 H2 => tb { D with nx := N, ct := N, bk := D.nx } σ2 H2) := by
  refine ⟨fun i m σ H => m = n - i ∧ i ≤ n ∧ Pv i σ H, ⟨n, by simp, Nat.zero_le _, h0⟩, ?_⟩
  rintro i m σ H ⟨rfl, hi, p⟩
  by_cases hlt : i < n
  · refine .inr ⟨hlt, Pv (i + 1), fun σ' H' p' => ⟨n - (i + 1), by omega, rfl, hlt, p'⟩, fun x H' y => ?_⟩
    obtain ⟨e, y⟩ := y
    subst e y
    exact hs i σ _ hlt p
  · have e : i = n := by omega
    subst e
    exact .inl ⟨Nat.le_refl _, hd σ H p⟩
end L2
namespace L2
open PySem PySem.Spec PyProof.Rows
abbrev R2 := V → V → Hp → VK → Prop
def gx (X : Cx) (f : Value → Value → Sem Value) (r : R2) : Prop :=
  ∀ (pins : List (Addr × Obj)) (s : Shared) (σ : St) (H : Hp) (x y : V) (v u : Value) (Q : VK), Inv X pins σ H s → RelV x v → RelV y u → r x y H Q →
    wpAny (model X.prog X.w) X.A (f v u) (EP X pins σ Q) X.xe s
def BF (X : Cx) (f : Value → Sem Value) (r : V → Hp → VK → Prop) : Prop :=
  ∀ (pins : List (Addr × Obj)) (s : Shared) (σ : St) (H : Hp) (x : V) (v : Value) (Q : VK), Inv X pins σ H s → RelV x v → r x H Q →
    wpAny (model X.prog X.w) X.A (f v) (EP X pins σ Q) X.xe s
def cN (X : Cx) (f : Value) (r : List V → Hp → VK → Prop) : Prop :=
  ∀ (pins : List (Addr × Obj)) (s : Shared) (σ : St) (H : Hp) (xs : List V) (us : List Value) (Q : VK), Inv X pins σ H s → Vals xs us → r xs H Q →
    wpAny (model X.prog X.w) X.A (call f us) (EP X pins σ Q) X.xe s
def E2 (X : Cx) (r : V → Hp → (Bool → Hp → Prop) → Prop) : Prop :=
  ∀ (pins : List (Addr × Obj)) (s : Shared) (σ : St) (H : Hp) (x : V) (v : Value) (Q : Bool → Hp → Prop), Inv X pins σ H s → RelV x v → r x H Q →
    wpAny (model X.prog X.w) X.A (truthy v) (TP X pins σ Q) X.xe s
def xb (r : R2) (ta tb : TE) : TE := fun σ H Q => ta σ H fun x H1 => tb σ H1 fun y H2 => r x y H2 Q
def DM (r : V → Hp → VK → Prop) (ta : TE) : TE := fun σ H Q => ta σ H fun x H1 => r x H1 Q
inductive BZ (C : Int → Int → Prop) (g : Int → Int → V) (x y : V) (H : Hp) (Q : VK) : Prop
  | mk (i j : Int) (hx : x = .int i) (hy : y = .int j) (c : C i j) (q : Q (g i j) H)
inductive Ay (g : Int → Int → V) (x y : V) (H : Hp) (Q : VK) : Prop
  | mk (i j : Int) (hx : x = .int i) (hy : y = .int j) (q : Q (g i j) H)
def rI (C : Int → Int → Prop) (g : Int → Int → V) : R2 := fun x y H Q => BZ C g x y H Q
def sj (g : Int → Int → V) : R2 := fun x y H Q => Ay g x y H Q
def rU (g : Int → V) : V → Hp → VK → Prop := fun x H Q => ∃ i, x = .int i ∧ Q (g i) H
section
variable {X : Cx} {a b c : Expr} {ta tb tc : TE} {pos : Pos}
theorem xH (ha : PE X a ta) (hb : PE X b tb) {pins : List (Addr × Obj)} {s : Shared} {σ : St} {H : Hp} {R : V → V → Hp → Prop} (I : Inv X pins σ H s)
    (h : ta σ H fun x H1 => tb σ H1 fun y H2 => R x y H2) {Q : Value → Shared → Prop} {f : Value → Value → Sem Value}
    (hf : ∀ v u s2 x y H2, Inv X pins σ H2 s2 → RelV x v → RelV y u → R x y H2 → wpAny (model X.prog X.w) X.A (f v u) Q X.xe s2) :
    wpAny (model X.prog X.w) X.A (eval a X.env) (fun v s₁ => wpAny (model X.prog X.w) X.A (eval b X.env) (fun u s₂ => wpAny (model X.prog X.w) X.A (f v u) Q X.xe s₂) X.xe s₁) X.xe s := by
  refine bJ (ha pins s σ H _ I h) fun v s1 hpat => ?_
  obtain ⟨x, H1, I1, r1, q1⟩ := hpat
  refine bJ (hb pins s1 σ H1 _ I1 q1) fun u s2 hpat => ?_
  obtain ⟨y, H2, I2, r2, q2⟩ := hpat
  exact hf v u s2 x y H2 I2 r1 r2 q2
theorem au {op : Operator} {r : R2} (ho : gx X (binaryOp op) r) (ha : PE X a ta) (hb : PE X b tb) : PE X (.BinOp a op b pos) (xb r ta tb) := by
  intro pins s σ H Q I h
  exact wpAny_BinOp (xH ha hb I h fun v u s2 x y H2 I2 rx ry q => ho pins s2 σ H2 x y v u Q I2 rx ry q)
theorem pS {op : UnaryOp} {r : V → Hp → VK → Prop} (ho : BF X (unaryOp op) r) (ha : PE X a ta) : PE X (.UnaryOp op a pos) (DM r ta) := by
  intro pins s σ H Q I h
  exact UnaryOp_ (bJ (ha pins s σ H _ I h) fun v s1 ⟨x, H1, I1, r1, q1⟩ => ho pins s1 σ H1 x v Q I1 r1 q1)
theorem Bv {f : Value → Value → Sem Value} {C : Int → Int → Prop} {g : Int → Int → Int}
    (rule : ∀ (i j : Int) (t u : Tok) (s : Shared) (Q : Value → Shared → Prop) (E : Value → Shared → Prop), C i j → Q (.int (g i j) s.toks) { s with toks := s.toks + 1 } → wpAny (model X.prog X.w) X.A (f (.int i t) (.int j u)) Q E s) :
    gx X f (rI C fun i j => .int (g i j)) := by
  intro pins s σ H x y v u Q I rx ry h
  obtain ⟨i, j, rfl, rfl, hc, q⟩ := h
  obtain ⟨t, rfl⟩ := rx
  obtain ⟨t', rfl⟩ := ry
  exact rule i j t t' s _ _ hc ⟨.int (g i j), H, I.tok _, ⟨_, rfl⟩, q⟩
theorem Bq {f : Value → Value → Sem Value} {g : Int → Int → Int}
    (rule : ∀ (i j : Int) (t u : Tok) (s : Shared) (Q : Value → Shared → Prop) (E : Value → Shared → Prop), Q (.int (g i j) s.toks) { s with toks := s.toks + 1 } → wpAny (model X.prog X.w) X.A (f (.int i t) (.int j u)) Q E s) :
    gx X f (sj fun i j => .int (g i j)) := by
  intro pins s σ H x y v u Q I rx ry h
  obtain ⟨i, j, rfl, rfl, q⟩ := h
  obtain ⟨t, rfl⟩ := rx
  obtain ⟨t', rfl⟩ := ry
  exact rule i j t t' s _ _ ⟨.int (g i j), H, I.tok _, ⟨_, rfl⟩, q⟩
theorem yB {f : Value → Value → Sem Value} {g : Int → Int → Bool}
    (rule : ∀ (i j : Int) (t u : Tok) (s : Shared) (Q : Value → Shared → Prop) (E : Value → Shared → Prop), Q (.bool (g i j)) s → wpAny (model X.prog X.w) X.A (f (.int i t) (.int j u)) Q E s) :
    gx X f (sj fun i j => .bl (g i j)) := by
  intro pins s σ H x y v u Q I rx ry h
  obtain ⟨i, j, rfl, rfl, q⟩ := h
  obtain ⟨t, rfl⟩ := rx
  obtain ⟨t', rfl⟩ := ry
  exact rule i j t t' s _ _ ⟨.bl (g i j), H, I, rfl, q⟩
def Af (i j : Int) : Prop := 0 < j ∧ j < 1073741824
def Ea (i j : Int) : Prop := j ≠ 0 ∧ j.natAbs < 1073741824
def Aq (i j : Int) : Prop := 0 ≤ j ∧ j ≤ 1000000 ∧ i.natAbs < 2 ^ 64
def vO (i j : Int) : Prop := (-(2 ^ 64) < i ∧ i < 2 ^ 64) ∨ (-(2 ^ 64) < j ∧ j < 2 ^ 64)
theorem vO.ok {i j : Int} (h : vO i j) : IntMulOk i j := by
  rcases h with ⟨h1, h2⟩ | ⟨h1, h2⟩
  · exact .of_left (intBits_le_64 h1 h2)
  · exact .of_right (intBits_le_64 h1 h2)
theorem bu : gx X (binaryOp .Add) (sj fun i j => .int (i + j)) := Bq fun _ _ _ _ _ _ _ q => add_int q
theorem gu : gx X (binaryOp .Sub) (sj fun i j => .int (i - j)) := Bq fun _ _ _ _ _ _ _ q => sub_int q
theorem cY : gx X (binaryOp .Mult) (rI vO fun i j => .int (i * j)) := Bv fun _ _ _ _ _ _ _ hc q => mul_int q hc.ok
theorem aS : gx X (binaryOp .FloorDiv) (rI Af fun i j => .int (i / j)) := Bv fun i j _ _ _ _ _ hc q => by
  have h1 : (0 : Int) < j := hc.1
  have h2 : j < 1073741824 := hc.2
  exact floordiv_int (by omega) (by rw [Int.fdiv_eq_ediv_of_nonneg i (by omega)]; exact q) (.inl (PyProof.noPylong_small (by omega)))
theorem aQ : gx X (binaryOp .Mod) (rI (fun _ j => 0 < j) fun i j => .int (i % j)) := Bv fun i j _ _ _ _ _ hc q => by
  have h1 : (0 : Int) < j := hc
  exact mod_int' (by omega) (by rw [Int.fmod_eq_emod_of_nonneg i (by omega)]; exact q)
theorem c7 : gx X (binaryOp .Pow) (rI Aq fun i j => .int (i ^ j.toNat)) := Bv fun _ _ _ _ _ _ _ hc q => pow_int_small hc.1 hc.2.1 hc.2.2 q
theorem E3 {f : Value → Sem Value} {g : Int → Int}
    (rule : ∀ (i : Int) (t : Tok) (s : Shared) (Q : Value → Shared → Prop) (E : Value → Shared → Prop), Q (.int (g i) s.toks) { s with toks := s.toks + 1 } → wpAny (model X.prog X.w) X.A (f (.int i t)) Q E s) :
    BF X f (rU fun i => .int (g i)) := by
  intro pins s σ H x v Q I rx h
  obtain ⟨i, rfl, q⟩ := h
  obtain ⟨t, rfl⟩ := rx
  exact rule i t s _ _ ⟨.int (g i), H, I.tok _, ⟨_, rfl⟩, q⟩
theorem mK : BF X (unaryOp .USub) (rU fun i => .int (-i)) := E3 fun _ _ _ _ _ q => neg_int q
end
def AM : V → V → Bool
  | .non, .non => true | .non, .int _ => true | .int _, .non => true | .non, .bl _ => true | .bl _, .non => true | .non, .str _ => true | .str _, .non => true
  | .int _, .int _ => true | .bl _, .bl _ => true | .str _, .str _ => true | .byt _, .byt _ => true
  | .int _, .str _ => true | .str _, .int _ => true | .bl _, .str _ => true | .str _, .bl _ => true
  | _, _ => false
def DX : R2 := fun x y H Q => AM x y = true ∧ Q (.bl (decide (x = y))) H
def DN : R2 := fun x y H Q => AM x y = true ∧ Q (.bl (!decide (x = y))) H
theorem qa {i j : Int} : decide (V.int i = V.int j) = (i == j) := by
  rw [Bool.eq_iff_iff]
  simp
theorem ud {i j : Bool} : decide (V.bl i = V.bl j) = (i == j) := by
  rw [Bool.eq_iff_iff]
  simp
theorem pM {i j : Str} : decide (V.str i = V.str j) = (i == j) := by
  rw [Bool.eq_iff_iff]
  simp
theorem pQ {i j : Array UInt8} : decide (V.byt i = V.byt j) = (i.toList == j.toList) := by
  rw [Bool.eq_iff_iff]
  cases i
  cases j
  simp
section
variable {X : Cx} {a b c : Expr} {ta tb tc : TE} {pos : Pos}
theorem aY {pins : List (Addr × Obj)} {σ : St} {H : Hp} {s : Shared} {Q : VK} {k k' : Bool} (I : Inv X pins σ H s) (q : Q (.bl k) H) (e : k = k') : EP X pins σ Q (.bool k') s := by
  subst e
  exact ⟨.bl k, H, I, rfl, q⟩
theorem bq : gx X (compareOp .Eq) DX := by
  intro pins s σ H x y v u Q I rx ry h
  obtain ⟨hs, q⟩ := h
  cases x with
  | non =>
    cases rx
    cases y with
    | non => cases ry; exact PySem.EqNone.eq_none_none (aY I q (by simp))
    | bl j => cases ry; exact PySem.EqNone.eq_none_bool (aY I q (by simp))
    | int j => obtain ⟨t', rfl⟩ := ry; exact PySem.EqNone.eq_none_int (aY I q (by simp))
    | str j => obtain ⟨t', rfl⟩ := ry; exact PySem.EqNone.eq_none_str (aY I q (by simp))
    | _ => exact absurd (show false = true from hs) Bool.false_ne_true
  | bl i =>
    cases rx
    cases y with
    | non => cases ry; exact PySem.EqNone.eq_bool_none (aY I q (by simp))
    | bl j => cases ry; exact eq_bool (aY I q ud)
    | str j => obtain ⟨t', rfl⟩ := ry; exact PySem.EqMixed.eq_bool_str (aY I q (by simp))
    | _ => exact absurd (show false = true from hs) Bool.false_ne_true
  | int i =>
    obtain ⟨t, rfl⟩ := rx
    cases y with
    | non => cases ry; exact PySem.EqNone.eq_int_none (aY I q (by simp))
    | int j => obtain ⟨t', rfl⟩ := ry; exact eq_int (aY I q qa)
    | str j => obtain ⟨t', rfl⟩ := ry; exact PySem.EqMixed.eq_int_str (aY I q (by simp))
    | _ => exact absurd (show false = true from hs) Bool.false_ne_true
  | str i =>
    obtain ⟨t, rfl⟩ := rx
    cases y with
    | non => cases ry; exact PySem.EqNone.eq_str_none (aY I q (by simp))
    | bl j => cases ry; exact PySem.EqMixed.eq_str_bool (aY I q (by simp))
    | int j => obtain ⟨t', rfl⟩ := ry; exact PySem.EqMixed.eq_str_int (aY I q (by simp))
    | str j => obtain ⟨t', rfl⟩ := ry; exact eq_str (aY I q pM)
    | _ => exact absurd (show false = true from hs) Bool.false_ne_true
  | byt i =>
    obtain ⟨t, rfl⟩ := rx
    cases y with
    | byt j => obtain ⟨t', rfl⟩ := ry; exact PySem.W.eq_bytes (aY I q pQ)
    | _ => exact absurd (show false = true from hs) Bool.false_ne_true
  | _ => cases y <;> exact absurd (show false = true from hs) Bool.false_ne_true
theorem ip : gx X (compareOp .NotEq) DN := by
  intro pins s σ H x y v u Q I rx ry h
  obtain ⟨hs, q⟩ := h
  cases x with
  | non =>
    cases rx
    cases y with
    | non => cases ry; exact PySem.EqNone.ne_none_none (aY I q (by simp))
    | bl j => cases ry; exact PySem.EqNone.ne_none_bool (aY I q (by simp))
    | int j => obtain ⟨t', rfl⟩ := ry; exact PySem.EqNone.ne_none_int (aY I q (by simp))
    | str j => obtain ⟨t', rfl⟩ := ry; exact PySem.EqNone.ne_none_str (aY I q (by simp))
    | _ => exact absurd (show false = true from hs) Bool.false_ne_true
  | bl i =>
    cases rx
    cases y with
    | non => cases ry; exact PySem.EqNone.ne_bool_none (aY I q (by simp))
    | bl j => cases ry; exact ne_bool (aY I q (congrArg not ud))
    | str j => obtain ⟨t', rfl⟩ := ry; exact PySem.EqMixed.ne_bool_str (aY I q (by simp))
    | _ => exact absurd (show false = true from hs) Bool.false_ne_true
  | int i =>
    obtain ⟨t, rfl⟩ := rx
    cases y with
    | non => cases ry; exact PySem.EqNone.ne_int_none (aY I q (by simp))
    | int j => obtain ⟨t', rfl⟩ := ry; exact ne_int (aY I q (congrArg not qa))
    | str j => obtain ⟨t', rfl⟩ := ry; exact PySem.EqMixed.ne_int_str (aY I q (by simp))
    | _ => exact absurd (show false = true from hs) Bool.false_ne_true
  | str i =>
    obtain ⟨t, rfl⟩ := rx
    cases y with
    | non => cases ry; exact PySem.EqNone.ne_str_none (aY I q (by simp))
    | bl j => cases ry; exact PySem.EqMixed.ne_str_bool (aY I q (by simp))
    | int j => obtain ⟨t', rfl⟩ := ry; exact PySem.EqMixed.ne_str_int (aY I q (by simp))
    | str j => obtain ⟨t', rfl⟩ := ry; exact ne_str (aY I q (congrArg not pM))
    | _ => exact absurd (show false = true from hs) Bool.false_ne_true
  | byt i =>
    obtain ⟨t, rfl⟩ := rx
    cases y with
    | byt j => obtain ⟨t', rfl⟩ := ry; exact PySem.W.ne_bytes (aY I q (congrArg not pQ))
    | _ => exact absurd (show false = true from hs) Bool.false_ne_true
  | _ => cases y <;> exact absurd (show false = true from hs) Bool.false_ne_true
theorem j5 : gx X (compareOp .Lt) (sj fun i j => .bl (decide (i < j))) := yB fun _ _ _ _ _ _ _ q => lt_int q
theorem fL : gx X (compareOp .LtE) (sj fun i j => .bl (decide (i ≤ j))) := yB fun _ _ _ _ _ _ _ q => le_int q
theorem j3 : gx X (compareOp .Gt) (sj fun i j => .bl (decide (j < i))) := yB fun _ _ _ _ _ _ _ q => gt_int q
theorem kh : gx X (compareOp .Is) (fun x y H Q => y = .non ∧ Q (.bl (decide (x = .non))) H) := by
  intro pins s σ H x y v u Q I rx ry h
  obtain ⟨rfl, q⟩ := h
  cases ry
  refine is_none_gen (aY I q ?_)
  cases x <;> first
    | (cases rx; rfl)
    | (obtain ⟨t, rfl⟩ := rx; rfl)
theorem jj : gx X (compareOp .IsNot) (fun x y H Q => y = .non ∧ Q (.bl (!decide (x = .non))) H) := by
  intro pins s σ H x y v u Q I rx ry h
  obtain ⟨rfl, q⟩ := h
  cases ry
  refine isnot_none_gen (aY I q ?_)
  cases x <;> first
    | (cases rx; rfl)
    | (obtain ⟨t, rfl⟩ := rx; rfl)
def isObj : HO → Bool
  | .lst _ => true
  | .ins _ _ _ => true
  | _ => false
theorem aH (b : Expr) {op : CmpOp} (h : op ≠ .In := by decide) (h2 : op ≠ .NotIn := by decide) : behindInMarks op b = false := by
  have e1 : (op == CmpOp.In) = false := by cases op <;> first | rfl | exact absurd rfl h
  have e2 : (op == CmpOp.NotIn) = false := by cases op <;> first | rfl | exact absurd rfl h2
  cases b <;> simp [behindInMarks, e1, e2]
theorem bp {op : CmpOp} {r : R2} (ho : gx X (compareOp op) r) (ha : PE X a ta) (hb : PE X b tb) (hm : behindInMarks op b = false) : PE X (.Compare a [op] [b] pos) (xb r ta tb) := by
  intro pins s σ H Q I h
  exact wpAny_Compare1 (xH ha hb I h fun v u s2 x y H2 I2 rx ry q => ho pins s2 σ H2 x y v u Q I2 rx ry q) hm
def pJ (t : TE) : TT := fun σ H Q => t σ H fun x H' => zY x H' Q
theorem aJ {op : CmpOp} {r : R2} (ho : gx X (compareOp op) r) (ha : PE X a ta) (hb : PE X b tb) (hm : behindInMarks op b = false) : PT X (.Compare a [op] [b] pos) (pJ (xb r ta tb)) := by
  intro pins s σ H Q I h
  refine wpAny_isTrue_Compare1 (bJ (ha pins s σ H _ I h) fun v s1 ⟨x, H1, I1, r1, q1⟩ => bJ (hb pins s1 σ H1 _ I1 q1) fun u s2 ⟨y, H2, I2, r2, q2⟩ =>
    bJ (ho pins s2 σ H2 x y v u _ I2 r1 r2 q2) fun c s3 ⟨z, H3, I3, r3, k, e, q3⟩ => ?_) hm
  subst e
  cases r3
  exact wpAny_truthy_bool ⟨H3, I3, q3⟩
def oR (r r' : R2) (ta tb tc : TE) : TE := fun σ H Q => ta σ H fun x H1 => tb σ H1 fun y H2 => r x y H2 fun z H3 => ∃ k, z = .bl k ∧
  (if k = true then tc σ H3 fun w' H4 => r' y w' H4 Q else Q (.bl false) H3)
theorem oj {op op' : CmpOp} {r r' : R2} (ho : gx X (compareOp op) r) (ho' : gx X (compareOp op') r') (ha : PE X a ta) (hb : PE X b tb) (hc : PE X c tc)
    (hm : lastMarks [op, op'] [b, c] = false := by with_unfolding_all rfl) : PE X (.Compare a [op, op'] [b, c] pos) (oR r r' ta tb tc) := by
  intro pins s σ H Q I h
  refine Compare_chain (bJ (ha pins s σ H _ I h) fun v s1 ⟨x, H1, I1, r1, q1⟩ => chain_link (bJ (hb pins s1 σ H1 _ I1 q1) fun u s2 ⟨y, H2, I2, r2, q2⟩ =>
    bJ (ho pins s2 σ H2 x y v u _ I2 r1 r2 q2) fun d s3 ⟨z, H3, I3, r3, k, e, q3⟩ => ?_)) hm
  subst e
  cases r3
  refine wpAny_truthy_bool ?_
  cases k with
  | false => exact ite_ff ⟨.bl false, H3, I3, rfl, q3⟩
  | true => exact ite_tt (chain_last (bJ (hc pins s3 σ H3 _ I3 q3) fun w' s4 ⟨z', H4, I4, r4, q4⟩ => ho' pins s4 σ H4 y z' u w' Q I4 r2 r4 q4))
theorem fB {op op' : CmpOp} {r r' : R2} (ho : gx X (compareOp op) r) (ho' : gx X (compareOp op') r') (ha : PE X a ta) (hb : PE X b tb) (hc : PE X c tc)
    (hm : lastMarks [op, op'] [b, c] = false := by with_unfolding_all rfl) : PT X (.Compare a [op, op'] [b, c] pos) (pJ (oR r r' ta tb tc)) := by
  intro pins s σ H Q I h
  refine isTrue_chain (bJ (ha pins s σ H _ I h) fun v s1 ⟨x, H1, I1, r1, q1⟩ => test_link (bJ (hb pins s1 σ H1 _ I1 q1) fun u s2 ⟨y, H2, I2, r2, q2⟩ =>
    bJ (ho pins s2 σ H2 x y v u _ I2 r1 r2 q2) fun d s3 ⟨z, H3, I3, r3, k, e, q3⟩ => ?_)) hm
  subst e
  cases r3
  refine wpAny_truthy_bool ?_
  cases k with
  | false =>
    obtain ⟨k', e', q'⟩ := q3
    cases e'
    exact ite_ff ⟨H3, I3, q'⟩
  | true =>
    refine ite_tt (test_last (bJ (hc pins s3 σ H3 _ I3 q3) fun w' s4 ⟨z', H4, I4, r4, q4⟩ => bJ (ho' pins s4 σ H4 y z' u w' _ I4 r2 r4 q4) fun d' s5 hpat => ?_))
    obtain ⟨z2, H5, I5, r5, k2, e2, q5⟩ := hpat
    subst e2
    cases r5
    exact wpAny_truthy_bool ⟨H5, I5, q5⟩
def EO (K : PySem.W.Frag) (x : V) (H : Hp) (k : Bool) : Prop :=
  match x with
  | .non => k = false
  | .bl b => k = b
  | .int i => k = (i != 0)
  | .str y => y.length ≤ sizeLine ∧ k = ((y.length : Int) != 0)
  | .byt y => y.size ≤ sizeLine ∧ k = ((y.size : Int) != 0)
  | .ref p => (∃ xs, aE K H p xs ∧ k = !xs.isEmpty) ∨ (∃ xs, br K H p xs ∧ k = !xs.isEmpty) ∨ ∃ kvs, H p = some (.dK kvs) ∧ k = !kvs.isEmpty
  | _ => False
theorem iR : (sizeLine : Nat) < 2 ^ 63 := by rw [sizeLine_eq]; decide
theorem dO : gx X (binaryOp .Add) (fun x y H Q => ∃ i j, x = .str i ∧ y = .str j ∧ i.length + j.length ≤ sizeLine ∧ Q (.str (i ++ j)) H) := by
  intro pins s σ H x y v u Q I rx ry h
  obtain ⟨i, j, rfl, rfl, hz, q⟩ := h
  obtain ⟨t, rfl⟩ := rx
  obtain ⟨t', rfl⟩ := ry
  exact add_str (fun t' tk => ⟨.str (i ++ j), H, I.tok _, ⟨_, rfl⟩, q⟩) hz
def zW (b : Expr) : Prop := ∀ o i, subscripted b false o i = operate [o, i] (getItem o i)
theorem vals1 {x : V} {us : List Value} (r : Vals [x] us) : ∃ u, us = [u] ∧ RelV x u := by
  cases r with
  | cons r1 r2 => cases r2; exact ⟨_, rfl, r1⟩
theorem vals2 {x y : V} {us : List Value} (r : Vals [x, y] us) : ∃ u w', us = [u, w'] ∧ RelV x u ∧ RelV y w' := by
  cases r with
  | cons r1 r2 =>
    cases r2 with
    | cons r3 r4 => cases r4; exact ⟨_, _, rfl, r1, r3⟩
theorem i3 (hc : X.calm = true) : cN X (.builtin "max") (fun xs H Q => ∃ i j, xs = [.int i, .int j] ∧ Q (.int (if j > i then j else i)) H) := by
  intro pins s σ H xs us Q I r h
  obtain ⟨i, j, rfl, q⟩ := h
  obtain ⟨u, w', rfl, ⟨t, rfl⟩, ⟨t', rfl⟩⟩ := vals2 r
  refine max_two_ints (I.ok.hd hc) fun h' tk k => ⟨_, H, I.kept k, ?_, q⟩
  by_cases hj : j > i
  · rw [if_pos hj, if_pos hj]; exact ⟨_, rfl⟩
  · rw [if_neg hj, if_neg hj]; exact ⟨_, rfl⟩
theorem iJ (hc : X.calm = true) : cN X (.builtin "min") (fun xs H Q => ∃ i j, xs = [.int i, .int j] ∧ Q (.int (if j < i then j else i)) H) := by
  intro pins s σ H xs us Q I r h
  obtain ⟨i, j, rfl, q⟩ := h
  obtain ⟨u, w', rfl, ⟨t, rfl⟩, ⟨t', rfl⟩⟩ := vals2 r
  refine min_two_ints (I.ok.hd hc) fun h' tk k => ⟨_, H, I.kept k, ?_, q⟩
  by_cases hj : j < i
  · rw [if_pos hj, if_pos hj]; exact ⟨_, rfl⟩
  · rw [if_neg hj, if_neg hj]; exact ⟨_, rfl⟩
theorem iT : cN X (.type "int") (fun xs H Q => (∃ i, xs = [.int i] ∧ Q (.int i) H) ∨ ∃ k, xs = [.bl k] ∧ Q (.int (if k then 1 else 0)) H) := by
  intro pins s σ H xs us Q I r h
  rcases h with ⟨i, rfl, q⟩ | ⟨k, rfl, q⟩
  · obtain ⟨u, rfl, t, rfl⟩ := vals1 r
    exact call_int_int ⟨.int i, H, I, ⟨_, rfl⟩, q⟩
  · obtain ⟨u, rfl, r1⟩ := vals1 r
    cases r1
    exact call_int_bool ⟨.int (if k then 1 else 0), H, I.tok _, ⟨_, rfl⟩, q⟩
def Fl (K : PySem.W.Frag) (x : V) (H : Hp) (n : Nat) : Prop :=
  match x with
  | .str y => y.length ≤ sizeLine ∧ n = y.length
  | .byt y => y.size ≤ sizeLine ∧ n = y.size
  | .ref p => (∃ xs, aE K H p xs ∧ n = xs.length) ∨ ∃ xs, br K H p xs ∧ n = xs.length
  | _ => False
end
end L2
namespace L2
open PySem PySem.Spec PyProof.Rows
structure ox (h : Heap) (x dx C : Addr) (mA : Str → Option Value) : Prop where
  obj : h.get? x = some (PySem.W.instObj C dx)
  ns : h.Ns1 dx mA
  ne : dx ≠ x
theorem se {h : Heap} {dx : Addr} {mA : Str → Option Value} (n : h.Ns1 dx mA) : ∃ od, h.get? dx = some od ∧ ∀ name, PySem.W.lookIn name od = some (mA name) := by
  obtain ⟨o, es, ep, ho, hd, hk, _, hm⟩ := n
  refine ⟨o, ho, fun name => ?_⟩
  have e := hm name
  unfold nsFind findBy at e
  rw [← Array.find?_toList] at e
  unfold PySem.W.lookIn
  rw [hd]
  dsimp only
  split
  · rename_i y q
    rw [q] at e
    exact congrArg some e
  · rename_i q
    rw [q] at e
    have a : es.toList.any (·.refKey) = false := by
      rw [List.any_eq_false]
      intro y hy
      obtain ⟨z, t, hkey⟩ := hk y (Array.mem_toList_iff.mp hy)
      simp [DictEntry.refKey, hkey]
    have a' : ¬ es.toList.any (·.refKey) = true := by rw [a]; exact Bool.false_ne_true
    rw [if_neg a']
    exact congrArg some e
theorem ox.look {h : Heap} {x dx C : Addr} {mA : Str → Option Value} (I : ox h x dx C mA) : ∃ od, PySem.W.InstAt h x (PySem.W.instObj C dx) C (some od) ∧ ∀ name, PySem.W.lookIn name od = some (mA name) :=
  let ⟨od, ho, hl⟩ := se I.ns
  ⟨od, ⟨I.obj, rfl, rfl, ho⟩, hl⟩
section
variable {prog : Program} {w : World} {A : Around} {E : Value → Shared → Prop} {s : Shared} {K : PySem.W.Frag} {x dx C f : Addr} {mA : Str → Option Value} {name : Str} {v : Value}
theorem get_map {expr : Bool} {Q : Value → Shared → Prop} (X : K.In s.heap) (I : ox s.heap x dx C mA) (hg : PySem.W.plainGet K C name = true) (hh : PySem.W.hasDictIn K C = true)
    (ha : PySem.W.findIn K (.ref C) name = some none) (hv : mA name = some v) (hv' : PySem.W.handedIn v = true) (h : Q v { s with toks := s.toks + 1 }) :
    wpAny (model prog w) A (getAttr (.ref x) name expr) Q E s := by
  obtain ⟨od, J, hl⟩ := I.look
  exact PySem.W.get_value X J (PySem.W.plainGet_of hg).1 (PySem.W.findObj_own hh ha rfl (by rw [hl, hv])) hv' h
theorem uI {pl : Sem Bool} {Q : Value × List Value → Shared → Prop} (X : K.In s.heap) (I : ox s.heap x dx C mA) (hg : PySem.W.plainGet K C name = true)
    (hf : PySem.W.findIn K (.ref C) name = some (some (.ref f))) (ht : PySem.W.isFn K (.ref f) = true) (hv : mA name = none) (h : Q (.ref f, [.ref x]) s) :
    wpAny (model prog w) A (getMethod (.ref x) name pl) Q E s := by
  obtain ⟨od, J, hl⟩ := I.look
  exact PySem.W.method_fn X J (PySem.W.plainGet_of hg).1 (PySem.W.plainGet_of hg).2 hf (beq_iff_eq.mp ht) (by show (PySem.W.lookIn name od).map (·.isSome) = some false; rw [hl, hv]; rfl) h
theorem wc {ns : List Str} {Q : Unit → Shared → Prop} (X : K.In s.heap) (I : ox s.heap x dx C mA)
    (hs : PySem.W.findIn K (.ref C) "__setattr__" = some (some (.builtin "object.__setattr__"))) (hp : PySem.W.plainOver K C = true) (ht : PySem.W.takerIn K C name = some none) (hh : PySem.W.hasDictIn K C = true)
    (hw : PySem.Within mA ns) (hsz : ns.length ≤ sizeLine)
    (h : ∀ h', ox h' x dx C (fun y => if y = name then some v else mA y) → Heap.SameBut dx s.heap h' → Q () { s with heap := h', toks := s.toks + 2 }) :
    wpAny (model prog w) A (setAttr (.ref x) name v) Q E s := by
  obtain ⟨od, J, hl⟩ := I.look
  refine PySem.W.set_plain X J hs (PySem.W.osa_open (s := { s with toks := s.toks + 1 }) (r := none) X J hp ht fun b => ?_)
  obtain ⟨cd, hc, hd'⟩ := PySem.W.any_some hh
  have hx : s.heap.get? x = some ⟨.ref C, some dx, .plain, #[]⟩ := I.obj
  refine wpAny_bind (wpAny_pure (wpAny_bind (wpAny_bind (wpAny_loadPart hx (wpAny_bind (PySem.W.Looks.here (s := { s with toks := s.toks + 1 }) (PySem.W.looks_clsIn X hc) ?_))))))
  rw [hd']
  refine wpAny_pure (a := some dx) (wpAny_bind (wpAny_pure (wpAny_bind ?_)))
  refine wpAny_nsSet1 (s := { s with toks := s.toks + 1 }) I.ns fun h' hn2 hs2 => ?_
  obtain ⟨oD, esD, epD, hoD, hdD, hcD⟩ := hn2.count (PySem.Within.cons name v hw)
  refine wpAny_bind (wpAny_lookBehind hoD (by rw [hdD]; exact pastItsLine_dict (Nat.le_trans hcD (by rw [List.length_cons]; omega))) ?_)
  exact wpAny_pure (h _ ⟨(hs2.2 _ (Ne.symm I.ne)).trans I.obj, hn2, I.ne⟩ hs2)
theorem sC {R : Result → Shared → Prop} {vs : List Value} {kw : List (Str × Value)} (X : K.In s.heap) (hm : PySem.W.makesIn K C = true)
    (hi : PySem.W.findIn K (.ref C) "__init__" = some (some (.ref f))) (hf : PySem.W.typeIn K (.ref f) = some (.type "function"))
    (h : codeAny (model prog w) (A.under (.builtin "type.__call__" ⟨.ref C :: vs, kw⟩)) (.call (.ref f) ⟨.ref (s.heap.objs.size + 1) :: vs, kw⟩) (PySem.W.InitBack (s.heap.objs.size + 1) R)
      { s with heap := (s.heap.push PySem.W.emptyDict).push (PySem.W.instObj C s.heap.objs.size) }) :
    codeAny (model prog w) A (.call (.ref C) ⟨vs, kw⟩) R s := by
  obtain ⟨hh, g, d, t, os⟩ := s
  exact PySem.W.make_core (PySem.W.makes_of X hm) (PySem.W.looks_findIn X hi) (fun self => PySem.W.bind_fn X self hf) (.inl rfl) h
end
def dq (f : Str) (v : V) : List (Str × V) → List (Str × V)
  | [] => [(f, v)]
  | (g, x) :: r => if g = f then (g, v) :: r else (g, x) :: dq f v r
theorem aT (f g : Str) (v : V) : ∀ fs : List (Str × V), (dq f v fs).lookup g = if g = f then some v else fs.lookup g
  | [] => by
    show List.lookup g [(f, v)] = _
    by_cases h : g = f
    · have hb : (g == f) = true := beq_iff_eq.mpr h
      simp only [List.lookup, hb, if_pos h]
    · have hb : (g == f) = false := beq_eq_false_iff_ne.mpr h
      simp only [List.lookup, hb, if_neg h]
  | (k, x) :: r => by
    have ih := aT f g v r
    rw [show dq f v ((k, x) :: r) = (if k = f then (k, v) :: r else (k, x) :: dq f v r) from rfl]
    by_cases hk : k = f
    · rw [if_pos hk]
      by_cases h : g = k
      · have hb : (g == k) = true := beq_iff_eq.mpr h
        simp only [List.lookup, hb, if_pos (h.trans hk)]
      · have hb : (g == k) = false := beq_eq_false_iff_ne.mpr h
        simp only [List.lookup, hb, if_neg (fun e : g = f => h (e.trans hk.symm))]
    · rw [if_neg hk]
      by_cases h : g = k
      · have hb : (g == k) = true := beq_iff_eq.mpr h
        simp only [List.lookup, hb, if_neg (fun e : g = f => hk (h.symm.trans e))]
      · have hb : (g == k) = false := beq_eq_false_iff_ne.mpr h
        simp only [List.lookup, hb]
        exact ih
theorem i5 (f : Str) (v : V) : ∀ fs : List (Str × V), f ∈ (dq f v fs).map (·.1) ∧ ∀ g, g ∈ fs.map (·.1) → g ∈ (dq f v fs).map (·.1)
  | [] => ⟨by simp [dq], fun g h => by simp at h⟩
  | (k, x) :: r => by
    obtain ⟨i1, i2⟩ := i5 f v r
    rw [show dq f v ((k, x) :: r) = (if k = f then (k, v) :: r else (k, x) :: dq f v r) from rfl]
    by_cases hk : k = f
    · rw [if_pos hk]
      subst hk
      exact ⟨by simp, fun g h => by simpa using h⟩
    · rw [if_neg hk]
      refine ⟨?_, fun g h => ?_⟩
      · rw [List.map_cons]
        exact List.mem_cons_of_mem _ i1
      · rw [List.map_cons] at h ⊢
        rcases List.mem_cons.mp h with e | e
        · exact List.mem_cons.mpr (.inl e)
        · exact List.mem_cons_of_mem _ (i2 g e)
theorem i7 (f : Str) (v : V) : ∀ fs : List (Str × V), (dq f v fs).length ≤ fs.length + 1
  | [] => by simp [dq]
  | (k, x) :: r => by
    have ih := i7 f v r
    rw [show dq f v ((k, x) :: r) = (if k = f then (k, v) :: r else (k, x) :: dq f v r) from rfl]
    by_cases hk : k = f
    · rw [if_pos hk, List.length_cons, List.length_cons]; omega
    · rw [if_neg hk, List.length_cons, List.length_cons]; omega
theorem ku.some_of {v : V} {o : Option Value} (r : ku (some v) o) : ∃ u, o = some u ∧ RelV v u := by
  cases o with
  | none => exact (show False from r).elim
  | some u => exact ⟨u, rfl, r⟩
theorem ku.none_of {o : Option Value} (r : ku none o) : o = none := by
  cases o with
  | none => rfl
  | some u => exact (show False from r).elim
theorem qJ {v : V} {u : Value} (r : RelV v u) : PySem.W.handedIn u = true := by
  cases v with
  | non => cases (show u = Value.none from r); rfl
  | bl b => cases (show u = Value.bool b from r); rfl
  | int i => obtain ⟨t, e⟩ := (show ∃ t, u = Value.int i t from r); cases e; rfl
  | str x => obtain ⟨t, e⟩ := (show ∃ t, u = Value.str x t from r); cases e; rfl
  | byt b => obtain ⟨t, e⟩ := (show ∃ t, u = Value.bytes b t from r); cases e; rfl
  | flt b => obtain ⟨t, e⟩ := (show ∃ t, u = Value.float b t from r); cases e; rfl
  | ref a => cases (show u = Value.ref a from r); rfl
  | ty n => cases (show u = Value.type n from r); rfl
section
variable {P : Program} {w : World} {H H' : Hp} {h h' : Heap} {a C dx : Addr} {fs fs' : List (Str × V)}
theorem jn (hok : fz P w H h) (e : H a = some (.ins C dx fs)) : ∃ mA, ox h a dx C mA ∧ (∀ f, ku (fs.lookup f) (mA f)) ∧ PySem.Within mA (fs.map (·.1)) ∧ fs.length ≤ 1000 ∧ H dx = some (.own a) := by
  obtain ⟨d, z, ne, ob, mA, n, r, q⟩ := (show bA P w H h a (.ins C dx fs) from hok a _ e)
  exact ⟨mA, ⟨ob, n, ne⟩, r, q, z, d⟩
end
structure kB (K : PySem.W.Frag) (C : Addr) : Prop where
  pg : PySem.W.plainGet K C Str.empty = true
  hd : PySem.W.hasDictIn K C = true
  po : PySem.W.plainOver K C = true
  sa : PySem.W.findIn K (.ref C) "__setattr__" = some (some (.builtin "object.__setattr__"))
theorem kB.get {K : PySem.W.Frag} {C : Addr} (c : kB K C) (f : Str) : PySem.W.plainGet K C f = true := c.pg
def dG (K : PySem.W.Frag) (C : Addr) (f : Str) : Prop := PySem.W.findIn K (.ref C) f = some none
theorem dG.AQ {K : PySem.W.Frag} {C : Addr} {f : Str} (n : dG K C f) : PySem.W.takerIn K C f = some none := by
  unfold PySem.W.takerIn
  rw [show PySem.W.findIn K (.ref C) f = some none from n]
  rfl
structure FW (K : PySem.W.Frag) (C : Addr) (f : Str) (v : V) (u : Value) : Prop where
  at_ : PySem.W.findIn K (.ref C) f = some (some u)
  rel : RelV v u
  get : PySem.W.specialIn K u "__get__" = some none
  cp : PySem.W.copiedNames.contains f = false
structure Meth (K : PySem.W.Frag) (C : Addr) (m : Str) (f : Addr) : Prop where
  at_ : PySem.W.findIn K (.ref C) m = some (some (.ref f))
  fn : PySem.W.isFn K (.ref f) = true
  kp : PySem.W.keepIn K (.ref f) = true
section
variable {X : Cx} {pins : List (Addr × Obj)} {σ : St} {H : Hp} {s : Shared} {a C dx : Addr} {fs : List (Str × V)} {f : Str} {v : V} {A : Around} {E : Value → Shared → Prop}
theorem oN {b : Bool} {Q : Value → Shared → Prop} (I : Inv X pins σ H s) (e : H a = some (.ins C dx fs)) (c : kB X.K C) (n : dG X.K C f) (l : fs.lookup f = some v)
    (h : ∀ u s', Inv X pins σ H s' → RelV v u → Q u s') : wpAny (model X.prog X.w) A (getAttr (.ref a) f b) Q E s := by
  obtain ⟨mA, O, r, _, _, _⟩ := jn I.hok e
  obtain ⟨u, hu, ru⟩ := ku.some_of (v := v) (o := mA f) (by rw [← l]; exact r f)
  exact get_map I.dr O (c.get f) c.hd n hu (qJ ru) (h u _ (I.tok _) ru)
theorem jT {m : Str} {g : Addr} {pl : Sem Bool} {Q : Value × List Value → Shared → Prop} (I : Inv X pins σ H s) (e : H a = some (.ins C dx fs)) (c : kB X.K C) (k : Meth X.K C m g) (l : fs.lookup m = none)
    (h : Q (.ref g, [.ref a]) s) : wpAny (model X.prog X.w) A (getMethod (.ref a) m pl) Q E s := by
  obtain ⟨mA, O, r, _, _, _⟩ := jn I.hok e
  have hn : mA m = none := ku.none_of (by rw [← l]; exact r m)
  exact uI I.dr O (c.get m) k.at_ k.fn hn h
theorem pk {y : V} {u : Value} {Q : Unit → Shared → Prop} (I : Inv X pins σ H s) (e : H a = some (.ins C dx fs)) (c : kB X.K C) (n : dG X.K C f) (hl : fs.length < 1000) (ry : RelV y u)
    (h : ∀ s', Inv X pins σ (upd H a (.ins C dx (dq f y fs))) s' → Q () s') : wpAny (model X.prog X.w) A (setAttr (.ref a) f u) Q E s := by
  obtain ⟨mA, O, r, wi, _, ho⟩ := jn I.hok e
  have hz : (fs.map (·.1)).length ≤ sizeLine := by rw [List.length_map, sizeLine_eq]; omega
  refine wc I.dr O c.sa c.po n.AQ c.hd wi hz fun h' O' sb => h _ ?_
  have hd : ∃ o, h'.get? dx = some o := let ⟨o, _, _, e', _⟩ := O'.ns; ⟨o, e'⟩
  refine I.write (x := a) (e := dx) (by rw [e]; exact True.intro) (.inr ho) (fun b q hb z => (sb.2 b hb).trans z) hd ?_
  refine ⟨by rw [aq O.ne]; exact ho, ?_, O.ne, O'.obj, _, O'.ns, fun g => ?_, fun g hg => ?_⟩
  · have := i7 f y fs; omega
  · show ku ((dq f y fs).lookup g) (if g = f then some u else mA g)
    rw [aT]
    by_cases q : g = f
    · rw [if_pos q, if_pos q]; exact ry
    · rw [if_neg q, if_neg q]; exact r g
  · by_cases q : g = f
    · rw [q]; exact (i5 f y fs).1
    · refine (i5 f y fs).2 g (wi g fun z => hg ?_)
      show (if g = f then some u else mA g) = none
      rw [if_neg q]; exact z
theorem Inv.made (I : Inv X pins σ H s) : Inv X pins σ (upd (upd H s.heap.objs.size (.own (s.heap.objs.size + 1))) (s.heap.objs.size + 1) (.ins C s.heap.objs.size []))
    { s with heap := (s.heap.push PySem.W.emptyDict).push (PySem.W.instObj C s.heap.objs.size) } := by
  have e1 : (s.heap.push PySem.W.emptyDict).get? s.heap.objs.size = some PySem.W.emptyDict := Heap.get?_push_size s.heap rfl
  have e2 : ((s.heap.push PySem.W.emptyDict).push (PySem.W.instObj C s.heap.objs.size)).get? (s.heap.objs.size + 1) = some (PySem.W.instObj C s.heap.objs.size) := by
    have := Heap.get?_push_size (s.heap.push PySem.W.emptyDict) (o := PySem.W.instObj C s.heap.objs.size) rfl
    rwa [Heap.size_push] at this
  have e3 : (s.heap.push PySem.W.emptyDict).Ns s.heap.objs.size (fun _ => none) := ⟨PySem.W.emptyDict, #[], _, e1, rfl, (fun e he => absurd he (by simp)), fun _ => rfl⟩
  have I1 := I.laid (a := s.heap.objs.size) (o := .own (s.heap.objs.size + 1)) (h' := s.heap.push PySem.W.emptyDict) (t' := s.toks) (fun b u q => Heap.get?_push_of_some _ q) (Nat.le_refl _) ⟨_, e1⟩
  refine I1.laid (a := s.heap.objs.size + 1) (o := .ins C s.heap.objs.size []) (t' := s.toks) (fun b u q => Heap.get?_push_of_some _ q) (Nat.le_of_eq (Heap.size_push _ _)) ?_
  have ne : s.heap.objs.size ≠ s.heap.objs.size + 1 := Nat.ne_of_lt (Nat.lt_succ_self _)
  refine ⟨by rw [aq ne, aa], Nat.zero_le _, ne, e2, fun _ => none, (Heap.Ns1.of_empty e3).at fun o q => Heap.get?_push_of_some _ q, fun _ => True.intro, fun y hy => absurd rfl hy⟩
theorem pW {prog : Program} {w : World} {env : Env} {e : Expr} {f : Str} {pos : Pos} {s : Shared} {Q : Value → Shared → Prop} (hb : attributeBase e f env (eval e env) = eval e env)
    (h : wpAny (model prog w) A (eval e env) (fun o s₁ => wpAny (model prog w) A (getAttr o f true) Q E s₁) E s) : wpAny (model prog w) A (eval (.Attribute e f pos) env) Q E s :=
  Attribute_any_ h (by rw [arm_eval_Attribute, hb])
end
inductive CJ (K : PySem.W.Frag) (f : Str) (x : V) (H : Hp) (Q : VK) : Prop
  | mk (a C dx : Addr) (fs : List (Str × V)) (v : V) (hx : x = .ref a) (h : H a = some (.ins C dx fs)) (c : kB K C) (n : dG K C f) (l : fs.lookup f = some v) (q : Q v H)
def Bd (K : PySem.W.Frag) (ta : TE) (f : Str) : TE := fun σ H Q => ta σ H fun x H1 => CJ K f x H1 Q
def E4 (K : PySem.W.Frag) (ta : TE) (f : Str) : TE := fun σ H Q => ta σ H fun x H1 => ∃ a C dx fs v u, x = .ref a ∧ H1 a = some (.ins C dx fs) ∧ kB K C ∧ FW K C f v u ∧ fs.lookup f = none ∧ Q v H1
def Bf (K : PySem.W.Frag) (ta tv : TE) (f : Str) : TS := fun D σ H => tv σ H fun y H1 => ta σ H1 fun x H2 => ∃ a C dx fs, x = .ref a ∧ H2 a = some (.ins C dx fs) ∧ kB K C ∧ dG K C f ∧ fs.length < 1000 ∧
  D.nx σ (upd H2 a (.ins C dx (dq f y fs)))
def FL (X : Cx) (op : Operator) (rd : V → V → Hp → VK → Prop) : Prop :=
  ∀ (pins : List (Addr × Obj)) (s : Shared) (σ : St) (H : Hp) (x y : V) (u v : Value) (Q : VK), Inv X pins σ H s → RelV x u → RelV y v → rd x y H Q → wpAny (model X.prog X.w) X.A (inplaceOp op u v) (EP X pins σ Q) X.xe s
def BN (K : PySem.W.Frag) (ta tv : TE) (rd : V → V → Hp → VK → Prop) (f : Str) : TS := fun D σ H => ta σ H fun x H1 => ∃ a C dx fs v, x = .ref a ∧ H1 a = some (.ins C dx fs) ∧ kB K C ∧ dG K C f ∧ fs.lookup f = some v ∧
  tv σ H1 fun y H2 => rd v y H2 fun z H3 => ∃ dx' fs', H3 a = some (.ins C dx' fs') ∧ fs'.length < 1000 ∧ D.nx σ (upd H3 a (.ins C dx' (dq f z fs')))
section
variable {X : Cx} {o e value : Expr} {f : Str} {pos pos' tpos : Pos} {ta tv : TE}
theorem yt (he : PE X e ta) (hb : attributeBase e f X.env (eval e X.env) = eval e X.env) : PE X (.Attribute e f pos) (Bd X.K ta f) := by
  intro pins s σ H Q I h
  refine pW hb (bJ (he pins s σ H _ I h) fun u s1 hpat => ?_)
  obtain ⟨x, H1, I1, rx, a, C, dx, fs, v, ex, ea, c, n, l, q⟩ := hpat
  subst ex
  obtain rfl : u = Value.ref a := rx
  exact oN I1 ea c n l fun u' s2 I2 ru => ⟨v, H1, I2, ru, q⟩
theorem eh (ha : PE X o ta) (hv : PE X value tv) (hs : swapsWith value (some (.Attribute o f pos')) pos.line X.env = pure false) : PS X (.Assign [.Attribute o f pos'] value pos) (Bf X.K ta tv f) := by
  intro pins s σ H D I h
  refine plainObj_wpAny_Assign_Attribute (bJ (hv pins s σ H _ I h) fun u s1 ⟨y, H1, I1, ry, q⟩ => bJ (ha pins s1 σ H1 _ I1 q) fun ov s2 hpat => ?_) hs
  obtain ⟨x, H2, I2, rx, a, C, dx, fs, ex, ea, c, n, l, q2⟩ := hpat
  subst ex
  obtain rfl : ov = Value.ref a := rx
  exact pk I2 ea c n l ry fun s3 I3 => ⟨σ, _, I3, q2⟩
def FJ : V → V → Hp → VK → Prop := fun x y H Q => ∃ i j, x = .int i ∧ y = .int j ∧ Q (.int (i + j)) H
def F5 : V → V → Hp → VK → Prop := fun x y H Q => ∃ i j, x = .int i ∧ y = .int j ∧ Q (.int (i - j)) H
end
section
variable {X : Cx} {pins : List (Addr × Obj)} {σ : St} {H : Hp} {s : Shared} {A : Around} {E : Value → Shared → Prop} {Q : Value → Shared → Prop} {c : Value} {b : Bool}
inductive cT (K : PySem.W.Frag) (H : Hp) : V → Value → Prop where
  | non : cT K H .non (.type "NoneType")
  | bl (x : Bool) : cT K H (.bl x) (.type "bool")
  | int (i : Int) : cT K H (.int i) (.type "int")
  | str (x : Str) : cT K H (.str x) (.type "str")
  | flt (x : UInt64) : cT K H (.flt x) (.type "float")
  | lst {a : Addr} {xs : List V} (e : H a = some (.lst xs)) : cT K H (.ref a) (.type "list")
  | frz {a : Addr} {o : Obj} {xs : List V} (e : H a = some (.frz o (.lst xs))) : cT K H (.ref a) (.type "list")
  | tup {a : Addr} {xs : List V} (e : H a = some (.tup xs)) : cT K H (.ref a) (.type "tuple")
  | dK {a : Addr} {kvs : List (Key × V)} (e : H a = some (.dK kvs)) : cT K H (.ref a) (.type "dict")
  | dT {a : Addr} {kvs : List (List Key × V)} (e : H a = some (.dT kvs)) : cT K H (.ref a) (.type "dict")
  | ins {a C dx : Addr} {fs : List (Str × V)} (e : H a = some (.ins C dx fs)) (cl : kB K C) (ha : PySem.W.findIn K (.ref C) "__class__" = some (some (.builtin "object.__class__")))
      (hn : PySem.W.specialIn K (.builtin "object.__class__") "__get__" = some (some (.builtin "getset_descriptor.__get__"))) (htk : PySem.W.takesIn K (.builtin "object.__class__") = some true)
      (hm : PySem.W.mroIn K C (.type "object") = some true) : cT K H (.ref a) (.ref C)
theorem qV {x : V} {u t : Value} (I : Inv X pins σ H s) (rx : RelV x u) (ty : cT X.K H x t) (e : PySem.W.kitOne X.K t c = some b) (h : ∀ tk, Q (.bool b) { s with toks := tk }) :
    wpAny (model X.prog X.w) A (call (.builtin "isinstance") [u, c]) Q E s := by
  cases ty with
  | non => cases (show u = Value.none from rx); exact PySem.W.kia_one PySem.W.kitx_none I.dr True.intro e (fun z => nomatch z) h
  | bl y => cases (show u = Value.bool y from rx); exact PySem.W.kia_one PySem.W.kitx_bool I.dr True.intro e (fun z => nomatch z) h
  | int i => obtain ⟨t, q⟩ := (show ∃ t, u = Value.int i t from rx); cases q; exact PySem.W.kia_one PySem.W.kitx_int I.dr True.intro e (fun z => nomatch z) h
  | str y => obtain ⟨t, q⟩ := (show ∃ t, u = Value.str y t from rx); cases q; exact PySem.W.kia_one PySem.W.kitx_str I.dr True.intro e (fun z => nomatch z) h
  | flt y => obtain ⟨t, q⟩ := (show ∃ t, u = Value.float y t from rx); cases q; exact PySem.W.kia_one PySem.W.kitx_float I.dr True.intro e (fun z => nomatch z) h
  | @lst a xs ea =>
    cases (show u = Value.ref a from rx)
    obtain ⟨_, _, n, _, h1⟩ := (show bA X.prog X.w H s.heap a (.lst xs) from I.hok a _ ea)
    exact PySem.W.kia_one PySem.W.kitx_list I.dr ⟨_, h1, rfl⟩ e (fun z => nomatch z) h
  | @frz a ob xs ea =>
    cases (show u = Value.ref a from rx)
    obtain ⟨_, _, _, n, _, h1⟩ := (show bA X.prog X.w H s.heap a (.frz ob (.lst xs)) from I.hok a _ ea)
    exact PySem.W.kia_one PySem.W.kitx_list I.dr ⟨_, h1, rfl⟩ e (fun z => nomatch z) h
  | @tup a xs ea =>
    cases (show u = Value.ref a from rx)
    obtain ⟨_, _, _, p⟩ := (show bA X.prog X.w H s.heap a (.tup xs) from I.hok a _ ea)
    obtain ⟨o, h1, h2, _⟩ := p
    exact PySem.W.kia_one PySem.W.kitx_tuple I.dr ⟨o, h1, h2⟩ e (fun z => nomatch z) h
  | @dK a kvs ea =>
    cases (show u = Value.ref a from rx)
    obtain ⟨_, _, vs, _, p⟩ := (show bA X.prog X.w H s.heap a (.dK kvs) from I.hok a _ ea)
    obtain ⟨o, es, ep, h1, h2, _⟩ := p
    exact PySem.W.kia_one PySem.W.kitx_dict I.dr ⟨o, h1, h2.1⟩ e (fun z => nomatch z) h
  | @dT a kvs ea =>
    cases (show u = Value.ref a from rx)
    obtain ⟨_, _, xs, _, o, es, ep, h1, h2, _⟩ := (show bA X.prog X.w H s.heap a (.dT kvs) from I.hok a _ ea)
    exact PySem.W.kia_one PySem.W.kitx_dict I.dr ⟨o, h1, h2.1⟩ e (fun z => nomatch z) h
  | @ins a C dx fs ea cl ha hn htk hm =>
    cases (show u = Value.ref a from rx)
    obtain ⟨mA, O, _⟩ := jn I.hok ea
    obtain ⟨od, J, _⟩ := O.look
    exact PySem.W.kia_one (PySem.W.kitx_own (cl.get _) cl.hd ha hn htk hm) I.dr J e (fun z => nomatch z) h
end
end L2
namespace L2
open PySem PySem.Spec PyProof.Rows
structure bL (k : Nat) (A : Around) : Prop where
  hd : A.handled = none
  dp : A.depth + 3 * k + 5 < recursionLimit
  un : A.units + 16 * k + 200 < cLine
theorem bL.mono {j k : Nat} {A : Around} (r : bL k A) (h : j ≤ k) : bL j A := ⟨r.hd, by have := r.dp; omega, by have := r.un; omega⟩
theorem bL.deeper {k : Nat} {A : Around} (r : bL (k + 1) A) (env : Env) : bL k (A.deeper env) :=
  ⟨r.hd, by have := r.dp; show A.depth + 1 + 3 * k + 5 < _; omega, by have := r.un; show A.units + 3 + 16 * k + 200 < _; omega⟩
theorem pz {A : Around} {C : Addr} {us : List Value} {kw : List (Str × Value)} : (A.under (.builtin "type.__call__" ⟨.ref C :: us, kw⟩)).depth = A.depth + 1 := by
  first | rfl | simp [Around.under, Code.weight, Code.isCreation, Code.isGuard, Code.isCaller, Code.frames, Code.isFrame, guardIds]
theorem pb {A : Around} {C : Addr} {us : List Value} {kw : List (Str × Value)} : (A.under (.builtin "type.__call__" ⟨.ref C :: us, kw⟩)).units = A.units + 1 := by
  first | rfl | simp [Around.under, Code.cUnits, Code.frames, Code.isFrame]
theorem bL.make {k : Nat} {A : Around} (r : bL (k + 1) A) (C : Addr) (us : List Value) (kw : List (Str × Value)) : bL k (A.under (.builtin "type.__call__" ⟨.ref C :: us, kw⟩)) :=
  ⟨r.hd, by have := r.dp; rw [pz]; omega, by have := r.un; rw [pb]; omega⟩
theorem bL.depth {k : Nat} {A : Around} (r : bL k A) : A.depth < recursionLimit := by have := r.dp; omega
def vZ : TA := fun _ H Q => Q [] H
def uN (ta : TE) (tr : TA) : TA := fun σ H Q => ta σ H fun x H1 => tr σ H1 fun xs H2 => Q (x :: xs) H2
section
variable {X : Cx} {e : Expr} {es : List Expr} {te : TE} {t : TA} {pos : Pos}
theorem ae : PA X [] vZ := fun _ _ _ _ H Q I h => Calls.spliced_nil ⟨[], H, I, .nil, h⟩
theorem da (ha : PE X e te) (hr : PA X es t) (hs : starEach (e :: es) X.env = (false, eval e X.env) :: starEach es X.env := by rfl) : PA X (e :: es) (uN te t) := by
  intro pos pins s σ H Q I h
  rw [hs]
  show wpAny _ _ (spliced ((false, eval e X.env) :: backTo pos (starEach es X.env))) _ _ s
  refine Calls.spliced_cons (bJ (ha pins s σ H _ I h) fun u s1 hpat => ?_)
  obtain ⟨x, H1, I1, r1, q1⟩ := hpat
  exact bJ (hr pos pins s1 σ H1 _ I1 q1) fun us s2 ⟨xs, H2, I2, r2, q2⟩ => ⟨x :: xs, H2, I2, .cons r1 r2, q2⟩
def Bh (t : TA) : TE := fun σ H Q => t σ H fun xs H1 => xs.length ≤ sizeLine ∧ ∀ p, H1 p = none → Q (.ref p) (upd H1 p (.tup xs))
def AW (t : TA) : TE := fun σ H Q => t σ H fun xs H1 => xs.length ≤ sizeLine ∧ ∀ p, H1 p = none → Q (.ref p) (upd H1 p (.lst xs))
theorem bh {x1} (h : PA X es t) : PE X (.Tuple es x1 pos) (Bh t) := by
  intro pins s σ H Q I hq
  refine wpAny_Tuple_spliced (bJ (h pos pins s σ H _ I hq) fun us s1 ⟨xs, H1, I1, r, z, q⟩ => ⟨by rw [← r.length]; exact z, ?_⟩)
  have hf : H1 s1.heap.objs.size = none := I1.hok.fresh (Nat.le_refl _)
  refine ⟨.ref s1.heap.objs.size, upd H1 s1.heap.objs.size (.tup xs), I1.laid (t' := s1.toks) (fun b u e => Heap.get?_push_of_some _ e) (Nat.le_refl _) ?_, rfl, q _ hf⟩
  exact ⟨z, us, r, ⟨_, Heap.get?_push_size _ rfl, rfl, _, rfl⟩⟩
theorem bg (h : PA X es t) : PE X (.List es pos) (AW t) := by
  intro pins s σ H Q I hq
  refine wpAny_List_spliced (bJ (h pos pins s σ H _ I hq) fun us s1 ⟨xs, H1, I1, r, z, q⟩ => ⟨by rw [← r.length]; exact z, ?_⟩)
  have hf : H1 s1.heap.objs.size = none := I1.hok.fresh (Nat.le_refl _)
  refine ⟨.ref s1.heap.objs.size, upd H1 s1.heap.objs.size (.lst xs), I1.laid (t' := s1.toks) (fun b u e => Heap.get?_push_of_some _ e) (Nat.le_refl _) ?_, rfl, q _ hf⟩
  exact ⟨z, us, 0, r, Heap.get?_push_size _ rfl⟩
end
abbrev Sp := List V → Hp → VK → XK → Prop
abbrev rZ := List Env → Hp → Shared → XK → Value → Shared → Prop
structure pd (P : Program) (w : World) (K : PySem.W.Frag) (mg : Str → Option Value) (base : Heap) (A : Around) (outer : List Env) (s : Shared) (H : Hp) : Prop where
  frames : A.frames = some outer
  mod : Mod K mg base
  bs : ∀ b o, base.get? b = some o → s.heap.get? b = some o ∧ H b = none
  bsz : base.objs.size ≤ s.heap.objs.size
  iS : s.heap.FunFrames base outer
  frf : ∀ b ∈ di outer, H b = none
  hok : fz P w H s.heap
  bare : AllBare s.gens
def CE (outer : List Env) (P : Program) (w : World) (H : Hp) (s : Shared) (Q : VK) (u : Value) (s' : Shared) : Prop :=
  ∃ v H', s'.os = s.os ∧ AllBare s'.gens ∧ Un (di outer) [] H H' s.heap s'.heap ∧ fz P w H' s'.heap ∧ RelV v u ∧ Q v H'
def CR (CX : rZ) (outer : List Env) (P : Program) (w : World) (H : Hp) (s : Shared) (Q : VK) (E : XK) (r : Result) (s' : Shared) : Prop :=
  match r with
  | .ok (.ret u) => CE outer P w H s Q u s'
  | .ok _ => False
  | .error e => CX outer H s E e s'
structure bH (P : Program) (w : World) (K : PySem.W.Frag) (mg : Str → Option Value) (base : Heap) (CX : rZ) (k : Nat) (f : Addr) (fd : FuncData) (ps : List Str) (sp : Sp) : Prop where
  len : ∀ vs H Q E, sp vs H Q E → vs.length = ps.length
  run : ∀ (A : Around) (outer : List Env) (s : Shared) (H : Hp) (args : Args) (us : List Value) (vs : List V) (Q : VK) (E : XK), bL k A → pd P w K mg base A outer s H → BindsTo s fd args (ps.zip us) → Vals vs us → sp vs H Q E →
    codeAny (model P w) A (.call (.ref f) args) (CR CX outer P w H s Q E) s
theorem pd.make {P : Program} {w : World} {K : PySem.W.Frag} {mg : Str → Option Value} {base : Heap} {A : Around} {outer : List Env} {s : Shared} {H : Hp} (e : pd P w K mg base A outer s H) (C : Addr) (us : List Value) (kw : List (Str × Value)) :
    pd P w K mg base (A.under (.builtin "type.__call__" ⟨.ref C :: us, kw⟩)) outer s H := ⟨by first | exact e.frames | (simpa [Around.under, Code.envs, Code.isFrame, pushEnvs] using e.frames), e.mod, e.bs, e.bsz, e.iS, e.frf, e.hok, e.bare⟩
section
variable {X : Cx} {pins : List (Addr × Obj)} {σ : St} {H : Hp} {s s' : Shared}
theorem Inv.wz (I : Inv X pins σ H s) : pd X.prog X.w X.K X.mg X.base X.A X.stack s H :=
  ⟨I.ok.frames, I.ok.mod, I.bs, Nat.le_trans I.ok.bsz I.sz, I.stack, I.dX, I.hok, I.bare⟩
theorem Inv.after {Q : VK} {u : Value} (I : Inv X pins σ H s) (h : CE X.stack X.prog X.w H s Q u s') : EP X pins σ Q u s' := by
  obtain ⟨v, H', os, bare, un, hok, r, q⟩ := h
  obtain ⟨hh, g, d, t, os'⟩ := s'
  obtain rfl : os' = s.os := os
  exact ⟨v, H', I.call (h' := hh) (g' := g) (d' := d) (t' := t) (ch := []) un hok bare (fun b z => absurd z (by simp)), r, q⟩
end
def og (sp : Sp) (dvs : List V) (E : XK) (t : TA) : TE := fun σ H Q => t σ H fun vs H1 => sp (vs ++ dvs) H1 Q E
inductive MethP (C : Addr) (m : Str) (x : V) (H : Hp) (G : Prop) : Prop
  | mk (a dx : Addr) (fs : List (Str × V)) (hx : x = .ref a) (h : H a = some (.ins C dx fs)) (l : fs.lookup m = none) (q : G)
def qe (C : Addr) (m : Str) (sp : Sp) (dvs : List V) (E : XK) (ta : TE) (t : TA) : TE := fun σ H Q => ta σ H fun x H1 => MethP C m x H1 (t σ H1 fun vs H2 => sp (x :: (vs ++ dvs)) H2 Q E)
def tI (C : Addr) (sp : Sp) (dvs : List V) (E : XK) (t : TA) : TE := fun σ H Q => t σ H fun vs H1 => ∀ x dx, H1 x = none → H1 dx = none → dx ≠ x →
  sp (.ref x :: (vs ++ dvs)) (upd (upd H1 dx (.own x)) x (.ins C dx [])) (fun v H2 => v = .non ∧ Q (.ref x) H2) E
def Binds (K : PySem.W.Frag) (fd : FuncData) (ps : List Str) (ds : List Value) : Prop :=
  ∀ (s : Shared) (us : List Value), K.In s.heap → (us ++ ds).length = ps.length → BindsTo s fd ⟨us, []⟩ (ps.zip (us ++ ds))
theorem Binds.all {K : PySem.W.Frag} {fd : FuncData} {ps : List Str} (h : ∀ us : List Value, us.length = ps.length → bindArgs fd ⟨us, []⟩ = pure (ps.zip us)) : Binds K fd ps [] := fun s us _ hl => by
  rw [List.append_nil] at hl ⊢
  exact .of_eq (h us hl)
def Passes (CX : rZ) (X : Cx) (E : XK) : Prop := ∀ (pins : List (Addr × Obj)) (σ : St) (H : Hp) (s : Shared) (e : Value) (s' : Shared), Inv X pins σ H s → CX X.stack H s E e s' → X.xe e s'
section
variable {X : Cx} {CX : rZ} {k : Nat} {f C : Addr} {fd : FuncData} {ps : List Str} {sp : Sp} {dvs : List V} {ds : List Value} {E : XK} {x m : Str} {p pos apos : Pos} {e o : Expr} {es : List Expr} {ta : TE} {t : TA}
theorem oX {pins : List (Addr × Obj)} {σ : St} {H : Hp} {s : Shared} {Q : VK} {us : List Value} {vs : List V} (F : bH X.prog X.w X.K X.mg X.base CX k f fd ps sp) (hr : bL k X.A) (hb : Binds X.K fd ps ds) (hd : Vals dvs ds) (hx : Passes CX X E)
    (I : Inv X pins σ H s) (r : Vals vs us) (h : sp (vs ++ dvs) H Q E) : wpAny (model X.prog X.w) X.A (call (.ref f) us) (EP X pins σ Q) X.xe s := by
  have r2 : Vals (vs ++ dvs) (us ++ ds) := r.append hd
  have hl : (us ++ ds).length = ps.length := by rw [← r2.length]; exact F.len _ _ _ _ h
  refine wpAny_call (codeAny_mono (F.run X.A X.stack s H ⟨us, []⟩ (us ++ ds) (vs ++ dvs) Q E hr I.wz (hb s us I.dr hl) r2 h) fun r s' hq => ?_)
  cases r with
  | error e => exact hx pins σ H s e s' I hq
  | ok fl =>
    cases fl with
    | ret u => exact I.after hq
    | next => exact False.elim hq
    | brk => exact False.elim hq
    | cont => exact False.elim hq
theorem qd (F : bH X.prog X.w X.K X.mg X.base CX k f fd ps sp) (hr : bL k X.A) (hg : Gl X x) (hm : X.mg x = some (.ref f)) (hk : PySem.W.keepIn X.K (.ref f) = true) (hb : Binds X.K fd ps ds) (hd : Vals dvs ds) (hx : Passes CX X E)
    (ha : PA X (e :: es) t) (hdb : (x == ("__debug__" : Str)) = false := by decide) (he : starEach (e :: es) X.env = (false, eval e X.env) :: starEach es X.env := by rfl) (hpl : (backTo pos (starEach es X.env)).any (·.1) = false := by rfl) :
    PE X (.Call (.Name x p) (e :: es) [] pos) (og sp dvs E t) := by
  intro pins s σ H Q I h
  refine wpAny_Call_Name_kw (ie I hg hm ?_ hdb)
  refine PySem.W.callWith_K (h₀ := X.base) I.ok.mod.kin hk (bJ (ha pos pins s σ H _ I h) fun us s1 ⟨vs, H1, I1, r, q⟩ => ⟨I1.dr, ?_⟩) he hpl
  exact oX F hr hb hd hx I1 r q
theorem vz {pl : Sem Bool} (he : PE X o ta) (c : kB X.K C) (hm : Meth X.K C m f) (F : bH X.prog X.w X.K X.mg X.base CX k f fd ps sp) (hr : bL k X.A) (hb : Binds X.K fd ps ds) (hd : Vals dvs ds) (hx : Passes CX X E) (ha : PA X (e :: es) t)
    (hst : starEach (e :: es) X.env = (false, eval e X.env) :: starEach es X.env := by rfl) (hpl : (backTo pos (starEach es X.env)).any (·.1) = false := by rfl)
    (ht : eval (.Call (.Attribute o m apos) (e :: es) [] pos) X.env = (do
      let ov ← eval o X.env
      standAt apos.atName
      let (f, first) ← holding [ov] (getMethod ov m pl)
      callWith pos f first (backTo pos (starEach (e :: es) X.env)) (backToKw pos (keywordEach [] X.env))) := by rfl) :
    PE X (.Call (.Attribute o m apos) (e :: es) [] pos) (qe C m sp dvs E ta t) := by
  intro pins s σ H Q I h
  refine PySem.W.methodCall_KW (pl := pl) (bJ (he pins s σ H _ I h) fun u s1 hpat => ?_) ht
  obtain ⟨x, H1, I1, rx, a, dx, fs, ex, ea, l, q⟩ := hpat
  subst ex
  obtain rfl : u = Value.ref a := rx
  refine jT I1 ea c hm l ?_
  refine PySem.W.callWith_K (first := [.ref a]) (h₀ := X.base) I.ok.mod.kin hm.kp (bJ (ha pos pins s1 σ H1 _ I1 q) fun us s2 ⟨vs, H2, I2, r, q2⟩ => ⟨I2.dr, ?_⟩) hst hpl
  exact oX (us := .ref a :: us) (vs := .ref a :: vs) F hr hb hd hx I2 (.cons rfl r) q2
theorem tN {pl : Sem Bool} (he : PE X o ta) (c : kB X.K C) (hm : Meth X.K C m f) (F : bH X.prog X.w X.K X.mg X.base CX k f fd ps sp) (hr : bL k X.A) (hb : Binds X.K fd ps ds) (hd : Vals dvs ds) (hx : Passes CX X E)
    (ht : eval (.Call (.Attribute o m apos) [] [] pos) X.env = (do
      let ov ← eval o X.env
      standAt apos.atName
      let (f, first) ← holding [ov] (getMethod ov m pl)
      callWith pos f first (backTo pos (starEach [] X.env)) (backToKw pos (keywordEach [] X.env))) := by rfl) :
    PE X (.Call (.Attribute o m apos) [] [] pos) (qe C m sp dvs E ta vZ) := by
  intro pins s σ H Q I h
  refine PySem.W.methodCall_KW (pl := pl) (bJ (he pins s σ H _ I h) fun u s1 hpat => ?_) ht
  obtain ⟨x, H1, I1, rx, a, dx, fs, ex, ea, l, q⟩ := hpat
  subst ex
  obtain rfl : u = Value.ref a := rx
  refine jT I1 ea c hm l ?_
  exact PySem.W.callWith_K0 (first := [.ref a]) I1.dr hm.kp (oX (us := [.ref a]) (vs := [.ref a]) F hr hb hd hx I1 (.cons rfl .nil) q)
structure Mk (K : PySem.W.Frag) (C f : Addr) : Prop where
  makes : PySem.W.makesIn K C = true
  init : PySem.W.findIn K (.ref C) "__init__" = some (some (.ref f))
  fn : PySem.W.isFn K (.ref f) = true
  kp : PySem.W.keepIn K (.ref C) = true
theorem uL {pins : List (Addr × Obj)} {σ : St} {H : Hp} {s : Shared} {Q : VK} {us : List Value} {vs : List V} (M : Mk X.K C f) (F : bH X.prog X.w X.K X.mg X.base CX k f fd ps sp) (hr : bL (k + 1) X.A) (hb : Binds X.K fd ps ds) (hd : Vals dvs ds)
    (hx : Passes CX X E) (I : Inv X pins σ H s) (r : Vals vs us)
    (h : ∀ x dx, H x = none → H dx = none → dx ≠ x → sp (.ref x :: (vs ++ dvs)) (upd (upd H dx (.own x)) x (.ins C dx [])) (fun v H2 => v = .non ∧ Q (.ref x) H2) E) :
    wpAny (model X.prog X.w) X.A (call (.ref C) us) (EP X pins σ Q) X.xe s := by
  have hq := h (s.heap.objs.size + 1) s.heap.objs.size (I.hok.fresh (Nat.le_succ _)) (I.hok.fresh (Nat.le_refl _)) (Nat.ne_of_lt (Nat.lt_succ_self _))
  have I2 := Inv.made (C := C) I
  have r2 : Vals (V.ref (s.heap.objs.size + 1) :: (vs ++ dvs)) (Value.ref (s.heap.objs.size + 1) :: (us ++ ds)) := .cons rfl (r.append hd)
  have hl : (Value.ref (s.heap.objs.size + 1) :: us ++ ds).length = ps.length := by
    have e := r2.length
    rw [F.len _ _ _ _ hq] at e
    exact e.symm
  refine wpAny_call (sC (f := f) I.dr M.makes M.init (beq_iff_eq.mp M.fn) (codeAny_mono (F.run _ X.stack _ _ ⟨Value.ref (s.heap.objs.size + 1) :: us, []⟩ (Value.ref (s.heap.objs.size + 1) :: (us ++ ds)) _ _ E (hr.make C us [])
    (I2.wz.make C us []) (hb _ (Value.ref (s.heap.objs.size + 1) :: us) I2.dr hl) r2 hq) fun r s' hq' => ?_))
  cases r with
  | error e => exact hx pins σ _ _ e s' I2 hq'
  | ok fl =>
    cases fl with
    | ret u =>
      obtain ⟨v, H', I3, rv, ev, q3⟩ := I2.after hq'
      subst ev
      exact ⟨rv, ⟨V.ref (s.heap.objs.size + 1), H', I3, rfl, q3⟩⟩
    | next => exact False.elim hq'
    | brk => exact False.elim hq'
    | cont => exact False.elim hq'
theorem p7 (M : Mk X.K C f) (F : bH X.prog X.w X.K X.mg X.base CX k f fd ps sp) (hr : bL (k + 1) X.A) (hg : Gl X x) (hm : X.mg x = some (.ref C)) (hb : Binds X.K fd ps ds) (hd : Vals dvs ds) (hx : Passes CX X E)
    (ha : PA X (e :: es) t) (hdb : (x == ("__debug__" : Str)) = false := by decide) (he : starEach (e :: es) X.env = (false, eval e X.env) :: starEach es X.env := by rfl) (hpl : (backTo pos (starEach es X.env)).any (·.1) = false := by rfl) :
    PE X (.Call (.Name x p) (e :: es) [] pos) (tI C sp dvs E t) := by
  intro pins s σ H Q I h
  refine wpAny_Call_Name_kw (ie I hg hm ?_ hdb)
  refine PySem.W.callWith_K (h₀ := X.base) I.ok.mod.kin M.kp (bJ (ha pos pins s σ H _ I h) fun us s1 ⟨vs, H1, I1, r, q⟩ => ⟨I1.dr, ?_⟩) he hpl
  exact uL M F hr hb hd hx I1 r q
end
def PK (X : Cx) (kws : List Keyword) (t : TA) : Prop :=
  ∀ (pos : Pos) (pins : List (Addr × Obj)) (s : Shared) (σ : St) (H : Hp) (Q : List V → Hp → Prop), Inv X pins σ H s → t σ H Q → wpAny (model X.prog X.w) X.A (evalAll ((backToKw pos (keywordEach kws X.env)).map (·.2))) (AP X pins σ Q) X.xe s
section
variable {X : Cx} {CX : rZ} {k : Nat} {f C : Addr} {fd : FuncData} {ps ks : List Str} {sp : Sp} {E : XK} {x m : Str} {p pos apos kpos : Pos} {e o : Expr} {es : List Expr} {kws : List Keyword} {te ta : TE} {t tk : TA} {nm : Option Str}
structure B2 (K : PySem.W.Frag) (fd : FuncData) (ps ks : List Str) (g : List Value → List Value → List Value) (gV : List V → List V → List V) : Prop where
  to : ∀ (s : Shared) (us ws : List Value), K.In s.heap → (g us ws).length = ps.length → BindsTo s fd ⟨us, ks.zip ws⟩ (ps.zip (g us ws))
  rel : ∀ {vs : List V} {us : List Value} {zs : List V} {ws : List Value}, Vals vs us → Vals zs ws → Vals (gV vs zs) (g us ws)
def CH (sp : Sp) (gV : List V → List V → List V) (E : XK) (t tk : TA) : TE := fun σ H Q => t σ H fun vs H1 => tk σ H1 fun zs H2 => sp (gV vs zs) H2 Q E
variable {g : List Value → List Value → List Value} {gV : List V → List V → List V}
end
structure aB (N P : List Str) (sc : Scope) : Prop where
  kind : sc.kind = .function := by rfl
  co : sc.isCoroutine = false := by rfl
  gen : sc.isGenerator = false := by rfl
  nd : N.Nodup := by decide +kernel
  pre : N.take P.length = P := by rfl
  par : ∀ x ∈ P, sc.names.lookup x = some .local ∨ sc.names.lookup x = some .cell := by decide +kernel
  nofree : ∀ y ∈ sc.names, y.2 ≠ .free := by decide +kernel
theorem kW {kindOf : Str → Option NameKind} {x : Str} : ∀ {binds : List (Str × Value)} {m : Str → Option Value}, (∀ v, (x, v) ∉ binds) → bindL kindOf binds m x = m x
  | [], _, _ => rfl
  | (n, v) :: r, m, h => by
    unfold bindL
    rw [kW fun w hw => h w (List.mem_cons_of_mem _ hw)]
    split
    · have : x ≠ n := by rintro rfl; exact h v List.mem_cons_self
      simp [this]
    · rfl
theorem kS {kindOf : Str → Option NameKind} {x : Str} : ∀ {binds : List (Str × Value)} {m : Str → Option Value}, (∀ v, (x, v) ∉ binds) → bindC kindOf binds m x = m x
  | [], _, _ => rfl
  | (n, v) :: r, m, h => by
    unfold bindC
    rw [kS fun w hw => h w (List.mem_cons_of_mem _ hw)]
    split
    · rfl
    · have : x ≠ n := by rintro rfl; exact h v List.mem_cons_self
      simp [this]
theorem kY {kindOf : Str → Option NameKind} {x : Str} {v : Value} : ∀ {P : List Str} {vs : List Value} {i : Nat} {m : Str → Option Value}, P.Nodup → P[i]? = some x → vs[i]? = some v → kindOf x = some .local →
    bindL kindOf (P.zip vs) m x = some v
  | [], _, _, _, _, h, _, _ => by simp at h
  | _ :: _, [], _, _, _, _, h, _ => by simp at h
  | p :: P, w :: vs, 0, m, nd, h1, h2, hk => by
    simp at h1 h2; subst h1; subst h2
    show bindL kindOf ((p, w) :: P.zip vs) m p = _
    unfold bindL
    rw [kW fun v hv => (List.nodup_cons.mp nd).1 (List.of_mem_zip hv).1, if_pos hk]
    simp
  | p :: P, w :: vs, i + 1, m, nd, h1, h2, hk => by
    show bindL kindOf ((p, w) :: P.zip vs) m x = _
    unfold bindL
    exact kY (i := i) (List.nodup_cons.mp nd).2 (by simpa using h1) (by simpa using h2) hk
theorem kX {kindOf : Str → Option NameKind} {x : Str} {v : Value} : ∀ {P : List Str} {vs : List Value} {i : Nat} {m : Str → Option Value}, P.Nodup → P[i]? = some x → vs[i]? = some v → kindOf x ≠ some .local →
    bindC kindOf (P.zip vs) m x = some v
  | [], _, _, _, _, h, _, _ => by simp at h
  | _ :: _, [], _, _, _, _, h, _ => by simp at h
  | p :: P, w :: vs, 0, m, nd, h1, h2, hk => by
    simp at h1 h2; subst h1; subst h2
    show bindC kindOf ((p, w) :: P.zip vs) m p = _
    unfold bindC
    rw [kS fun v hv => (List.nodup_cons.mp nd).1 (List.of_mem_zip hv).1, if_neg hk]
    simp
  | p :: P, w :: vs, i + 1, m, nd, h1, h2, hk => by
    show bindC kindOf ((p, w) :: P.zip vs) m x = _
    unfold bindC
    exact kX (i := i) (List.nodup_cons.mp nd).2 (by simpa using h1) (by simpa using h2) hk
def start (N : List Str) (vs : List V) : St := vs.map some ++ List.replicate (N.length - vs.length) none
def dD (CX : rZ) (P : Program) (w : World) (K : PySem.W.Frag) (mg : Str → Option Value) (base : Heap) (N : List Str) (qual : Str) (scope : Scope) (f : Addr) (cd : Value) (A : Around) (outer : List Env) (s : Shared) (H : Hp) (E : XK) : Cx where
  prog := P
  w := w
  K := K
  mg := mg
  base := base
  A := A.deeper (envOfC qual scope s.heap.objs.size f cd)
  N := N
  s₀ := s
  H₀ := H
  env := envOfC qual scope s.heap.objs.size f cd
  outer := outer
  stack := envOfC qual scope s.heap.objs.size f cd :: outer
  ex := []
  calm := true
  fn := fun _ => true
  pn := []
  xe := fun e s' => wpAny (model P w) (A.deeper (envOfC qual scope s.heap.objs.size f cd)) (leaving (envOfC qual scope s.heap.objs.size f cd) e) (fun _ s'' => CX outer H s E e s'') (fun e' s'' => CX outer H s E e' s'') s'
theorem nV {sc : Scope} {n : Nat} {x : Str} (h : sc.names.lookup x = some .cell) : ∃ c, (cellsFrom n sc.names []).lookup x = some c := by
  have q := PySem.W.cellsFrom_some sc.names n [] (.inl h)
  exact Option.isSome_iff_exists.mp q
theorem rF {CX : rZ} {P : Program} {w : World} {K : PySem.W.Frag} {mg : Str → Option Value} {base : Heap} {N ps : List Str} {qual : Str} {scope : Scope} {f : Addr} {cd : Value} {A : Around} {outer : List Env} {s s1 : Shared} {H : Hp} {E : XK} {us : List Value} {vs : List V}
    (S : aB N ps scope) (hd : A.handled = none) (e0 : pd P w K mg base A outer s H) (hl : vs.length = ps.length) (r : Vals vs us)
    (x : InCallC s s.heap.objs.size (bindL (envOfC qual scope s.heap.objs.size f cd).kindOf (ps.zip us) fun _ => none) (cellsFrom (s.heap.objs.size + 1) scope.names []) (bindC (envOfC qual scope s.heap.objs.size f cd).kindOf (ps.zip us) fun _ => none) s1) :
    Inv (dD CX P w K mg base N qual scope f cd A outer s H E) [] (start N vs) H s1 := by
  have hpl : ps.length ≤ N.length := by have := congrArg List.length S.pre; rw [List.length_take] at this; omega
  obtain ⟨h1, tk, rfl, hk⟩ := x.done
  have noA : ∀ b : Addr, b ∉ (dD CX P w K mg base N qual scope f cd A outer s H E).ex := fun b z => absurd (show b ∈ ([] : List Addr) from z) (by simp)
  refine ⟨⟨e0.mod, S.kind, rfl, rfl, Nat.le_refl _, fun y z c h1 h2 => ?_, fun y hy => ?_, fun y c _ h => ?_, fun _ => hd, Around.frames_deeper e0.frames, .inr ⟨rfl, rfl⟩, fun b z => absurd z (noA b), e0.bs, e0.bsz, fun b _ _ => noA b, fun b z => absurd z (noA b), e0.iS, e0.frf⟩,
    rfl, e0.bare, Un.kept hk, ⟨_, x.toInCall.ns, fun i y v h1 h2 h3 => ?_⟩, fun y c h => ⟨_, x.cell y c h⟩, e0.hok.fresh (Nat.le_refl _), fun y c h => ?_, fun p hp => absurd (show p ∈ ([] : List (Addr × Obj)) from hp) (by simp), e0.hok.kept hk, ?_⟩
  · exact name_of_addr x.apart (PySem.mem_of_lookup h1) (PySem.mem_of_lookup h2)
  · have hy : scope.names.lookup y = some .cell ∨ scope.names.lookup y = some .free := hy
    rcases hy with hy | hy
    · exact nV hy
    · exact absurd rfl (S.nofree _ (PySem.mem_of_lookup hy))
  · exact Nat.le_of_lt (x.above y c (PySem.mem_of_lookup h))
  · have hi : i < vs.length := by
      unfold start at h2
      by_cases hi : i < vs.length
      · exact hi
      · rw [List.getElem?_append_right (by simpa using hi)] at h2
        rw [List.getElem?_replicate] at h2
        split at h2 <;> cases h2
    have ha : vs[i]? = some v := by
      unfold start at h2
      rw [List.getElem?_append_left (by simpa using hi), List.getElem?_map] at h2
      cases e : vs[i]? with
      | none => rw [e] at h2; cases h2
      | some a => rw [e] at h2; cases h2; rfl
    obtain ⟨u, hu, rv⟩ := r.get ha
    have hp : ps[i]? = some y := by
      rw [← S.pre, List.getElem?_take_of_lt (by omega)]; exact h1
    have ndP : ps.Nodup := by rw [← S.pre]; exact S.nd.sublist (List.take_sublist _ _)
    refine ⟨u, rv, ?_⟩
    rcases S.par y (List.mem_of_getElem? hp) with k | k
    · exact .inl ⟨k, kY ndP hp hu k⟩
    · obtain ⟨c, e⟩ := nV (n := s.heap.objs.size + 1) k
      refine .inr ⟨.inl k, c, e, ?_⟩
      have q := x.cell y c e
      rw [kX ndP hp hu (by show scope.names.lookup y ≠ _; rw [k]; decide)] at q
      exact q
  · exact e0.hok.fresh (Nat.le_of_lt (x.above y c (PySem.mem_of_lookup h)))
  · unfold start
    show _ = N.length
    rw [List.length_append, List.length_map, List.length_replicate]
    omega
theorem pH {CX : rZ} {P : Program} {w : World} {K : PySem.W.Frag} {mg : Str → Option Value} {base : Heap} {k : Nat} {f : Addr} {name qual : Str} {params : Arguments} {body : List Stmt} {scope : Scope} {dV kV doc pm cdv ct oc : Value} {an od : Option Addr}
    {osl : Array (Option Value)} {N ps : List Str} {sp : Sp} (lk : K.lookup f = some ⟨oc, od, .func (PySem.W.fnOf name qual params body scope dV kV doc pm an cdv ct), osl⟩) (hcd : PySem.W.codeIn K cdv qual = true) (S : aB N ps scope)
    (len : ∀ vs H Q E, sp vs H Q E → vs.length = ps.length)
    (hbody : ∀ (A : Around) (outer : List Env) (s : Shared) (H : Hp) (vs : List V) (Q : VK) (E : XK), bL k (A.deeper (envOfC qual scope s.heap.objs.size f cdv)) → sp vs H Q E →
      ∃ t, oJ (dD CX P w K mg base N qual scope f cdv A outer s H E) body t ∧ t { nx := fun _ H' => Q .non H', rt := Q } (start N vs) H) :
    bH P w K mg base CX (k + 1) f (PySem.W.fnOf name qual params body scope dV kV doc pm an cdv ct) ps sp := by
  refine ⟨len, fun A outer s H args us vs Q E hr e0 hb r hsp => ?_⟩
  have hl := len _ _ _ _ hsp
  have KX : K.In s.heap := e0.mod.kin.keeps fun b o e => (e0.bs b o e).1
  have lim : s.heap.NoLimit := e0.mod.nolimit.keeps fun b o e => (e0.bs b o e).1
  have hkind : ∀ y ∈ ps.zip us, scope.names.lookup y.1 = some .local ∨ (scope.names.lookup y.1 = some .cell ∧ ((cellsFrom (s.heap.objs.size + 1) scope.names []).lookup y.1).isSome = true) := fun ⟨n, v⟩ hy => by
    rcases S.par n (List.of_mem_zip hy).1 with q | q
    · exact .inl q
    · exact .inr ⟨q, PySem.W.cellsFrom_some _ _ _ (.inl q)⟩
  refine codeAny_call_function hr.depth (KX _ _ lk) rfl S.co S.gen rfl (PySem.W.codeRec_of KX hcd) (hb _ _ _ _ ?_)
  refine wpAny_newFunctionEnv_cells S.kind hkind fun env he s1 x => ?_
  subst he
  refine ⟨lim.keeps x.toInCall.keep, codeAny_func ?_⟩
  obtain ⟨t, ht, hq⟩ := hbody A outer s H vs Q E (hr.deeper _) hsp
  have I : Inv (dD CX P w K mg base N qual scope f cdv A outer s H E) [] (start N vs) H s1 := rF S hr.hd e0 hl r x
  refine wpAny_mono (ht [] s1 (start N vs) H _ I hq) (fun fl s' hs => ?_) fun e s' hs => hs
  have fin : ∀ {σ' : St} {H' : Hp} {v : V} {u : Value}, Inv (dD CX P w K mg base N qual scope f cdv A outer s H E) [] σ' H' s' → RelV v u → Q v H' → CE outer P w H s Q u s' :=
    fun {σ' H' v u} J rv q => ⟨v, H', J.os, J.bare, J.base, J.hok, rv, q⟩
  cases fl with
  | ret u =>
    obtain ⟨v, σ', H', J, rv, q⟩ := hs
    exact fin J rv q
  | next =>
    obtain ⟨σ', H', J, q⟩ := hs
    exact fin (v := V.non) (u := Value.none) J rfl q
  | brk =>
    obtain ⟨_, _, _, q⟩ := hs
    exact False.elim q
  | cont =>
    obtain ⟨_, _, _, q⟩ := hs
    exact False.elim q
end L2
namespace L2
open PySem PySem.Spec PyProof.Rows
section
variable {X : Cx} {x : Str} {p pos : Pos} {e : Expr} {es : List Expr} {t : TA} {id T : String} {r : List V → Hp → VK → Prop}
def zA (r : List V → Hp → VK → Prop) (t : TA) : TE := fun σ H Q => t σ H fun vs H1 => r vs H1 Q
theorem eE (hc : cN X (.builtin id) r) (hg : Gl X x) (hm : X.mg x = none) (hv : bootBuiltins x = some (.builtin id)) (ha : PA X (e :: es) t) (hn : x ≠ "__name__" := by decide) (hdb : (x == ("__debug__" : Str)) = false := by decide)
    (he : starEach (e :: es) X.env = (false, eval e X.env) :: starEach es X.env := by rfl) (hpl : (backTo pos (starEach es X.env)).any (·.1) = false := by rfl) : PE X (.Call (.Name x p) (e :: es) [] pos) (zA r t) := by
  intro pins s σ H Q I h
  refine wpAny_Call_Name_kw (gE I hg hm hv ?_ hn hdb)
  exact PyProof.Rows.callWith_builtin1 (bJ (ha pos pins s σ H _ I h) fun us s1 ⟨vs, H1, I1, r1, q1⟩ => hc pins s1 σ H1 vs us Q I1 r1 q1) he hpl
theorem rM (hc : cN X (.type T) r) (hg : Gl X x) (hm : X.mg x = none) (hv : bootBuiltins x = some (.type T)) (ha : PA X (e :: es) t) (hn : x ≠ "__name__" := by decide) (hdb : (x == ("__debug__" : Str)) = false := by decide)
    (he : starEach (e :: es) X.env = (false, eval e X.env) :: starEach es X.env := by rfl) (hpl : (backTo pos (starEach es X.env)).any (·.1) = false := by rfl) : PE X (.Call (.Name x p) (e :: es) [] pos) (zA r t) := by
  intro pins s σ H Q I h
  refine wpAny_Call_Name_kw (gE I hg hm hv ?_ hn hdb)
  exact PyProof.Rows.callWith_type1 (bJ (ha pos pins s σ H _ I h) fun us s1 ⟨vs, H1, I1, r1, q1⟩ => hc pins s1 σ H1 vs us Q I1 r1 q1) he hpl
end
end L2
namespace HT
open PySem PyProof.Rows
def lexLt : List Int → List Int → Bool
  | [], [] => false
  | [], _ :: _ => true
  | _ :: _, [] => false
  | x :: xs, y :: ys => if x = y then lexLt xs ys else decide (x < y)
section
open PySem.SeqAt
open PySem.AutoSeq1 (wpAny_loadPart')
open PySem.MeetsSeq PySem.MeetsSeq2 PySem.MeetsSeq3
end
section
variable {prog : Program} {w : World} {A : Around} {E : Value → Shared → Prop} {s : Shared}
def eS (n d : Nat) : Option Int → Nat
  | none => d
  | some v => if v < 0 then (v + (n : Int)).toNat else min v.toNat n
theorem eG (n d : Nat) : eS n d none = d := rfl
theorem fZ (n d k : Nat) : eS n d (some (k : Int)) = min k n := by
  show (if (k : Int) < 0 then ((k : Int) + (n : Int)).toNat else min (k : Int).toNat n) = min k n
  rw [if_neg (by omega), Int.toNat_natCast]
theorem zh (n d : Nat) (hd : d ≤ n) (o : Option Int) : eS n d o ≤ n := by
  cases o with
  | none => exact hd
  | some v =>
    show (if v < 0 then (v + (n : Int)).toNat else min v.toNat n) ≤ n
    by_cases hv : v < 0
    · rw [if_pos hv]; omega
    · rw [if_neg hv]; exact Nat.min_le_right _ _
theorem vq (a b : Nat) : ((min a b : Nat) : Int) = min (a : Int) (b : Int) := by omega
end
end HT
namespace L2
open PySem PySem.Spec PyProof.Rows
abbrev TO := St → Hp → (Option Int → Hp → Prop) → Prop
def PO (X : Cx) (e : Option Expr) (t : TO) : Prop :=
  ∀ (pins : List (Addr × Obj)) (s : Shared) (σ : St) (H : Hp) (Q : Option Int → Hp → Prop), Inv X pins σ H s → t σ H Q →
    wpAny (model X.prog X.w) X.A (evalPart e X.env) (fun u s' => ∃ o H', Inv X pins σ H' s' ∧ IsPart u o ∧ Q o H') X.xe s
def qg : TO := fun _ H Q => Q none H
inductive CA (x : V) (H : Hp) (Q : Option Int → Hp → Prop) : Prop
  | mk (i : Int) (h : x = .int i) (q : Q (some i) H)
def wY (t : TE) : TO := fun σ H Q => t σ H fun x H1 => CA x H1 Q
section
variable {X : Cx} {e : Expr} {te : TE} {lo hi : Option Expr} {tl th : TO} {pos p2 : Pos}
theorem cM : PO X none qg := by
  intro pins s σ H Q I h
  rw [evalPart_none]
  exact wpAny_pure ⟨none, H, I, .none, h⟩
theorem cj (h : PE X e te) : PO X (some e) (wY te) := by
  intro pins s σ H Q I hw
  rw [evalPart_some]
  refine bJ (h pins s σ H _ I hw) fun u s1 hpat => ?_
  obtain ⟨x, H1, I1, r1, q1⟩ := hpat
  obtain ⟨i, rfl, q⟩ := q1
  obtain ⟨t, rfl⟩ := r1
  exact ⟨some i, H1, I1, .int i t, q⟩
def BG (X : Cx) (r : V → Option Int → Option Int → Hp → VK → Prop) : Prop :=
  ∀ (pins : List (Addr × Obj)) (s : Shared) (σ : St) (H : Hp) (x : V) (v vl vu : Value) (lo hi : Option Int) (sl : Addr) (Q : VK), Inv X pins σ H s → RelV x v → s.heap.IsSliceOf sl vl vu .none → IsPart vl lo → IsPart vu hi → r x lo hi H Q →
    ∃ T id, typeLookup (.type T) "__getitem__" = pure (some (.builtin id)) ∧ s.TypeIs v T ∧ wpAny (model X.prog X.w) X.A (getItem v (.ref sl)) (EP X pins σ Q) X.xe s
def Ef (r : V → Option Int → Option Int → Hp → VK → Prop) (te : TE) (tl th : TO) : TE := fun σ H Q => te σ H fun x H1 => tl σ H1 fun l H2 => th σ H2 fun u H3 => r x l u H3 Q
theorem bU {r : V → Option Int → Option Int → Hp → VK → Prop} (hr : BG X r) (he : PE X e te) (hl : PO X lo tl) (hu : PO X hi th) : PE X (.Subscript e (.Slice lo hi none p2) pos) (Ef r te tl th) := by
  intro pins s σ H Q I h
  refine Subscript_ (bJ (he pins s σ H _ I h) fun v s1 hpat => ?_)
  obtain ⟨x, H1, I1, r1, q1⟩ := hpat
  refine wpAny_Slice (bJ (hl pins s1 σ H1 _ I1 q1) fun vl s2 ⟨l, H2, I2, pl, q2⟩ => bJ (hu pins s2 σ H2 _ I2 q2) fun vu s3 hpat => ?_)
  obtain ⟨u, H3, I3, pu, q3⟩ := hpat
  rw [evalPart_none]
  refine wpAny_pure ?_
  have I4 : Inv X pins σ H3 { s3 with heap := s3.heap.push { cls := .type "slice", data := .fields #[vl, vu, .none] } } := I3.kept (t' := s3.toks) fun b ob q => Heap.get?_push_of_some _ q
  obtain ⟨T, id, hT, ht, hg⟩ := hr pins { s3 with heap := s3.heap.push { cls := .type "slice", data := .fields #[vl, vu, .none] } } σ H3 x v vl vu l u s3.heap.objs.size Q I4 r1 (Heap.IsSliceOf.new ..) pl pu q3
  show wpAny (model X.prog X.w) X.A (subscriptTail e (.Slice lo hi none p2) v (.ref s3.heap.objs.size)) (EP X pins σ Q) X.xe { s3 with heap := s3.heap.push { cls := .type "slice", data := .fields #[vl, vu, .none] } }
  exact tail_any (ops := [.ref s3.heap.objs.size, v]) ht hT hg (by with_unfolding_all rfl)
def bj (xs : List V) (lo hi : Option Int) : List V := (xs.drop (HT.eS xs.length 0 lo)).take (HT.eS xs.length xs.length hi - HT.eS xs.length 0 lo)
theorem jd (xs : List V) (lo hi : Option Int) : (bj xs lo hi).length ≤ xs.length := by
  unfold bj
  rw [List.length_take, List.length_drop]
  exact Nat.le_trans (Nat.min_le_right _ _) (Nat.sub_le _ _)
def Fn (K : PySem.W.Frag) : V → Option Int → Option Int → Hp → VK → Prop := fun x lo hi H Q => ∃ a xs, x = .ref a ∧ br K H a xs ∧
  ¬ (HT.eS xs.length 0 lo = 0 ∧ HT.eS xs.length xs.length hi = xs.length) ∧ ∀ p, H p = none → Q (.ref p) (upd H p (.tup (bj xs lo hi)))
def Fz (K : PySem.W.Frag) : R2 := fun x y H Q => ∃ a b ns ms, x = .ref a ∧ y = .ref b ∧ br K H a (ns.map V.int) ∧ br K H b (ms.map V.int) ∧ Q (.bl (HT.lexLt ns ms)) H
def Ee (K : PySem.W.Frag) : R2 := fun x y H Q => ∃ a b xs ys, x = .ref a ∧ y = .ref b ∧ br K H a xs ∧ br K H b ys ∧ xs ≠ [] ∧ xs.length + ys.length ≤ sizeLine ∧
  (ys = [] → Q (.ref a) H) ∧ (ys ≠ [] → ∀ p, H p = none → Q (.ref p) (upd H p (.tup (xs ++ ys))))
end
end L2
namespace L2
open PySem PySem.Spec PyProof.Rows
def ur (n : Nat) (i : Int) : Option Nat := if 0 ≤ i then (if i < n then some i.toNat else none) else if -(n : Int) ≤ i then some (i + n).toNat else none
def sH {α : Type} (xs : List α) (i : Int) : Option α := (ur xs.length i).bind fun j => xs[j]?
theorem pY {n : Nat} {i : Int} {j : Nat} (h : ur n i = some j) : seqIndex? i n = some j ∧ j < n ∧ -(n : Int) ≤ i ∧ i < n := by
  unfold ur at h
  by_cases h0 : 0 ≤ i
  · rw [if_pos h0] at h
    by_cases h1 : i < n
    · rw [if_pos h1] at h
      have e : i.toNat = j := Option.some.inj h
      exact ⟨by rw [seqIndex_of h0 h1, e], by omega, by omega, h1⟩
    · rw [if_neg h1] at h; cases h
  · rw [if_neg h0] at h
    by_cases h1 : -(n : Int) ≤ i
    · rw [if_pos h1] at h
      have e : (i + n).toNat = j := Option.some.inj h
      exact ⟨by rw [seqIndex_neg (by omega) h1, e], by omega, h1, by omega⟩
    · rw [if_neg h1] at h; cases h
theorem lO {α : Type} {xs : List α} {i : Int} {v : α} (h : sH xs i = some v) : ∃ j, seqIndex? i xs.length = some j ∧ xs[j]? = some v ∧ j < xs.length ∧ -(xs.length : Int) ≤ i ∧ i < xs.length := by
  unfold sH at h
  cases e : ur xs.length i with
  | none => rw [e] at h; cases h
  | some j =>
    rw [e] at h
    obtain ⟨h1, h2, h3, h4⟩ := pY e
    exact ⟨j, h1, h, h2, h3, h4⟩
theorem cA {α : Type} {xs : List α} {j : Nat} {v : α} (h : xs[j]? = some v) : sH xs (j : Int) = some v := by
  have hj : j < xs.length := (List.getElem?_eq_some_iff.mp h).1
  have e : ur xs.length (j : Int) = some j := by
    unfold ur
    rw [if_pos (by omega), if_pos (by omega)]; simp
  unfold sH; rw [e]; exact h
def cR (b : Expr) : Prop := ∀ o i, subscripted b false o i = operate [o, i] (getItem o i)
def Bo (X : Cx) (r : R2) : Prop :=
  ∀ (value slice : Expr) (pins : List (Addr × Obj)) (s : Shared) (σ : St) (H : Hp) (x y : V) (v u : Value) (Q : VK), Inv X pins σ H s → RelV x v → RelV y u → r x y H Q →
    subscripted slice false v u = operate [v, u] (getItem v u) → wpAny (model X.prog X.w) X.A (subscriptTail value slice v u) (EP X pins σ Q) X.xe s
def BD (X : Cx) (id : String) (r : V → List V → Hp → VK → Prop) : Prop :=
  ∀ (pins : List (Addr × Obj)) (s : Shared) (σ : St) (H : Hp) (x : V) (xs : List V) (v : Value) (us : List Value) (Q : VK), Inv X pins σ H s → RelV x v → Vals xs us → r x xs H Q →
    wpAny (model X.prog X.w) X.A (call (.builtin id) (v :: us)) (EP X pins σ Q) X.xe s
section
variable {X : Cx} {a b : Expr} {ta tb : TE} {pos : Pos}
theorem aK {r : R2} (hr : Bo X r) (ha : PE X a ta) (hb : PE X b tb) (hs : cR b) : PE X (.Subscript a b pos) (xb r ta tb) := by
  intro pins s σ H Q I h
  exact Subscript_ (xH ha hb I h fun v u s2 x y H2 I2 rx ry q => hr a b pins s2 σ H2 x y v u Q I2 rx ry q (hs _ _))
inductive Ej (S : Addr → List V → Prop) (x y : V) (H : Hp) (Q : VK) : Prop
  | mk (p : Addr) (xs : List V) (i : Int) (v : V) (hx : x = .ref p) (hy : y = .int i) (s : S p xs) (e : sH xs i = some v) (q : Q v H)
inductive Cn (x y : V) (H : Hp) (Q : VK) : Prop
  | mk (z : Str) (i : Int) (c : Nat) (hx : x = .str z) (hy : y = .int i) (s : z.length ≤ sizeLine) (e : sH z.cps.toList i = some c) (q : Q (.str ⟨#[c]⟩) H)
def vP (K : PySem.W.Frag) : R2 := fun x y H Q => Ej (aE K H) x y H Q
def yS (K : PySem.W.Frag) : R2 := fun x y H Q => Ej (br K H) x y H Q
def zx : R2 := fun x y H Q => Cn x y H Q
theorem aG : Bo X (vP X.K) := by
  intro value slice pins s σ H x y v u Q I rx ry h hs
  obtain ⟨p, xs, i, z, rfl, rfl, hq, he, q⟩ := h
  cases rx
  obtain ⟨t, rfl⟩ := ry
  obtain ⟨its, r, pl, hz⟩ := I.list hq
  obtain ⟨j, h1, h2, h3, h4, h5⟩ := lO he
  obtain ⟨w, ew, rw'⟩ := r.get h2
  have hl := r.length
  have hn := iR
  have fin : EP X pins σ Q w s := ⟨z, H, I, rw', q⟩
  by_cases h0 : 0 ≤ i
  · have hj : i.toNat = j := by
      rw [seqIndex_of h0 h5] at h1
      exact Option.some.inj h1
    exact item_listR pl.isList h0 (by omega) (by rw [hj]; simpa using ew) fin hs
  · have hj : (i + (its.toArray.size : Int)).toNat = j := by
      rw [seqIndex_neg (by omega) h4] at h1
      rw [List.size_toArray, ← hl]
      exact Option.some.inj h1
    exact subscriptTail_builtinR (x := w) pl.isList.typeIs slot_list_getitem.lookup
      (wpAny_getItem_list_neg (Q := fun r s' => r = w ∧ EP X pins σ Q r s') pl.isList (by omega) (by rw [List.size_toArray] <;> omega) (by omega) (by rw [hj]; simpa using ew) ⟨rfl, fin⟩) hs
theorem b6 : Bo X (yS X.K) := by
  intro value slice pins s σ H x y v u Q I rx ry h hs
  obtain ⟨p, xs, i, z, rfl, rfl, hq, he, q⟩ := h
  cases rx
  obtain ⟨t, rfl⟩ := ry
  obtain ⟨its, r, pl, hz⟩ := I.tuple hq
  obtain ⟨j, h1, h2, h3, h4, h5⟩ := lO he
  obtain ⟨w, ew, rw'⟩ := r.get h2
  have hl := r.length
  have hn := iR
  have fin : EP X pins σ Q w s := ⟨z, H, I, rw', q⟩
  exact subscriptTail_builtinR (x := w) pl.typeIs slot_tuple_getitem.lookup
    (getItem_tuple (j := j) (Q := fun r s' => r = w ∧ EP X pins σ Q r s') pl (by omega) (by omega) (by rw [List.size_toArray, ← hl]; exact h1) (by simpa using ew) ⟨rfl, fin⟩) hs
theorem jE : Bo X zx := by
  intro value slice pins s σ H x y v u Q I rx ry h hs
  obtain ⟨z, i, c, rfl, rfl, hz, he, q⟩ := h
  obtain ⟨t, rfl⟩ := rx
  obtain ⟨t', rfl⟩ := ry
  obtain ⟨j, h1, h2, h3, h4, h5⟩ := lO he
  have hl : z.cps.toList.length = z.length := by simp [Str.length]
  rw [hl] at h1 h4 h5
  have hn := iR
  exact tail_any (typeIs_str s z t) slot_str_getitem.lookup (getItem_str (c := c) (by
    have e1 : decide (i < -(2 ^ 63 : Int)) = false := decide_eq_false (by omega)
    have e2 : decide (i ≥ 2 ^ 63) = false := decide_eq_false (by omega)
    rw [e1, e2, Bool.or_false]) (by rw [h1]; simpa using h2) ⟨.str ⟨#[c]⟩, H, I.tok _, ⟨_, rfl⟩, q⟩) hs
def Gg (K : PySem.W.Frag) : R2 := fun x y H Q => vP K x y H Q ∨ yS K x y H Q ∨ zx x y H Q
theorem pA (its : List Value) (n j : Nat) (u : Value) : Obj.mapSeq (·.setIfInBounds j u) { cls := .type "list", data := .seq its.toArray n } = { cls := .type "list", data := .seq (its.set j u).toArray n } := by
  simp [Obj.mapSeq]
theorem Inv.lst {pins : List (Addr × Obj)} {σ : St} {H : Hp} {s : Shared} {p : Addr} {xs : List V} (I : Inv X pins σ H s) (h : H p = some (.lst xs)) :
    ∃ (its : List Value) (n : Nat), Vals xs its ∧ s.heap.get? p = some { cls := .type "list", data := .seq its.toArray n } ∧ xs.length ≤ sizeLine := by
  obtain ⟨z, its, n, r, e⟩ := I.hok p _ h
  exact ⟨its, n, r, e, z⟩
theorem Inv.xK {pins : List (Addr × Obj)} {σ : St} {H : Hp} {s : Shared} {p : Addr} {xs ys : List V} {its its' : List Value} {n n' : Nat} {f : Obj → Obj} (I : Inv X pins σ H s) (h : H p = some (.lst xs))
    (ho : s.heap.get? p = some { cls := .type "list", data := .seq its.toArray n }) (hf : f { cls := .type "list", data := .seq its.toArray n } = { cls := .type "list", data := .seq its'.toArray n' }) (r : Vals ys its') (hz : ys.length ≤ sizeLine) (t : Nat) :
    Inv X pins σ (upd H p (.lst ys)) { s with heap := s.heap.update p f, toks := t } := by
  have e : (s.heap.update p f).get? p = some { cls := .type "list", data := .seq its'.toArray n' } := by
    rw [Heap.get?_update_self f ho (by rw [hf] <;> rfl), hf]
  refine I.write (x := p) (e := p) (by rw [h]; trivial) (.inl rfl) (fun b u hb q => (Heap.get?_update_other _ _ (Ne.symm hb)).trans q) ⟨_, e⟩ ?_
  exact ⟨hz, its', n', r, e⟩
inductive Ci (o i v : V) (H : Hp) (Q : Hp → Prop) : Prop
  | mk (p : Addr) (xs : List V) (k : Int) (j : Nat) (ho : o = .ref p) (hi : i = .int k) (s : H p = some (.lst xs)) (e : ur xs.length k = some j) (q : Q (upd H p (.lst (xs.set j v))))
def xa : V → V → V → Hp → (Hp → Prop) → Prop := fun o i v H Q => Ci o i v H Q
theorem set_list : vH X xa := by
  intro pins s σ H o i v ov iv u Q I ro ri rv h
  obtain ⟨p, xs, k, j, rfl, rfl, hp, hj, q⟩ := h
  cases ro
  obtain ⟨t, rfl⟩ := ri
  obtain ⟨its, n, r, ho, hz⟩ := I.lst hp
  obtain ⟨h1, h2, h3, h4⟩ := pY hj
  have hl := r.length
  have hn := iR
  have I' : Inv X pins σ (upd H p (.lst (xs.set j v))) { s with heap := s.heap.update p (Obj.mapSeq (·.setIfInBounds j u)) } :=
    I.xK hp ho (pA its n j u) (r.set rv j) (by rw [List.length_set]; exact hz) s.toks
  by_cases h0 : 0 ≤ k
  · have hk : k.toNat = j := by
      rw [seqIndex_of h0 h4] at h1
      exact Option.some.inj h1
    exact PySem.W.ki_setAt ho h0 (by omega) (by rw [List.size_toArray, ← hl]; exact h4) (by rw [hk]; exact ⟨_, I', q⟩)
  · have hk : (k + (its.toArray.size : Int)).toNat = j := by
      rw [seqIndex_neg (by omega) h3] at h1
      rw [List.size_toArray, ← hl]
      exact Option.some.inj h1
    exact PySem.W.ki_setBack ho (by omega) (by rw [List.size_toArray, ← hl]; exact h3) (by omega) (by rw [hk]; exact ⟨_, I', q⟩)
theorem uB (v : Int) (n d : Nat) : max 0 (min (if v < 0 then v + (n : Int) else v) (n : Int)) = ((HT.eS n d (some v) : Nat) : Int) := by
  show _ = (((if v < 0 then (v + (n : Int)).toNat else min v.toNat n) : Nat) : Int)
  by_cases hv : v < 0
  · rw [if_pos hv, if_pos hv, Int.toNat_eq_max, Int.max_comm, Int.min_eq_left (by omega)]
  · rw [if_neg hv, if_neg hv, HT.vq, Int.toNat_of_nonneg (Int.not_lt.mp hv)]
    exact Int.max_eq_right (Int.le_min.mpr ⟨Int.not_lt.mp hv, Int.natCast_nonneg n⟩)
theorem lK (lo hi : Option Int) (n : Nat) : (sliceBounds lo hi none n).1 = ((HT.eS n 0 lo : Nat) : Int) ∧ (sliceBounds lo hi none n).2.1 = ((HT.eS n n hi : Nat) : Int) ∧ (sliceBounds lo hi none n).2.2 = 1 := by
  refine ⟨?_, ?_, rfl⟩
  · cases lo with
    | none => simp [sliceBounds, HT.eS]
    | some i =>
      simp only [sliceBounds, Option.getD_none, show (1 : Int) > 0 by decide, if_true]
      exact uB i n 0
  · cases hi with
    | none => simp [sliceBounds, HT.eS]
    | some i =>
      simp only [sliceBounds, Option.getD_none, show (1 : Int) > 0 by decide, if_true]
      exact uB i n n
theorem kr (its : List Value) (lo hi : Option Int) : slicePick its.toArray lo hi none = ((its.drop (HT.eS its.length 0 lo)).take (HT.eS its.length its.length hi - HT.eS its.length 0 lo)).toArray := by
  obtain ⟨h1, h2, h3⟩ := lK lo hi its.toArray.size
  unfold slicePick
  rw [h1, h2, h3]
  simp only [sliceRange_one, pick_run, List.size_toArray] <;> rfl
inductive Fj (K : PySem.W.Frag) (x : V) (lo hi : Option Int) (H : Hp) (Q : VK) : Prop
  | mk (a : Addr) (xs : List V) (hx : x = .ref a) (s : aE K H a xs) (q : ∀ p, H p = none → Q (.ref p) (upd H p (.lst (bj xs lo hi))))
def Aa (K : PySem.W.Frag) : V → Option Int → Option Int → Hp → VK → Prop := fun x lo hi H Q => Fj K x lo hi H Q
theorem de : BG X (Aa X.K) := by
  intro pins s σ H x v vl vu lo hi sl Q I rx hs pl pu h
  obtain ⟨a, xs, rfl, hx, q⟩ := h
  cases rx
  obtain ⟨its, r, ht, hz⟩ := I.list hx
  have hlen := r.length
  refine ⟨"list", _, slot_list_getitem.lookup, ht.isList.typeIs, ?_⟩
  refine wpAny_getItem_list_slice ht.isList hs pl pu .none (by simp) ?_ (by rw [List.size_toArray] <;> omega)
  rw [kr, ← hlen]
  refine ⟨.ref s.heap.objs.size, _, I.laid (t' := s.toks) (o := .lst (bj xs lo hi)) (fun b ob q => Heap.get?_push_of_some _ q) (Nat.le_refl _) ?_, rfl, q _ (I.hok.fresh (Nat.le_refl _))⟩
  exact ⟨Nat.le_trans (jd xs lo hi) hz, _, 0, (r.drop (HT.eS xs.length 0 lo)).take (HT.eS xs.length xs.length hi - HT.eS xs.length 0 lo), Heap.get?_push_size _ rfl⟩
def dh : V → Bool
  | .non => true
  | .bl _ => true
  | .int _ => true
  | .str _ => true
  | _ => false
def sh : V → V → Bool
  | .non, .non => true
  | .bl a, .bl b => a == b
  | .bl a, .int b => (if a then 1 else 0) == b
  | .int a, .bl b => a == (if b then 1 else 0)
  | .int a, .int b => a == b
  | .str a, .str b => a == b
  | _, _ => false
theorem yd {A : Around} {s : Shared} {y x : V} {u v : Value} (ry : RelV y u) (rx : RelV x v) (fy : dh y = true) (fx : dh x = true) : SeqAt.EqAt A s u v (sh y x) := by
  cases y with
  | non =>
    cases ry
    cases x with
    | non => cases rx; exact SeqAt.EqAt.same _
    | bl b => cases rx; exact SeqAt.EqAt.none_bool b
    | int b => obtain ⟨t, rfl⟩ := rx; exact SeqAt.EqAt.none_int b t
    | str b => obtain ⟨t, rfl⟩ := rx; exact SeqAt.EqAt.none_str b t
    | _ => exact absurd (show false = true from fx) Bool.false_ne_true
  | bl a =>
    cases ry
    cases x with
    | non => cases rx; exact SeqAt.EqAt.bool_none a
    | bl b => cases rx; exact SeqAt.EqAt.bool_bool a b
    | int b => obtain ⟨t, rfl⟩ := rx; exact SeqAt.EqAt.bool_int a b t
    | str b => obtain ⟨t, rfl⟩ := rx; exact SeqAt.EqAt.bool_str a b t
    | _ => exact absurd (show false = true from fx) Bool.false_ne_true
  | int a =>
    obtain ⟨t', rfl⟩ := ry
    cases x with
    | non => cases rx; exact SeqAt.EqAt.int_none a t'
    | bl b => cases rx; exact SeqAt.EqAt.int_bool a t' b
    | int b => obtain ⟨t, rfl⟩ := rx; exact SeqAt.EqAt.int_int a t' b t
    | str b => obtain ⟨t, rfl⟩ := rx; exact SeqAt.EqAt.int_str a t' b t
    | _ => exact absurd (show false = true from fx) Bool.false_ne_true
  | str a =>
    obtain ⟨t', rfl⟩ := ry
    cases x with
    | non => cases rx; exact SeqAt.EqAt.str_none a t'
    | bl b => cases rx; exact SeqAt.EqAt.str_bool a t' b
    | int b => obtain ⟨t, rfl⟩ := rx; exact SeqAt.EqAt.str_int a t' b t
    | str b => obtain ⟨t, rfl⟩ := rx; exact SeqAt.EqAt.str_str a t' b t
    | _ => exact absurd (show false = true from fx) Bool.false_ne_true
  | _ => exact absurd (show false = true from fy) Bool.false_ne_true
def oq (x : V) (u : Value) : Bool := match u with
  | .none => sh .non x
  | .bool b => sh (.bl b) x
  | .int i _ => sh (.int i) x
  | .str z _ => sh (.str z) x
  | _ => false
theorem sV {x y : V} {u : Value} (r : RelV y u) (f : dh y = true) : oq x u = sh y x := by
  cases y with
  | non => cases r; rfl
  | bl b => cases r; rfl
  | int i => obtain ⟨t, rfl⟩ := r; rfl
  | str z => obtain ⟨t, rfl⟩ := r; rfl
  | _ => exact absurd (show false = true from f) Bool.false_ne_true
theorem gT {x : V} : ∀ {xs : List V} {us : List Value}, Vals xs us → xs.all dh = true → us.any (oq x) = xs.any fun y => sh y x
  | _, _, .nil, _ => rfl
  | y :: xs, u :: us, .cons r t, f => by
    rw [List.all_cons, Bool.and_eq_true] at f
    rw [List.any_cons, List.any_cons, sV r f.1, gT t f.2]
theorem fM {A : Around} {s : Shared} {x : V} {v : Value} (rx : RelV x v) (fx : dh x = true) : ∀ {xs : List V} {us : List Value}, Vals xs us → xs.all dh = true → ∀ u ∈ us, SeqAt.EqAt A s u v (oq x u)
  | _, _, .nil, _ => fun u hu => by cases hu
  | y :: xs, u :: us, .cons r t, f => fun u' hu => by
    rw [List.all_cons, Bool.and_eq_true] at f
    rcases List.mem_cons.mp hu with rfl | hu
    · rw [sV r f.1]; exact yd r rx f.1 fx
    · exact fM rx fx t f.2 u' hu
def u9 (x : V) (xs : List V) : Bool := xs.any fun y => sh y x
inductive EA (K : PySem.W.Frag) (neg : Bool) (x y : V) (H : Hp) (Q : VK) : Prop
  | mk (p : Addr) (xs : List V) (hy : y = .ref p) (s : aE K H p xs ∨ br K H p xs) (f : dh x = true) (fs : xs.all dh = true) (q : Q (.bl (if neg then !u9 x xs else u9 x xs)) H)
def Cw (K : PySem.W.Frag) (neg : Bool) : R2 := fun x y H Q => EA K neg x y H Q
theorem eH : gx X (compareOp .In) (Cw X.K false) := by
  intro pins s σ H x y v u Q I rx ry h
  obtain ⟨p, xs, rfl, hq, fx, fs, q⟩ := h
  cases ry
  rcases hq with hq | hq
  · obtain ⟨its, r, pl, hz⟩ := I.list hq
    refine SeqAt.in_listAt (oq x) pl.isList (fun w hw => fM rx fx r fs w (by simpa using hw)) ⟨.bl _, H, I, rfl, ?_⟩
    rw [show its.toArray.any (oq x) = its.any (oq x) by simp, gT r fs]
    exact q
  · obtain ⟨its, r, pl, hz⟩ := I.tuple hq
    refine SeqAt.in_tupleAt (oq x) pl (fun w hw => fM rx fx r fs w (by simpa using hw)) ⟨.bl _, H, I, rfl, ?_⟩
    rw [show its.toArray.any (oq x) = its.any (oq x) by simp, gT r fs]
    exact q
theorem lu : gx X (compareOp .NotIn) (Cw X.K true) := by
  intro pins s σ H x y v u Q I rx ry h
  obtain ⟨p, xs, rfl, hq, fx, fs, q⟩ := h
  cases ry
  rcases hq with hq | hq
  · obtain ⟨its, r, pl, hz⟩ := I.list hq
    refine SeqAt.notIn_listAt (oq x) pl.isList (fun w hw => fM rx fx r fs w (by simpa using hw)) ⟨.bl _, H, I, rfl, ?_⟩
    rw [show its.toArray.any (oq x) = its.any (oq x) by simp, gT r fs]
    exact q
  · obtain ⟨its, r, pl, hz⟩ := I.tuple hq
    refine SeqAt.notIn_tupleAt (oq x) pl (fun w hw => fM rx fx r fs w (by simpa using hw)) ⟨.bl _, H, I, rfl, ?_⟩
    rw [show its.toArray.any (oq x) = its.any (oq x) by simp, gT r fs]
    exact q
inductive Bb (K : PySem.W.Frag) (xs : List V) (H : Hp) (Q : VK) : Prop
  | mk (p : Addr) (ys : List V) (e : xs = [.ref p]) (s : aE K H p ys ∨ br K H p ys) (q : Q (.int ys.length) H)
theorem aD : cN X (.builtin "len") (fun xs H Q => L2.Bb X.K xs H Q) := by
  intro pins s σ H xs us Q I r h
  obtain ⟨p, ys, rfl, hq, q⟩ := h
  obtain ⟨u, rfl, rx⟩ := vals1 r
  cases rx
  have hn := iR
  rcases hq with hq | hq
  · obtain ⟨its, r', pl, hz⟩ := I.list hq
    have hlen := r'.length
    exact Calls.call_len_list pl.isList (by simp only [List.size_toArray] <;> omega) ⟨.int ys.length, H, I.tok _, ⟨s.toks + 1, by rw [List.size_toArray, hlen]⟩, q⟩
  · obtain ⟨its, r', pl, hz⟩ := I.tuple hq
    have hlen := r'.length
    exact len_tuple pl (by simp only [List.size_toArray] <;> omega) ⟨.int ys.length, H, I.tok _, ⟨s.toks + 1, by rw [List.size_toArray, hlen]⟩, q⟩
theorem mi : cN X (.builtin "len") (fun xs H Q => ∃ z, xs = [.str z] ∧ z.length ≤ sizeLine ∧ Q (.int z.length) H) := by
  intro pins s σ H xs us Q I r h
  obtain ⟨z, rfl, hz, q⟩ := h
  obtain ⟨u, rfl, t, rfl⟩ := vals1 r
  have hn := iR
  exact len_str (by omega) ⟨.int z.length, H, I.tok _, ⟨_, rfl⟩, q⟩
theorem aO : cN X (.type "list") (fun xs H Q => ∃ p ys, xs = [.ref p] ∧ (aE X.K H p ys ∨ br X.K H p ys) ∧ ∀ l, H l = none → Q (.ref l) (upd H l (.lst ys))) := by
  intro pins s σ H xs us Q I r h
  obtain ⟨p, ys, rfl, hq, q⟩ := h
  obtain ⟨u, rfl, rx⟩ := vals1 r
  cases rx
  have fin : ∀ (its : List Value), Vals ys its → ys.length ≤ sizeLine → ∀ (h' : Heap) (c' : Nat), (∀ b o', s.heap.get? b = some o' → h'.get? b = some o') →
      h'.get? s.heap.objs.size = some { cls := .type "list", dict := none, data := .seq its.toArray c', slots := #[] } → EP X pins σ Q (.ref s.heap.objs.size) { s with heap := h' } := fun its r' hz h' c' kp e =>
    ⟨.ref s.heap.objs.size, _, I.laid (t' := s.toks) kp (Nat.le_refl _) (show bA X.prog X.w _ h' _ (.lst ys) from ⟨hz, its, c', r', e⟩), rfl, q _ (I.hok.fresh (Nat.le_refl _))⟩
  rcases hq with hq | hq
  · obtain ⟨its, r', pl, hz⟩ := I.list hq
    have hlen := r'.length
    obtain ⟨o, ho, hc, n, hd⟩ := pl.isList
    exact call_list_seq p (.inl rfl) ho hc hd (fun h' c' kp e => fin its r' hz h' c' kp e) (by simp only [List.size_toArray] <;> omega)
  · obtain ⟨its, r', pl, hz⟩ := I.tuple hq
    have hlen := r'.length
    obtain ⟨o, ho, hc, n, hd⟩ := pl
    exact call_list_seq p (.inr rfl) ho hc hd (fun h' c' kp e => fin its r' hz h' c' kp e) (by simp only [List.size_toArray] <;> omega)
theorem eA : cN X (.type "tuple") (fun xs H Q => ∃ p ys, xs = [.ref p] ∧ ((aE X.K H p ys ∧ ∀ l, H l = none → Q (.ref l) (upd H l (.tup ys))) ∨ (br X.K H p ys ∧ Q (.ref p) H))) := by
  intro pins s σ H xs us Q I r h
  obtain ⟨p, ys, rfl, h⟩ := h
  obtain ⟨u, rfl, rx⟩ := vals1 r
  cases rx
  rcases h with ⟨hq, q⟩ | ⟨hq, q⟩
  · obtain ⟨its, r', pl, hz⟩ := I.list hq
    have hlen := r'.length
    refine call_tuple_list pl.isList (fun h' kp => ?_) (by simp only [List.size_toArray] <;> omega)
    have I1 : Inv X pins σ H { s with heap := h' } := I.kept (t' := s.toks) kp
    have I2 : Inv X pins σ (upd H h'.objs.size (.tup ys)) { s with heap := h'.push { cls := .type "tuple", data := .seq its.toArray } } :=
      I1.laid (t' := s.toks) (fun b o e => Heap.get?_push_of_some _ e) (Nat.le_refl _) (show bA X.prog X.w _ _ _ (.tup ys) from ⟨hz, its, r', IsTup.new _ _⟩)
    exact ⟨.ref h'.objs.size, _, I2, rfl, q _ (I1.hok.fresh (Nat.le_refl _))⟩
  · obtain ⟨its, r', pl, hz⟩ := I.tuple hq
    exact call_tuple_same pl ⟨.ref p, H, I, rfl, q⟩
def BV (K : PySem.W.Frag) (T : String) (x : V) (H : Hp) : Prop := match x with
  | .str _ => T = "str"
  | .int _ => T = "int"
  | .ref p => (T = "list" ∧ ∃ xs, aE K H p xs) ∨ (T = "tuple" ∧ ∃ o, K.lookup p = some o ∧ o.cls = .type "tuple" ∧ o.dict = none) ∨
      (T = "dict" ∧ ((∃ kvs, H p = some (.dK kvs)) ∨ ∃ kvs, H p = some (.dT kvs))) ∨ (T = "set" ∧ ∃ S n, H p = some (.set S n))
  | _ => False
theorem zw {pins : List (Addr × Obj)} {σ : St} {H : Hp} {s : Shared} {T : String} {x : V} {v : Value} (I : Inv X pins σ H s) (r : RelV x v) (ty : BV X.K T x H) :
    s.TypeIs v T ∧ ∀ a, v = .ref a → ∃ ob, s.heap.get? a = some ob ∧ ob.dict = none := by
  cases x with
  | str z =>
    obtain ⟨t, rfl⟩ := r
    cases (show T = "str" from ty)
    exact ⟨typeIs_str s z t, fun _ e => nomatch e⟩
  | int i =>
    obtain ⟨t, rfl⟩ := r
    cases (show T = "int" from ty)
    exact ⟨typeIs_int s i t, fun _ e => nomatch e⟩
  | ref p =>
    cases r
    rcases ty with ⟨rfl, xs, hq⟩ | ⟨rfl, o, hk, hc, hd⟩ | ⟨rfl, hk⟩ | ⟨rfl, S, n, hk⟩
    · obtain ⟨its, _, pl, _⟩ := I.list hq
      refine ⟨pl.isList.typeIs, fun a e => ?_⟩
      cases e
      obtain ⟨o, n, e, c, hd, _⟩ := pl
      exact ⟨o, e, hd⟩
    · refine ⟨⟨o, I.dr p o hk, hc⟩, fun a e => ?_⟩
      cases e
      exact ⟨o, I.dr _ o hk, hd⟩
    · have z : ∃ o, s.heap.get? p = some o ∧ o.ExactDict := by
        rcases hk with ⟨kvs, hk⟩ | ⟨kvs, hk⟩
        · obtain ⟨_, _, _, _, o, _, _, e, ex, _⟩ := I.hok p _ hk
          exact ⟨o, e, ex⟩
        · obtain ⟨_, _, _, _, o, _, _, e, ex, _⟩ := I.hok p _ hk
          exact ⟨o, e, ex⟩
      obtain ⟨o, e, ex⟩ := z
      refine ⟨⟨o, e, ex.1⟩, fun a e2 => ?_⟩
      cases e2
      exact ⟨o, e, ex.2.1⟩
    · obtain ⟨o, _, _, _, e, ex, _⟩ := I.hok p _ hk
      refine ⟨⟨o, e, ex.1⟩, fun a e2 => ?_⟩
      cases e2
      exact ⟨o, e, ex.2.1⟩
  | _ => exact False.elim ty
def F3 (K : PySem.W.Frag) (T : String) (r : V → List V → Hp → VK → Prop) (to : TE) : TE := fun σ H Q => to σ H fun x H1 => BV K T x H1 ∧ r x [] H1 Q
def Ed (K : PySem.W.Frag) (T : String) (r : V → List V → Hp → VK → Prop) (to : TE) (t : TA) : TE := fun σ H Q => to σ H fun x H1 => BV K T x H1 ∧ t σ H1 fun xs H2 => r x xs H2 Q
variable {o e : Expr} {es : List Expr} {to : TE} {t : TA} {name : Str} {apos cpos : Pos} {T id : String} {r : V → List V → Hp → VK → Prop}
theorem AK (pa : PlainAttrs T) (slot : Slot T name id) (hty : typeOf (.builtin id) = pure (.type "method_descriptor")) (hm : BD X id r) (ho : PE X o to) (ha : PA X (e :: es) t)
    (hbase : attributeBase o name X.env (eval o X.env) = eval o X.env := by rfl)
    (hfew : ((backTo cpos (starEach (e :: es) X.env)).all (fun x => !x.1) && (backToKw cpos (keywordEach [] X.env)).all (fun x => x.1.isSome)
      && decide ((e :: es).length + ([] : List Keyword).length + (if ([] : List Keyword).isEmpty then 0 else 1) < 30)) = true := by rfl)
    (hline : (apos.endLine == cpos.line) = true := by rfl) (hs : starEach (e :: es) X.env = (false, eval e X.env) :: starEach es X.env := by rfl) (hplain : (backTo cpos (starEach es X.env)).any (·.1) = false := by rfl) :
    PE X (.Call (.Attribute o name apos) (e :: es) [] cpos) (Ed X.K T r to t) := by
  intro pins s σ H Q I h
  refine wpAny_Call_method_late hbase hfew hline rfl (bJ (ho pins s σ H _ I h) fun v s1 hpat => ?_)
  obtain ⟨x, H1, I1, r1, ty, q1⟩ := hpat
  obtain ⟨h1, h2⟩ := zw I1 r1 ty
  refine ⟨T, id, pa, slot, hty, h1, h2, ?_⟩
  have hA := ha cpos pins s1 σ H1 _ I1 q1
  rw [hs] at hA ⊢
  refine Calls.callWith_builtin (by show (false || (backTo cpos (starEach es X.env)).any (·.1)) = false; rw [hplain] <;> rfl) (Calls.evalArgs_plain ?_)
  exact bJ hA fun us s2 ⟨vs, H2, I2, r2, q2⟩ => hm pins s2 σ H2 x vs v us Q I2 r1 r2 q2
end
end L2
namespace L2
open PySem PySem.Spec PyProof.Rows
def Fd (X : Cx) (id : String) (r : V → List V → Hp → VK → Prop) : Prop :=
  ∀ (pins : List (Addr × Obj)) (s : Shared) (σ : St) (H : Hp) (x : V) (xs : List V) (v : Value) (us : List Value) (Q : VK), Inv X pins σ H s → RelV x v → Vals xs us → r x xs H Q →
    wpAny (model X.prog X.w) X.A (call (.builtin id) (v :: us)) (EP X pins σ Q) X.xe s
theorem Vals.one : ∀ {x : V} {us : List Value}, Vals [x] us → ∃ u, us = [u] ∧ RelV x u
  | _, _, .cons r .nil => ⟨_, rfl, r⟩
theorem Vals.rep {xs : List V} {us : List Value} (h : Vals xs us) : ∀ k : Nat, Vals (List.replicate k xs).flatten (List.replicate k us).flatten
  | 0 => .nil
  | k + 1 => by
    rw [List.replicate_succ, List.replicate_succ, List.flatten_cons, List.flatten_cons]
    exact Vals.append h (Vals.rep h k)
theorem foldl_rep (its : List Value) : ∀ (k : Nat) (acc : List Value),
    List.foldl (fun x1 x2 => x1 ++ x2) acc.toArray (List.replicate k its.toArray) = (acc ++ (List.replicate k its).flatten).toArray
  | 0, acc => by simp
  | k + 1, acc => by
    have e : acc.toArray ++ its.toArray = (acc ++ its).toArray := by simp
    have e2 : (acc ++ its) ++ (List.replicate k its).flatten = acc ++ (List.replicate (k + 1) its).flatten := by
      rw [List.replicate_succ, List.flatten_cons, List.append_assoc]
    rw [← e2, ← foldl_rep its k (acc ++ its), ← e, List.replicate_succ, List.foldl_cons]
section
variable {X : Cx} {pins : List (Addr × Obj)} {σ : St} {H : Hp} {s : Shared} {l b : Addr} {xs ys zs : List V}
theorem Inv.BY {its its' : List Value} {n : Nat} {f : Array Value → Array Value} {t' : Nat} (I : Inv X pins σ H s) (hH : H l = some (.lst xs))
    (e : s.heap.get? l = some { cls := .type "list", data := .seq its.toArray n }) (hf : f its.toArray = its'.toArray) (hv : Vals ys its') (hz : ys.length ≤ sizeLine) :
    Inv X pins σ (upd H l (.lst ys)) { s with heap := s.heap.update l (Obj.mapSeq f), toks := t' } := by
  have q := PySem.IsL.update e f
  rw [hf] at q
  refine I.write (x := l) (e := l) (by rw [hH]; exact trivial) (.inl rfl) (fun b' u hb hu => (Heap.get?_update_other s.heap (Obj.mapSeq f) (Ne.symm hb)).trans hu) ⟨_, q⟩ ?_
  exact ⟨hz, its', _, hv, q⟩
theorem Inv.Ae {its : List Value} {t' : Nat} (I : Inv X pins σ H s) (hv : Vals ys its) (hz : ys.length ≤ sizeLine) :
    Inv X pins σ (upd H s.heap.objs.size (.lst ys)) { s with heap := s.heap.push { cls := .type "list", data := .seq its.toArray }, toks := t' } :=
  I.laid (fun _ _ q => Heap.get?_push_of_some _ q) (Nat.le_refl _) ⟨hz, its, 0, hv, Heap.get?_push_size _ rfl⟩
theorem Inv.fresh (I : Inv X pins σ H s) : H s.heap.objs.size = none := I.hok.fresh (Nat.le_refl _)
theorem Inv.Bl (I : Inv X pins σ H s) (hH : H l = some (.lst xs)) : xs.length ≤ sizeLine ∧ ∃ (its : List Value) (n : Nat), Vals xs its ∧ xs.length = its.length ∧ s.heap.get? l = some { cls := .type "list", data := .seq its.toArray n } := by
  obtain ⟨z, its, n, r, e⟩ := I.hok l _ hH
  exact ⟨z, its, n, r, r.length, e⟩
theorem tK {n : Nat} (h : n ≤ sizeLine) : Builtin.List.listTooLong n = false := by
  unfold Builtin.List.listTooLong
  exact decide_eq_false (by omega)
end
section
variable {X : Cx}
inductive CI (x : V) (vs : List V) (H : Hp) (Q : VK) : Prop
  | mk (l : Addr) (xs : List V) (y : V) (hx : x = .ref l) (hv : vs = [y]) (s : H l = some (.lst xs)) (b : xs.length < sizeLine) (q : Q .non (upd H l (.lst (xs ++ [y]))))
def pU : V → List V → Hp → VK → Prop := fun x vs H Q => CI x vs H Q
theorem cD : Fd X "list.append" pU := by
  intro pins s σ H x vs v us Q I rx rv h
  obtain ⟨l, xs, y, rfl, rfl, hH, hz, q⟩ := h
  cases rx
  obtain ⟨u, rfl, ru⟩ := rv.one
  obtain ⟨z, its, n, r, hl, e⟩ := I.Bl hH
  refine call_meets F.slot_list_append ⟨_, e, rfl⟩ F.entry_list_append (F.args_list_append_2 _ _) (PySem.list_append l its.toArray n u (by rw [List.size_toArray]; omega)) ⟨e, ?_⟩
  refine ⟨.non, _, I.BY (its' := its ++ [u]) hH e (by simp) (r.append (.cons ru .nil)) ?_, rfl, q⟩
  rw [List.length_append, List.length_singleton]
  omega
def BK : V → List V → Hp → VK → Prop := fun x vs H Q => ∃ l b xs zs, x = .ref l ∧ vs = [.ref b] ∧ H l = some (.lst xs) ∧ H b = some (.lst zs) ∧ xs.length + zs.length ≤ sizeLine ∧ Q .non (upd H l (.lst (xs ++ zs)))
def Ft : V → List V → Hp → VK → Prop := fun x vs H Q => ∃ l xs y, x = .ref l ∧ vs = [] ∧ H l = some (.lst xs) ∧ xs[xs.length - 1]? = some y ∧ Q y (upd H l (.lst xs.dropLast))
def BW : V → List V → Hp → VK → Prop := fun x vs H Q => ∃ l xs i k y, x = .ref l ∧ vs = [.int i] ∧ H l = some (.lst xs) ∧ -(2 ^ 63) ≤ i ∧ i < 2 ^ 63 ∧ seqIndex? i xs.length = some k ∧ xs[k]? = some y ∧ Q y (upd H l (.lst (xs.eraseIdx k)))
def Ba : V → List V → Hp → VK → Prop := fun x vs H Q => ∃ l xs, x = .ref l ∧ vs = [] ∧ H l = some (.lst xs) ∧ Q .non (upd H l (.lst xs.reverse))
def Ca : V → List V → Hp → VK → Prop := fun x vs H Q => ∃ l xs, x = .ref l ∧ vs = [] ∧ H l = some (.lst xs) ∧ Q .non (upd H l (.lst []))
def EF : R2 := fun x y H Q => ∃ l b xs zs, x = .ref l ∧ y = .ref b ∧ H l = some (.lst xs) ∧ H b = some (.lst zs) ∧ xs.length + zs.length ≤ sizeLine ∧ ∀ p, H p = none → Q (.ref p) (upd H p (.lst (xs ++ zs)))
def zP : R2 := fun x y H Q => ∃ l k xs, x = .ref l ∧ y = .int k ∧ H l = some (.lst xs) ∧ -(2 ^ 63) ≤ k ∧ k < 2 ^ 63 ∧ xs.length * k.toNat ≤ sizeLine ∧
  ∀ p, H p = none → Q (.ref p) (upd H p (.lst (List.replicate k.toNat xs).flatten))
theorem len_rep {α : Type} (xs : List α) (k : Nat) : (List.replicate k xs).flatten.length = k * xs.length := by
  induction k with
  | zero => simp
  | succ k ih => rw [List.replicate_succ, List.flatten_cons, List.length_append, ih, Nat.succ_mul, Nat.add_comm]
theorem pj : gx X (binaryOp .Mult) zP := by
  intro pins s σ H x y v u Q I rx ry h
  obtain ⟨l, k, xs, rfl, rfl, hH, h1, h2, hz, q⟩ := h
  cases rx
  obtain ⟨t, rfl⟩ := ry
  obtain ⟨z, its, n, r, hl, e⟩ := I.Bl hH
  have hlen : its.toArray.size * k.toNat ≤ sizeLine := by rw [List.size_toArray, ← hl]; exact hz
  have hcap : ¬ its.toArray.size * k.toNat > (2 ^ 63 - 1) / 8 := by
    have : (sizeLine : Nat) ≤ (2 ^ 63 - 1) / 8 := by decide
    omega
  have hfit : ¬ (!Builtin.List.listFitsIndex k) = true := by
    rw [fitsIndex_both h1 h2]
    exact Bool.false_ne_true
  have hlong : ¬ Builtin.List.listTooLong (its.toArray.size * k.toNat) = true := by
    rw [tK hlen]
    exact Bool.false_ne_true
  have hnew : List.foldl (fun x1 x2 => x1 ++ x2) #[] (List.replicate (if its.toArray.isEmpty = true then 0 else k.toNat) its.toArray) = (List.replicate k.toNat its).flatten.toArray := by
    have f0 : ∀ m : Nat, List.foldl (fun x1 x2 => x1 ++ x2) #[] (List.replicate m its.toArray) = (List.replicate m its).flatten.toArray := fun m => by
      have := foldl_rep its m []
      rw [List.nil_append] at this
      exact this
    rw [f0]
    cases its with
    | nil => simp
    | cons a r' => rw [if_neg (by simp)]
  refine wpAny_binaryOp_repeat_ref (T := "list") (U := "int") (by decide) ⟨_, e, rfl⟩ (fun s' => typeIs_int s' k t) noFill_list_mul F.fills_int_mul F.slot_int_rmul repeat_list F.slot_int_index.lookup
    (call_meets F.slot_int_rmul (typeIs_int s k t) F.entry_int_rmul (F.args_int_rmul_2 _ _) (int___rmul___int_list k t l its.toArray n)
      ⟨e, rfl, ⟨_, e, rfl⟩, call_meets F.slot_list_mul ⟨_, e, rfl⟩ F.entry_list_mul (F.args_list_mul_2 _ _) (AutoListH.list___mul___list_int_3 l its.toArray n k t hfit hcap hlong) ⟨e, ?_⟩⟩)
  rw [hnew]
  exact ⟨.ref _, _, I.Ae (t' := s.toks) (r.rep k.toNat) (by rw [len_rep, Nat.mul_comm]; exact hz), rfl, q _ I.fresh⟩
end
section
variable {prog : Program} {w : World} {A : Around} {E : Value → Shared → Prop} {s : Shared}
set_option maxRecDepth 100000 in
end
section
variable {X : Cx}
end
end L2
namespace Att
open PySem PySem.W PySem.Calls PyProof.Rows
theorem jf {P : Params} {h : Heap} : ∀ (ns : List Int) (vs : List Value), WellAll P h vs (ns.map WData.int) → IntsAre vs ns := by
  intro ns
  induction ns with
  | nil =>
    intro vs w
    rw [List.map_nil] at w
    cases w
    exact .nil
  | cons n ns ih =>
    intro vs w
    rw [List.map_cons] at w
    cases w with
    | cons a b =>
      cases a
      exact .cons _ _ (ih _ b)
theorem q9 {l : OpenLaw} {n : Nat} (hn : l.most = some n) {P : Params} {h : Heap} {args : List WData} {vals : List Value}
    (hpre : l.row.toRowW.claim.pre args = true) (hwl : WellAll P h vals args) :
    ∃ a vs ns, vals = [Value.ref a] ∧ args = [WData.list (ns.map WData.int)] ∧ h.get? a = some { cls := .type "list", data := .seq vs.toArray } ∧ IntsAre vs ns ∧ ns.length ≤ n := by
  have hsh : WShape.hasAll [] args [.list .int] = true := (pre_splitW hpre).1
  have hc : l.pre.holds [] { args := args } = true := (pre_splitW hpre).2
  obtain ⟨d, r, rfl, h1, h2⟩ := hasAllW_cons hsh
  obtain rfl := hasAllW_nil h2
  obtain ⟨xs, rfl, h3⟩ := hasW_list h1
  obtain ⟨ns, rfl⟩ := items_int h3
  have hlen : ns.length ≤ n := by
    unfold OpenLaw.pre at hc
    have h4 : (WTm.not (.lt (.lit (.int (n : Int))) (.len (.arg 0)))).holds [] { args := [.list (ns.map .int)] } = true := by
      have h4 := (holds_andW hc).1
      rw [hn] at h4
      exact h4
    have h5 := condW_of h4 (w_not (w_lt w_lit (w_len_list (w_arg rfl))))
    rw [List.length_map] at h5
    refine Nat.le_of_not_lt fun q => ?_
    have q' : (n : Int) < ((ns.length : Nat) : Int) := by omega
    first
      | (rw [decide_eq_true q'] at h5; exact absurd h5 (by decide))
      | (simp at h5; omega)
  cases hwl with
  | cons w1 w2 =>
    cases w2
    cases w1 with
    | list ho hall => exact ⟨_, _, ns, rfl, rfl, ho, jf ns _ hall, hlen⟩
theorem rO (l : OpenLaw) (args : List WData) : l.row.toRowW.claim.post args (.bool true) args = true :=
  postW_of (r := l.row.toRowW) (X := (true == true))
    (show WShape.has [] (.bool true) .bool = true by first | rfl | decide | simp [WShape.has, WShape.arms, WShape.armsAll])
    (show (WTm.eq .res (.lit (.bool true))).value [] { args := args, res := some (.bool true), after := args } = some (.bool (true == true)) from w_eq_bool (w_res rfl) w_lit) rfl
theorem mY {l : OpenLaw} {n : Nat} {q : Program} {loose : List Str} {XP : (Str → Option Value) → Heap → Prop} {YP : World → Heap → Prop} {d : DefRec}
    (hn : l.most = some n) (hdf : d.params.defaults = [])
    (call : ∀ (w : World) (s₀ s₁ : Shared) (mg mb : Str → Option Value) (fa : Addr) (o : Obj) (pm cd doc : Value) (a : Addr) (vs : List Value) (ns : List Int),
      Ground q loose [] XP w s₀ mg mb s₁.heap → YP w s₁.heap →
      s₁.heap.get? fa = some o → o.data = .func (docDef d.name d.params d.body d.scope pm cd doc) → s₁.heap.CodeRec cd d.name → mg d.name = some (.ref fa) →
      s₁.heap.get? a = some { cls := .type "list", data := .seq vs.toArray } → IntsAre vs ns → ns.length ≤ n → s₁.gens = #[] →
      codeAny (model l.prog w) callerA (.call (.ref fa) ⟨[.ref a], []⟩) (fun r s' => r = .ok (.ret (.bool true)) ∧ OldK s₁.heap s'.heap ∧ s'.os = s₁.os ∧ AllBare s'.gens) s₁) :
    WalkO q loose XP YP l.row.toRowW d [] (fun f vs => PySem.call f vs) := by
  intro w s₀ s₁ mg mb G Y fa o pm cd doc dV kV ho hd hcd hD hmg hg args vals as hpre hlay hrd hwl hlo
  obtain rfl : dV = .none := Dflts.none hD hdf
  obtain rfl : kV = .none := Dflts.noKw hD
  obtain ⟨a, vs, ns, rfl, rfl, hobj, hints, hlen⟩ := q9 hn hpre hwl
  refine enter_call (codeAny_mono (call w s₀ s₁ mg mb fa o pm cd doc a vs ns G Y ho (fd_plain hd) hcd hmg hobj hints hlen hg) fun r s' hq => ?_)
  obtain ⟨rfl, h2, h3, h4⟩ := hq
  exact ⟨.inl ⟨.bool true, .bool true, [], rfl, fun _ => rfl, .bool true, rO l _, fun _ => ⟨List.Pairwise.nil, fun _ hm => (nomatch hm)⟩⟩, h2, h3, h4⟩
section
variable {prog : Program} {w : World} {A : Around} {E : Value → Shared → Prop} {s : Shared} {K : Frag}
def Dy (h : Heap) : Heap := { h with objs := #[] }
def ledger (h : Heap) (L d : Addr) : List (Addr × Obj) := (List.range h.objs.size).filterMap fun a => if a = L ∨ a = d then none else (h.get? a).map fun o => (a, o)
end
end Att
namespace L2
open PySem PySem.Spec PyProof.Rows
theorem kU : ∀ {vs : List Value} {ns : List Int}, IntsAre vs ns → Vals (ns.map V.int) vs
  | _, _, .nil => .nil
  | _, _, .cons n t h => .cons ⟨t, rfl⟩ (kU h)
def yH (H : Hp) : Prop := ∀ b, H b = none ∨ ∃ o xs, H b = some (.frz o (.lst xs))
theorem uC {P : Program} {w : World} {K : PySem.W.Frag} {mg mb : Str → Option Value} {CX : rZ} {k : Nat} {fa a : Addr} {fd : FuncData} {x : Str} {sp : Sp} {s₁ : Shared} {vs : List Value} {ns : List Int}
    (KX : K.In s₁.heap) (hns : s₁.heap.Ns mainGlobals mg) (hb : s₁.heap.Ns builtinsNs mb) (hbb : ∀ x : Str, x ≠ "__name__" → mb x = bootBuiltins x) (hlim : s₁.heap.NoLimit) (hg : s₁.gens = #[])
    (ha : s₁.heap.get? a = some { cls := .type "list", data := .seq vs.toArray }) (hi : IntsAre vs ns) (hl : ns.length ≤ sizeLine) (hr : bL k callerA)
    (F : ∀ base : Heap, K.In base → base.Ns mainGlobals mg → bH P w K mg base CX k fa fd [x] sp) (hbind : ∀ (s : Shared) (u : Value), BindsTo s fd ⟨[u], []⟩ [(x, u)])
    (hsp : ∀ H : Hp, yH H → aE K H a (ns.map V.int) → sp [.ref a] H (fun v _ => v = .bl true) fun _ _ _ => False)
    (hCX : ∀ H e s', CX [] H s₁ (fun _ _ _ => False) e s' → False) :
    codeAny (model P w) callerA (.call (.ref fa) ⟨[.ref a], []⟩) (fun r s' => r = .ok (.ret (.bool true)) ∧ OldK s₁.heap s'.heap ∧ s'.os = s₁.os ∧ AllBare s'.gens) s₁ := by
  have rv := kU hi
  have lenV := hi.length
  have core : ∀ H : Hp, yH H → aE K H a (ns.map V.int) → fz P w H s₁.heap → (∀ b, H b ≠ none → b = a) → (H a ≠ none → K.lookup a = none) →
      codeAny (model P w) callerA (.call (.ref fa) ⟨[.ref a], []⟩) (fun r s' => r = .ok (.ret (.bool true)) ∧ OldK s₁.heap s'.heap ∧ s'.os = s₁.os ∧ AllBare s'.gens) s₁ := by
    intro H hO hS hok hA hK
    have base_of : ∀ {b : Addr} {o : Obj}, s₁.heap.get? b = some o → H b = none → (mO s₁.heap H).get? b = some o := fun e n => su e n
    have noA : ∀ {b : Addr} {o : Obj} {es : Array DictEntry} {ep : Nat}, s₁.heap.get? b = some o → o.data = .dict es ep → H b = none := fun {b o es ep} e d => by
      cases q : H b with
      | none => rfl
      | some u =>
        have e' : b = a := hA b (by rw [q]; simp)
        subst e'
        rw [ha] at e; cases e
        have d' : Data.seq vs.toArray _ = Data.dict es ep := d
        cases d'
    have nsK : ∀ {b : Addr} {m : Str → Option Value}, s₁.heap.Ns b m → (mO s₁.heap H).Ns b m := fun {b m} ⟨o, es, ep, e, d, r⟩ => ⟨o, es, ep, base_of e (noA e d), d, r⟩
    have hKb : K.In (mO s₁.heap H) := fun b o e => base_of (KX b o e) (by
      cases q : H b with
      | none => rfl
      | some u =>
        have e' : b = a := hA b (by rw [q]; simp)
        subst e'
        rw [hK (by rw [q]; simp)] at e; cases e)
    have hM : Mod K mg (mO s₁.heap H) := ⟨hKb, nsK hns, ⟨mb, nsK hb, hbb⟩, let ⟨mc, h1, h2⟩ := hlim; ⟨mc, nsK h1, h2⟩⟩
    have e0 : pd P w K mg (mO s₁.heap H) callerA [] s₁ H := ⟨rfl, hM, fun b o e => we e, Nat.le_of_eq (sd _ _), trivial, fun b hb => absurd (show b ∈ ([] : List Addr) from hb) (by simp), hok, .of_eq hg⟩
    refine codeAny_mono ((F _ hKb (nsK hns)).run callerA [] s₁ H ⟨[.ref a], []⟩ [.ref a] [.ref a] _ _ hr e0 (hbind s₁ (.ref a)) (.cons rfl .nil) (hsp H hO hS)) fun r s' h => ?_
    cases r with
    | error e => exact (hCX H e s' h).elim
    | ok fl =>
      cases fl with
      | next => exact False.elim h
      | brk => exact False.elim h
      | cont => exact False.elim h
      | ret u =>
        obtain ⟨v, H', os, bare, un, hok', r', q⟩ := h
        have q' : v = .bl true := q
        subst q'
        obtain rfl : u = Value.bool true := r'
        refine ⟨rfl, OldK.of_keep fun b o e => ?_, os, bare⟩
        cases q : H b with
        | none => exact un.keep b o e q (by intro z; exact absurd (show b ∈ ([] : List Addr) from z) (by simp)) (by simp)
        | some u =>
          rcases hO b with z | ⟨ob, xs, z⟩
          · rw [q] at z; cases z
          · have z2 := un.frzs b ob _ z
            obtain ⟨e1, _⟩ := hok b _ z
            obtain ⟨e2, _⟩ := hok' b _ z2
            rw [e] at e1; cases e1
            exact e2
  cases hk : K.lookup a with
  | some o =>
    have e := KX a o hk
    rw [ha] at e
    cases e
    refine core (fun _ => none) (fun _ => .inl rfl) (.inr ⟨_, vs.toArray, _, hk, rfl, rfl, rfl, by rw [List.size_toArray, lenV]; exact hl, by simpa using rv⟩) (fun b u z => by have z' : (none : Option HO) = some u := z; cases z') (fun b z => absurd rfl z) fun z => absurd rfl z
  | none =>
    refine core (fun b => if b = a then some (.frz { cls := .type "list", data := .seq vs.toArray } (.lst (ns.map V.int))) else none) (fun b => ?_) (.inl (.inr ⟨{ cls := .type "list", data := .seq vs.toArray }, if_pos rfl⟩)) (fun b u z => ?_) (fun b z => ?_) fun _ => hk
    · by_cases hb : b = a
      · exact .inr ⟨_, _, if_pos hb⟩
      · exact .inl (if_neg hb)
    · by_cases hb : b = a
      · have z' := (if_pos hb).symm.trans z
        cases z'
        subst hb
        exact ⟨ha, by rw [List.length_map]; exact hl, vs, _, rv, ha⟩
      · have z' := (if_neg hb).symm.trans z
        cases z'
    · by_cases hb : b = a
      · exact hb
      · exact absurd (if_neg hb) z
end L2
namespace L2
open PySem PySem.Spec PyProof.Rows
abbrev Ge {K : PySem.W.Frag} {h : Heap} (_ : K.In h) : PySem.W.Frag := K
theorem wm {l : PySem.W.OpenLaw} {n k : Nat} {q : Program} {loose : List Str} {XP : (Str → Option Value) → Heap → Prop} {YP : World → Heap → Prop} {d : DefRec} {K : Params → PySem.W.Frag} {CX : World → rZ} {sp : World → Sp} {x : Str}
    (hn : l.most = some n) (hn2 : n ≤ sizeLine) (hdf : d.params.defaults = []) (hr : bL k callerA)
    (hY : ∀ (w : World) (h : Heap), YP w h → (K w.params).In h)
    (F : ∀ (w : World) (mg : Str → Option Value) (fa : Addr) (h : Heap), (K w.params).In h → h.Ns mainGlobals mg → mg d.name = some (.ref fa) →
      ∃ fd : FuncData, (∀ (s : Shared) (u : Value), BindsTo s fd ⟨[u], []⟩ [(x, u)]) ∧
        ∀ base : Heap, (K w.params).In base → base.Ns mainGlobals mg → bH l.prog w (K w.params) mg base (CX w) k fa fd [x] (sp w))
    (hsp : ∀ (w : World) (H : Hp) (a : Addr) (ns : List Int), ns.length ≤ n → yH H → aE (K w.params) H a (ns.map V.int) → sp w [.ref a] H (fun v _ => v = .bl true) fun _ _ _ => False)
    (hCX : ∀ (w : World) (H : Hp) (s : Shared) (e : Value) (s' : Shared), CX w [] H s (fun _ _ _ => False) e s' → False) :
    PySem.W.WalkO q loose XP YP l.row.toRowW d [] (fun f vs => PySem.call f vs) := by
  refine Att.mY hn hdf fun w s₀ s₁ mg mb fa o pm cd doc a vs ns G Y ho hd hcd hmg hobj hints hlen hg => ?_
  have KX := hY w _ Y
  obtain ⟨fd, hb, hF⟩ := F w mg fa _ KX G.T.g hmg
  exact uC KX G.T.g G.T.b G.T.builtins G.T.nolimit hg hobj hints (Nat.le_trans hlen hn2) hr hF hb (fun H hO hS => hsp w H a ns hlen hO hS) fun H e s' => hCX w H s₁ e s'
end L2
namespace L2
open PySem PySem.Spec PyProof.Rows
abbrev fD : rZ := fun _ _ _ _ _ _ => False
abbrev E0 : XK := fun _ _ _ => False
theorem pK {X : Cx} : Passes fD X E0 := fun _ _ _ _ _ _ _ h => h.elim
structure gJ (K : PySem.W.Frag) (x qual : Str) (st : Stmt) (f : Addr) (fd : FuncData) : Prop where
  ex : ∃ (oc : Value) (od : Option Addr) (kV doc pm : Value) (an : Option Addr) (cdv ct : Value) (osl : Array (Option Value)),
    fd = PySem.W.fnOf x qual (bD st) (aX st) (ao st) .none kV doc pm an cdv ct ∧ K.lookup f = some ⟨oc, od, .func fd, osl⟩ ∧ PySem.W.codeIn K cdv qual = true
  kp : PySem.W.keepIn K (.ref f) = true
section
variable {P : Program} {w : World} {K : PySem.W.Frag} {mg : Str → Option Value} {base : Heap}
theorem gJ.ok {x qual : Str} {st : Stmt} {f : Addr} {fd : FuncData} {N ps : List Str} {k : Nat} {sp : Sp} (F : gJ K x qual st f fd) (S : aB N ps (ao st)) (len : ∀ vs H Q E, sp vs H Q E → vs.length = ps.length)
    (hbody : ∀ (cdv : Value) (A : Around) (outer : List Env) (s : Shared) (H : Hp) (vs : List V) (Q : VK) (E : XK), bL k (A.deeper (envOfC qual (ao st) s.heap.objs.size f cdv)) → sp vs H Q E →
      ∃ t, oJ (dD fD P w K mg base N qual (ao st) f cdv A outer s H E).gZ (aX st) t ∧ t { nx := fun _ H' => Q .non H', rt := Q } (start N vs) H) : bH P w K mg base fD (k + 1) f fd ps sp := by
  obtain ⟨oc, od, kV, doc, pm, an, cdv, ct, osl, rfl, lk, hcd⟩ := F.ex
  refine pH lk hcd S len fun A outer s H vs Q E hr hsp => ?_
  obtain ⟨t, h, q⟩ := hbody cdv A outer s H vs Q E hr hsp
  exact ⟨t, h.gZ, q⟩
theorem gJ.binds {x qual : Str} {st : Stmt} {f : Addr} {fd : FuncData} {ps : List Str} (F : gJ K x qual st f fd)
    (h : ∀ (kV doc pm : Value) (an : Option Addr) (cdv ct : Value) (us : List Value), us.length = ps.length → bindArgs (PySem.W.fnOf x qual (bD st) (aX st) (ao st) .none kV doc pm an cdv ct) ⟨us, []⟩ = pure (ps.zip us)) : Binds K fd ps [] := by
  obtain ⟨oc, od, kV, doc, pm, an, cdv, ct, osl, rfl, lk, hcd⟩ := F.ex
  exact .all (h kV doc pm an cdv ct)
theorem du {x qual : Str} {st : Stmt} {f : Addr} {oc : Value} {od an : Option Addr} {osl : Array (Option Value)} {kV doc pm cdv ct : Value} (l : K.lookup f = some ⟨oc, od, .func (PySem.W.fnOf x qual (bD st) (aX st) (ao st) .none kV doc pm an cdv ct), osl⟩)
    (c : PySem.W.codeIn K cdv qual = true) (k : PySem.W.keepIn K (.ref f) = true) : gJ K x qual st f (PySem.W.fnOf x qual (bD st) (aX st) (ao st) .none kV doc pm an cdv ct) := ⟨⟨oc, od, kV, doc, pm, an, cdv, ct, osl, rfl, l, c⟩, k⟩
end
section
variable {X : Cx}
theorem pv (i : Nat) {x : Str} {pos : Pos} (hN : X.N[i]? = some x := by rfl) (hv : Cr X.env.scope x := by first | exact Or.inl rfl | exact Or.inr (Or.inl rfl) | exact Or.inr (Or.inr rfl)) (hd : (x == ("__debug__" : Str)) = false := by decide)
    (hcd : (x == ("__classdict__" : Str)) = false := by decide) : PE X (.Name x pos) (qP i) := lS hN hv hd hcd
end
theorem bX {A B : Prop} (h : B) : if false = true then A else B := by
  rw [if_neg Bool.false_ne_true]
  exact h
theorem cv {A B : Prop} (h : A) : if true = true then A else B := by
  rw [if_pos rfl]
  exact h
theorem ba {c A B : Prop} [Decidable c] (h1 : c → A) (h2 : ¬ c → B) : if c then A else B := by
  by_cases h : c
  · rw [if_pos h]
    exact h1 h
  · rw [if_neg h]
    exact h2 h
theorem eI {c A B : Prop} [Decidable c] (hc : c) (h : B) : if (!decide c) = true then A else B := by
  rw [decide_eq_true hc]
  exact bX h
def aj (H H' : Hp) : Prop := ∀ b o, H b = some o → H' b = some o
theorem aj.refl (H : Hp) : aj H H := fun _ _ h => h
theorem aj.trans {H H1 H2 : Hp} (a : aj H H1) (b : aj H1 H2) : aj H H2 := fun c o h => b c o (a c o h)
theorem aj.free {H H' : Hp} (e : aj H H') {l : Addr} (h : H' l = Option.none) : H l = Option.none := by
  cases q : H l with
  | none => rfl
  | some o =>
    rw [e l o q] at h
    cases h
theorem aj.seq {K : PySem.W.Frag} {H H' : Hp} {a : Addr} {xs : List V} (e : aj H H') (h : aE K H a xs) : aE K H' a xs := by
  rcases h with (h | ⟨o, h⟩) | h
  · exact .inl (.inl (e _ _ h))
  · exact .inl (.inr ⟨o, e _ _ h⟩)
  · exact .inr h
end L2
namespace L2
open PySem PySem.Builtin.Str
end L2
namespace L2
open PySem PySem.Spec PyProof.Rows
theorem jH {env : Env} {scope : Scope} (h : ∀ y ∈ scope.names, y.2 = .free → ∃ c, env.cells.lookup y.1 = some c) :
    ∃ cl, closureFor scope env = pure cl ∧ (∀ y c, cl.lookup y = some c → env.cells.lookup y = some c) ∧ (∀ y ∈ scope.names, y.2 = .free → cl.lookup y.1 = env.cells.lookup y.1) := by
  have gen : ∀ (names : List (Str × NameKind)) (acc : List (Str × Addr)), (∀ y ∈ names, y.2 = .free → ∃ c, env.cells.lookup y.1 = some c) → (∀ y c, acc.lookup y = some c → env.cells.lookup y = some c) →
      ∃ cl, (forIn (m := Sem) names acc fun x r => match x with
        | (name, kind) => if (kind == NameKind.free) = true then do
            let a ← cellOf env name
            pure (ForInStep.yield ((name, a) :: r))
          else pure (ForInStep.yield r)) = pure cl ∧ (∀ y c, cl.lookup y = some c → env.cells.lookup y = some c) ∧ (∀ y c, acc.lookup y = some c → cl.lookup y = some c) ∧ (∀ y ∈ names, y.2 = .free → cl.lookup y.1 = env.cells.lookup y.1) := by
    intro names
    induction names with
    | nil => intro acc _ ha; exact ⟨acc, rfl, ha, fun _ _ e => e, fun y hy => nomatch hy⟩
    | cons x r ih =>
      intro acc hn ha
      obtain ⟨n, k⟩ := x
      by_cases hk : k = .free
      · subst hk
        obtain ⟨c, hc⟩ := hn (n, .free) List.mem_cons_self rfl
        have hc' : cellOf env n = pure c := by
          unfold cellOf
          rw [show env.cells.lookup n = some c from hc]
        have ha' : ∀ y d, ((n, c) :: acc).lookup y = some d → env.cells.lookup y = some d := fun y d e => by
          rw [List.lookup_cons] at e
          cases q : y == n with
          | true => rw [q] at e; cases e; rw [eq_of_beq q]; exact hc
          | false => rw [q] at e; exact ha y d e
        obtain ⟨cl, e, h1, h2, h3⟩ := ih ((n, c) :: acc) (fun y hy => hn y (List.mem_cons_of_mem _ hy)) ha'
        refine ⟨cl, ?_, h1, fun y d q => ?_, fun y hy hf => ?_⟩
        · rw [List.forIn_cons]
          simp only [beq_self_eq_true, if_true, hc']
          exact e
        · cases z : y == n with
          | true =>
            have : y = n := eq_of_beq z
            subst this
            have q1 := ha y d q
            rw [hc] at q1; cases q1
            exact h2 y c (by rw [List.lookup_cons, z])
          | false => exact h2 y d (by rw [List.lookup_cons, z]; exact q)
        · rcases List.mem_cons.mp hy with rfl | hy
          · have := h2 n c (by rw [List.lookup_cons, beq_self_eq_true])
            rw [this, hc]
          · exact h3 y hy hf
      · have hb : (k == NameKind.free) = false := by simpa using hk
        obtain ⟨cl, e, h1, h2, h3⟩ := ih acc (fun y hy => hn y (List.mem_cons_of_mem _ hy)) ha
        refine ⟨cl, ?_, h1, h2, fun y hy hf => ?_⟩
        · rw [List.forIn_cons]
          simp only [hb, Bool.false_eq_true, if_false]
          exact e
        · rcases List.mem_cons.mp hy with rfl | hy
          · exact absurd hf hk
          · exact h3 y hy hf
  obtain ⟨cl, e, h1, _, h3⟩ := gen scope.names [] h (fun y c e => by cases e)
  refine ⟨cl, ?_, h1, h3⟩
  simp only [closureFor]
  rw [show (forIn scope.names ([] : List (Str × Addr)) _ : Sem _) = pure cl from e]
  rfl
theorem eY {env : Env} (hk : env.scope.kind = .function) : ∀ {names : List (Str × NameKind)} {x : Str}, names.lookup x = some .free → env.kindOf x = some .cell →
    (names.map fun (n, k) => if (k == NameKind.free && env.scope.kind == .function && env.kindOf n == some .cell) then (n, NameKind.cell) else (n, k)).lookup x = some .cell
  | [], _, h, _ => by simp at h
  | (n, k) :: r, x, h, hc => by
    have ih := @eY env hk r x
    show List.lookup x ((if (k == NameKind.free && env.scope.kind == .function && env.kindOf n == some .cell) = true then (n, NameKind.cell) else (n, k)) :: _) = _
    cases hx : x == n with
    | true =>
      simp only [List.lookup_cons, hx] at h
      cases h
      have e : x = n := eq_of_beq hx
      subst e
      rw [if_pos (by simp [hk, hc])]
      simp [List.lookup_cons]
    | false =>
      simp only [List.lookup_cons, hx] at h
      by_cases hc' : (k == NameKind.free && env.scope.kind == .function && env.kindOf n == some .cell) = true
      · rw [if_pos hc']; simp only [List.lookup_cons, hx]; exact ih h hc
      · rw [if_neg hc']; simp only [List.lookup_cons, hx]; exact ih h hc
theorem dA {env : Env} {scope : Scope} {y : Str} {k' : NameKind} (h : (relabel scope env).names.lookup y = some k') (hk' : k' = .cell ∨ k' = .free) (nocell : ∀ z ∈ scope.names, z.2 ≠ .cell) : (y, NameKind.free) ∈ scope.names := by
  have hm := PySem.mem_of_lookup h
  obtain ⟨⟨n, k⟩, hm', e⟩ := List.mem_map.mp hm
  dsimp only at e
  split at e
  · rename_i c
    cases e
    rw [Bool.and_eq_true, Bool.and_eq_true] at c
    have e2 : k = .free := by simpa using c.1.1
    subst e2
    exact hm'
  · cases e
    rcases hk' with rfl | rfl
    · exact absurd rfl (nocell _ hm')
    · exact hm'
theorem lP {prog : Program} {w : World} {A : Around} {R : Result → Shared → Prop} {s : Shared} {elt target iter : Expr} {scope : Scope} {pos : Pos} {it acc : Value} {env : Env} (I : Nat → Shared → Prop)
    (turn : ∀ n s, I n s → wpAny (model prog w) A (pyNext it) (fun r s₁ => match r with
      | none => R (.ok .next) s₁
      | some v => wpAny (model prog w) A (letOwnedTupleGo target it v) (fun _ s₁' => wpAny (model prog w) A (assign target env v) (fun _ s₂ => wpAny (model prog w) A (eval elt env) (fun x s₃ =>
          wpAny (model prog w) A (call (.builtin "list.append") [acc, x]) (fun _ s₄ => ∃ m, m < n ∧ I m s₄) (notedBy (model prog w) A env fun e s' => R (.error e) s') s₃)
          (notedBy (model prog w) A env fun e s' => R (.error e) s') s₂) (notedBy (model prog w) A env fun e s' => R (.error e) s') s₁') (notedBy (model prog w) A env fun e s' => R (.error e) s') s₁) (notedBy (model prog w) A env fun e s' => R (.error e) s') s)
    (n : Nat) (h : I n s) :
    codeAny (model prog w) A (.compLoop (.ListComp elt [⟨target, iter, [], 0⟩] scope pos) 0 it acc env) R s := by
  refine codeAny_loop rfl I (fun n s hI => ?_) n h
  show wpAny _ _ ((compTurn (.ListComp elt [⟨target, iter, [], 0⟩] scope pos) 0 it acc env).onRaise (fun x => do noteFrame x env; theTreesLotGoes x)) _ _ s
  refine wpAny_noted ?_
  rw [compTurn_list1]
  refine wpAny_bind (wpAny_standAt (wpAny_bind (wpAny_mono (turn n s hI) (fun r s₁ h₁ => ?_) fun _ _ h' => h')))
  cases r with
  | none => exact wpAny_pure h₁
  | some v =>
    refine wpAny_bind (wpAny_mono h₁ (fun _ s₁' h₁' => ?_) fun _ _ h' => h')
    exact wpAny_bind (wpAny_mono h₁' (fun _ s₂ h₂ => wpAny_bind (wpAny_bind (wpAny_mono h₂ (fun x s₃ h₃ => wpAny_bind (wpAny_mono h₃
      (fun _ s₄ h₄ => wpAny_pure (wpAny_pure ⟨rfl, h₄⟩)) fun _ _ h' => h')) fun _ _ h' => h'))) fun _ _ h' => h')
def cU (X : Cx) (N' : List Str) (scope : Scope) (cl : List (Str × Addr)) (fp : List Addr) (s3 : Shared) (H3 : Hp) (C : Addr) : Cx :=
  { X with N := N', s₀ := s3, H₀ := H3, env := compEnvC scope cl C X.env, outer := X.stack, ex := fp, fn := fun _ => false, pn := [], xe := fun _ _ => False }
def cu (is : List Nat) (σ : St) : St := is.map fun i => (σ[i]?).join
def fh (J : It) (is : List Nat) (te : TE) (σ : St) (H1 : Hp) (Q : VK) : Prop := ∀ D, H1 D = none → ∃ W : Nat → Nat → List V → Hp → Prop, (∃ m, W 0 m [] (upd H1 D (.lst []))) ∧
  ∀ i m ys H2, W i m ys H2 → H2 D = some (.lst ys) ∧ ((J.stop i H2 ∧ Q (.ref D) H2) ∨ (J.go i H2 ∧ ∀ v H3, J.yld i H2 v H3 → te (some v :: cu is σ) H3 fun y H4 =>
    H4 D = some (.lst ys) ∧ ys.length < sizeLine ∧ ∃ m', m' < m ∧ W (i + 1) m' (ys ++ [y]) (upd H4 D (.lst (ys ++ [y])))))
def BO (wi : TI) (is : List Nat) (te : TE) : TE := fun σ H Q => wi σ H fun J H1 => fh J is te σ H1 Q
structure wF (sc : Scope) (N : List Str) (x : Str) (scope : Scope) (is : List Nat) (ns : List Str) : Prop where
  kind : scope.kind = .function := by rfl
  nocell : ∀ y ∈ scope.names, y.2 ≠ .cell := by decide +kernel
  names : ∀ y ∈ scope.names, y.2 = .local → scope.names.lookup y.1 = some .local := by decide +kernel
  free : ∀ y ∈ scope.names, y.2 = .free → sc.names.lookup y.1 = some .cell := by decide +kernel
  hx : scope.names.lookup x = some .local := by rfl
  cap : ns.map some = is.map fun i => N[i]? := by rfl
  nd : (x :: ns).Nodup := by decide +kernel
  capf : ∀ y ∈ ns, scope.names.lookup y = some .free ∧ sc.names.lookup y = some .cell := by decide +kernel
section
variable {X : Cx} {x : Str} {px pos : Pos} {elt iter : Expr} {scope : Scope} {wi : TI} {te : TE} {is : List Nat} {ns : List Str}
end
end L2
namespace L2
open PySem PySem.Spec PyProof.Rows
section
variable {K : PySem.W.Frag} {is : List Nat} {te : TE} {σ : St} {H : Hp} {Q : VK}
theorem aj.upd {H : Hp} {D : Addr} {o : HO} (h : H D = none) : aj H (upd H D o) := fun b u e => by
  rw [aq (ah e h)]
  exact e
theorem sQ {J : It} {xs : List V} (f : V → V) (hz : xs.length ≤ sizeLine) (hgo : ∀ i H2, aj H H2 → i < xs.length → J.go i H2) (hstop : ∀ H2, aj H H2 → J.stop xs.length H2)
    (hy : ∀ i H2 v H3, aj H H2 → i < xs.length → J.yld i H2 v H3 → H3 = H2 ∧ xs[i]? = some v)
    (he : ∀ v H2 Q', v ∈ xs → aj H H2 → Q' (f v) H2 → te (some v :: cu is σ) H2 Q') (q : ∀ D, H D = none → Q (.ref D) (upd H D (.lst (xs.map f)))) : fh J is te σ H Q := by
  intro D hD
  refine ⟨fun i m ys H2 => m = xs.length - i ∧ i ≤ xs.length ∧ ys = (xs.take i).map f ∧ H2 = upd H D (.lst ys), ⟨_, rfl, Nat.zero_le _, by simp, rfl⟩, ?_⟩
  rintro i m ys H2 ⟨rfl, hi, hys, rfl⟩
  have sm : aj H (upd H D (.lst ys)) := aj.upd hD
  refine ⟨aa, ?_⟩
  by_cases hlt : i < xs.length
  · refine .inr ⟨hgo i _ sm hlt, fun v H3 y => ?_⟩
    obtain ⟨rfl, hv⟩ := hy i _ v H3 sm hlt y
    refine he v _ _ (List.mem_of_getElem? hv) sm ⟨aa, ?_, xs.length - (i + 1), by omega, rfl, hlt, ?_, vB⟩
    · rw [hys, List.length_map, List.length_take]
      omega
    · rw [hys, List.take_add_one, hv, List.map_append]
      rfl
  · have e : i = xs.length := by omega
    subst e
    refine .inl ⟨hstop _ sm, ?_⟩
    rw [hys, List.take_length]
    exact q D hD
theorem aj.yE {K : PySem.W.Frag} {H H' : Hp} {a : Addr} {xs : List V} (e : aj H H') (h : br K H a xs) : br K H' a xs := by
  rcases h with (h | ⟨o, h⟩) | h
  · exact .inl (.inl (e _ _ h))
  · exact .inl (.inr ⟨o, e _ _ h⟩)
  · exact .inr h
theorem nM {lo : Int} {n : Nat} (f : V → V) (hz : n ≤ sizeLine) (he : ∀ (i : Nat) H2 Q', i < n → aj H H2 → Q' (f (.int (lo + i))) H2 → te (some (.int (lo + i)) :: cu is σ) H2 Q')
    (q : ∀ D, H D = none → Q (.ref D) (upd H D (.lst ((List.range n).map fun (i : Nat) => f (.int (lo + i)))))) : fh (xn lo n) is te σ H Q := by
  refine sQ (xs := (List.range n).map fun (i : Nat) => V.int (lo + i)) f (by simpa using hz) (fun i H2 _ hi => ?_) (fun H2 _ => ?_) (fun i H2 v H3 _ hi y => ?_) (fun v H2 Q' hv sm q' => ?_) (fun D hD => ?_)
  · show i < n
    simpa using hi
  · show n ≤ _
    simp
  · obtain ⟨rfl, rfl⟩ := y
    have hi' : i < n := by simpa using hi
    exact ⟨rfl, by simp [hi']⟩
  · obtain ⟨i, hi, rfl⟩ := List.mem_map.mp hv
    exact he i H2 Q' (List.mem_range.mp hi) sm q'
  · rw [List.map_map]
    exact q D hD
end
def signs (z : Str) : List V := z.cps.toList.map fun c => V.str ⟨#[c]⟩
theorem signs_length (z : Str) : (signs z).length = z.cps.size := by simp [signs]
def C5 (z : Str) : It := ⟨fun i _ => i < z.cps.size, fun i H x H' => H' = H ∧ (signs z)[i]? = some x, fun i _ => i = z.cps.size⟩
theorem uW {P : Program} {w : World} {K : PySem.W.Frag} {tg : Expr} {ty : String} {z : Str} {t : Tok} (it : Addr) (hW : ∀ A : Around, A.handled = none → Walks P w A it [it] [it] z.cps.size (SignAt z) (fun i h => h.IsStrIter it ty z t i))
    (hS : ∀ (A : Around) (i : Nat) (s : Shared) (Q : Value → Shared → Prop) (E : Value → Shared → Prop), s.heap.IsStrIter it ty z t i → Q (.ref it) s → wpAny (model P w) A (pyIter (.ref it)) Q E s)
    (hn : ["enumerate", "zip", "dict_itemiterator", "dict_reverseitemiterator", "odict_iterator", "itertools.zip_longest", "itertools.pairwise"].contains ty = false) : Turn P w K tg (C5 z) [it] it (fun i h => h.IsStrIter it ty z t i) where
  mem := by simp
  obj := fun i h st b hb => by
    have e : b = it := by simpa using hb
    subst e
    obtain ⟨o, e, c, d⟩ := st
    exact ⟨o, e, fun v z => by rw [d] at z; cases z⟩
  keep := fun i h h' st k => by
    obtain ⟨o, e, r⟩ := st
    exact ⟨o, k it (by simp) o e, r⟩
  item := by
    intro X hP hw hK hc i pins s σ H E I hf st hg
    subst hP hw hK
    obtain ⟨f0, f1, f2, f3, f4, f5⟩ := hf it (by simp)
    refine (hW X.A (I.ok.hd hc)).item i s _ _ hg st fun v h' tk hv st' kk => ?_
    obtain ⟨c, u, hcp, rfl⟩ := hv
    have I1 : Inv X pins σ H { s with heap := h', toks := tk } := I.turned (fun b o hb e => kk b o (by simpa using hb) e) f0 f1 f3 f4 f5
    obtain ⟨o, e, cc, d⟩ := id st'
    refine ⟨_, rfl, pP (s := { s with heap := h', toks := tk }) e cc d hn ⟨.str ⟨#[c]⟩, H, I1, ⟨u, rfl⟩, ⟨rfl, ?_⟩, st', fun b hb => (hf b hb).1⟩⟩
    unfold signs
    rw [List.getElem?_map, Array.getElem?_toList, hcp]
    rfl
  done := by
    intro X hP hw hK hc i pins s σ H E I hf st hg
    subst hP hw hK
    obtain ⟨f0, f1, f2, f3, f4, f5⟩ := hf it (by simp)
    have hg' : i = z.cps.size := hg
    subst hg'
    exact (hW X.A (I.ok.hd hc)).done s _ _ st fun h' tk kk => ⟨rfl, I.turned (fun b o hb e => kk b o (by simpa using hb) e) f0 f1 f3 f4 f5⟩
  self := hS
section
variable {X : Cx} {tg : Expr}
def Cz (tl : TE) : TI := fun σ H R => tl σ H fun x H1 => ∃ z, x = .str z ∧ R (C5 z) H1
theorem xQ {l : Expr} {tl : TE} (hl : PE X l tl) : PI X tg l (Cz tl) := by
  intro pins s σ H R I h
  refine bJ (hl pins s σ H _ I h) fun v s1 hpat => ?_
  obtain ⟨x, H1, I1, r1, q1⟩ := hpat
  obtain ⟨z, e, q⟩ := q1
  subst e
  obtain ⟨t, rfl⟩ := r1
  have fin : ∀ (ty : String) (hW : ∀ A : Around, A.handled = none → Walks X.prog X.w A s1.heap.objs.size [s1.heap.objs.size] [s1.heap.objs.size] z.cps.size (SignAt z) (fun i h => h.IsStrIter s1.heap.objs.size ty z t i))
      (hS : ∀ (A : Around) (i : Nat) (s : Shared) (Q : Value → Shared → Prop) (E : Value → Shared → Prop), s.heap.IsStrIter s1.heap.objs.size ty z t i → Q (.ref s1.heap.objs.size) s → wpAny (model X.prog X.w) A (pyIter (.ref s1.heap.objs.size)) Q E s)
      (hn : ["enumerate", "zip", "dict_itemiterator", "dict_reverseitemiterator", "odict_iterator", "itertools.zip_longest", "itertools.pairwise"].contains ty = false),
      Cv X pins σ tg R (.ref s1.heap.objs.size) { s1 with heap := s1.heap.push { cls := .type ty, data := .fields #[.str z t, .int 0 0] } } := fun ty hW hS hn => by
    refine ⟨s1.heap.objs.size, [s1.heap.objs.size], _, _, H1, rfl, I1.kept (t' := s1.toks) fun b o e => Heap.get?_push_of_some _ e, uW _ hW hS hn, ⟨_, Heap.get?_push_size _ rfl, rfl, rfl⟩, fun b hb => ?_, q⟩
    have e : b = s1.heap.objs.size := by simpa using hb
    subst e
    exact I1.mW (Nat.le_refl _) (I1.hok.fresh (Nat.le_refl _))
  cases ha : z.cps.all (· < 128)
  · exact wpAny_pyIter_wide ha (fin "str_iterator" (fun A hA => Walks.strWide hA _ z t) (fun A i s Q E st h => wpAny_pyIter_striter_wide st h) (by decide))
  · exact wpAny_pyIter_ascii ha (fin "str_ascii_iterator" (fun A hA => Walks.strAscii hA _ z t) (fun A i s Q E st h => wpAny_pyIter_striter_ascii st h) (by decide))
theorem xC {z : Str} {is : List Nat} {te : TE} {σ : St} {H : Hp} {Q : VK} (f : V → V) (hz : z.length ≤ sizeLine) (he : ∀ v H2 Q', v ∈ signs z → aj H H2 → Q' (f v) H2 → te (some v :: cu is σ) H2 Q')
    (q : ∀ D, H D = none → Q (.ref D) (upd H D (.lst ((signs z).map f)))) : fh (C5 z) is te σ H Q :=
  sQ f (by rw [signs_length]; exact hz) (fun i H2 _ hi => by rw [signs_length] at hi; exact hi) (fun H2 _ => signs_length z) (fun i H2 v H3 _ hi y => y) he q
theorem mX : ∀ bs : List Bool, ((List.range bs.length).all fun i => bs.getD i false) = bs.all id
  | [] => rfl
  | b :: r => by
    rw [List.length_cons, List.range_succ_eq_map, List.all_cons, List.all_map, List.all_cons, ← mX r]
    rfl
theorem cE (hc : X.calm = true) : cN X (.builtin "all") (fun xs H Q => ∃ (p : Addr) (bs : List Bool), xs = [.ref p] ∧ aE X.K H p (bs.map V.bl) ∧ Q (.bl (bs.all id)) H) := by
  intro pins s σ H xs us Q I r h
  obtain ⟨p, bs, rfl, hq, q⟩ := h
  obtain ⟨u, rfl, rx⟩ := vals1 r
  cases rx
  obtain ⟨its, rv, pl, hz⟩ := I.list hq
  have hl := rv.length
  rw [List.length_map] at hl
  have hlt : p < s.heap.objs.size := by obtain ⟨o, n, e, _⟩ := pl; exact Heap.lt_size e
  refine call_all_walk (wpAny_pyIter_list pl.isList ?_)
  refine ⟨s.heap.objs.size, [s.heap.objs.size, p], [s.heap.objs.size], its.toArray.size, _, _, fun i => bs.getD i false, rfl, Walks.list (show X.A.in1.handled = none from I.ok.hd hc) s.heap.objs.size p (Nat.ne_of_lt hlt) its.toArray,
    ⟨⟨_, Heap.get?_push_size _ rfl, rfl, rfl⟩, ?_⟩, fun i v s' Q' E' hv hQ => ?_, fun h' tk kk => ?_⟩
  · obtain ⟨o, e, r⟩ := pl.isList
    exact ⟨o, Heap.get?_push_of_some _ e, r⟩
  · have hi : i < bs.length := by
      have : i < its.length := by
        have := (Array.getElem?_eq_some_iff.mp hv).1
        simpa using this
      omega
    have hb : (bs.map V.bl)[i]? = some (V.bl bs[i]) := by simp [hi]
    obtain ⟨u, hu, ru⟩ := rv.get hb
    have hv' : its[i]? = some v := by simpa using hv
    rw [hu] at hv'
    cases hv'
    obtain rfl : v = Value.bool bs[i] := ru
    refine wpAny_truthy_bool ?_
    have e : bs.getD i false = bs[i] := by simp [List.getD, hi]
    rw [← e]
    exact hQ
  · refine ⟨.bl (bs.all id), H, ?_, ?_, q⟩
    · have I1 : Inv X pins σ H { s with heap := s.heap.push { cls := .type "list_iterator", data := .fields #[.ref p, .int 0 0] } } := I.kept (t' := s.toks) fun b o e => Heap.get?_push_of_some _ e
      have I2 : Inv X pins σ H { s with heap := h', toks := tk } := I.kept (t' := tk) fun b o e => kk b o (by
        intro z
        have z' : b = s.heap.objs.size := by simpa using z
        exact absurd (Heap.lt_size e) (by rw [z']; exact Nat.lt_irrefl _)) (Heap.get?_push_of_some _ e)
      exact I2
    · show Value.bool _ = Value.bool _
      congr 1
      rw [List.size_toArray, ← hl]
      exact mX bs
inductive ql (K : PySem.W.Frag) (xs : List V) (H : Hp) (Q : VK) : Prop
  | mk (x : V) (t : Value) (n : String) (b : Bool) (e : xs = [x, .ty n]) (ty : cT K H x t) (k : PySem.W.kitOne K t (.type n) = some b) (q : Q (.bl b) H)
theorem aU : cN X (.builtin "isinstance") (fun xs H Q => L2.ql X.K xs H Q) := by
  intro pins s σ H xs us Q I r h
  obtain ⟨x, t, n, b, rfl, ty, e, q⟩ := h
  obtain ⟨u, c, rfl, rx, rc⟩ := vals2 r
  obtain rfl : c = Value.type n := rc
  exact qV I rx ty e fun tk => ⟨.bl b, H, I.tok _, rfl, q⟩
theorem kP : gx X (compareOp .LtE) (fun x y H Q => ∃ i j, x = .str i ∧ y = .str j ∧ Q (.bl (!decide (j.cps.toList < i.cps.toList))) H) := by
  intro pins s σ H x y v u Q I rx ry h
  obtain ⟨i, j, rfl, rfl, q⟩ := h
  obtain ⟨t, rfl⟩ := rx
  obtain ⟨t', rfl⟩ := ry
  exact PySem.P.le_str ⟨.bl _, H, I, rfl, q⟩
def jg (z : Str) (lo hi : Option Int) : Str := ⟨((z.cps.toList.drop (HT.eS z.length 0 lo)).take (HT.eS z.length z.length hi - HT.eS z.length 0 lo)).toArray⟩
theorem fO (z : Str) (lo hi : Option Int) : (jg z lo hi).length ≤ z.length := by
  show (((z.cps.toList.drop _).take _).toArray).size ≤ z.cps.size
  rw [List.size_toArray, List.length_take, List.length_drop, Array.length_toList]
  exact Nat.le_trans (Nat.min_le_right _ _) (Nat.sub_le _ _)
theorem xh (v : Int) (n d : Nat) : max 0 (min (if v < 0 then v + (n : Int) else v) (n : Int)) = ((HT.eS n d (some v) : Nat) : Int) := by
  exact uB v n d
theorem picked_eq (z : Str) (lo hi : Option (Int × Tok)) : slicePicked z lo hi none = (List.range (HT.eS z.length z.length (hi.map (·.1)) - HT.eS z.length 0 (lo.map (·.1)))).map (HT.eS z.length 0 (lo.map (·.1)) + ·) := by
  unfold slicePicked Builtin.Str.strSliceIndices
  simp only [Option.map_none, Option.getD_none, show (1 : Int) > 0 by decide, if_true]
  rw [← sliceRange_one]
  congr 1
  · cases lo with
    | none => rfl
    | some p => exact xh p.1 z.length 0
  · cases hi with
    | none => rfl
    | some p => exact xh p.1 z.length z.length
inductive Cg (x : V) (lo hi : Option Int) (H : Hp) (Q : VK) : Prop
  | mk (z : Str) (hx : x = .str z) (b : z.length ≤ sizeLine) (q : Q (.str (jg z lo hi)) H)
def zH : V → Option Int → Option Int → Hp → VK → Prop := fun x lo hi H Q => Cg x lo hi H Q
theorem mn : BG X zH := by
  intro pins s σ H x v vl vu lo hi sl Q I rx hs pl pu h
  obtain ⟨z, rfl, hz, q⟩ := h
  obtain ⟨t, rfl⟩ := rx
  have part : ∀ {u : Value} {o : Option Int}, IsPart u o → ∃ p : Option (Int × Tok), u = partValue p ∧ o = p.map (·.1) := fun {u o} p => by
    cases p with
    | none => exact ⟨none, rfl, rfl⟩
    | int i t => exact ⟨some (i, t), rfl, rfl⟩
  obtain ⟨l, rfl, rfl⟩ := part pl
  obtain ⟨u, rfl, rfl⟩ := part pu
  refine ⟨"str", _, slot_str_getitem.lookup, typeIs_str s z t, ?_⟩
  refine wpAny_getItem_str_slice (l := l) (u := u) (st := none) hs rfl ?_
  unfold sliceMade
  have ecut : (⟨((slicePicked z l u none).filterMap (z.cps[·]?)).toArray⟩ : Str) = jg z (l.map (·.1)) (u.map (·.1)) := by
    rw [picked_eq]
    unfold jg
    congr 2
    exact pick_run z.cps _ _
  split
  · rename_i c
    rw [Bool.and_eq_true] at c
    have c2 := eq_of_beq c.2
    rw [picked_eq, List.length_map, List.length_range] at c2
    have hle : HT.eS z.length z.length (u.map (·.1)) ≤ z.length := HT.zh _ _ (Nat.le_refl _) _
    have whole : jg z (l.map (·.1)) (u.map (·.1)) = z := by
      unfold jg
      by_cases h0 : z.length = 0
      · have hz0 : z.cps.toList = [] := by
          have : z.cps.size = 0 := h0
          exact List.eq_nil_of_length_eq_zero (by simpa using this)
        rw [hz0]
        simp only [List.drop_nil, List.take_nil]
        obtain ⟨cps⟩ := z
        congr 1
        exact (Array.toList_eq_nil_iff.mp hz0).symm
      · have e1 : HT.eS z.length 0 (l.map (·.1)) = 0 := by omega
        rw [c2, e1]
        rw [List.drop_zero, List.take_of_length_le (by simp [Str.length])]
    exact ⟨.str _, H, I, ⟨t, by rw [whole]⟩, q⟩
  · refine ⟨?_, .str _, H, I.tok _, ⟨_, by rw [ecut]⟩, q⟩
    rw [ecut]
    exact Nat.le_trans (fO _ _ _) hz
end
end L2
namespace L2
open PySem PySem.Spec PyProof.Rows
theorem Inv.Dx {X : Cx} {pins : List (Addr × Obj)} {σ : St} {H : Hp} {s : Shared} (I : Inv X pins σ H s) : sysModules < s.heap.objs.size := by
  have h : mainGlobals < s.heap.objs.size := (I.mod.glob.keeps I.bk).lt
  exact Nat.lt_trans (by decide) h
theorem vc {P : Program} {w : World} {H : Hp} (h : Heap) (hb : sysModules < h.objs.size) : bA P w H (h.push { cls := .type "dict", data := .dict #[] }) h.objs.size (.dK []) :=
  ⟨Nat.zero_le _, beq_eq_false_iff_ne.mpr (Ne.symm (Nat.ne_of_lt hb)), [], .nil, Heap.DictOf.new h⟩
def xi : TE := fun _ H Q => ∀ p, H p = none → Q (.ref p) (upd H p (.dK []))
theorem lX {X : Cx} {pos : Pos} : PE X (.Dict [] [] pos) xi := fun pins s σ H Q I h =>
  wpAny_Dict_empty ⟨.ref s.heap.objs.size, _, I.laid (a := s.heap.objs.size) (o := .dK []) (t' := s.toks) (fun _ _ q => Heap.get?_push_of_some _ q) (Nat.le_refl _) (vc s.heap I.Dx), rfl, h _ (I.hok.fresh (Nat.le_refl _))⟩
structure Df (K : PySem.W.Frag) (mg : Str → Option Value) (x : Str) (st : Stmt) (ps : List Str) (f : Addr) (fd : FuncData) : Prop where
  fn : gJ K x x st f fd
  nm : mg x = some (.ref f)
  bi : Binds K fd ps []
def tys : List String := ["NoneType", "bool", "int", "str", "list", "tuple", "dict"]
def cJ (T n : String) : Bool := T == n || (T == "bool" && n == "int")
theorem bo {K : PySem.W.Frag} {T n : String} (hT : T ∈ tys) (hn : n ∈ ["int", "bool", "str", "list", "tuple"]) : PySem.W.kitOne K (.type T) (.type n) = some (cJ T n) := by
  simp only [tys, List.mem_cons, List.not_mem_nil, or_false] at hT hn
  rcases hT with rfl | rfl | rfl | rfl | rfl | rfl | rfl <;> rcases hn with rfl | rfl | rfl | rfl | rfl <;> rfl
section
variable {K : PySem.W.Frag} {H : Hp} {x : V} {T : String}
theorem ty_int (ty : cT K H x (.type "int")) : ∃ i, x = .int i := by
  generalize h : Value.type "int" = t at ty
  cases ty <;> first | exact ⟨_, rfl⟩ | (injection h with h'; exact absurd h' (by decide)) | cases h
theorem ty_str (ty : cT K H x (.type "str")) : ∃ z, x = .str z := by
  generalize h : Value.type "str" = t at ty
  cases ty <;> first | exact ⟨_, rfl⟩ | (injection h with h'; exact absurd h' (by decide)) | cases h
theorem qZ {i : Int} (ty : cT K H (.int i) (.type T)) : T = "int" := by
  generalize h : Value.type T = t at ty
  cases ty
  injection h
theorem rK {z : Str} (ty : cT K H (.str z) (.type T)) : T = "str" := by
  generalize h : Value.type T = t at ty
  cases ty
  injection h
end
theorem av : bootBuiltins "isinstance" = some (.builtin "isinstance") := by decide +kernel
theorem lA : bootBuiltins "int" = some (.type "int") := by decide +kernel
theorem pD : bootBuiltins "bool" = some (.type "bool") := by decide +kernel
theorem fE : bootBuiltins "str" = some (.type "str") := by decide +kernel
theorem iM : bootBuiltins "all" = some (.builtin "all") := by decide +kernel
theorem aZ : bootBuiltins "len" = some (.builtin "len") := by decide +kernel
theorem bF : bootBuiltins "list" = some (.type "list") := by decide +kernel
theorem eP : bootBuiltins "tuple" = some (.type "tuple") := by decide +kernel
end L2
namespace L2
open PySem PySem.Spec PyProof.Rows
def notStar (e : Expr) : Bool := match e with
  | .Starred _ _ => false
  | _ => true
theorem aR {e : Expr} {rest : List Expr} {env : Env} (h : notStar e = true) : starEach (e :: rest) env = (false, eval e env) :: starEach rest env := by
  cases e <;> first | rfl | cases h
theorem bW {env : Env} {pos : Pos} : ∀ {es : List Expr}, es.all notStar = true → (backTo pos (starEach es env)).any (·.1) = false
  | [], _ => rfl
  | e :: es, h => by
    rw [List.all_cons, Bool.and_eq_true] at h
    rw [aR h.1]
    exact bW h.2
theorem af {X : Cx} {e : Expr} {es : List Expr} {te : TE} {t : TA} (ha : PE X e te) (hr : PA X es t) (h : notStar e = true := by rfl) : PA X (e :: es) (uN te t) := da ha hr (aR h)
def gr (e : Expr) : Bool := match e with
  | .ListComp .. => true
  | .SetComp .. => true
  | .DictComp .. => true
  | _ => false
theorem ix {e : Expr} {tg : Option Expr} {n : Nat} {env : Env} (h : gr e = false) : swapsWith e tg n env = pure false := by
  cases e <;> first | rfl | cases h
theorem aV {X : Cx} {f : Expr} {as : List Expr} {kw : List Keyword} {p : Pos} {t : TE} (h : PE X (.Call f as kw p) t) : PT X (.Call f as kw p) (tB t) := oW h (fun _ => rfl)
theorem eV {l r : Expr} {op : Operator} {p : Pos} : cR (.BinOp l op r p) := fun _ _ => rfl
theorem bY {x : Str} {p : Pos} : cR (.Name x p) := fun _ _ => rfl
theorem aP {c : Const} {k : Nat} {p : Pos} : cR (.Constant c k p) := fun _ _ => rfl
theorem j8 {op op' : CmpOp} {b c : Expr} (h : op' ≠ .In := by decide) (h2 : op' ≠ .NotIn := by decide) : lastMarks [op, op'] [b, c] = false := by
  have e : lastMarks [op, op'] [b, c] = behindInMarks op' c := by rfl
  rw [e]
  exact aH c h h2
theorem kM {X : Cx} {e : Expr} {te : TE} {p : Pos} (he : PE X e te) (h : gr e = false := by rfl) : PS X (.Expr e p) (uh te) := wJ he (ix h)
structure Slot (X : Cx) (i : Nat) (x : Str) : Prop where
  hN : X.N[i]? = some x
  lc : Loc X.env.scope x
  fn : X.fn x = true ∨ X.env.scope.names.lookup x = some .local
  db : (x == ("__debug__" : Str)) = false
  cd : (x == ("__classdict__" : Str)) = false
structure Bt (X : Cx) (x : Str) : Prop where
  gl : Gl X x
  nm : X.mg x = none
  hn : x ≠ "__name__"
  db : (x == ("__debug__" : Str)) = false
structure zD (X : Cx) (x : Str) (sp : Sp) : Prop where
  ex : ∃ (k : Nat) (f : Addr) (fd : FuncData) (ps : List Str), bH X.prog X.w X.K X.mg X.base fD k f fd ps sp ∧ bL k X.A ∧ X.mg x = some (.ref f) ∧ PySem.W.keepIn X.K (.ref f) = true ∧ Binds X.K fd ps []
  gl : Gl X x
  db : (x == ("__debug__" : Str)) = false
section
variable {X : Cx} {i : Nat} {x : Str} {sp : Sp} {p pos pos' : Pos} {e : Expr} {es : List Expr} {te : TE} {t : TA}
theorem Slot.rd (S : Slot X i x) : PE X (.Name x p) (qP i) := lS S.hN (S.lc.elim .inl fun h => .inr (.inl h)) S.db S.cd
theorem Slot.set (S : Slot X i x) (nd : X.N.Nodup) (he : PE X e te) (h : gr e = false := by rfl) : PS X (.Assign [.Name x pos'] e pos) (o7 te (fu i)) := zg nd S.hN S.lc he (ix h) S.fn
theorem Slot.tg (S : Slot X i x) (nd : X.N.Nodup) : PG X (.Name x p) (fu i) := jq nd S.hN S.lc S.fn
theorem Bt.call {id : String} {r : List V → Hp → VK → Prop} (B : Bt X x) (hc : cN X (.builtin id) r) (hv : bootBuiltins x = some (.builtin id)) (ha : PA X (e :: es) t) (h1 : notStar e = true := by rfl)
    (h2 : es.all notStar = true := by rfl) : PE X (.Call (.Name x p) (e :: es) [] pos) (zA r t) := eE hc B.gl B.nm hv ha B.hn B.db (aR h1) (bW h2)
theorem Bt.Bm {T : String} {r : List V → Hp → VK → Prop} (B : Bt X x) (hc : cN X (.type T) r) (hv : bootBuiltins x = some (.type T)) (ha : PA X (e :: es) t) (h1 : notStar e = true := by rfl)
    (h2 : es.all notStar = true := by rfl) : PE X (.Call (.Name x p) (e :: es) [] pos) (zA r t) := rM hc B.gl B.nm hv ha B.hn B.db (aR h1) (bW h2)
theorem Bt.ty {n : String} (B : Bt X x) (hv : bootBuiltins x = some (.type n)) : PE X (.Name x p) (tC (.ty n)) := jy (v := .ty n) B.gl B.nm hv rfl B.hn B.db
theorem zD.call (C : zD X x sp) (ha : PA X (e :: es) t) (h1 : notStar e = true := by rfl)
    (h2 : es.all notStar = true := by rfl) : PE X (.Call (.Name x p) (e :: es) [] pos) (og sp [] E0 t) := by
  obtain ⟨k, f, fd, ps, G, hr, nm, kp, bi⟩ := C.ex
  exact qd G hr C.gl nm kp bi .nil pK ha C.db (aR h1) (bW h2)
end
end L2
namespace J
open PySem PySem.Spec PyProof.Rows
open L2 (Cx V Hp St VK TE TT TA TS TG jh TI TO R2 Sp XK E0 fD bH bL Gl Binds RelV Vals aE br cT)
structure JE (X : Cx) (e : Expr) (t : TE) : Prop where
  out : L2.PE X e t
structure JT (X : Cx) (e : Expr) (t : TT) : Prop where
  out : L2.PT X e t
structure JW (X : Cx) (e : Expr) (t : TT) : Prop where
  out : L2.PW X e t
structure JA (X : Cx) (es : List Expr) (t : TA) : Prop where
  out : L2.PA X es t
structure JS (X : Cx) (st : Stmt) (t : TS) : Prop where
  out : L2.PS X st t
structure om (X : Cx) (st : List Stmt) (t : TS) : Prop where
  out : L2.oJ X st t
structure JG (X : Cx) (tg : Expr) (g : TG) : Prop where
  out : L2.PG X tg g
structure BE (X : Cx) (ts : List Expr) (g : jh) : Prop where
  out : L2.Am X ts g
structure JI (X : Cx) (tg it : Expr) (wi : TI) : Prop where
  out : L2.PI X tg it wi
structure JO (X : Cx) (e : Option Expr) (t : TO) : Prop where
  out : L2.PO X e t
structure JB (X : Cx) (op : Operator) (r : R2) : Prop where
  out : L2.gx X (binaryOp op) r
structure JC (X : Cx) (op : CmpOp) (r : R2) : Prop where
  out : L2.gx X (compareOp op) r
structure JU (X : Cx) (op : UnaryOp) (r : V → Hp → VK → Prop) : Prop where
  out : L2.BF X (unaryOp op) r
structure JF (X : Cx) (f : Value) (r : List V → Hp → VK → Prop) : Prop where
  out : L2.cN X f r
structure JX (X : Cx) (r : R2) : Prop where
  out : L2.Bo X r
structure JM (X : Cx) (id : String) (r : V → List V → Hp → VK → Prop) : Prop where
  out : L2.BD X id r
structure JL (X : Cx) (r : V → Option Int → Option Int → Hp → VK → Prop) : Prop where
  out : L2.BG X r
structure cR (b : Expr) : Prop where
  out : L2.cR b
section
variable {X : Cx} {a b c e : Expr} {es : List Expr} {ta tb tc te : TE} {t : TA} {tA tB' : TT} {pos p2 : Pos} {r r' : R2} {u v : TS} {st : Stmt} {sts : List Stmt} {tg : Expr}
theorem bu : JB X .Add (L2.sj fun i j => .int (i + j)) := ⟨L2.bu⟩
theorem gu : JB X .Sub (L2.sj fun i j => .int (i - j)) := ⟨L2.gu⟩
theorem cY : JB X .Mult (L2.rI L2.vO fun i j => .int (i * j)) := ⟨L2.cY⟩
theorem aS : JB X .FloorDiv (L2.rI L2.Af fun i j => .int (i / j)) := ⟨L2.aS⟩
theorem aQ : JB X .Mod (L2.rI (fun _ j => 0 < j) fun i j => .int (i % j)) := ⟨L2.aQ⟩
theorem c7 : JB X .Pow (L2.rI L2.Aq fun i j => .int (i ^ j.toNat)) := ⟨L2.c7⟩
theorem dO : JB X .Add (fun x y H Q => ∃ i j, x = .str i ∧ y = .str j ∧ i.length + j.length ≤ sizeLine ∧ Q (.str (i ++ j)) H) := ⟨L2.dO⟩
theorem mK : JU X .USub (L2.rU fun i => .int (-i)) := ⟨L2.mK⟩
theorem bq : JC X .Eq L2.DX := ⟨L2.bq⟩
theorem ip : JC X .NotEq L2.DN := ⟨L2.ip⟩
theorem j5 : JC X .Lt (L2.sj fun i j => .bl (decide (i < j))) := ⟨L2.j5⟩
theorem fL : JC X .LtE (L2.sj fun i j => .bl (decide (i ≤ j))) := ⟨L2.fL⟩
theorem j3 : JC X .Gt (L2.sj fun i j => .bl (decide (j < i))) := ⟨L2.j3⟩
theorem kh : JC X .Is (fun x y H Q => y = .non ∧ Q (.bl (decide (x = .non))) H) := ⟨L2.kh⟩
theorem jj : JC X .IsNot (fun x y H Q => y = .non ∧ Q (.bl (!decide (x = .non))) H) := ⟨L2.jj⟩
theorem eH : JC X .In (L2.Cw X.K false) := ⟨L2.eH⟩
theorem aD : JF X (.builtin "len") (fun xs H Q => L2.Bb X.K xs H Q) := ⟨L2.aD⟩
theorem aO : JF X (.type "list") (fun xs H Q => ∃ p ys, xs = [.ref p] ∧ (aE X.K H p ys ∨ br X.K H p ys) ∧ ∀ l, H l = none → Q (.ref l) (L2.upd H l (.lst ys))) := ⟨L2.aO⟩
theorem eA : JF X (.type "tuple") (fun xs H Q => ∃ p ys, xs = [.ref p] ∧ ((aE X.K H p ys ∧ ∀ l, H l = none → Q (.ref l) (L2.upd H l (.tup ys))) ∨ (br X.K H p ys ∧ Q (.ref p) H))) := ⟨L2.eA⟩
theorem aU : JF X (.builtin "isinstance") (fun xs H Q => L2.ql X.K xs H Q) := ⟨L2.aU⟩
theorem cE (hc : X.calm = true) : JF X (.builtin "all") (fun xs H Q => ∃ (p : Addr) (bs : List Bool), xs = [.ref p] ∧ aE X.K H p (bs.map V.bl) ∧ Q (.bl (bs.all id)) H) := ⟨L2.cE hc⟩
theorem iT : JF X (.type "int") (fun xs H Q => (∃ i, xs = [.int i] ∧ Q (.int i) H) ∨ ∃ k, xs = [.bl k] ∧ Q (.int (if k then 1 else 0)) H) := ⟨L2.iT⟩
theorem i3 (hc : X.calm = true) : JF X (.builtin "max") (fun xs H Q => ∃ i j, xs = [.int i, .int j] ∧ Q (.int (if j > i then j else i)) H) := ⟨L2.i3 hc⟩
theorem iJ (hc : X.calm = true) : JF X (.builtin "min") (fun xs H Q => ∃ i j, xs = [.int i, .int j] ∧ Q (.int (if j < i then j else i)) H) := ⟨L2.iJ hc⟩
theorem aG : JX X (L2.vP X.K) := ⟨L2.aG⟩
theorem b6 : JX X (L2.yS X.K) := ⟨L2.b6⟩
theorem jE : JX X L2.zx := ⟨L2.jE⟩
theorem eV {l r : Expr} {op : Operator} {p : Pos} : cR (.BinOp l op r p) := ⟨L2.eV⟩
theorem bY {x : Str} {p : Pos} : cR (.Name x p) := ⟨L2.bY⟩
theorem aP {c : Const} {k : Nat} {p : Pos} : cR (.Constant c k p) := ⟨L2.aP⟩
theorem vf {f : Expr} {as : List Expr} {kw : List Keyword} {p : Pos} : cR (.Call f as kw p) := ⟨fun _ _ => rfl⟩
theorem de : JL X (L2.Aa X.K) := ⟨L2.de⟩
theorem mn : JL X L2.zH := ⟨L2.mn⟩
theorem cM : JO X none L2.qg := ⟨L2.cM⟩
theorem cj (h : JE X e te) : JO X (some e) (L2.wY te) := ⟨L2.cj h.out⟩
theorem ag {i j pos} : JE X (.Constant (.int i) j pos) (L2.tC (.int i)) := ⟨L2.ag⟩
theorem cq {b j pos} : JE X (.Constant (.bool b) j pos) (L2.tC (.bl b)) := ⟨L2.cq⟩
theorem cS {j pos} : JE X (.Constant .none j pos) (L2.tC .non) := ⟨L2.cS⟩
theorem aM {x j pos} : JE X (.Constant (.str x) j pos) (L2.tC (.str x)) := ⟨L2.aM⟩
theorem au {op : Operator} (ho : JB X op r) (ha : JE X a ta) (hb : JE X b tb) : JE X (.BinOp a op b pos) (L2.xb r ta tb) := ⟨L2.au ho.out ha.out hb.out⟩
theorem pS {op : UnaryOp} {r : V → Hp → VK → Prop} (ho : JU X op r) (ha : JE X a ta) : JE X (.UnaryOp op a pos) (L2.DM r ta) := ⟨L2.pS ho.out ha.out⟩
theorem aK (hr : JX X r) (ha : JE X a ta) (hb : JE X b tb) (hs : cR b) : JE X (.Subscript a b pos) (L2.xb r ta tb) := ⟨L2.aK hr.out ha.out hb.out hs.out⟩
theorem bU {r : V → Option Int → Option Int → Hp → VK → Prop} {lo hi : Option Expr} {tl th : TO} (hr : JL X r) (he : JE X e te) (hl : JO X lo tl) (hu : JO X hi th) : JE X (.Subscript e (.Slice lo hi none p2) pos) (L2.Ef r te tl th) := ⟨L2.bU hr.out he.out hl.out hu.out⟩
theorem bp {op : CmpOp} (ho : JC X op r) (ha : JE X a ta) (hb : JE X b tb) (hm : behindInMarks op b = false) : JE X (.Compare a [op] [b] pos) (L2.xb r ta tb) := ⟨L2.bp ho.out ha.out hb.out hm⟩
theorem aJ {op : CmpOp} (ho : JC X op r) (ha : JE X a ta) (hb : JE X b tb) (hm : behindInMarks op b = false) : JT X (.Compare a [op] [b] pos) (L2.pJ (L2.xb r ta tb)) := ⟨L2.aJ ho.out ha.out hb.out hm⟩
theorem fB {op op' : CmpOp} (ho : JC X op r) (ho' : JC X op' r') (ha : JE X a ta) (hb : JE X b tb) (hc : JE X c tc) (hm : lastMarks [op, op'] [b, c] = false) : JT X (.Compare a [op, op'] [b, c] pos) (L2.pJ (L2.oR r r' ta tb tc)) := ⟨L2.fB ho.out ho'.out ha.out hb.out hc.out hm⟩
theorem i8 {op : CmpOp} {x : Str} {p : Pos} : behindInMarks op (.Name x p) = false := rfl
theorem sy {op : CmpOp} {es : List Expr} {k : Nat} {p : Pos} : behindInMarks op (.Tuple es k p) = false := rfl
theorem bw {op} (h : JE X a te) : JE X (.BoolOp op [a] pos) te := ⟨L2.bw h.out⟩
theorem a8 (ha : JE X a ta) (hb : JE X (.BoolOp .And (b :: es) pos) tb) : JE X (.BoolOp .And (a :: b :: es) pos) (L2.wZ ta tb) := ⟨L2.a8 ha.out hb.out⟩
theorem uc (ha : JE X a ta) (hb : JE X (.BoolOp .Or (b :: es) pos) tb) : JE X (.BoolOp .Or (a :: b :: es) pos) (L2.As ta tb) := ⟨L2.uc ha.out hb.out⟩
theorem jN (ha : JE X a ta) : JE X (.UnaryOp .Not a pos) (L2.xm ta) := ⟨L2.jN ha.out⟩
theorem dQ (ha : JT X a tA) : JW X (.BoolOp .And [a] pos) tA := ⟨L2.dQ ha.out⟩
theorem c8 (ha : JT X a tA) : JW X (.BoolOp .Or [a] pos) tA := ⟨L2.c8 ha.out⟩
theorem fS (ha : JT X a tA) (hb : JW X (.BoolOp .And (b :: es) pos) tB') : JW X (.BoolOp .And (a :: b :: es) pos) (L2.zX tA tB') := ⟨L2.fS ha.out hb.out⟩
theorem dW (ha : JT X a tA) (hb : JW X (.BoolOp .Or (b :: es) pos) tB') : JW X (.BoolOp .Or (a :: b :: es) pos) (L2.Eg tA tB') := ⟨L2.dW ha.out hb.out⟩
theorem dw (h : JW X e tA) : JT X e tA := ⟨h.out.pt⟩
theorem bf (ha : JT X a tA) : JT X (.UnaryOp .Not a pos) (L2.AV tA) := ⟨L2.bf ha.out⟩
theorem aV {f : Expr} {as : List Expr} {kw : List Keyword} {p : Pos} (h : JE X (.Call f as kw p) te) : JT X (.Call f as kw p) (L2.tB te) := ⟨L2.aV h.out⟩
theorem ae : JA X [] L2.vZ := ⟨L2.ae⟩
theorem af (ha : JE X e te) (hr : JA X es t) (h : L2.notStar e = true := by rfl) : JA X (e :: es) (L2.uN te t) := ⟨L2.af ha.out hr.out h⟩
theorem bg (h : JA X es t) : JE X (.List es pos) (L2.AW t) := ⟨L2.bg h.out⟩
theorem bh {k} (h : JA X es t) : JE X (.Tuple es k pos) (L2.Bh t) := ⟨L2.bh h.out⟩
theorem lX : JE X (.Dict [] [] pos) L2.xi := ⟨L2.lX⟩
theorem ft {x : Str} {v : V} {u : Value} (hg : Gl X x) (hm : X.mg x = some u) (r : RelV v u) (hd : (x == ("__debug__" : Str)) = false) : JE X (.Name x pos) (L2.tC v) := ⟨L2.ft hg hm r hd⟩
theorem eW (h : JE X e te) : JI X tg e (L2.w8 X.K te) := ⟨L2.eW h.out⟩
theorem pw (h : JE X e te) : JI X tg e (L2.Bn X.K te) := ⟨L2.pw h.out⟩
theorem aF : om X [] L2.xw := ⟨L2.aF⟩
theorem ai (h1 : JS X st u) (h2 : om X sts v) : om X (st :: sts) (L2.Ah u v) := ⟨L2.ai h1.out h2.out⟩
theorem ar (h1 : JS X st u) : om X [st] u := ⟨L2.ar h1.out⟩
theorem aw (h : JE X e te) : JS X (.Return (some e) pos) (L2.qS te) := ⟨L2.aw h.out⟩
theorem kM (h : JE X e te) (hc : L2.gr e = false := by rfl) : JS X (.Expr e pos) (L2.uh te) := ⟨L2.kM h.out hc⟩
theorem aN {c : Expr} {x y : List Stmt} {tc : TT} (hc : JT X c tc) (ha : om X x u) (hb : om X y v) : JS X (.If c x y pos) (L2.AE tc u v) := ⟨L2.aN hc.out ha.out hb.out⟩
theorem gN {it : Expr} {body : List Stmt} {wi : TI} {g : TG} {tb : TS} (hp : PassesOwn (model X.prog X.w) X.A X.env X.xe) (hc : X.calm = true) (hi : JI X tg it wi) (hg : JG X tg g) (hb : om X body tb)
    (hs : ∀ x, foldedSetIterable it X.env x = pure x := by intro _; rfl) : JS X (.For tg it body [] pos) (L2.AL wi g tb) := ⟨L2.gN hp hc hi.out hg.out hb.out hs⟩
end
section
variable {X : Cx} {i : Nat} {x : Str} {sp : Sp} {p pos pos' : Pos} {e : Expr} {es : List Expr} {te : TE} {t : TA} {tg : Expr}
theorem rd (S : L2.Slot X i x) : JE X (.Name x p) (L2.qP i) := ⟨S.rd⟩
theorem set (S : L2.Slot X i x) (nd : X.N.Nodup) (he : JE X e te) (h : L2.gr e = false := by rfl) : JS X (.Assign [.Name x pos'] e pos) (L2.o7 te (L2.fu i)) := ⟨S.set nd he.out h⟩
theorem qR (S : L2.Slot X i x) (nd : X.N.Nodup) : JG X (.Name x p) (L2.fu i) := ⟨S.tg nd⟩
theorem blt {id : String} {r : List V → Hp → VK → Prop} (B : L2.Bt X x) (hc : JF X (.builtin id) r) (hv : bootBuiltins x = some (.builtin id)) (ha : JA X (e :: es) t) (h1 : L2.notStar e = true := by rfl) (h2 : es.all L2.notStar = true := by rfl) :
    JE X (.Call (.Name x p) (e :: es) [] pos) (L2.zA r t) := ⟨B.call hc.out hv ha.out h1 h2⟩
theorem fU {T : String} {r : List V → Hp → VK → Prop} (B : L2.Bt X x) (hc : JF X (.type T) r) (hv : bootBuiltins x = some (.type T)) (ha : JA X (e :: es) t) (h1 : L2.notStar e = true := by rfl) (h2 : es.all L2.notStar = true := by rfl) :
    JE X (.Call (.Name x p) (e :: es) [] pos) (L2.zA r t) := ⟨B.Bm hc.out hv ha.out h1 h2⟩
theorem ty {n : String} (B : L2.Bt X x) (hv : bootBuiltins x = some (.type n)) : JE X (.Name x p) (L2.tC (.ty n)) := ⟨B.ty hv⟩
theorem cn (C : L2.zD X x sp) (ha : JA X (e :: es) t) (h1 : L2.notStar e = true := by rfl) (h2 : es.all L2.notStar = true := by rfl) : JE X (.Call (.Name x p) (e :: es) [] pos) (L2.og sp [] E0 t) := ⟨C.call ha.out h1 h2⟩
theorem eQ (B : L2.Bt X "range") (ha : JA X [e] t) (h : L2.notStar e = true := by rfl) : JI X tg (.Call (.Name "range" p) [e] [] pos) (L2.xq t) := ⟨L2.eQ B.gl B.nm ha.out (L2.aR h)⟩
end
theorem xu {P : Program} {w : World} {K : PySem.W.Frag} {mg : Str → Option Value} {base : Heap} {x qual : Str} {st : Stmt} {f : Addr} {fd : FuncData} {N ps : List Str} {k : Nat} {sp : Sp} (F : L2.gJ K x qual st f fd) (S : L2.aB N ps (L2.ao st)) (len : ∀ vs H Q E, sp vs H Q E → vs.length = ps.length)
    (hbody : ∀ (X : Cx) (cdv : Value) (A : Around) (outer : List Env) (s : Shared) (H : Hp) (vs : List V) (Q : VK) (E : XK), X = (L2.dD fD P w K mg base N qual (L2.ao st) f cdv A outer s H E).gZ → bL k X.A → sp vs H Q E →
      ∃ t, om X (L2.aX st) t ∧ t { nx := fun _ H' => Q .non H', rt := Q } (L2.start N vs) H) : bH P w K mg base fD (k + 1) f fd ps sp := by
  refine F.ok S len (fun cdv A outer s H vs Q E hr h => ?_)
  obtain ⟨t, h1, h2⟩ := hbody _ cdv A outer s H vs Q E rfl hr h
  exact ⟨t, h1.out, h2⟩
end J
namespace Z
open PySem PySem.Spec PyProof.Rows
section
variable {prog : Program} {w : World} {A : Around} {E : Value → Shared → Prop} {s : Shared}
theorem mh {it t : Addr} {i : Nat} {its : Array Value} {x : Value} {Q : Value → Shared → Prop} (a1 : s.heap.IsTupleIter it t i) (a2 : s.heap.IsTuple t its) (hx : its[i]? = some x)
    (k : ∀ g, g.IsTupleIter it t (i + 1) → Heap.SameBut it s.heap g → Q x { s with heap := g }) : wpAny (model prog w) A (Builtin.SmallTypes.nextOf (.ref it)) Q E s := by
  obtain ⟨oi, go, gc, gd⟩ := id a1
  obtain ⟨ot, gt, _, nt, gdt⟩ := a2
  unfold Builtin.SmallTypes.nextOf
  refine wpAny_bind (wpAny_callSpecial?_slot (name := Str.ofString "__next__") a1.typeIs PySem.F.slot_tuple_iterator_next (wpAny_call_entry PySem.F.slot_tuple_iterator_next a1.typeIs PySem.F.entry_tuple_iterator_next ?_ (PySem.F.args_tuple_iterator_next_1 _)))
  show wpAny _ _ (field (.ref it) 0 >>= _) _ _ s
  refine wpAny_bind (wpAny_field go gd (x := .ref t) rfl ?_)
  show wpAny _ _ (if (Value.ref t == Value.none) = true then _ else _) _ _ s
  rw [if_neg (show ¬ ((Value.ref t == Value.none) = true) from Bool.false_ne_true)]
  show wpAny _ _ (field (.ref it) 1 >>= _) _ _ s
  refine wpAny_bind (wpAny_field go gd (x := .int i 0) rfl ?_)
  show wpAny _ _ (seqItems? (.ref t) >>= _) _ _ s
  refine wpAny_bind (wpAny_seqItems gt gdt ?_)
  simp only [Int.toNat_natCast, hx]
  refine wpAny_bind (wpAny_setField go gd (by simp) (wpAny_pure ⟨x, rfl, wpAny_pure (k _ ?_ (Heap.SameBut.update ..))⟩))
  exact ⟨_, Heap.get?_update_self _ go (Obj.isFreed_of_fields (Obj.data_mapFields gd _)), (Obj.cls_mapFields ..).trans gc, by rw [Obj.data_mapFields gd]; simp [rawInt]⟩
theorem nk {it t : Addr} {i : Nat} {its : Array Value} {Q : Value → Shared → Prop} (hh : A.handled = none) (a1 : s.heap.IsTupleIter it t i) (a2 : s.heap.IsTuple t its) (hx : its[i]? = none)
    (k : ∀ g e, Heap.ExtBut it s.heap g → (∃ o, g.get? e = some o ∧ o.cls = .type "StopIteration") → E (.ref e) { s with heap := g }) : wpAny (model prog w) A (Builtin.SmallTypes.nextOf (.ref it)) Q E s := by
  obtain ⟨oi, go, gc, gd⟩ := id a1
  obtain ⟨ot, gt, _, nt, gdt⟩ := a2
  unfold Builtin.SmallTypes.nextOf
  refine wpAny_bind (wpAny_callSpecial?_slot (name := Str.ofString "__next__") a1.typeIs PySem.F.slot_tuple_iterator_next (wpAny_call_entry PySem.F.slot_tuple_iterator_next a1.typeIs PySem.F.entry_tuple_iterator_next ?_ (PySem.F.args_tuple_iterator_next_1 _)))
  show wpAny _ _ (field (.ref it) 0 >>= _) _ _ s
  refine wpAny_bind (wpAny_field go gd (x := .ref t) rfl ?_)
  show wpAny _ _ (if (Value.ref t == Value.none) = true then _ else _) _ _ s
  rw [if_neg (show ¬ ((Value.ref t == Value.none) = true) from Bool.false_ne_true)]
  show wpAny _ _ (field (.ref it) 1 >>= _) _ _ s
  refine wpAny_bind (wpAny_field go gd (x := .int i 0) rfl ?_)
  show wpAny _ _ (seqItems? (.ref t) >>= _) _ _ s
  refine wpAny_bind (wpAny_seqItems gt gdt ?_)
  simp only [Int.toNat_natCast, hx]
  refine wpAny_bind (wpAny_rule (wpAny_bind (wpAny_setField go gd (by simp) ?_)))
  show wpAny _ _ (newExc (.type "StopIteration") [] >>= _) _ _ _
  refine wpAny_bind ?_
  simp only [newExc, newTuple]
  refine wpAny_bind (wpAny_newObj_type ?_ (by size_fits))
  refine wpAny_bind (m := firstArgMember _ _) (wpAny_of_eq (a := Value.none) (by first | rfl | (simp only [firstArgMember]; rfl)) ?_)
  refine wpAny_newObj_type ?_ (by size_fits)
  simp only [raiseNew]
  refine wpAny_bind (wpAny_handled ?_)
  first | rw [show A.in1.handled = none from hh] | rw [hh]
  refine wpAny_bind (wpAny_pure (wpAny_throw ?_))
  exact k _ _ (((Heap.SameBut.update ..).extBut.push _).push _) ⟨_, Heap.get?_push_size _ rfl, rfl⟩
end
theorem uk {prog : Program} {w : World} {A : Around} (hh : A.handled = none) (it t : Addr) (ne : t ≠ it) (its : Array Value) :
    Draws prog w A it [it, t] its.size (fun i v => its[i]? = some v) (fun i h => h.IsTupleIter it t i ∧ h.IsTuple t its) where
  live := fun _ _ st => let ⟨o, ho, _⟩ := st.1; ⟨o, ho⟩
  frame := fun _ _ _ st hk => ⟨st.1.at fun o e => hk it (by simp) o e, let ⟨o, e, r⟩ := st.2; ⟨o, hk t (by simp) o e, r⟩⟩
  item := fun i s Q E hi st k => mh st.1 st.2 (x := its[i]) (by simp [hi]) fun g a b => k _ g s.toks (by simp [hi]) ⟨a, let ⟨o, e, r⟩ := st.2; ⟨o, b.extBut _ _ ne e, r⟩⟩ b
  done := fun s Q E st k => nk hh st.1 st.2 (by simp) k
structure Ap (z TI TO i1 i2 : Addr) (fp1 fp2 : List Addr) : Prop where
  TIz : TI ≠ z
  TOz : TO ≠ z
  TITO : TI ≠ TO
  TI1 : TI ≠ i1
  TI2 : TI ≠ i2
  z1 : z ∉ fp1
  z2 : z ∉ fp2
  o1 : TO ∉ fp1
  o2 : TO ∉ fp2
  m1 : i1 ∈ fp1
  m2 : i2 ∈ fp2
  x12 : i1 ∉ fp2
  x21 : i2 ∉ fp1
section
variable {prog : Program} {w : World} {A : Around} {E : Value → Shared → Prop} {s : Shared} {z TI TO i1 i2 : Addr} {fp1 fp2 : List Addr} {n1 n2 : Nat} {P1 P2 : Nat → Value → Prop} {S1 S2 : Nat → Heap → Prop}
theorem tW (D1 : Draws prog w A i1 fp1 n1 P1 S1) (D2 : Draws prog w A i2 fp2 n2 P2 S2) (p : Ap z TI TO i1 i2 fp1 fp2) {k : Nat} {a b : Value} {Q : Value → Shared → Prop} (k1 : k < n1) (k2 : k < n2)
    (cz : IsZip s.heap z TI TO .none) (cI : IsPair s.heap TI (.ref i1) (.ref i2)) (cO : IsPair s.heap TO a b) (c1 : S1 k s.heap) (c2 : S2 k s.heap)
    (q : ∀ x y g tk, P1 k x → P2 k y → IsZip g z TI TO (rawInt s.heap.objs.size) → IsPair g TO x y → S1 (k + 1) g → S2 (k + 1) g → IsPair g s.heap.objs.size x y →
      (∀ c o, c ≠ z → c ≠ TO → c ≠ i1 → c ≠ i2 → s.heap.get? c = some o → g.get? c = some o) → Q (.ref s.heap.objs.size) { s with heap := g, toks := tk }) :
    wpAny (model prog w) A (Builtin.«zip.__next__» ⟨[.ref z], []⟩) (fun fin s' => ∃ v, fin = .done (.ret v) ∧ Q v s') E s := by
  have ne1 : ∀ c ∈ fp1, c ≠ z ∧ c ≠ TO ∧ c ≠ i2 := fun c hc => ⟨fun e => p.z1 (e ▸ hc), fun e => p.o1 (e ▸ hc), fun e => p.x21 (e ▸ hc)⟩
  have ne2 : ∀ c ∈ fp2, c ≠ z ∧ c ≠ TO ∧ c ≠ i1 := fun c hc => ⟨fun e => p.z2 (e ▸ hc), fun e => p.o2 (e ▸ hc), fun e => p.x12 (e ▸ hc)⟩
  have i1z := (ne1 _ p.m1).1
  have i1O := (ne1 _ p.m1).2.1
  have i2z := (ne2 _ p.m2).1
  have i2O := (ne2 _ p.m2).2.1
  show wpAny _ _ (field (.ref z) 2 >>= _) _ _ _
  refine wpAny_bind (wpAny_field cz rfl (x := .bool false) rfl ?_)
  show wpAny _ _ (field (.ref z) 3 >>= _) _ _ _
  refine wpAny_bind (wpAny_field cz rfl (x := .ref TI) rfl ?_)
  refine wpAny_bind (wpAny_seqItems cI rfl ?_)
  show wpAny _ _ (Builtin.SmallTypes.ownedTupleIsFree (.ref z) >>= _) _ _ _
  refine wpAny_bind ?_
  unfold Builtin.SmallTypes.ownedTupleIsFree
  refine wpAny_bind (wpAny_field cz rfl (x := .none) rfl (wpAny_pure ?_))
  simp only [if_true]
  refine wpAny_bind (wpAny_rule ?_)
  refine wpAny_bind (wpAny_field cz rfl (x := .ref TO) rfl ?_)
  refine wpAny_bind (wpAny_setField_rec cz (by simp) fun g1 z1 b1 => ?_)
  replace z1 : IsZip g1 z TI TO .ellipsis := z1
  refine wpAny_bind ?_
  simp only [List.zipIdx_cons, List.zipIdx_nil, List.forIn_cons, List.forIn_nil]
  refine wpAny_bind (wpAny_bind (wpAny_onRaise ?_))
  show wpAny _ _ (Builtin.SmallTypes.nextOf (.ref i1) >>= _) _ _ _
  refine wpAny_bind (D1.item k _ _ _ k1 (D1.frame _ _ _ c1 fun c hc o e => b1.extBut _ _ (ne1 c hc).1 e) fun x g2 t2 hx f2 b2 => wpAny_pure ?_)
  have O2 : IsPair g2 TO a b := b2.extBut _ _ i1O.symm (b1.extBut _ _ p.TOz cO)
  refine wpAny_bind (wpAny_seqItems O2 rfl ?_)
  refine wpAny_bind (wpAny_updateSeq_pair O2 fun g3 O3 b3 => ?_)
  replace O3 : IsPair g3 TO x b := O3
  refine wpAny_bind (wpAny_letGo (wpAny_pure ?_))
  refine wpAny_bind (wpAny_bind (wpAny_onRaise ?_))
  show wpAny _ _ (Builtin.SmallTypes.nextOf (.ref i2) >>= _) _ _ _
  refine wpAny_bind (D2.item k _ _ _ k2 (D2.frame _ _ _ c2 fun c hc o e => b3.extBut _ _ (ne2 c hc).2.1 (b2.extBut _ _ (ne2 c hc).2.2 (b1.extBut _ _ (ne2 c hc).1 e))) fun y g4 t4 hy f4 b4 => wpAny_pure ?_)
  have O4 : IsPair g4 TO x b := b4.extBut _ _ i2O.symm O3
  refine wpAny_bind (wpAny_seqItems O4 rfl ?_)
  refine wpAny_bind (wpAny_updateSeq_pair O4 fun g5 O5 b5 => ?_)
  replace O5 : IsPair g5 TO x y := O5
  refine wpAny_bind (wpAny_letGo (wpAny_pure (wpAny_pure ?_)))
  refine wpAny_bind (wpAny_seqItems O5 rfl ?_)
  refine wpAny_bind (wpAny_newTuple ?_)
  have sz : g5.objs.size = s.heap.objs.size := by rw [b5.1, b4.1, b3.1, b2.1, b1.1]
  have z5 : IsZip g5 z TI TO .ellipsis := b5.extBut _ _ p.TOz.symm (b4.extBut _ _ i2z.symm (b3.extBut _ _ p.TOz.symm (b2.extBut _ _ i1z.symm z1)))
  have zl : z < g5.objs.size := Heap.lt_size z5
  show wpAny _ _ (Builtin.SmallTypes.ownedTupleHandOut (.ref z) (.ref g5.objs.size) >>= _) _ _ _
  refine wpAny_bind ?_
  unfold Builtin.SmallTypes.ownedTupleHandOut
  have z6 : IsZip (g5.push { cls := .type "tuple", data := .seq #[x, y] }) z TI TO .ellipsis := Heap.get?_push_of_some _ z5
  refine wpAny_bind (wpAny_setField_rec z6 (by simp) fun g7 z7 b7 => ?_)
  replace z7 : IsZip g7 z TI TO (rawInt g5.objs.size) := z7
  refine wpAny_setField_rec z7 (by simp) fun g8 z8 b8 => ?_
  replace z8 : IsZip g8 z TI TO (rawInt g5.objs.size) := z8
  have up : ∀ c o, c ≠ z → g5.get? c = some o → g8.get? c = some o := fun c o e1 e => b8.extBut _ _ e1 (b7.extBut _ _ e1 (Heap.get?_push_of_some _ e))
  have T8 : IsPair g8 g5.objs.size x y := b8.extBut _ _ (Nat.ne_of_gt zl) (b7.extBut _ _ (Nat.ne_of_gt zl) (Heap.get?_push_size _ rfl))
  rw [sz] at z8 T8
  refine wpAny_pure ⟨_, rfl, ?_⟩
  show Q (.ref g5.objs.size) _
  rw [sz]
  refine q x y g8 t4 hx hy z8 (up _ _ p.TOz O5) (D1.frame _ _ _ f2 fun c hc o e => up _ _ (ne1 c hc).1 (b5.extBut _ _ (ne1 c hc).2.1 (b4.extBut _ _ (ne1 c hc).2.2 (b3.extBut _ _ (ne1 c hc).2.1 e))))
    (D2.frame _ _ _ f4 fun c hc o e => up _ _ (ne2 c hc).1 (b5.extBut _ _ (ne2 c hc).2.1 e)) T8 fun c o e1 e2 e3 e4 e => up _ _ e1 (b5.extBut _ _ e2 (b4.extBut _ _ e4 (b3.extBut _ _ e2 (b2.extBut _ _ e3 (b1.extBut _ _ e1 e)))))
theorem sN (D1 : Draws prog w A i1 fp1 n1 P1 S1) (p : Ap z TI TO i1 i2 fp1 fp2) {a b : Value} {Q : Fin → Shared → Prop} (cz : IsZip s.heap z TI TO .none) (cI : IsPair s.heap TI (.ref i1) (.ref i2)) (cO : IsPair s.heap TO a b) (c1 : S1 n1 s.heap)
    (q : ∀ g e, (∀ c o, c ≠ z → c ≠ i1 → s.heap.get? c = some o → g.get? c = some o) → (∃ o, g.get? e = some o ∧ o.cls = .type "StopIteration") → E (.ref e) { s with heap := g }) :
    wpAny (model prog w) A (Builtin.«zip.__next__» ⟨[.ref z], []⟩) Q E s := by
  have ne1 : ∀ c ∈ fp1, c ≠ z := fun c hc e => p.z1 (e ▸ hc)
  show wpAny _ _ (field (.ref z) 2 >>= _) _ _ _
  refine wpAny_bind (wpAny_field cz rfl (x := .bool false) rfl ?_)
  show wpAny _ _ (field (.ref z) 3 >>= _) _ _ _
  refine wpAny_bind (wpAny_field cz rfl (x := .ref TI) rfl ?_)
  refine wpAny_bind (wpAny_seqItems cI rfl ?_)
  show wpAny _ _ (Builtin.SmallTypes.ownedTupleIsFree (.ref z) >>= _) _ _ _
  refine wpAny_bind ?_
  unfold Builtin.SmallTypes.ownedTupleIsFree
  refine wpAny_bind (wpAny_field cz rfl (x := .none) rfl (wpAny_pure ?_))
  simp only [if_true]
  refine wpAny_bind (wpAny_rule ?_)
  refine wpAny_bind (wpAny_field cz rfl (x := .ref TO) rfl ?_)
  refine wpAny_bind (wpAny_setField_rec cz (by simp) fun g1 z1 b1 => ?_)
  replace z1 : IsZip g1 z TI TO .ellipsis := z1
  refine wpAny_bind ?_
  simp only [List.zipIdx_cons, List.zipIdx_nil, List.forIn_cons, List.forIn_nil]
  refine wpAny_bind (wpAny_bind (wpAny_onRaise ?_))
  show wpAny _ _ (Builtin.SmallTypes.nextOf (.ref i1) >>= _) _ _ _
  refine wpAny_bind (D1.done _ _ _ (D1.frame _ _ _ c1 fun c hc o e => b1.extBut _ _ (ne1 c hc) e) fun g2 e b2 he => ?_)
  obtain ⟨oe, eo, ec⟩ := he
  have z2 : IsZip g2 z TI TO .ellipsis := b2 _ _ (ne1 _ p.m1).symm z1
  have hez : e ≠ z := fun x => by subst x; rw [z2] at eo; cases eo; simp at ec
  exact wpAny_setField_rec z2 (by simp) fun g3 _ b3 => q g3 e (fun c o e1 e3 x => b3.extBut _ _ e1 (b2 _ _ e3 (b1.extBut _ _ e1 x))) ⟨oe, b3.extBut _ _ hez eo, ec⟩
end
end Z
namespace L2
open PySem PySem.Spec PyProof.Rows
theorem Inv.kT {X : Cx} {pins : List (Addr × Obj)} {σ : St} {H : Hp} {s : Shared} {g : Heap} {t' : Nat} {fp : List Addr} {T : Addr} {o : HO} (I : Inv X pins σ H s) (hf : ∀ b ∈ fp, gK X pins H b)
    (k : ∀ b u, b ∉ fp → s.heap.get? b = some u → g.get? b = some u) (hT : s.heap.objs.size ≤ T) (nf : ∀ b ∈ fp, ∃ u, s.heap.get? b = some u) (new : bA X.prog X.w (upd H T o) g T o) : Inv X pins σ (upd H T o) { s with heap := g, toks := t' } := by
  have hn : H T = none := I.hok.fresh hT
  have u6 : ∀ b u, H b = some u → b ∉ fp := fun b u e z => by rw [(hf b z).1] at e; cases e
  refine I.step (g' := s.gens) (d' := s.drawn) (ch := fp) (fun b hb => ⟨(hf b hb).2.2.2.1, (hf b hb).2.1, (hf b hb).2.2.2.2.1, (hf b hb).2.2.2.2.2⟩) (fun b u _ _ hc e _ => k b u hc e) (fun b u _ _ hc e _ => ⟨u.slots, k b u hc e⟩) (fun b u _ e n => ?_)
    (fun b u hc e => ⟨u, k b u hc e⟩) (fun b xs e => ?_) (fun b u xs e => ?_) (fun b ps e => ⟨#[], ?_⟩) (fun m hm => ?_) (fun b u e => ?_) I.bare
  · rw [aq (Nat.ne_of_lt (Nat.lt_of_lt_of_le (Heap.lt_size e) hT))]
    exact n
  · rw [aq (ah e hn)]
    exact e
  · rw [aq (ah e hn)]
    exact e
  · rw [aq (ah e hn), e]
    simp
  · obtain ⟨ob, es, ep, ho, r⟩ := hm
    exact ⟨ob, es, ep, k _ ob (fun z => (hf _ z).2.1 rfl) ho, r⟩
  · by_cases hb : b = T
    · subst hb
      rw [aa] at e
      cases e
      exact new
    · rw [aq hb] at e
      refine (I.hok b u e).fG (fun c v hc q => k c v ?_ q) (fun c q => by rw [aq (ah q hn)]; exact q) fun c xs q => by rw [aq (ah q hn)]; exact q
      rcases hc with rfl | hc
      · exact u6 c u e
      · exact u6 c _ hc
theorem Inv.gj {X : Cx} {pins : List (Addr × Obj)} {σ : St} {H : Hp} {s : Shared} {g : Heap} {t' : Nat} {fp : List Addr} (I : Inv X pins σ H s) (hf : ∀ b ∈ fp, gK X pins H b)
    (k : ∀ b u, b ∉ fp → s.heap.get? b = some u → g.get? b = some u) : Inv X pins σ H { s with heap := g, toks := t' } := by
  have u6 : ∀ b u, H b = some u → b ∉ fp := fun b u e z => by rw [(hf b z).1] at e; cases e
  refine I.step (g' := s.gens) (d' := s.drawn) (ch := fp) (fun b hb => ⟨(hf b hb).2.2.2.1, (hf b hb).2.1, (hf b hb).2.2.2.2.1, (hf b hb).2.2.2.2.2⟩) (fun b u _ _ hc e _ => k b u hc e) (fun b u _ _ hc e _ => ⟨u.slots, k b u hc e⟩) (fun _ _ _ _ n => n)
    (fun b u hc e => ⟨u, k b u hc e⟩) (fun _ _ e => e) (fun _ _ _ e => e) (fun b ps e => ⟨#[], by rw [e]; simp⟩) (fun m hm => ?_) (fun b u e => ?_) I.bare
  · obtain ⟨ob, es, ep, ho, r⟩ := hm
    exact ⟨ob, es, ep, k _ ob (fun z => (hf _ z).2.1 rfl) ho, r⟩
  · refine (I.hok b u e).fG (fun c v hc q => k c v ?_ q) (fun _ q => q) fun _ _ q => q
    rcases hc with rfl | hc
    · exact u6 c u e
    · exact u6 c _ hc
def gS (q : Bool) (K : PySem.W.Frag) (H : Hp) (a : Addr) (xs : List V) : Prop := match q with
  | true => aE K H a xs
  | false => br K H a xs
def mC (q : Bool) (h : Heap) (it a : Addr) (i : Nat) : Prop := match q with
  | true => h.IsListIter it a i
  | false => h.IsTupleIter it a i
def isAt (q : Bool) (h : Heap) (a : Addr) (its : Array Value) : Prop := match q with
  | true => h.IsList a its
  | false => h.IsTuple a its
def tQ (q : Bool) : String := match q with
  | true => "list_iterator"
  | false => "tuple_iterator"
theorem dm {q : Bool} {h : Heap} {it a : Addr} {i : Nat} (p : mC q h it a i) : ∃ o, h.get? it = some o ∧ ∀ v, o.data ≠ .cell v := by
  cases q with
  | true => obtain ⟨o, e, c, d⟩ := p; exact ⟨o, e, fun v z => by rw [d] at z; cases z⟩
  | false => obtain ⟨o, e, c, d⟩ := p; exact ⟨o, e, fun v z => by rw [d] at z; cases z⟩
theorem eF {q : Bool} {h g : Heap} {it a : Addr} {i : Nat} (p : mC q h it a i) (k : ∀ o, h.get? it = some o → g.get? it = some o) : mC q g it a i := by
  cases q with
  | true => obtain ⟨o, e, r⟩ := p; exact ⟨o, k o e, r⟩
  | false => obtain ⟨o, e, r⟩ := p; exact ⟨o, k o e, r⟩
theorem ni {X : Cx} {pins : List (Addr × Obj)} {σ : St} {H : Hp} {s : Shared} {q : Bool} {a : Addr} {xs ys : List V} (I : Inv X pins σ H s) (h : gS q X.K H a xs) (h' : gS q X.K H a ys) : xs = ys := by
  cases q with
  | true => exact I.jL h h'
  | false => exact I.lh h h'
theorem iq {X : Cx} {pins : List (Addr × Obj)} {σ : St} {H : Hp} {s : Shared} {q : Bool} {a : Addr} {xs : List V} (I : Inv X pins σ H s) (h : gS q X.K H a xs) : ∃ its : List Value, Vals xs its ∧ isAt q s.heap a its.toArray ∧ xs.length ≤ sizeLine := by
  cases q with
  | true => obtain ⟨its, r, p, z⟩ := I.list h; exact ⟨its, r, p.isList, z⟩
  | false => obtain ⟨its, r, p, z⟩ := I.tuple h; exact ⟨its, r, p, z⟩
theorem j2 {prog : Program} {w : World} {A : Around} (q : Bool) (hh : A.handled = none) (it a : Addr) (ne : a ≠ it) (its : Array Value) :
    Draws prog w A it [it, a] its.size (fun i v => its[i]? = some v) (fun i h => mC q h it a i ∧ isAt q h a its) := by
  cases q with
  | true => exact Draws.list hh it a ne its
  | false => exact Z.uk hh it a ne its
def AD (K : PySem.W.Frag) (q1 q2 : Bool) (a1 a2 : Addr) : It :=
  ⟨fun i H => ∃ xs ys x y, gS q1 K H a1 xs ∧ gS q2 K H a2 ys ∧ xs[i]? = some x ∧ ys[i]? = some y,
   fun i H v H' => ∃ p x y, H p = none ∧ v = .ref p ∧ H' = upd H p (.tup [x, y]) ∧ (∀ xs, gS q1 K H a1 xs → xs[i]? = some x) ∧ (∀ ys, gS q2 K H a2 ys → ys[i]? = some y),
   fun i H => ∃ xs, gS q1 K H a1 xs ∧ xs.length = i⟩
theorem yM {x a b c d e : Addr} (h : x ∈ [a, b, c, d, e]) : x = a ∨ x = b ∨ x = c ∨ x = d ∨ x = e := by simpa using h
theorem ij {x a b c d e : Addr} (h : x ∉ [a, b, c, d, e]) : x ≠ a ∧ x ≠ b ∧ x ≠ c ∧ x ≠ d ∧ x ≠ e := by simpa using h
theorem wa {a b c d e : Addr} (h : [a, b, c, d, e].Nodup) : (a ≠ b ∧ a ≠ c ∧ a ≠ d ∧ a ≠ e) ∧ (b ≠ c ∧ b ≠ d ∧ b ≠ e) ∧ (c ≠ d ∧ c ≠ e) ∧ d ≠ e := by simpa using h
theorem tR {P : Program} {w : World} {K : PySem.W.Frag} {es : List Expr} {kk : Nat} {tp : Pos} {q1 q2 : Bool} {a1 a2 : Addr} (z TI TO i1 i2 : Addr) (nd : [z, TI, TO, i1, i2].Nodup) (n1 : a1 ∉ [z, TI, TO, i1, i2]) (n2 : a2 ∉ [z, TI, TO, i1, i2]) :
    Turn P w K (.Tuple es kk tp) (AD K q1 q2 a1 a2) [z, TI, TO, i1, i2] z (fun i h => IsZip h z TI TO .none ∧ IsPair h TI (.ref i1) (.ref i2) ∧ (∃ a b, IsPair h TO a b) ∧ mC q1 h i1 a1 i ∧ mC q2 h i2 a2 i) := by
  replace nd := wa nd
  replace n1 := ij n1
  replace n2 := ij n2
  obtain ⟨⟨d1, d2, d3, d4⟩, ⟨d5, d6, d7⟩, ⟨d8, d9⟩, d10⟩ := nd
  have ap : Z.Ap z TI TO i1 i2 [i1, a1] [i2, a2] := ⟨Ne.symm d1, Ne.symm d2, d5, d6, d7, by simp [d3, Ne.symm n1.1], by simp [d4, Ne.symm n2.1], by simp [d8, Ne.symm n1.2.2.1], by simp [d9, Ne.symm n2.2.2.1], by simp, by simp, by simp [d10, Ne.symm n2.2.2.2.1], by simp [Ne.symm d10, Ne.symm n1.2.2.2.2]⟩
  refine ⟨by simp, fun i h st b hb => ?_, fun i h g st k => ?_, ?_, ?_, fun A i s Q E st h => wpAny_pyIter_zip st.1 h⟩
  · obtain ⟨cz, cI, ⟨x, y, cO⟩, c1, c2⟩ := st
    replace hb := yM hb
    rcases hb with rfl | rfl | rfl | rfl | rfl
    · exact ⟨_, cz, fun v e => by cases e⟩
    · exact ⟨_, cI, fun v e => by cases e⟩
    · exact ⟨_, cO, fun v e => by cases e⟩
    · exact dm c1
    · exact dm c2
  · obtain ⟨cz, cI, ⟨x, y, cO⟩, c1, c2⟩ := st
    exact ⟨k _ (by simp) _ cz, k _ (by simp) _ cI, ⟨x, y, k _ (by simp) _ cO⟩, eF c1 fun o e => k _ (by simp) o e, eF c2 fun o e => k _ (by simp) o e⟩
  · intro X hP hw hK hc i pins s σ H E I hf st hg
    subst hP hw hK
    obtain ⟨cz, cI, ⟨x0, y0, cO⟩, c1, c2⟩ := st
    obtain ⟨xs, ys, x, y, hx, hy, ex, ey⟩ := hg
    obtain ⟨its1, r1, p1, l1⟩ := iq I hx
    obtain ⟨its2, r2, p2, l2⟩ := iq I hy
    obtain ⟨u1, e1, ru1⟩ := r1.get ex
    obtain ⟨u2, e2, ru2⟩ := r2.get ey
    have hh : X.A.handled = none := I.ok.hd hc
    have D1 : Draws X.prog X.w X.A.in1 i1 [i1, a1] its1.toArray.size (fun i v => its1.toArray[i]? = some v) _ := j2 q1 (A := X.A.in1) hh i1 a1 n1.2.2.2.1 its1.toArray
    have D2 : Draws X.prog X.w X.A.in1 i2 [i2, a2] its2.toArray.size (fun i v => its2.toArray[i]? = some v) _ := j2 q2 (A := X.A.in1) hh i2 a2 n2.2.2.2.2 its2.toArray
    have hT : s.TypeIs (.ref z) "zip" := ⟨_, cz, rfl⟩
    have k1 : i < its1.toArray.size := by
      have := (List.getElem?_eq_some_iff.mp e1).1
      simpa using this
    have k2 : i < its2.toArray.size := by
      have := (List.getElem?_eq_some_iff.mp e2).1
      simpa using this
    unfold pyNext
    refine wpAny_bind (wpAny_attempt (wpAny_callSpecial?_slot (name := Str.ofString "__next__") hT PySem.F.slot_zip_next (wpAny_call_entry PySem.F.slot_zip_next hT PySem.F.entry_zip_next
      (Z.tW D1 D2 ap k1 k2 cz cI cO ⟨c1, p1⟩ ⟨c2, p2⟩ fun v1 v2 g tk w1 w2 bz bO b1 b2 bT kp => ?_) (PySem.F.args_zip_next_1 _))))
    have v1e : v1 = u1 := by
      have : its1[i]? = some v1 := by simpa using w1
      rw [e1] at this
      exact (Option.some.inj this).symm
    have v2e : v2 = u2 := by
      have : its2[i]? = some v2 := by simpa using w2
      rw [e2] at this
      exact (Option.some.inj this).symm
    subst v1e v2e
    refine wpAny_pure ⟨_, rfl, ?_⟩
    refine wpAny_letOwnedTupleGo_zip bz fun g2 cz2 sb => ?_
    have zlt : z < s.heap.objs.size := Heap.lt_size cz
    have T2 : IsPair g2 s.heap.objs.size v1 v2 := sb.extBut _ _ (Nat.ne_of_gt zlt) bT
    have lt : ∀ {c : Addr} {o : Obj}, s.heap.get? c = some o → c ≠ s.heap.objs.size := fun e => Nat.ne_of_lt (Heap.lt_size e)
    have kk : ∀ b u, b ∉ [z, TI, TO, i1, i2] → s.heap.get? b = some u → g2.get? b = some u := fun b u hb e => by
      replace hb := ij hb
      exact sb.extBut _ _ hb.1 (kp b u hb.1 hb.2.2.1 hb.2.2.2.1 hb.2.2.2.2 e)
    have I2 : Inv X pins σ (upd H s.heap.objs.size (.tup [x, y])) { s with heap := g2, toks := tk } := by
      refine I.kT hf kk (Nat.le_refl _) (fun b hb => ?_) ⟨by show 2 ≤ sizeLine; decide, [v1, v2], .cons ru1 (.cons ru2 .nil), ⟨_, T2, rfl, _, rfl⟩⟩
      replace hb := yM hb
      rcases hb with rfl | rfl | rfl | rfl | rfl
      · exact ⟨_, cz⟩
      · exact ⟨_, cI⟩
      · exact ⟨_, cO⟩
      · obtain ⟨o, e, _⟩ := dm c1; exact ⟨o, e⟩
      · obtain ⟨o, e, _⟩ := dm c2; exact ⟨o, e⟩
    have hn : H s.heap.objs.size = none := I.hok.fresh (Nat.le_refl _)
    refine ⟨.ref s.heap.objs.size, _, I2, rfl, ⟨_, x, y, hn, rfl, rfl, fun zs hz => by rw [ni I hz hx]; exact ex, fun zs hz => by rw [ni I hz hy]; exact ey⟩,
      ⟨cz2, sb.extBut _ _ (Ne.symm d1) (kp _ _ (Ne.symm d1) d5 d6 d7 cI), ⟨_, _, sb.extBut _ _ (Ne.symm d2) bO⟩, eF b1.1 fun o e => sb.extBut _ _ (Ne.symm d3) e, eF b2.1 fun o e => sb.extBut _ _ (Ne.symm d4) e⟩, fun b hb => ?_⟩
    have hb' := hb
    replace hb' := yM hb'
    have : b ≠ s.heap.objs.size := by
      rcases hb' with rfl | rfl | rfl | rfl | rfl
      · exact lt cz
      · exact lt cI
      · exact lt cO
      · obtain ⟨o, e, _⟩ := dm c1; exact lt e
      · obtain ⟨o, e, _⟩ := dm c2; exact lt e
    rw [aq this]
    exact (hf b hb).1
  · intro X hP hw hK hc i pins s σ H E I hf st hg
    subst hP hw hK
    obtain ⟨cz, cI, ⟨x0, y0, cO⟩, c1, c2⟩ := st
    obtain ⟨xs, hx, rfl⟩ := hg
    obtain ⟨its1, r1, p1, l1⟩ := iq I hx
    have hh : X.A.handled = none := I.ok.hd hc
    have D1 : Draws X.prog X.w X.A.in1 i1 [i1, a1] its1.toArray.size (fun i v => its1.toArray[i]? = some v) _ := j2 q1 (A := X.A.in1) hh i1 a1 n1.2.2.2.1 its1.toArray
    have hT : s.TypeIs (.ref z) "zip" := ⟨_, cz, rfl⟩
    have e : xs.length = its1.toArray.size := by rw [List.size_toArray]; exact r1.length
    rw [e] at c1
    unfold pyNext
    refine wpAny_bind (wpAny_attempt (wpAny_callSpecial?_slot (name := Str.ofString "__next__") hT PySem.F.slot_zip_next (wpAny_call_entry PySem.F.slot_zip_next hT PySem.F.entry_zip_next
      (Z.sN D1 ap cz cI cO ⟨c1, p1⟩ fun g ex kp he => ?_) (PySem.F.args_zip_next_1 _))))
    obtain ⟨o, ho, hco⟩ := he
    refine wpAny_bind (wpAny_isInstance (T := "StopIteration") (b := true) ⟨o, ho, hco⟩ isSubtype_stop ?_)
    exact wpAny_pure ⟨rfl, I.gj (t' := s.toks) hf fun b u hb e => by
      replace hb := ij hb
      exact kp b u hb.1 hb.2.2.2.1 e⟩
end L2
namespace L2
open PySem PySem.Spec PyProof.Rows
abbrev sx (q : Bool) (h : Heap) (a : Addr) : Heap := h.push { cls := .type (tQ q), data := .fields #[.ref a, .int 0 0] }
abbrev BR (q1 q2 : Bool) (h : Heap) (a b : Addr) : Heap := (sx q2 (sx q1 h a) b).push { cls := .type "tuple", data := .seq #[.ref h.objs.size, .ref (sx q1 h a).objs.size] }
abbrev Br (q1 q2 : Bool) (h : Heap) (a b : Addr) : Heap := (BR q1 q2 h a b).push { cls := .type "tuple", data := .seq #[.none, .none] }
abbrev zB (q1 q2 : Bool) (h : Heap) (a b : Addr) : Heap := (Br q1 q2 h a b).push { cls := .type "zip", data := .fields #[.none, .bool false, .bool false, .ref (sx q2 (sx q1 h a) b).objs.size, .ref (BR q1 q2 h a b).objs.size] }
theorem kR {q : Bool} {h : Heap} {a : Addr} {its : Array Value} (p : isAt q h a its) (o : Obj) : isAt q (h.push o) a its := by
  cases q with
  | true => obtain ⟨u, e, r⟩ := p; exact ⟨u, Heap.get?_push_of_some _ e, r⟩
  | false => obtain ⟨u, e, r⟩ := p; exact ⟨u, Heap.get?_push_of_some _ e, r⟩
theorem wx (q : Bool) (a b : Addr) (xs ys : Array Value) : Meets (Builtin.«zip.__new__» ⟨[.type "zip", .ref a, .ref b], []⟩) (fun _ R s => isAt q s.heap a xs ∧ isAt q s.heap b ys ∧
    R (.ok (.ret (.ref (Br q q s.heap a b).objs.size))) { s with heap := zB q q s.heap a b }) := by
  cases q
  all_goals
    refine .of_wp fun prog w A R s h => ?_
    obtain ⟨hp, g, d, tk, os⟩ := s
    obtain ⟨m1, m2, h⟩ := h
    have hsub := sub_zip
  · have M1 : Heap.IsTuple (Shared.heap ⟨hp, g, d, tk, os⟩) a xs := m1
    have M2 : Heap.IsTuple (Shared.heap ⟨hp.push { cls := .type "tuple_iterator", data := .fields #[.ref a, .int 0 0] }, g, d, tk, os⟩) b ys := kR (q := false) m2 _
    wp_walk using wpAny_pyIter_tuple M1, wpAny_pyIter_tuple M2
    exact ⟨_, rfl, h⟩
  · have M1 : Heap.IsList (Shared.heap ⟨hp, g, d, tk, os⟩) a xs := m1
    have M2 : Heap.IsList (Shared.heap ⟨hp.push { cls := .type "list_iterator", data := .fields #[.ref a, .int 0 0] }, g, d, tk, os⟩) b ys := kR (q := true) m2 _
    wp_walk using wpAny_pyIter_list M1, wpAny_pyIter_list M2
    exact ⟨_, rfl, h⟩
theorem zn (n a : Nat) (h : a < n) : a ∉ [n + 4, n + 2, n + 3, n, n + 1] := by
  simp only [List.mem_cons, List.not_mem_nil, or_false, not_or]
  omega
theorem EH (n : Nat) : [n + 4, n + 2, n + 3, n, n + 1].Nodup := by
  simp only [List.nodup_cons, List.mem_cons, List.not_mem_nil, or_false, not_or, not_false_eq_true, List.nodup_nil, and_true]
  omega
theorem Ey (n b : Nat) (h : b ∈ [n + 4, n + 2, n + 3, n, n + 1]) : n ≤ b := by
  simp only [List.mem_cons, List.not_mem_nil, or_false] at h
  omega
theorem Co (n b : Nat) (h : b ∈ [n + 1, n]) : n ≤ b := by
  simp only [List.mem_cons, List.not_mem_nil, or_false] at h
  omega
theorem nK {q : Bool} {h : Heap} {a it : Addr} (e : h.get? it = some { cls := .type (tQ q), data := .fields #[.ref a, .int 0 0] }) : mC q h it a 0 := by
  cases q with
  | true => exact ⟨_, e, rfl, rfl⟩
  | false => exact ⟨_, e, rfl, rfl⟩
theorem o9 {prog : Program} {w : World} {A : Around} {E : Value → Shared → Prop} {s : Shared} (q : Bool) {a b : Addr} {xs ys : Array Value} {Q : Value → Shared → Prop} (m1 : isAt q s.heap a xs) (m2 : isAt q s.heap b ys)
    (h : ∀ g, IsZip g (s.heap.objs.size + 4) (s.heap.objs.size + 2) (s.heap.objs.size + 3) .none → IsPair g (s.heap.objs.size + 2) (.ref s.heap.objs.size) (.ref (s.heap.objs.size + 1)) → IsPair g (s.heap.objs.size + 3) .none .none →
      mC q g s.heap.objs.size a 0 → mC q g (s.heap.objs.size + 1) b 0 → (∀ c o, s.heap.get? c = some o → g.get? c = some o) → Q (.ref (s.heap.objs.size + 4)) { s with heap := g }) :
    wpAny (model prog w) A (call (.type "zip") [.ref a, .ref b]) Q E s := by
  refine callType_new PySem.F.called_zip (by decide) (PySem.F.typeCall_zip_2 _ _) (PySem.F.newCall_zip_2 _ _) (fun obj => PySem.F.args_object_init_3 obj _ _) PySem.F.entry_zip_new (wx q a b xs ys) ⟨m1, m2, ?_⟩
  have y1 : (sx q s.heap a).objs.size = s.heap.objs.size + 1 := Heap.size_push ..
  have y2 : (sx q (sx q s.heap a) b).objs.size = s.heap.objs.size + 2 := by rw [Heap.size_push, y1]
  have y3 : (BR q q s.heap a b).objs.size = s.heap.objs.size + 3 := by rw [Heap.size_push, y2]
  have y4 : (Br q q s.heap a b).objs.size = s.heap.objs.size + 4 := by rw [Heap.size_push, y3]
  have g5 : (zB q q s.heap a b).get? (Br q q s.heap a b).objs.size = some _ := Heap.get?_push_size _ rfl
  have g4 : (zB q q s.heap a b).get? (BR q q s.heap a b).objs.size = some _ := Heap.get?_push_of_some _ (Heap.get?_push_size _ rfl)
  have g3 : (zB q q s.heap a b).get? (sx q (sx q s.heap a) b).objs.size = some _ := Heap.get?_push_of_some _ (Heap.get?_push_of_some _ (Heap.get?_push_size _ rfl))
  have g2 : (zB q q s.heap a b).get? (sx q s.heap a).objs.size = some _ := Heap.get?_push_of_some _ (Heap.get?_push_of_some _ (Heap.get?_push_of_some _ (Heap.get?_push_size _ rfl)))
  have g1 : (zB q q s.heap a b).get? s.heap.objs.size = some _ := Heap.get?_push_of_some _ (Heap.get?_push_of_some _ (Heap.get?_push_of_some _ (Heap.get?_push_of_some _ (Heap.get?_push_size _ rfl))))
  show _ ∧ _
  rw [y2, y3, y4] at g5
  rw [y1, y2] at g3
  rw [y3] at g4
  rw [y1] at g2
  rw [y4]
  exact ⟨⟨_, g5, rfl⟩, h _ g5 g3 g4 (nK g1) (nK g2) fun c o x => Heap.get?_push_of_some _ (Heap.get?_push_of_some _ (Heap.get?_push_of_some _ (Heap.get?_push_of_some _ (Heap.get?_push_of_some _ x))))⟩
theorem yC : bootBuiltins "zip" = some (.type "zip") := by decide +kernel
theorem mM : bootBuiltins "enumerate" = some (.type "enumerate") := by decide +kernel
def zQ (K : PySem.W.Frag) (ta : TA) : TI := fun σ H R => ta σ H fun vs H1 => ∃ q a1 a2, vs = [.ref a1, .ref a2] ∧ (∃ xs, gS q K H1 a1 xs) ∧ (∃ ys, gS q K H1 a2 ys) ∧ R (AD K q q a1 a2) H1
theorem lR {X : Cx} {pins : List (Addr × Obj)} {σ : St} {H : Hp} {s : Shared} {q : Bool} {a : Addr} {xs : List V} (I : Inv X pins σ H s) (h : gS q X.K H a xs) : a < s.heap.objs.size := by
  cases q with
  | true => obtain ⟨its, r, ⟨o, n, e, _⟩, z⟩ := I.list h; exact Heap.lt_size e
  | false => obtain ⟨its, r, ⟨o, e, _⟩, z⟩ := I.tuple h; exact Heap.lt_size e
section
variable {X : Cx}
theorem oM {e1 e2 : Expr} {es : List Expr} {kk : Nat} {tp p pos : Pos} {ta : TA} (B : Bt X "zip") (ha : PA X [e1, e2] ta) (h1 : notStar e1 = true := by rfl) (h2 : [e2].all notStar = true := by rfl) : PI X (.Tuple es kk tp) (.Call (.Name "zip" p) [e1, e2] [] pos) (zQ X.K ta) := by
  intro pins s σ H R I h
  refine wpAny_Call_Name_kw (gE I B.gl B.nm yC ?_ B.hn B.db)
  refine PyProof.Rows.callWith_type1 (bJ (ha pos pins s σ H _ I h) fun us s1 hpat => ?_) (aR h1) (bW h2)
  obtain ⟨vs, H1, I1, r1, qk, a1, a2, e, ⟨xs, m1⟩, ⟨ys, m2⟩, q⟩ := hpat
  subst e
  obtain ⟨u1, u2, rfl, rx, ry⟩ := vals2 r1
  cases rx
  cases ry
  obtain ⟨its1, v1, p1, l1⟩ := iq I1 m1
  obtain ⟨its2, v2, p2, l2⟩ := iq I1 m2
  have b1 := lR I1 m1
  have b2 := lR I1 m2
  refine o9 qk p1 p2 fun g gz gI gO t1 t2 kp => ?_
  refine wpAny_pyIter_zip gz ?_
  refine ⟨_, _, _, _, H1, rfl, I1.kept (t' := s1.toks) kp, tR (q1 := qk) (q2 := qk) (a1 := a1) (a2 := a2) (s1.heap.objs.size + 4) (s1.heap.objs.size + 2) (s1.heap.objs.size + 3) s1.heap.objs.size (s1.heap.objs.size + 1) (EH _) (zn _ _ b1) (zn _ _ b2),
    ⟨gz, gI, ⟨_, _, gO⟩, t1, t2⟩, fun b hb => ?_, q⟩
  have hle : s1.heap.objs.size ≤ b := Ey _ _ hb
  exact I1.mW hle (I1.hok.fresh hle)
end
theorem wA {K : PySem.W.Frag} {q1 q2 : Bool} {a1 a2 : Addr} {xs ys : List V} {g : TG} {tb : TS} {D : Ends} {σ : St} {H : Hp} (hl : xs.length = ys.length) (Pv : Nat → St → Hp → Prop) (h0 : Pv 0 σ H) (hq : ∀ i σ H, Pv i σ H → gS q1 K H a1 xs ∧ gS q2 K H a2 ys)
    (hs : ∀ i x y p σ H, xs[i]? = some x → ys[i]? = some y → H p = none → Pv i σ H → g (.ref p) σ (upd H p (.tup [x, y])) fun σ2 H2 => tb { D with nx := Pv (i + 1), ct := Pv (i + 1), bk := D.nx } σ2 H2) (hd : ∀ σ H, Pv xs.length σ H → D.nx σ H) :
    ∃ W : Nat → Nat → St → Hp → Prop, (∃ m, W 0 m σ H) ∧ ∀ i m σ H, W i m σ H →
      ((AD K q1 q2 a1 a2).stop i H ∧ D.nx σ H) ∨ ((AD K q1 q2 a1 a2).go i H ∧ ∃ N : St → Hp → Prop, (∀ σ' H', N σ' H' → ∃ m', m' < m ∧ W (i + 1) m' σ' H') ∧ ∀ x H', (AD K q1 q2 a1 a2).yld i H x H' → g x σ H' fun σ2 H2 => tb { D with nx := N, ct := N, bk := D.nx } σ2 H2) := by
  refine ⟨fun i m σ H => m = xs.length - i ∧ i ≤ xs.length ∧ Pv i σ H, ⟨xs.length, by simp, Nat.zero_le _, h0⟩, ?_⟩
  rintro i m σ H ⟨rfl, hi, p⟩
  obtain ⟨m1, m2⟩ := hq i σ H p
  by_cases hlt : i < xs.length
  · have hlt2 : i < ys.length := by omega
    refine .inr ⟨⟨xs, ys, xs[i], ys[i], m1, m2, by simp [hlt], by simp [hlt2]⟩, Pv (i + 1), fun σ' H' p' => ⟨xs.length - (i + 1), by omega, rfl, hlt, p'⟩, fun v H' y => ?_⟩
    obtain ⟨pp, x, y, hn, rfl, rfl, e1, e2⟩ := y
    exact hs i x y pp σ H (e1 xs m1) (e2 ys m2) hn p
  · have e : i = xs.length := by omega
    subst e
    exact .inl ⟨⟨xs, m1, rfl⟩, hd σ H p⟩
def An (K : PySem.W.Frag) (a : Addr) : It :=
  ⟨fun i H => ∃ xs x, aE K H a xs ∧ xs[i]? = some x, fun i H v H' => ∃ p x, H p = none ∧ v = .ref p ∧ H' = upd H p (.tup [.int i, x]) ∧ ∀ xs, aE K H a xs → xs[i]? = some x, fun i H => ∃ xs, aE K H a xs ∧ xs.length = i⟩
theorem qs {P : Program} {w : World} {K : PySem.W.Frag} {es : List Expr} {kk : Nat} {tp : Pos} {a : Addr} (e it : Addr) (ne : e ≠ it) (n1 : a ≠ e) (n2 : a ≠ it) :
    Turn P w K (.Tuple es kk tp) (An K a) [e, it] e (fun i h => (∃ old, IsEnum h e it i old) ∧ h.IsListIter it a i) := by
  refine ⟨by simp, fun i h st b hb => ?_, fun i h g st k => ?_, ?_, ?_, fun A i s Q E st h => ?_⟩
  · obtain ⟨⟨old, ce⟩, c1⟩ := st
    simp only [List.mem_cons, List.not_mem_nil, or_false] at hb
    rcases hb with rfl | rfl
    · exact ⟨_, ce, fun v e => by cases e⟩
    · exact dm (q := true) c1
  · obtain ⟨⟨old, ce⟩, c1⟩ := st
    exact ⟨⟨old, k _ (by simp) _ ce⟩, eF (q := true) c1 fun o e => k _ (by simp) o e⟩
  · intro X hP hw hK hc i pins s σ H E I hf st hg
    subst hP hw hK
    obtain ⟨⟨old, ce⟩, c1⟩ := st
    obtain ⟨xs, x, hx, ex⟩ := hg
    obtain ⟨its, r, p, l⟩ := I.list hx
    obtain ⟨u, eu, ru⟩ := r.get ex
    have W := WalksT.enumerate (prog := X.prog) (w := X.w) (A := X.A) (I.ok.hd hc) e it a ne n1 n2 its.toArray
    have hi : i < its.toArray.size := by
      have := (List.getElem?_eq_some_iff.mp eu).1
      simpa using this
    refine W.item i s _ _ hi ⟨⟨old, ce⟩, c1, p.isList⟩ fun T vals g tk hP hT hTup hM kp => ?_
    obtain ⟨t, v, hv, rfl⟩ := hP
    have hvu : v = u := by
      have : its[i]? = some v := by simpa using hv
      rw [eu] at this
      exact (Option.some.inj this).symm
    subst hvu
    have hTw : T ∉ [e, it] := W.apart i T g hM
    refine ⟨_, rfl, W.go es kk tp i T { s with heap := g, toks := tk } _ _ hM fun g2 st2 kp2 => ?_⟩
    have hn : H T = none := I.hok.fresh hT
    have kk2 : ∀ b u, b ∉ [e, it] → s.heap.get? b = some u → g2.get? b = some u := fun b u hb q => kp2 b u hb (kp b u hb q)
    have I2 : Inv X pins σ (upd H T (.tup [.int i, x])) { s with heap := g2, toks := tk } := by
      refine I.kT hf kk2 hT (fun b hb => ?_) ⟨by show 2 ≤ sizeLine; decide, [.int i t, v], .cons ⟨t, rfl⟩ (.cons ru .nil), ?_⟩
      · simp only [List.mem_cons, List.not_mem_nil, or_false] at hb
        rcases hb with rfl | rfl
        · exact ⟨_, ce⟩
        · obtain ⟨o, q, _⟩ := dm (q := true) c1; exact ⟨o, q⟩
      · obtain ⟨o, q, rest⟩ := hTup
        exact ⟨o, kp2 T o hTw q, rest⟩
    refine ⟨.ref T, _, I2, rfl, ⟨T, x, hn, rfl, rfl, fun zs hz => by rw [I.jL hz hx]; exact ex⟩, ⟨by simpa using st2.1, st2.2.1⟩, fun b hb => ?_⟩
    have hbT : b ≠ T := by
      rintro rfl
      exact hTw hb
    rw [aq hbT]
    exact (hf b hb).1
  · intro X hP hw hK hc i pins s σ H E I hf st hg
    subst hP hw hK
    obtain ⟨⟨old, ce⟩, c1⟩ := st
    obtain ⟨xs, hx, rfl⟩ := hg
    obtain ⟨its, r, p, l⟩ := I.list hx
    have W := WalksT.enumerate (prog := X.prog) (w := X.w) (A := X.A) (I.ok.hd hc) e it a ne n1 n2 its.toArray
    have e1 : xs.length = its.toArray.size := by rw [List.size_toArray]; exact r.length
    rw [e1] at ce c1
    exact W.done s _ _ ⟨⟨old, ce⟩, c1, p.isList⟩ fun g tk kp => ⟨rfl, I.gj hf kp⟩
  · obtain ⟨⟨old, ce⟩, c1⟩ := st
    exact wpAny_pyIter_enum ce h
def xx (K : PySem.W.Frag) (ta : TA) : TI := fun σ H R => ta σ H fun vs H1 => ∃ a, vs = [.ref a] ∧ (∃ xs, aE K H1 a xs) ∧ R (An K a) H1
section
variable {X : Cx}
theorem jA {e1 : Expr} {es : List Expr} {kk : Nat} {tp p pos : Pos} {ta : TA} (B : Bt X "enumerate") (ha : PA X [e1] ta) (h1 : notStar e1 = true := by rfl) : PI X (.Tuple es kk tp) (.Call (.Name "enumerate" p) [e1] [] pos) (xx X.K ta) := by
  intro pins s σ H R I h
  refine wpAny_Call_Name_kw (gE I B.gl B.nm mM ?_ B.hn B.db)
  refine PyProof.Rows.callWith_type1 (bJ (ha pos pins s σ H _ I h) fun us s1 hpat => ?_) (aR h1) (bW rfl)
  obtain ⟨vs, H1, I1, r1, a, e, ⟨xs, m1⟩, q⟩ := hpat
  subst e
  obtain ⟨u1, rfl, rx⟩ := vals1 r1
  cases rx
  obtain ⟨its, v1, p1, l1⟩ := I1.list m1
  have b1 : a < s1.heap.objs.size := lR (q := true) I1 m1
  refine call_enumerate_list p1.isList fun g ge gi _ kp => ?_
  refine wpAny_pyIter_enum ge ?_
  refine ⟨_, _, _, _, H1, rfl, I1.kept (t' := s1.toks) kp, qs (a := a) (s1.heap.objs.size + 1) s1.heap.objs.size (Nat.ne_of_gt (Nat.lt_succ_self _)) (Nat.ne_of_lt (Nat.lt_succ_of_lt b1)) (Nat.ne_of_lt b1), ⟨⟨_, ge⟩, gi⟩, fun b hb => ?_, q⟩
  have hle : s1.heap.objs.size ≤ b := Co _ _ hb
  exact I1.mW hle (I1.hok.fresh hle)
end
theorem m7 {K : PySem.W.Frag} {a : Addr} {xs : List V} {g : TG} {tb : TS} {D : Ends} {σ : St} {H : Hp} (Pv : Nat → St → Hp → Prop) (h0 : Pv 0 σ H) (hq : ∀ i σ H, Pv i σ H → aE K H a xs)
    (hs : ∀ (i : Nat) x p σ H, xs[i]? = some x → H p = none → Pv i σ H → g (.ref p) σ (upd H p (.tup [.int i, x])) fun σ2 H2 => tb { D with nx := Pv (i + 1), ct := Pv (i + 1), bk := D.nx } σ2 H2) (hd : ∀ σ H, Pv xs.length σ H → D.nx σ H) :
    ∃ W : Nat → Nat → St → Hp → Prop, (∃ m, W 0 m σ H) ∧ ∀ i m σ H, W i m σ H →
      ((An K a).stop i H ∧ D.nx σ H) ∨ ((An K a).go i H ∧ ∃ N : St → Hp → Prop, (∀ σ' H', N σ' H' → ∃ m', m' < m ∧ W (i + 1) m' σ' H') ∧ ∀ x H', (An K a).yld i H x H' → g x σ H' fun σ2 H2 => tb { D with nx := N, ct := N, bk := D.nx } σ2 H2) := by
  refine ⟨fun i m σ H => m = xs.length - i ∧ i ≤ xs.length ∧ Pv i σ H, ⟨xs.length, by simp, Nat.zero_le _, h0⟩, ?_⟩
  rintro i m σ H ⟨rfl, hi, p⟩
  have m1 := hq i σ H p
  by_cases hlt : i < xs.length
  · refine .inr ⟨⟨xs, xs[i], m1, by simp [hlt]⟩, Pv (i + 1), fun σ' H' p' => ⟨xs.length - (i + 1), by omega, rfl, hlt, p'⟩, fun v H' y => ?_⟩
    obtain ⟨pp, x, hn, rfl, rfl, e1⟩ := y
    exact hs i x pp σ H (e1 xs m1) hn p
  · have e : i = xs.length := by omega
    subst e
    exact .inl ⟨⟨xs, m1, rfl⟩, hd σ H p⟩
theorem jJ : ∀ {zs : List Str} {us : List Value}, Vals (zs.map V.str) us → StrsAre us zs
  | [], _, r => by cases r; exact .nil
  | z :: zs, _, r => by
    cases r with
    | cons r1 r2 =>
      obtain ⟨t, rfl⟩ := r1
      exact .cons z t (jJ r2)
theorem ma {X : Cx} : BD X "str.join" (fun x vs H Q => ∃ (sep : Str) (p : Addr) (zs : List Str), x = .str sep ∧ vs = [.ref p] ∧ aE X.K H p (zs.map V.str) ∧ (zs.map (·.length)).sum + zs.length * sep.length ≤ 16777216 ∧ Q (.str (Txt.join sep zs)) H) := by
  intro pins s σ H x xs v us Q I rx rs h
  obtain ⟨sep, p, zs, rfl, rfl, hq, hz, q⟩ := h
  obtain ⟨t, rfl⟩ := rx
  obtain ⟨u, rfl, ru⟩ := vals1 rs
  cases ru
  obtain ⟨its, r, pl, _⟩ := I.list hq
  exact join_list pl.isList (by simpa using jJ r) hz fun t' k => ⟨.str _, H, I.tok _, ⟨_, rfl⟩, q⟩
end L2
namespace L2
open PySem PySem.Spec PyProof.Rows
local instance keyBEq : BEq Key := instBEqOfDecidableEq
local instance keyLBEq : @LawfulBEq Key keyBEq := inferInstanceAs (@LawfulBEq Key instBEqOfDecidableEq)
theorem gX {prog : Program} {w : World} {h : Heap} {a : Addr} {S S' : Key → Bool} {n n' : Nat} (hS : h.SetOf (bR prog w) a S n) (e : ∀ k, S k = S' k) (en : n = n') : h.SetOf (bR prog w) a S' n' := by
  have : S = S' := funext e
  subst this
  subst en
  exact hS
section
variable {prog : Program} {w : World} {A : Around} {R : Result → Shared → Prop} {I : Addr} {fp wr : List Addr} {G : Array GenState → Array GenState → Prop} {n : Nat} {P : Nat → Value → Prop} {St : Nat → Shared → Prop}
end
section
variable {prog : Program} {w : World} {A : Around} {E : Value → Shared → Prop} {s : Shared}
end
def setM (P : Program) (w : World) (a : Addr) (n : Nat) : HO := .ext fun h => ∃ T, h.SetOf (bR P w) a T n
theorem eC {X : Cx} : cN X (.builtin "len") (fun xs H Q => ∃ (p : Addr) (n : Nat), xs = [.ref p] ∧ H p = some (setM X.prog X.w p n) ∧ Q (.int n) H) := by
  intro pins s σ H xs us Q I r h
  obtain ⟨p, n, rfl, hp, q⟩ := h
  obtain ⟨u, rfl, rx⟩ := vals1 r
  cases rx
  obtain ⟨⟨T, o, es, ep, t, e, ex, d, _, _, hsz, hf, rfl⟩, _⟩ := I.hok p _ hp
  have hb : es.size < 4096 := hsz
  exact call_len_set e ex d hf (by omega) ⟨.int es.size, H, I.tok _, ⟨_, rfl⟩, q⟩
end L2
namespace L2
open PySem PySem.Spec PyProof.Rows
section
variable {K : PySem.W.Frag} {is : List Nat} {te : TE} {σ : St} {H : Hp} {Q : VK}
theorem sI {J : It} {n : Nat} (Pv : Addr → Nat → List V → Hp → Prop) (hz : n ≤ sizeLine) (h0 : ∀ D, H D = none → Pv D 0 [] (upd H D (.lst [])))
    (hD : ∀ D i ys H2, Pv D i ys H2 → H2 D = some (.lst ys) ∧ ys.length = i) (hgo : ∀ D i ys H2, Pv D i ys H2 → i < n → J.go i H2) (hstop : ∀ D ys H2, Pv D n ys H2 → J.stop n H2)
    (he : ∀ D i ys H2 v H3 (Q' : VK), Pv D i ys H2 → i < n → J.yld i H2 v H3 → (∀ y H4, H4 D = some (.lst ys) → Pv D (i + 1) (ys ++ [y]) (upd H4 D (.lst (ys ++ [y]))) → Q' y H4) → te (some v :: cu is σ) H3 Q')
    (q : ∀ D ys H2, H D = none → Pv D n ys H2 → Q (.ref D) H2) : fh J is te σ H Q := by
  intro D hDn
  refine ⟨fun i m ys H2 => m = n - i ∧ i ≤ n ∧ Pv D i ys H2, ⟨_, rfl, Nat.zero_le _, h0 D hDn⟩, ?_⟩
  rintro i m ys H2 ⟨rfl, hi, p⟩
  obtain ⟨d1, d2⟩ := hD D i ys H2 p
  refine ⟨d1, ?_⟩
  by_cases hlt : i < n
  · refine .inr ⟨hgo D i ys H2 p hlt, fun v H3 y => ?_⟩
    refine he D i ys H2 v H3 _ p hlt y fun y' H4 e4 p4 => ⟨e4, by omega, n - (i + 1), by omega, rfl, hlt, p4⟩
  · have e : i = n := by omega
    subst e
    exact .inl ⟨hstop D ys H2 p, q D ys H2 hDn p⟩
theorem pL {J : It} {xs : List V} (f : V → V) (hz : xs.length ≤ sizeLine) (hgo : ∀ i H2, aj H H2 → i < xs.length → J.go i H2) (hstop : ∀ H2, aj H H2 → J.stop xs.length H2)
    (hy : ∀ i H2 v H3, aj H H2 → i < xs.length → J.yld i H2 v H3 → H3 = H2 ∧ xs[i]? = some v)
    (he : ∀ v H2 (Q' : VK), v ∈ xs → aj H H2 → (∀ H3, aj H2 H3 → Q' (f v) H3) → te (some v :: cu is σ) H2 Q')
    (q : ∀ D H', H D = none → aj H H' → H' D = some (.lst (xs.map f)) → Q (.ref D) H') : fh J is te σ H Q := by
  refine sI (n := xs.length) (fun D i ys H2 => H D = none ∧ aj H H2 ∧ H2 D = some (.lst ys) ∧ i ≤ xs.length ∧ ys = (xs.take i).map f) hz (fun D hD => ⟨hD, aj.upd hD, aa, Nat.zero_le _, by simp⟩)
    (fun D i ys H2 p => ⟨p.2.2.1, by rw [p.2.2.2.2, List.length_map, List.length_take]; have := p.2.2.2.1; omega⟩) (fun D i ys H2 p hi => hgo i H2 p.2.1 hi) (fun D ys H2 p => hstop H2 p.2.1) ?_ ?_
  · rintro D i ys H2 v H3 Q' ⟨hD, sm, hl, hi, hys⟩ hlt y k
    obtain ⟨rfl, hv⟩ := hy i H2 v H3 sm hlt y
    refine he v _ _ (List.mem_of_getElem? hv) sm fun H4 s4 => ?_
    refine k _ _ (s4 _ _ hl) ⟨hD, fun b o e => ?_, aa, hlt, ?_⟩
    · rw [aq (ah e hD)]
      exact s4 _ _ (sm _ _ e)
    · rw [hys, List.take_add_one, hv, List.map_append]
      rfl
  · rintro D ys H2 hD ⟨_, sm, hl, _, hys⟩
    rw [List.take_length] at hys
    rw [hys] at hl
    exact q D H2 hD sm hl
theorem iz {a : Addr} {xs : List V} (f : V → V) (hq : aE K H a xs) (hz : xs.length ≤ sizeLine) (he : ∀ v H2 (Q' : VK), v ∈ xs → aj H H2 → (∀ H3, aj H2 H3 → Q' (f v) H3) → te (some v :: cu is σ) H2 Q')
    (q : ∀ D H', H D = none → aj H H' → H' D = some (.lst (xs.map f)) → Q (.ref D) H') : fh (Dh K a) is te σ H Q :=
  pL f hz (fun i H2 sm hi => ⟨xs, xs[i], sm.seq hq, by simp [hi]⟩) (fun H2 sm => ⟨xs, sm.seq hq, Nat.le_refl _⟩) (fun i H2 v H3 sm hi y => ⟨y.1, y.2 xs (sm.seq hq)⟩) he q
theorem wG {a : Addr} {xs : List V} (f : V → V) (hq : br K H a xs) (hz : xs.length ≤ sizeLine) (he : ∀ v H2 (Q' : VK), v ∈ xs → aj H H2 → (∀ H3, aj H2 H3 → Q' (f v) H3) → te (some v :: cu is σ) H2 Q')
    (q : ∀ D H', H D = none → aj H H' → H' D = some (.lst (xs.map f)) → Q (.ref D) H') : fh (Dr K a) is te σ H Q :=
  pL f hz (fun i H2 sm hi => ⟨xs, xs[i], sm.yE hq, by simp [hi]⟩) (fun H2 sm => ⟨xs, sm.yE hq, Nat.le_refl _⟩) (fun i H2 v H3 sm hi y => ⟨y.1, y.2 xs (sm.yE hq)⟩) he q
end
theorem eZ {env : Env} {k : NameKind} (hk : k ≠ .free) : ∀ {names : List (Str × NameKind)} {x : Str}, names.lookup x = some k →
    (names.map fun (n, k) => if (k == NameKind.free && env.scope.kind == .function && env.kindOf n == some .cell) then (n, NameKind.cell) else (n, k)).lookup x = some k
  | [], _, h => by simp at h
  | (n, j) :: r, x, h => by
    have ih := @eZ env k hk r x
    show List.lookup x ((if (j == NameKind.free && env.scope.kind == .function && env.kindOf n == some .cell) = true then (n, NameKind.cell) else (n, j)) :: _) = _
    cases hx : x == n with
    | true =>
      simp only [List.lookup_cons, hx] at h
      cases h
      rw [if_neg (by simp [hk])]
      simp only [List.lookup_cons, hx]
    | false =>
      simp only [List.lookup_cons, hx] at h
      by_cases hc' : (j == NameKind.free && env.scope.kind == .function && env.kindOf n == some .cell) = true
      · rw [if_pos hc']; simp only [List.lookup_cons, hx]; exact ih h
      · rw [if_neg hc']; simp only [List.lookup_cons, hx]; exact ih h
theorem jc {env : Env} : ∀ {names : List (Str × NameKind)} {x : Str}, names.lookup x = some .free →
    (names.map fun (n, k) => if (k == NameKind.free && env.scope.kind == .function && env.kindOf n == some .cell) then (n, NameKind.cell) else (n, k)).lookup x = some .cell ∨
    (names.map fun (n, k) => if (k == NameKind.free && env.scope.kind == .function && env.kindOf n == some .cell) then (n, NameKind.cell) else (n, k)).lookup x = some .free
  | [], _, h => by simp at h
  | (n, j) :: r, x, h => by
    have ih := @jc env r x
    show List.lookup x ((if (j == NameKind.free && env.scope.kind == .function && env.kindOf n == some .cell) = true then (n, NameKind.cell) else (n, j)) :: _) = _ ∨ List.lookup x ((if (j == NameKind.free && env.scope.kind == .function && env.kindOf n == some .cell) = true then (n, NameKind.cell) else (n, j)) :: _) = _
    cases hx : x == n with
    | true =>
      simp only [List.lookup_cons, hx] at h
      cases h
      by_cases hc' : (NameKind.free == NameKind.free && env.scope.kind == .function && env.kindOf n == some .cell) = true
      · rw [if_pos hc']; simp only [List.lookup_cons, hx]; first | exact .inl rfl | exact .inl trivial
      · rw [if_neg hc']; simp only [List.lookup_cons, hx]; first | exact .inr rfl | exact .inr trivial
    | false =>
      simp only [List.lookup_cons, hx] at h
      by_cases hc' : (j == NameKind.free && env.scope.kind == .function && env.kindOf n == some .cell) = true
      · rw [if_pos hc']; simp only [List.lookup_cons, hx]; exact ih h
      · rw [if_neg hc']; simp only [List.lookup_cons, hx]; exact ih h
section
variable {X : Cx} {x y : Str} {ns : List Str} {scope : Scope} {cl : List (Str × Addr)} {fp : List Addr} {s3 : Shared} {H3 : Hp} {C : Addr} {sp : Sp}
structure vK (X : Cx) (x : Str) (sp : Sp) : Prop where
  ex : ∃ (k : Nat) (f : Addr) (fd : FuncData) (ps : List Str), bH X.prog X.w X.K X.mg X.base fD k f fd ps sp ∧ bL k X.A ∧ X.mg x = some (.ref f) ∧ PySem.W.keepIn X.K (.ref f) = true ∧ Binds X.K fd ps []
  db : (x == ("__debug__" : Str)) = false
structure Bs (X : Cx) (x : Str) : Prop where
  nm : X.mg x = none
  hn : x ≠ "__name__"
  db : (x == ("__debug__" : Str)) = false
theorem vK.lc (B : vK X y sp) (h : scope.names.lookup y = some .globalImplicit) : zD (cU X (x :: ns) scope cl fp s3 H3 C) y sp := ⟨B.ex, eZ (by decide) h, B.db⟩
theorem Bs.lc (B : Bs X y) (h : scope.names.lookup y = some .globalImplicit) : Bt (cU X (x :: ns) scope cl fp s3 H3 C) y := ⟨eZ (by decide) h, B.nm, B.hn, B.db⟩
end
structure Gd (P : Program) (w : World) (K : PySem.W.Frag) (mg : Str → Option Value) (base : Heap) (k : Nat) (x : Str) (sp : Sp) : Prop where
  ex : ∃ (f : Addr) (fd : FuncData) (ps : List Str), bH P w K mg base fD k f fd ps sp ∧ mg x = some (.ref f) ∧ PySem.W.keepIn K (.ref f) = true ∧ Binds K fd ps []
structure Md (P : Program) (w : World) (K : PySem.W.Frag) (mg : Str → Option Value) (base : Heap) (k : Nat) (C : Addr) (m : Str) (sp : Sp) : Prop where
  ex : ∃ (f : Addr) (fd : FuncData) (ps : List Str), bH P w K mg base fD k f fd ps sp ∧ Meth K C m f ∧ Binds K fd ps []
  cl : kB K C
structure Kd (P : Program) (w : World) (K : PySem.W.Frag) (mg : Str → Option Value) (base : Heap) (k : Nat) (x : Str) (C : Addr) (sp : Sp) : Prop where
  ex : ∃ (f : Addr) (fd : FuncData) (ps : List Str), bH P w K mg base fD k f fd ps sp ∧ Mk K C f ∧ Binds K fd ps []
  nm : mg x = some (.ref C)
structure CW (X : Cx) (x : Str) (C : Addr) (sp : Sp) : Prop where
  ex : ∃ (k : Nat) (f : Addr) (fd : FuncData) (ps : List Str), bH X.prog X.w X.K X.mg X.base fD k f fd ps sp ∧ bL (k + 1) X.A ∧ Mk X.K C f ∧ Binds X.K fd ps []
  nm : X.mg x = some (.ref C)
  gl : Gl X x
  db : (x == ("__debug__" : Str)) = false
structure Met (X : Cx) (C : Addr) (m : Str) (sp : Sp) : Prop where
  ex : ∃ (k : Nat) (f : Addr) (fd : FuncData) (ps : List Str), bH X.prog X.w X.K X.mg X.base fD k f fd ps sp ∧ bL k X.A ∧ Meth X.K C m f ∧ Binds X.K fd ps []
  cl : kB X.K C
structure Here (X : Cx) (P : Program) (w : World) (K : PySem.W.Frag) (mg : Str → Option Value) (base : Heap) (sc : Scope) (N : List Str) (k : Nat) : Prop where
  pr : X.prog = P
  wd : X.w = w
  fK : X.K = K
  gm : X.mg = mg
  bs : X.base = base
  calm : X.calm = true
  own : PassesOwn (model X.prog X.w) X.A X.env X.xe
  hsc : X.env.scope = sc
  hN : X.N = N
  nd : X.N.Nodup
  room : bL k X.A
  fn : ∀ x, X.fn x = true
section
variable {X : Cx} {P : Program} {w : World} {K : PySem.W.Frag} {mg : Str → Option Value} {base : Heap} {sc : Scope} {N : List Str} {k j : Nat} {x m : Str} {sp : Sp} {C : Addr}
theorem Here.slot (h : Here X P w K mg base sc N k) (i : Nat) (hN : N[i]? = some x) (lc : Loc sc x) (db : (x == ("__debug__" : Str)) = false) (cd : (x == ("__classdict__" : Str)) = false) : Slot X i x :=
  ⟨by rw [h.hN]; exact hN, by rw [h.hsc]; exact lc, .inl (h.fn x), db, cd⟩
theorem Here.sl (h : Here X P w K mg base sc N k) (i : Nat) (x : Str) (hN : N[i]? = some x := by rfl) (lc : Loc sc x := by first | exact .inl rfl | exact .inr rfl) (db : (x == ("__debug__" : Str)) = false := by decide) (cd : (x == ("__classdict__" : Str)) = false := by decide) : Slot X i x := h.slot i hN lc db cd
theorem Here.gl (h : Here X P w K mg base sc N k) (hg : sc.names.lookup x = some .globalImplicit) : Gl X x := by
  show X.env.scope.names.lookup x = _
  rw [h.hsc]
  exact hg
theorem Here.bt (h : Here X P w K mg base sc N k) (hm : mg x = none) (hg : sc.names.lookup x = some .globalImplicit) (hn : x ≠ "__name__") (db : (x == ("__debug__" : Str)) = false) : Bt X x := ⟨h.gl hg, by rw [h.gm]; exact hm, hn, db⟩
theorem Here.b (h : Here X P w K mg base sc N k) (hm : mg x = none) (hg : sc.names.lookup x = some .globalImplicit := by rfl) (hn : x ≠ "__name__" := by decide) (db : (x == ("__debug__" : Str)) = false := by decide) : Bt X x := h.bt hm hg hn db
theorem Here.cn (h : Here X P w K mg base sc N k) (G : Gd P w K mg base j x sp) (hg : sc.names.lookup x = some .globalImplicit) (hj : j ≤ k) (db : (x == ("__debug__" : Str)) = false) : zD X x sp := by
  obtain ⟨f, fd, ps, h1, h2, h3, h4⟩ := G.ex
  obtain ⟨rfl, rfl, rfl, rfl, rfl⟩ := And.intro h.pr (And.intro h.wd (And.intro h.fK (And.intro h.gm h.bs)))
  exact ⟨⟨j, f, fd, ps, h1, h.room.mono hj, h2, h3, h4⟩, h.gl hg, db⟩
theorem Here.c (h : Here X P w K mg base sc N k) (G : Gd P w K mg base j x sp) (hg : sc.names.lookup x = some .globalImplicit := by rfl) (hj : j ≤ k := by first | decide | exact Nat.le_refl _) (db : (x == ("__debug__" : Str)) = false := by decide) : zD X x sp := h.cn G hg hj db
theorem Here.FP (h : Here X P w K mg base sc N k) (hm : mg x = none) (hn : x ≠ "__name__") (db : (x == ("__debug__" : Str)) = false) : Bs X x := ⟨by rw [h.gm]; exact hm, hn, db⟩
theorem Here.CP (h : Here X P w K mg base sc N k) (G : Gd P w K mg base j x sp) (hj : j ≤ k) (db : (x == ("__debug__" : Str)) = false) : vK X x sp := by
  obtain ⟨f, fd, ps, h1, h2, h3, h4⟩ := G.ex
  obtain ⟨rfl, rfl, rfl, rfl, rfl⟩ := And.intro h.pr (And.intro h.wd (And.intro h.fK (And.intro h.gm h.bs)))
  exact ⟨⟨j, f, fd, ps, h1, h.room.mono hj, h2, h3, h4⟩, db⟩
theorem Here.ci (h : Here X P w K mg base sc N k) (G : Gd P w K mg base j x sp) (hj : j ≤ k := by first | decide | exact Nat.le_refl _) (db : (x == ("__debug__" : Str)) = false := by decide) : vK X x sp := h.CP G hj db
theorem Here.zS (h : Here X P w K mg base sc N k) (G : Kd P w K mg base j x C sp) (hg : sc.names.lookup x = some .globalImplicit) (hj : j + 1 ≤ k) (db : (x == ("__debug__" : Str)) = false) : CW X x C sp := by
  obtain ⟨f, fd, ps, h1, h2, h3⟩ := G.ex
  have nm := G.nm
  obtain ⟨rfl, rfl, rfl, rfl, rfl⟩ := And.intro h.pr (And.intro h.wd (And.intro h.fK (And.intro h.gm h.bs)))
  exact ⟨⟨j, f, fd, ps, h1, h.room.mono hj, h2, h3⟩, nm, h.gl hg, db⟩
theorem Here.met (h : Here X P w K mg base sc N k) (G : Md P w K mg base j C m sp) (hj : j ≤ k) : Met X C m sp := by
  obtain ⟨f, fd, ps, h1, h2, h3⟩ := G.ex
  have c := G.cl
  obtain ⟨rfl, rfl, rfl, rfl, rfl⟩ := And.intro h.pr (And.intro h.wd (And.intro h.fK (And.intro h.gm h.bs)))
  exact ⟨⟨j, f, fd, ps, h1, h.room.mono hj, h2, h3⟩, c⟩
end
section
variable {X : Cx} {x y : Str} {ns : List Str} {scope : Scope} {cl : List (Str × Addr)} {fp : List Addr} {s3 : Shared} {H3 : Hp} {C D : Addr} {sp : Sp} {m : Str}
end
theorem zd : bootBuiltins "set" = some (.type "set") := by decide +kernel
theorem zo : bootBuiltins "min" = some (.builtin "min") := by decide +kernel
theorem yW : bootBuiltins "max" = some (.builtin "max") := by decide +kernel
theorem eB {c A B : Prop} [Decidable c] (hc : c) (h : A) : if c then A else B := by
  rw [if_pos hc]
  exact h
theorem cw {c A B : Prop} [Decidable c] (hc : ¬ c) (h : B) : if c then A else B := by
  rw [if_neg hc]
  exact h
inductive C6 (K : PySem.W.Frag) (x y : V) (H : Hp) (Q : VK) : Prop
  | mk (l b : Addr) (xs zs : List V) (hx : x = .ref l) (hy : y = .ref b) (s : aE K H l xs) (t : aE K H b zs) (e : xs.length + zs.length ≤ sizeLine) (q : ∀ p, H p = none → Q (.ref p) (upd H p (.lst (xs ++ zs))))
def wX (K : PySem.W.Frag) : R2 := fun x y H Q => C6 K x y H Q
theorem cm {X : Cx} : gx X (binaryOp .Add) (wX X.K) := by
  intro pins s σ H x y v u Q I rx ry h
  obtain ⟨l, b, xs, zs, rfl, rfl, hH, hB, hz, q⟩ := h
  cases rx
  cases ry
  obtain ⟨its, r, pl, z⟩ := I.list hH
  obtain ⟨its2, r2, pl2, z2⟩ := I.list hB
  have hl := r.length
  have hl2 := r2.length
  obtain ⟨⟨cls, dd, data, sl⟩, ho, hc, n, hd⟩ := pl.isList
  obtain ⟨⟨cls2, dd2, data2, sl2⟩, ho2, hc2, n2, hd2⟩ := pl2.isList
  simp only at hc hd hc2 hd2
  subst hc hd hc2 hd2
  have e : its.toArray ++ its2.toArray = (its ++ its2).toArray := by simp
  refine concat_meets ⟨_, ho, rfl⟩ ⟨_, ho2, rfl⟩ noFill_list_add seq_list_add PySem.F.slot_list_add PySem.F.entry_list_add (PySem.F.args_list_add_2 _ _) (list_addW l b its.toArray its2.toArray n n2 dd dd2 sl sl2 (by simp only [List.size_toArray]; omega)) ⟨ho, ho2, ?_⟩
  rw [e]
  exact ⟨.ref _, _, I.Ae (t' := s.toks) (r.append r2) (by rw [List.length_append]; omega), rfl, q _ I.fresh⟩
end L2
namespace J
open PySem PySem.Spec PyProof.Rows
open L2 (Cx V Hp St VK TE TT TA TS TG jh TI TO R2 Sp XK E0 fD bH bL Gl Binds RelV Vals aE br cT Here Gd Md Kd CW Met Df gJ aB Meth Mk kB)
structure CF (X : Cx) (id : String) (r : V → List V → Hp → VK → Prop) : Prop where
  out : L2.BD X id r
section
variable {X : Cx} {x y : Str} {ns : List Str} {scope : Scope} {cl : List (Str × Addr)} {fp : List Addr} {s3 : Shared} {H3 : Hp} {C : Addr} {sp : Sp} {p pos apos pos' : Pos} {e o value : Expr} {es : List Expr} {ta te tv : TE} {t : TA} {m f : Str} {tg : Expr}
theorem vj (h : scope.names.lookup x = some .local) (db : (x == ("__debug__" : Str)) = false) (cd : (x == ("__classdict__" : Str)) = false) : JE (L2.cU X (x :: ns) scope cl fp s3 H3 C) (.Name x p) (L2.qP 0) :=
  ⟨L2.lS (i := 0) rfl (.inl (PySem.lookup_relabel_local h)) db cd⟩
theorem xS {i : Nat} (h : scope.names.lookup y = some .free) (hi : ns[i]? = some y) (db : (y == ("__debug__" : Str)) = false) (cd : (y == ("__classdict__" : Str)) = false) : JE (L2.cU X (x :: ns) scope cl fp s3 H3 C) (.Name y p) (L2.qP (i + 1)) :=
  ⟨L2.lS (i := i + 1) hi (.inr (L2.jc h)) db cd⟩
theorem zS (M : CW X x C sp) (ha : JA X (e :: es) t) (h1 : L2.notStar e = true := by rfl) (h2 : es.all L2.notStar = true := by rfl) : JE X (.Call (.Name x p) (e :: es) [] pos) (L2.tI C sp [] E0 t) := by
  obtain ⟨k, f, fd, ps, F, hr, mk, bi⟩ := M.ex
  exact ⟨L2.p7 mk F hr M.gl M.nm bi .nil L2.pK ha.out M.db (L2.aR h1) (L2.bW h2)⟩
theorem wN {pl : Sem Bool} (M : Met X C m sp) (he : JE X o ta) (ht : eval (.Call (.Attribute o m apos) [] [] pos) X.env = (do
      let ov ← eval o X.env
      standAt apos.atName
      let (f, first) ← holding [ov] (getMethod ov m pl)
      callWith pos f first (backTo pos (starEach [] X.env)) (backToKw pos (keywordEach [] X.env)))) : JE X (.Call (.Attribute o m apos) [] [] pos) (L2.qe C m sp [] E0 ta L2.vZ) := by
  obtain ⟨k, f, fd, ps, F, hr, me, bi⟩ := M.ex
  exact ⟨L2.tN he.out M.cl me F hr bi .nil L2.pK ht⟩
theorem fld (he : JE X (.Name x p) ta) : JE X (.Attribute (.Name x p) f pos) (L2.Bd X.K ta f) := ⟨L2.yt he.out rfl⟩
theorem eh (ha : JE X o ta) (hv : JE X value tv) (h : L2.gr value = false := by rfl) : JS X (.Assign [.Attribute o f pos'] value pos) (L2.Bf X.K ta tv f) := ⟨L2.eh ha.out hv.out (L2.ix h)⟩
theorem cD : CF X "list.append" L2.pU := ⟨L2.cD⟩
theorem ma : CF X "str.join" (fun x vs H Q => ∃ (sep : Str) (p : Addr) (zs : List Str), x = .str sep ∧ vs = [.ref p] ∧ aE X.K H p (zs.map V.str) ∧ (zs.map (·.length)).sum + zs.length * sep.length ≤ 16777216 ∧ Q (.str (Txt.join sep zs)) H) := ⟨L2.ma⟩
def uH (o : Expr) : Bool := match o with
  | .Call .. => false
  | _ => true
theorem nG {o : Expr} {name : Str} {env : Env} {v : Sem Value} (h : uH o = true) : attributeBase o name env v = v := by
  cases o <;> first | rfl | cases h
theorem C0 {cpos : Pos} {env : Env} (h1 : L2.notStar e = true) : ((backTo cpos (starEach [e] env)).all (fun x => !x.1) && (backToKw cpos (keywordEach [] env)).all (fun x => x.1.isSome)
      && decide ([e].length + ([] : List Keyword).length + (if ([] : List Keyword).isEmpty then 0 else 1) < 30)) = true := by
  rw [L2.aR h1]
  rfl
theorem bm {T id : String} {r : V → List V → Hp → VK → Prop} {name : Str} (pa : PlainAttrs T) (slot : Slot T name id) (hty : typeOf (.builtin id) = pure (.type "method_descriptor")) (hm : CF X id r) (ho : JE X o te) (ha : JA X [e] t)
    (h : uH o = true := by rfl) (h1 : L2.notStar e = true := by rfl) (hline : (apos.endLine == pos.line) = true := by rfl) : JE X (.Call (.Attribute o name apos) [e] [] pos) (L2.Ed X.K T r te t) :=
  ⟨L2.AK pa slot hty hm.out ho.out ha.out (nG h) (C0 h1) hline (L2.aR h1) rfl⟩
theorem oM {e1 e2 : Expr} {kk : Nat} {tp : Pos} (B : L2.Bt X "zip") (ha : JA X [e1, e2] t) (h1 : L2.notStar e1 = true := by rfl) (h2 : [e2].all L2.notStar = true := by rfl) : JI X (.Tuple es kk tp) (.Call (.Name "zip" p) [e1, e2] [] pos) (L2.zQ X.K t) := ⟨L2.oM B ha.out h1 h2⟩
theorem jA {e1 : Expr} {kk : Nat} {tp : Pos} (B : L2.Bt X "enumerate") (ha : JA X [e1] t) (h1 : L2.notStar e1 = true := by rfl) : JI X (.Tuple es kk tp) (.Call (.Name "enumerate" p) [e1] [] pos) (L2.xx X.K t) := ⟨L2.jA B ha.out h1⟩
theorem eC : JF X (.builtin "len") (fun xs H Q => ∃ (p : Addr) (n : Nat), xs = [.ref p] ∧ H p = some (L2.setM X.prog X.w p n) ∧ Q (.int n) H) := ⟨L2.eC⟩
theorem fe : BE X [] L2.Ar := ⟨L2.fe⟩
theorem fP {g : TG} {u : jh} (S : JG X (.Name x p) g) (h : BE X es u) : BE X (.Name x p :: es) (L2.xj g u) := ⟨L2.sP S.out h.out rfl⟩
theorem gC {k n : Nat} {u : jh} (hc : X.calm = true) (h : BE X es u) (hn : (assignEach es X.env).length = n := by rfl) (hst : (assignEach es X.env).findIdx? (·.1) = none := by rfl) : JG X (.Tuple es k pos) (L2.zT X.K n u) := ⟨L2.gC hc h.out hn hst⟩
theorem asg {g : TG} (he : JE X e te) (hg : JG X tg g) (hs : swapsWithSole [tg] e pos.line X.env = pure false := by rfl) (hw : swappedStores [tg] e X.env = pure none := by rfl)
    (h1 : (assignEach [tg] X.env).map (·.2) = [assign tg X.env] := by rfl) : JS X (.Assign [tg] e pos) (L2.o7 te g) := ⟨L2.yY he.out hg.out hs hw h1⟩
theorem uO : JX (L2.cU X (x :: ns) scope cl fp s3 H3 C) (L2.vP X.K) := ⟨L2.aG⟩
theorem ky : JF (L2.cU X (x :: ns) scope cl fp s3 H3 C) (.type "list") (fun xs H Q => ∃ p ys, xs = [.ref p] ∧ (aE X.K H p ys ∨ br X.K H p ys) ∧ ∀ l, H l = none → Q (.ref l) (L2.upd H l (.lst ys))) := ⟨L2.aO⟩
theorem cm : JB X .Add (L2.wX X.K) := ⟨L2.cm⟩
theorem ju (h : JE X (.Name x p) te) : JT X (.Name x p) (L2.tB te) := ⟨L2.oW h.out (fun _ => rfl)⟩
theorem glob {P : Program} {w : World} {K : PySem.W.Frag} {mg : Str → Option Value} {base : Heap} {sc : Scope} {N : List Str} {k : Nat} {v : V} (hh : Here X P w K mg base sc N k) (hm : ∃ u, mg x = some u ∧ RelV v u) (hg : sc.names.lookup x = some .globalImplicit)
    (db : (x == ("__debug__" : Str)) = false) : JE X (.Name x p) (L2.tC v) := by
  obtain ⟨u, h1, h2⟩ := hm
  exact J.ft (hh.gl hg) (by rw [hh.gm]; exact h1) h2 db
end
section
variable {P : Program} {w : World} {K : PySem.W.Frag} {mg : Str → Option Value} {base : Heap} {x qual m : Str} {st : Stmt} {f C : Addr} {fd : FuncData} {N ps : List Str} {k : Nat} {sp : Sp}
theorem jw (F : gJ K x qual st f fd) (S : aB N ps (L2.ao st)) (len : ∀ vs H Q E, sp vs H Q E → vs.length = ps.length)
    (hbody : ∀ (X : Cx) (H : Hp) (vs : List V) (Q : VK) (E : XK), Here X P w K mg base (L2.ao st) N k → sp vs H Q E → ∃ t, om X (L2.aX st) t ∧ t { nx := fun _ H' => Q .non H', rt := Q } (L2.start N vs) H) : bH P w K mg base fD (k + 1) f fd ps sp := by
  refine xu F S len fun X cdv A outer s H vs Q E hX hr h => ?_
  subst hX
  exact hbody _ H vs Q E ⟨rfl, rfl, rfl, rfl, rfl, rfl, PassesOwn.never, rfl, rfl, S.nd, hr, fun _ => rfl⟩ h
theorem a7 (D : Df K mg x st ps f fd) (S : aB N ps (L2.ao st)) (len : ∀ vs H Q E, sp vs H Q E → vs.length = ps.length)
    (hbody : ∀ (X : Cx) (H : Hp) (vs : List V) (Q : VK) (E : XK), Here X P w K mg base (L2.ao st) N k → sp vs H Q E → ∃ t, om X (L2.aX st) t ∧ t { nx := fun _ H' => Q .non H', rt := Q } (L2.start N vs) H) : Gd P w K mg base (k + 1) x sp :=
  ⟨f, fd, ps, jw D.fn S len hbody, D.nm, D.fn.kp, D.bi⟩
theorem jx (F : gJ K m qual st f fd) (me : Meth K C m f) (bi : Binds K fd ps []) (cl : kB K C) (S : aB N ps (L2.ao st)) (len : ∀ vs H Q E, sp vs H Q E → vs.length = ps.length)
    (hbody : ∀ (X : Cx) (H : Hp) (vs : List V) (Q : VK) (E : XK), Here X P w K mg base (L2.ao st) N k → sp vs H Q E → ∃ t, om X (L2.aX st) t ∧ t { nx := fun _ H' => Q .non H', rt := Q } (L2.start N vs) H) : Md P w K mg base (k + 1) C m sp :=
  ⟨⟨f, fd, ps, jw F S len hbody, me, bi⟩, cl⟩
end
end J
namespace L2
open PySem PySem.Spec PyProof.Rows
def F4 (K : PySem.W.Frag) : R2 := fun x y H Q => ∃ a b xs ys, x = .ref a ∧ y = .ref b ∧ aE K H a xs ∧ aE K H b ys ∧ xs.length = ys.length ∧
  (∀ (i : Nat) u v, xs[i]? = some u → ys[i]? = some v → ∃ p q zs, u = .ref p ∧ v = .ref q ∧ p ≠ q ∧ aE K H p zs ∧ aE K H q zs ∧ ∀ z ∈ zs, (∃ t, z = V.str t) ∨ ∃ c, z = V.ref c) ∧ Q (.bl false) H
end L2
namespace J
open PySem PySem.Spec PyProof.Rows
end J
namespace L2
open PySem PySem.Spec PyProof.Rows
section
variable {X : Cx} {x : Str} {px pos : Pos} {elt iter : Expr} {scope : Scope} {wi : TI} {te : TE} {is : List Nat} {ns : List Str}
theorem tZ {sc : Scope} {N : List Str} {y : Str} {py spos : Pos} {iy : Nat} (hnd : X.N.Nodup) (hiy : X.N[iy]? = some y) (hly : Loc X.env.scope y) (hfy : X.fn y = true ∨ X.env.scope.names.lookup y = some .local) (hsw : swapsWith (.ListComp elt [⟨.Name x px, iter, [], 0⟩] scope pos) (some (.Name y py)) spos.line X.env = pure true) (hc : X.calm = true) (hi : PI X (.Name x px) iter wi) (L : wF sc N x scope is ns) (he : ∀ cl fp s3 H3 C, PE (cU X (x :: ns) scope cl fp s3 H3 C) elt te)
    (hsc : X.env.scope = sc := by rfl) (hN : X.N = N := by rfl) (hs : ∀ x, foldedSetIterable iter X.env x = pure x := by intro _; rfl) : PS X (.Assign [.Name y py] (.ListComp elt [⟨.Name x px, iter, [], 0⟩] scope pos) spos) (o7 (BO wi is te) (fu iy)) := by
  subst hsc hN
  intro pins s σ H Dn I h
  rw [exec_Assign_Name_used _ _ _ _ hsw]
  refine wpAny_bind (wpAny_standAt (wpAny_bind ?_))
  show wpAny _ X.A (do let _ ← comprehension (.ListComp elt [⟨.Name x px, iter, [], 0⟩] scope pos) scope X.env _ (newList []) false (eval iter X.env) (some (assign (.Name y py) X.env))) _ _ s
  obtain ⟨cl, hcl, cl1, cl2⟩ := jH (env := X.env) (scope := scope) (fun y hy hf => I.ok.has y.1 (.inl (L.free y hy hf)))
  refine wpAny_bind (bJ (Q := fun _ s' => SP X pins Dn .next s') (wpAny_comprehension_free (use := some (assign (.Name y py) X.env)) (Q := fun _ s' => SP X pins Dn .next s') rfl hs hcl L.kind L.names (bJ (hi pins s σ H _ I h) fun v s1 h1 => bJ h1 fun itv s2 h2 => ?_)) fun _ s' hq => wpAny_pure (wpAny_pure hq))
  obtain ⟨it, fp, tn, J, H2, e, I2, T, st2, f2, h2⟩ := h2
  subst e
  refine wpAny_newObj_type (wpAny_newFunctionEnv L.nocell (by intro y hy; simp at hy) (fun h₁ hns₁ hsb₁ => ?_) L.kind)
  have hD : H2 s2.heap.objs.size = none := I2.hok.fresh (Nat.le_refl _)
  have I3 : Inv X pins σ (upd H2 s2.heap.objs.size (.lst [])) { s2 with heap := s2.heap.push { cls := .type "list", dict := none, data := .seq ([] : List Value).toArray } } :=
    I2.laid (t' := s2.toks) (fun b u e => Heap.get?_push_of_some _ e) (Nat.le_refl _) ⟨Nat.zero_le _, [], 0, .nil, Heap.get?_push_size _ rfl⟩
  have kp23 : ∀ b u, s2.heap.get? b = some u → (s2.heap.push { cls := .type "list", dict := none, data := .seq ([] : List Value).toArray }).get? b = some u := fun b u e => Heap.get?_push_of_some _ e
  obtain ⟨W, ⟨m0, w0⟩, turn⟩ := h2 s2.heap.objs.size hD
  dsimp only at hns₁ hsb₁ ⊢
  generalize hD0 : s2.heap.objs.size = D at *
  generalize hp3 : s2.heap.push { cls := .type "list", dict := none, data := .seq ([] : List Value).toArray } = p3 at *
  generalize hH3 : upd H2 D (.lst []) = H3 at *
  have fpD : ∀ b ∈ fp, b ≠ D := fun b hb => by
    obtain ⟨o, e, _⟩ := T.obj 0 s2.heap st2 b hb
    rw [← hD0]
    exact Nat.ne_of_lt (Heap.lt_size e)
  have fp3 : ∀ b ∈ fp, gK X pins H3 b := fun b hb => ⟨by rw [← hH3, aq (fpD b hb)]; exact (f2 b hb).1, (f2 b hb).2⟩
  have st3 : tn 0 p3 := T.keep 0 s2.heap p3 st2 fun b _ o e => kp23 b o e
  have fplt : ∀ b ∈ fp, b < p3.objs.size := fun b hb => by
    obtain ⟨o, e, _⟩ := T.obj 0 p3 st3 b hb
    exact Heap.lt_size e
  have old : ∀ b u, p3.get? b = some u → h₁.get? b = some u := fun b u e => hsb₁.extBut b u (Nat.ne_of_lt (Heap.lt_size e)) (Heap.get?_push_of_some _ e)
  generalize hC : p3.objs.size = C at *
  have hfree : ∀ b ∈ fp, H3 b = none := fun b hb => (fp3 b hb).1
  have okX : (cU X (x :: ns) scope cl fp { s2 with heap := p3 } H3 C).Ok := by
    refine ⟨I.ok.mod, L.kind, I.ok.glob, I.ok.blt, Nat.le_of_eq hC, fun y z c e1 e2 => I.ok.inj y z c (cl1 y c e1) (cl1 z c e2), fun y hy => ?_, fun _ _ z => (by cases z), I.ok.hd, I.ok.frames, .inl rfl, fun b hb => ⟨Nat.ne_of_lt (fplt b hb), fun y c e => (fp3 b hb).2.2.2.2.1 y c (cl1 y c e)⟩, I3.bs, Nat.le_trans I3.ok.bsz I3.sz, fun b o e hb => ?_, fun b hb z => ?_, I3.stack, I3.dX⟩
    · have hm : (y, NameKind.free) ∈ scope.names := by
        rcases hy with hy | hy
        · exact dA hy (.inl rfl) L.nocell
        · exact dA hy (.inr rfl) L.nocell
      obtain ⟨c, hc'⟩ := I.ok.has y (.inl (L.free _ hm rfl))
      exact ⟨c, (cl2 _ hm rfl).trans hc'⟩
    · rcases (fp3 b hb).2.2.2.1 with z | z
      · exact I.ok.noex b o e z
      · exact absurd (Nat.lt_of_lt_of_le (Heap.lt_size e) (Nat.le_trans I.ok.bsz z)) (Nat.lt_irrefl _)
    · exact (List.mem_cons.mp (I3.lJ b z)).elim (fp3 b hb).2.1 (fp3 b hb).2.2.1
  have hlen : (cu is σ).length = ns.length := by
    have := congrArg List.length L.cap
    rw [List.length_map, List.length_map] at this
    rw [cu, List.length_map]
    exact this.symm
  have I4 : Inv (cU X (x :: ns) scope cl fp { s2 with heap := p3 } H3 C) [] (none :: cu is σ) H3 { s2 with heap := h₁, toks := s2.toks + 0 } := by
    refine ⟨okX, rfl, I3.bare, Un.kept old, ⟨_, hns₁, fun i y v e1 e2 e3 => ?_⟩, fun y c e => ?_, ?_, fun y c e => I3.freeC y c (cl1 y c e), fun p hp => absurd (show p ∈ ([] : List (Addr × Obj)) from hp) (by simp), I3.hok.kept old, by show (cu is σ).length + 1 = ns.length + 1; rw [hlen]⟩
    · cases i with
      | zero =>
        have e2' : some (none : Option V) = some (some v) := e2
        cases e2'
      | succ j =>
        have e1' : ns[j]? = some y := e1
        have e2' : (cu is σ)[j]? = some (some v) := e2
        have hy := L.capf y (List.mem_of_getElem? e1')
        have hcap : (ns.map some)[j]? = (is.map fun i => X.N[i]?)[j]? := by rw [L.cap]
        rw [List.getElem?_map, List.getElem?_map, e1'] at hcap
        rw [cu, List.getElem?_map] at e2'
        cases hk : is[j]? with
        | none => rw [hk] at e2'; cases e2'
        | some k =>
          rw [hk] at hcap e2'
          have hN : X.N[k]? = some y := (Option.some.inj hcap).symm
          have hσ : σ[k]? = some (some v) := by
            have q : (σ[k]?).join = some v := Option.some.inj e2'
            cases z : σ[k]? with
            | none => rw [z] at q; cases q
            | some o => rw [z] at q; exact congrArg some q
          obtain ⟨m, hn, hl⟩ := I3.loc
          obtain ⟨u, r, l⟩ := hl k y v hN hσ (.inr (.inl hy.2))
          refine ⟨u, r, ?_⟩
          rcases l with ⟨hk', _⟩ | ⟨hk', c, ec, o, ho, hd⟩
          · have hk2 : X.env.scope.names.lookup y = some .local := hk'
            rw [hy.2] at hk2; cases hk2
          · exact .inr ⟨.inl (eY I.ok.kind hy.1 hy.2), c, (cl2 _ (PySem.mem_of_lookup hy.1) rfl).trans ec, o, old c o ho, hd⟩
    · obtain ⟨v, o, ho, hd⟩ := I3.cell y c (cl1 y c e)
      exact ⟨v, o, old c o ho, hd⟩
    · show H3 C = none
      rw [← hC]
      exact I3.hok.fresh (Nat.le_refl _)
  have st4 : tn 0 h₁ := T.keep 0 p3 h₁ st3 fun b _ o e => old b o e
  have stat : ∀ {H' : Hp}, (∀ b ∈ fp, H' b = none) → ∀ b ∈ fp, gK (cU X (x :: ns) scope cl fp { s2 with heap := p3 } H3 C) [] H' b := fun {H'} hn b hb =>
    ⟨hn b hb, Nat.ne_of_lt (fplt b hb), okX.exfs b hb, .inl hb, fun y c e => (fp3 b hb).2.2.2.2.1 y c (cl1 y c e), fun p hp => absurd (show p ∈ ([] : List (Addr × Obj)) from hp) (by simp)⟩
  have hxl : (cU X (x :: ns) scope cl fp { s2 with heap := p3 } H3 C).env.scope.names.lookup x = some .local := lookup_relabel_local L.hx
  have loop : codeAny (model X.prog X.w) X.A (.compLoop (.ListComp elt [⟨.Name x px, iter, [], 0⟩] scope pos) 0 (.ref it) (.ref D) (compEnvC scope cl C X.env))
      (compPost (model X.prog X.w) X.A X.xe (some (assign (.Name y py) X.env)) (fun _ s' => SP X pins Dn .next s') (.ref D) C) { s2 with heap := h₁, toks := s2.toks + 0 } := by
    refine lP (fun n s' => ∃ i o ys H', Inv (cU X (x :: ns) scope cl fp { s2 with heap := p3 } H3 C) [] (o :: cu is σ) H' s' ∧ tn i s'.heap ∧ (∀ b ∈ fp, H' b = none) ∧ W i n ys H') ?_ m0 ⟨0, none, [], H3, I4, st4, hfree, w0⟩
    rintro n s5 ⟨i, o, ys, H5, I5, st5, fr5, w5⟩
    obtain ⟨hD5, ⟨stop, q⟩ | ⟨go, step⟩⟩ := turn i n ys H5 w5
    · refine bJ (T.done (cU X (x :: ns) scope cl fp { s2 with heap := p3 } H3 C) rfl rfl rfl hc i [] s5 _ H5 _ I5 (stat fr5) st5 stop) fun r s6 ⟨hr, I6⟩ => ?_
      subst hr
      obtain ⟨m, hn, _⟩ := id I6.loc
      have neC : ∀ b o, p3.get? b = some o → b ≠ C := fun b o e => by rw [← hC]; exact Nat.ne_of_lt (Heap.lt_size e)
      have fC : H5 C = none := I6.free
      have I6X : Inv X pins σ H5 s6 := by
        refine I3.nX (s' := s6) (ch := fp) I6.os ⟨fun b o e nn hb hx => ?_, fun b o e nn hb hx => ?_, I6.base.free, fun b o e hx => ?_, I6.base.tups, I6.base.frzs, I6.base.tbls⟩ (fun b ob e => I6.hok b ob e) I6.bare fun b hb => ⟨(fp3 b hb).2.2.2.1, (fp3 b hb).2.1, (fp3 b hb).2.2.2.2.1, (fp3 b hb).2.2.2.2.2⟩
        · exact I6.base.keep b o e nn hb hx
        · exact I6.base.slot b o e nn hb hx
        · exact I6.base.there b o e hx
      have fpC : ∀ b ∈ [C], gK X pins H5 b := fun b hb => by
        rw [List.mem_singleton] at hb
        subst hb
        exact I3.mW (Nat.le_of_eq hC) fC
      obtain ⟨oC, esC, epC, hoC, rC⟩ := id hn
      have obC : ∀ b ∈ [C], ∃ o, s6.heap.get? b = some o ∧ ∀ v, o.data ≠ .cell v := fun b hb => by
        rw [List.mem_singleton] at hb
        subst hb
        exact ⟨oC, hoC, fun v z => by rw [z] at rC; exact absurd rC.1 (fun w => nomatch w)⟩
      have IP := I6X.pinned fpC obC
      have hgy : PG X (.Name y py) (fu iy) := jq hnd hiy hly hfy
      show wpAny _ _ (assign (.Name y py) X.env (.ref D)) _ _ s6
      refine bJ (hgy _ s6 σ H5 (.ref D) (.ref D) (fun σ' H' => σ' = σ.set iy (some (.ref D)) ∧ H' = H5) IP rfl ⟨rfl, rfl⟩) fun _ s7 hpat => ?_
      obtain ⟨σ7, H7, I7, e1, e2⟩ := hpat
      subst e1
      subst e2
      have hC7 : s7.heap.get? C = some oC := (I7.pin (C, oC) (List.mem_append_right _ (List.mem_append_right _ (bQ (List.mem_singleton.mpr rfl) hoC)))).1
      refine ⟨m, ⟨oC, esC, epC, hC7, rC⟩, fun h' sb => ⟨_, H7, I7.dH.gj (t' := s7.toks) (fp := [C]) (fun b hb => ?_) (fun b u nb e => (sb.2 b (fun z => nb (List.mem_singleton.mpr z))).trans e), q⟩⟩
      exact fpC b hb
    · refine bJ (T.item (cU X (x :: ns) scope cl fp { s2 with heap := p3 } H3 C) rfl rfl rfl hc i [] s5 _ H5 _ I5 (stat fr5) st5 go) fun r s6 ⟨u, hr, h6⟩ => ?_
      subst hr
      refine bJ h6 fun _ s7 hpat => ?_
      obtain ⟨v, H7, I7, r7, y7, st7, fr7⟩ := hpat
      have I7' := I7.pinned (stat fr7) (T.obj _ _ st7)
      have hg : PG (cU X (x :: ns) scope cl fp { s2 with heap := p3 } H3 C) (.Name x px) (fu 0) := jq (i := 0) L.nd rfl (.inl hxl) (.inr hxl)
      refine wpAny_mono (hg _ s7 (o :: cu is σ) H7 v u (fun σ' H' => σ' = some v :: cu is σ ∧ te (some v :: cu is σ) H' (fun y H4 => H4 D = some (.lst ys) ∧ ys.length < sizeLine ∧ ∃ m', m' < n ∧ W (i + 1) m' (ys ++ [y]) (upd H4 D (.lst (ys ++ [y]))))) I7' r7 ⟨rfl, step v H7 y7⟩) (fun _ s8 ⟨σ8, H8, I8, e8, q8⟩ => ?_) fun _ _ z => False.elim z
      subst e8
      refine wpAny_mono (he cl fp { s2 with heap := p3 } H3 C _ s8 _ H8 _ I8 q8) (fun uy s9 ⟨y, H9, I9, r9, hD9, hl9, m', hm', w9⟩ => ?_) fun _ _ z => False.elim z
      refine wpAny_mono (cD (X := cU X (x :: ns) scope cl fp { s2 with heap := p3 } H3 C) _ s9 _ H9 (.ref D) [y] (.ref D) [uy] (fun _ H' => H' = upd H9 D (.lst (ys ++ [y]))) I9 rfl (.cons r9 .nil) ⟨D, ys, y, rfl, rfl, hD9, hl9, rfl⟩) (fun _ s10 ⟨_, H10, I10, _, e10⟩ => ?_) fun _ _ z => False.elim z
      subst e10
      refine ⟨m', hm', i + 1, some v, ys ++ [y], _, I10.dH, T.keep _ _ _ st7 fun b hb o e => (I10.pin (b, o) (List.mem_append_right _ (List.mem_append_right _ (bQ hb e)))).1, fun b hb => ?_, w9⟩
      obtain ⟨o', e, d⟩ := T.obj _ _ st7 b hb
      exact (I10.pin (b, o') (List.mem_append_right _ (List.mem_append_right _ (bQ hb e)))).2.1
  exact codeAny_compStart_list loop (T.self X.A 0 _ _ _ st4 loop)
end
theorem rR {elt : Expr} {gs : List Comprehension} {scope : Scope} {pos py : Pos} {y : Str} {n : Nat} {env : Env} {sc : Scope} (hsc : env.scope = sc)
    (h : ((if sc.kind.isAnnotationScope then ScopeKind.function else sc.kind) == .function && sc.names.lookup y == some .local && py.line == pos.line && !(scope.names.any fun (n, k) => n == y && (k == .local || k == .cell))) = true) :
    swapsWith (.ListComp elt gs scope pos) (some (.Name y py)) n env = pure true := by
  subst hsc
  show (pure _ : Sem Bool) = pure true
  exact congrArg pure h
end L2
namespace J
open PySem PySem.Spec PyProof.Rows
open L2 (Cx V Hp St VK TE TT TA TS TG jh TI TO)
theorem AR {X : Cx} {sc : Scope} {N : List Str} {x y : Str} {px py pos spos : Pos} {it elt : Expr} {scope : Scope} {wi : TI} {te : TE} {is : List Nat} {ns : List Str} {iy : Nat} (S : L2.Slot X iy y) (hnd : X.N.Nodup) (hc : X.calm = true) (hi : JI X (.Name x px) it wi) (L : L2.wF sc N x scope is ns)
    (he : ∀ cl fp s3 H3 C, JE (L2.cU X (x :: ns) scope cl fp s3 H3 C) elt te) (hsc : X.env.scope = sc) (hN : X.N = N)
    (hw : ((if sc.kind.isAnnotationScope then ScopeKind.function else sc.kind) == .function && sc.names.lookup y == some .local && py.line == pos.line && !(scope.names.any fun (n, k) => n == y && (k == .local || k == .cell))) = true)
    (hs : ∀ x, foldedSetIterable it X.env x = pure x := by intro _; rfl) :
    JS X (.Assign [.Name y py] (.ListComp elt [⟨.Name x px, it, [], 0⟩] scope pos) spos) (L2.o7 (L2.BO wi is te) (L2.fu iy)) :=
  ⟨L2.tZ hnd S.hN S.lc S.fn (L2.rR hsc hw) hc hi.out L (fun cl fp s3 H3 C => (he cl fp s3 H3 C).out) hsc hN hs⟩
end J
namespace L2
open PySem PySem.Spec PyProof.Rows
def vL (J : It) (is : List Nat) (tc : TT) (te : TE) (σ : St) (H1 : Hp) (Q : VK) : Prop := ∀ D, H1 D = none → ∃ W : Nat → Nat → List V → Hp → Prop, (∃ m, W 0 m [] (upd H1 D (.lst []))) ∧
  ∀ i m ys H2, W i m ys H2 → H2 D = some (.lst ys) ∧ ((J.stop i H2 ∧ Q (.ref D) H2) ∨ (J.go i H2 ∧ ∀ v H3, J.yld i H2 v H3 → tc (some v :: cu is σ) H3 fun b H4 => if b = true then te (some v :: cu is σ) H4 (fun y H5 =>
    H5 D = some (.lst ys) ∧ ys.length < sizeLine ∧ ∃ m', m' < m ∧ W (i + 1) m' (ys ++ [y]) (upd H5 D (.lst (ys ++ [y])))) else ∃ m', m' < m ∧ W (i + 1) m' ys H4))
def Fp (wi : TI) (is : List Nat) (tc : TT) (te : TE) : TE := fun σ H Q => wi σ H fun J H1 => vL J is tc te σ H1 Q
section
variable {X : Cx} {x : Str} {px pos : Pos} {elt iter ct : Expr} {scope : Scope} {wi : TI} {te : TE} {tc : TT} {is : List Nat} {ns : List Str}
end
end L2
namespace J
open PySem PySem.Spec PyProof.Rows
open L2 (Cx V Hp St VK TE TT TA TS TG jh TI TO)
theorem set_list {X : Cx} : L2.vH X L2.xa := L2.set_list
theorem lM {X : Cx} {o i : Expr} {pos : Pos} {to ti : TE} {t : L2.ua} (ho : JE X o to) (hi : JE X i ti) (hs : L2.vH X t)
    (ha : ∀ v, assign (.Subscript o i pos) X.env v = (do
      let ov ← holding [v] (eval o X.env)
      let iv ← holding [v, ov] (eval i X.env)
      standAt pos
      holding [v, ov, iv] (setItem ov iv v)
      release [v, ov, iv] []) := by intro _; rfl) : JG X (.Subscript o i pos) (L2.Au to ti t) := ⟨L2.lM ho.out hi.out hs ha⟩
end J
namespace L2
open PySem PySem.Spec PyProof.Rows
section
variable {X : Cx} {pins : List (Addr × Obj)} {σ : St} {H : Hp} {s : Shared} {p : Addr} {ns : List Int}
def ig : V → V → Option Bool
  | .ref a, .ref b => if a = b then some true else none
  | x, y => if dh x = true ∧ dh y = true then some (sh x y) else none
def BU (bs : List Bool) : Bool := (List.range bs.length).all fun i => bs.getD i false
def Es (K : PySem.W.Frag) : R2 := fun x y H Q => ∃ a b xs ys bs, x = .ref a ∧ y = .ref b ∧ aE K H a xs ∧ aE K H b ys ∧ xs.length = bs.length ∧ ys.length = bs.length ∧ (∀ (i : Nat) u v c, xs[i]? = some u → ys[i]? = some v → bs[i]? = some c → ig u v = some c) ∧ Q (.bl (BU bs)) H
end
end L2
namespace J
open PySem PySem.Spec PyProof.Rows
open L2 (Cx V aE)
end J
namespace L2
open PySem PySem.Spec PyProof.Rows
section
variable {X : Cx}
inductive AI (vs : List V) (H : Hp) (Q : VK) : Prop
  | mk (j : Int) (e : vs = [.int j]) (lo : -(2 ^ 62) ≤ j) (hi : j ≤ sizeLine) (q : ∀ l, H l = none → Q (.ref l) (upd H l (.lst ((List.range j.toNat).map fun (i : Nat) => V.int (i : Int)))))
def D0 (ta : TA) : TE := fun σ H Q => ta σ H fun vs H1 => AI vs H1 Q
inductive Dd (K : PySem.W.Frag) (x y : V) (H : Hp) (Q : VK) : Prop
  | mk (a b : Addr) (xs ys : List V) (hx : x = .ref a) (hy : y = .ref b) (s : aE K H a xs) (t : aE K H b ys) (n : xs.length ≠ ys.length) (q : Q (.bl false) H)
inductive Ff (K : PySem.W.Frag) (x y : V) (H : Hp) (Q : VK) : Prop
  | mk (a b : Addr) (xs ys : List V) (bs : List Bool) (hx : x = .ref a) (hy : y = .ref b) (s : br K H a xs) (t : br K H b ys) (l1 : xs.length = bs.length) (l2 : ys.length = bs.length)
      (e : ∀ (i : Nat) u v c, xs[i]? = some u → ys[i]? = some v → bs[i]? = some c → ig u v = some c) (q : Q (.bl (BU bs)) H)
end
end L2
namespace J
open PySem PySem.Spec PyProof.Rows
open L2 (Cx V aE br)
end J
namespace L2
open PySem PySem.Spec PyProof.Rows
theorem j1 {prog : Program} {w : World} {A : Around} {R : Result → Shared → Prop} {s : Shared} {elt target iter : Expr} {cts : List Expr} {scope : Scope} {pos : Pos} {it acc : Value} {env : Env} (I : Nat → Shared → Prop)
    (turn : ∀ n s, I n s → wpAny (model prog w) A (pyNext it) (fun r s₁ => match r with
      | none => R (.ok .next) s₁
      | some v => wpAny (model prog w) A (letOwnedTupleGo target it v) (fun _ s₁' => wpAny (model prog w) A (assign target env v) (fun _ s₂ => wpAny (model prog w) A (forIn cts true fun c r => if r = true then do let ok ← isTrue c env (eval c env); pure (ForInStep.yield ok) else pure (ForInStep.yield r)) (fun ok s₂' => if ok = true then wpAny (model prog w) A (eval elt env) (fun x s₃ =>
          wpAny (model prog w) A (call (.builtin "list.append") [acc, x]) (fun _ s₄ => ∃ m, m < n ∧ I m s₄) (notedBy (model prog w) A env fun e s' => R (.error e) s') s₃)
          (notedBy (model prog w) A env fun e s' => R (.error e) s') s₂' else ∃ m, m < n ∧ I m s₂') (notedBy (model prog w) A env fun e s' => R (.error e) s') s₂) (notedBy (model prog w) A env fun e s' => R (.error e) s') s₁') (notedBy (model prog w) A env fun e s' => R (.error e) s') s₁) (notedBy (model prog w) A env fun e s' => R (.error e) s') s)
    (n : Nat) (h : I n s) :
    codeAny (model prog w) A (.compLoop (.ListComp elt [⟨target, iter, cts, 0⟩] scope pos) 0 it acc env) R s := by
  refine codeAny_loop rfl I (fun n s hI => ?_) n h
  show wpAny _ _ ((compTurn (.ListComp elt [⟨target, iter, cts, 0⟩] scope pos) 0 it acc env).onRaise (fun x => do noteFrame x env; theTreesLotGoes x)) _ _ s
  refine wpAny_noted ?_
  rw [compTurn_list]
  refine wpAny_bind (wpAny_standAt (wpAny_bind (wpAny_mono (turn n s hI) (fun r s₁ h₁ => ?_) fun _ _ h' => h')))
  cases r with
  | none => exact wpAny_pure h₁
  | some v =>
    refine wpAny_bind (wpAny_mono h₁ (fun _ s₁' h₁' => ?_) fun _ _ h' => h')
    refine wpAny_bind (wpAny_mono h₁' (fun _ s₂ h₂ => wpAny_bind (wpAny_mono h₂ (fun ok s₃ h₃ => ?_) fun _ _ h' => h')) fun _ _ h' => h')
    cases ok with
    | false => exact wpAny_pure ⟨rfl, h₃⟩
    | true =>
      exact wpAny_bind (wpAny_bind (wpAny_mono h₃ (fun x s₄ h₄ => wpAny_bind (wpAny_mono h₄ (fun _ s₅ h₅ => wpAny_pure (wpAny_pure ⟨rfl, h₅⟩)) fun _ _ h' => h')) fun _ _ h' => h'))
def C4 (X : Cx) (cts : List Expr) (t : TT) : Prop :=
  ∀ (pins : List (Addr × Obj)) (s : Shared) (σ : St) (H : Hp) (Q : Bool → Hp → Prop), Inv X pins σ H s → t σ H Q → wpAny (model X.prog X.w) X.A (forIn cts true fun c r => if r = true then do let ok ← isTrue c X.env (eval c X.env); pure (ForInStep.yield ok) else pure (ForInStep.yield r)) (TP X pins σ Q) X.xe s
def yr : TT := fun _ H Q => Q true H
theorem wD {X : Cx} : C4 X [] yr := fun _ _ _ H _ I h => wpAny_tests_nil ⟨H, I, h⟩
inductive zU (J : It) (n : Nat) (is : List Nat) (g : TG) (tc : TT) (te : TE) (σ : St) (W : Nat → Nat → List V → Hp → Prop) (D : Addr) (i m : Nat) (ys : List V) (H2 : Hp) : Prop
  | mk (go : J.go i H2) (nx : ∀ (os : St) v H3, os.length = n → J.yld i H2 v H3 → g v (os ++ cu is σ) H3 fun σ' H4 => (∃ os' : St, os'.length = n ∧ σ' = os' ++ cu is σ) ∧ tc σ' H4 fun b H5 => if b = true then te σ' H5 (fun y H6 =>
    H6 D = some (.lst ys) ∧ ys.length < sizeLine ∧ ∃ m', m' < m ∧ W (i + 1) m' (ys ++ [y]) (upd H6 D (.lst (ys ++ [y])))) else ∃ m', m' < m ∧ W (i + 1) m' ys H5)
def ji (J : It) (n : Nat) (is : List Nat) (g : TG) (tc : TT) (te : TE) (σ : St) (H1 : Hp) (Q : VK) : Prop := ∀ D, H1 D = none → ∃ W : Nat → Nat → List V → Hp → Prop, (∃ m, W 0 m [] (upd H1 D (.lst []))) ∧
  ∀ i m ys H2, W i m ys H2 → H2 D = some (.lst ys) ∧ ((J.stop i H2 ∧ Q (.ref D) H2) ∨ zU J n is g tc te σ W D i m ys H2)
def EE (wi : TI) (n : Nat) (is : List Nat) (g : TG) (tc : TT) (te : TE) : TE := fun σ H Q => wi σ H fun J H1 => ji J n is g tc te σ H1 Q
structure AN (sc : Scope) (N : List Str) (xs : List Str) (scope : Scope) (is : List Nat) (ns : List Str) : Prop where
  kind : scope.kind = .function := by rfl
  nocell : ∀ y ∈ scope.names, y.2 ≠ .cell := by decide +kernel
  names : ∀ y ∈ scope.names, y.2 = .local → scope.names.lookup y.1 = some .local := by decide +kernel
  free : ∀ y ∈ scope.names, y.2 = .free → sc.names.lookup y.1 = some .cell := by decide +kernel
  cap : ns.map some = is.map fun i => N[i]? := by rfl
  capf : ∀ y ∈ ns, scope.names.lookup y = some .free ∧ sc.names.lookup y = some .cell := by decide +kernel
section
variable {X : Cx} {xs : List Str} {tg : Expr} {pos : Pos} {elt iter : Expr} {cts : List Expr} {scope : Scope} {wi : TI} {g : TG} {tc : TT} {te : TE} {is : List Nat} {ns : List Str}
def wW (X : Cx) (pins : List (Addr × Obj)) (σ : St) (Qs : VK) (use : Option (Value → Sem Unit)) (Qv : Value → Shared → Prop) : Prop :=
  ∀ (D C : Addr) (H5 : Hp) (s6 : Shared) (m : Str → Option Value), Qs (.ref D) H5 → Inv X pins σ H5 s6 → gK X pins H5 C → s6.heap.Ns C m → compPost (model X.prog X.w) X.A X.xe use Qv (.ref D) C (.ok .next) s6
theorem qu {sc : Scope} {N : List Str} {use : Option (Value → Sem Unit)} {Qv : Value → Shared → Prop} {Gf : It → Hp → Prop} {Qs : VK} {cp : Pos} {pins : List (Addr × Obj)} {s : Shared} {σ : St} {H : Hp} (I : Inv X pins σ H s) (h : wi σ H Gf) (hG : ∀ J H1, Gf J H1 → ji J xs.length is g tc te σ H1 Qs)
    (fin : wW X pins σ Qs use Qv) (hc : X.calm = true) (hi : PI X tg iter wi) (L : AN sc N xs scope is ns) (hg : ∀ cl fp s3 H3 C, PG (cU X (xs ++ ns) scope cl fp s3 H3 C) tg g) (hct : ∀ cl fp s3 H3 C, C4 (cU X (xs ++ ns) scope cl fp s3 H3 C) cts tc) (he : ∀ cl fp s3 H3 C, Inv X pins σ H3 s3 → (∀ b ∈ fp, gK X pins H3 b) → PE (cU X (xs ++ ns) scope cl fp s3 H3 C) elt te)
    (hsc : X.env.scope = sc) (hN : X.N = N) (hs : ∀ x, foldedSetIterable iter X.env x = pure x) :
    wpAny (model X.prog X.w) X.A (comprehension (.ListComp elt [⟨tg, iter, cts, 0⟩] scope pos) scope X.env cp (newList []) false (eval iter X.env) use) Qv X.xe s := by
  subst hsc hN
  obtain ⟨cl, hcl, cl1, cl2⟩ := jH (env := X.env) (scope := scope) (fun y hy hf => I.ok.has y.1 (.inl (L.free y hy hf)))
  refine wpAny_comprehension_free rfl hs hcl L.kind L.names (bJ (hi pins s σ H _ I h) fun v s1 h1 => bJ h1 fun itv s2 h2 => ?_)
  obtain ⟨it, fp, tn, J, H2, e, I2, T, st2, f2, h2⟩ := h2
  subst e
  refine wpAny_newObj_type (wpAny_newFunctionEnv L.nocell (by intro y hy; simp at hy) (fun h₁ hns₁ hsb₁ => ?_) L.kind)
  have hD : H2 s2.heap.objs.size = none := I2.hok.fresh (Nat.le_refl _)
  have I3 : Inv X pins σ (upd H2 s2.heap.objs.size (.lst [])) { s2 with heap := s2.heap.push { cls := .type "list", dict := none, data := .seq ([] : List Value).toArray } } :=
    I2.laid (t' := s2.toks) (fun b u e => Heap.get?_push_of_some _ e) (Nat.le_refl _) ⟨Nat.zero_le _, [], 0, .nil, Heap.get?_push_size _ rfl⟩
  have kp23 : ∀ b u, s2.heap.get? b = some u → (s2.heap.push { cls := .type "list", dict := none, data := .seq ([] : List Value).toArray }).get? b = some u := fun b u e => Heap.get?_push_of_some _ e
  obtain ⟨W, ⟨m0, w0⟩, turn⟩ := hG J H2 h2 s2.heap.objs.size hD
  dsimp only at hns₁ hsb₁ ⊢
  generalize hD0 : s2.heap.objs.size = D at *
  generalize hp3 : s2.heap.push { cls := .type "list", dict := none, data := .seq ([] : List Value).toArray } = p3 at *
  generalize hH3 : upd H2 D (.lst []) = H3 at *
  have fpD : ∀ b ∈ fp, b ≠ D := fun b hb => by
    obtain ⟨o, e, _⟩ := T.obj 0 s2.heap st2 b hb
    rw [← hD0]
    exact Nat.ne_of_lt (Heap.lt_size e)
  have fp3 : ∀ b ∈ fp, gK X pins H3 b := fun b hb => ⟨by rw [← hH3, aq (fpD b hb)]; exact (f2 b hb).1, (f2 b hb).2⟩
  have st3 : tn 0 p3 := T.keep 0 s2.heap p3 st2 fun b _ o e => kp23 b o e
  have fplt : ∀ b ∈ fp, b < p3.objs.size := fun b hb => by
    obtain ⟨o, e, _⟩ := T.obj 0 p3 st3 b hb
    exact Heap.lt_size e
  have old : ∀ b u, p3.get? b = some u → h₁.get? b = some u := fun b u e => hsb₁.extBut b u (Nat.ne_of_lt (Heap.lt_size e)) (Heap.get?_push_of_some _ e)
  generalize hC : p3.objs.size = C at *
  have hfree : ∀ b ∈ fp, H3 b = none := fun b hb => (fp3 b hb).1
  have okX : (cU X (xs ++ ns) scope cl fp { s2 with heap := p3 } H3 C).Ok := by
    refine ⟨I.ok.mod, L.kind, I.ok.glob, I.ok.blt, Nat.le_of_eq hC, fun y z c e1 e2 => I.ok.inj y z c (cl1 y c e1) (cl1 z c e2), fun y hy => ?_, fun _ _ z => (by cases z), I.ok.hd, I.ok.frames, .inl rfl, fun b hb => ⟨Nat.ne_of_lt (fplt b hb), fun y c e => (fp3 b hb).2.2.2.2.1 y c (cl1 y c e)⟩, I3.bs, Nat.le_trans I3.ok.bsz I3.sz, fun b o e hb => ?_, fun b hb z => ?_, I3.stack, I3.dX⟩
    · have hm : (y, NameKind.free) ∈ scope.names := by
        rcases hy with hy | hy
        · exact dA hy (.inl rfl) L.nocell
        · exact dA hy (.inr rfl) L.nocell
      obtain ⟨c, hc'⟩ := I.ok.has y (.inl (L.free _ hm rfl))
      exact ⟨c, (cl2 _ hm rfl).trans hc'⟩
    · rcases (fp3 b hb).2.2.2.1 with z | z
      · exact I.ok.noex b o e z
      · exact absurd (Nat.lt_of_lt_of_le (Heap.lt_size e) (Nat.le_trans I.ok.bsz z)) (Nat.lt_irrefl _)
    · exact (List.mem_cons.mp (I3.lJ b z)).elim (fp3 b hb).2.1 (fp3 b hb).2.2.1
  have hlen : (cu is σ).length = ns.length := by
    have := congrArg List.length L.cap
    rw [List.length_map, List.length_map] at this
    rw [cu, List.length_map]
    exact this.symm
  have rl : (List.replicate xs.length (none : Option V)).length = xs.length := List.length_replicate ..
  have I4 : Inv (cU X (xs ++ ns) scope cl fp { s2 with heap := p3 } H3 C) [] (List.replicate xs.length none ++ cu is σ) H3 { s2 with heap := h₁, toks := s2.toks + 0 } := by
    refine ⟨okX, rfl, I3.bare, Un.kept old, ⟨_, hns₁, fun i y v e1 e2 e3 => ?_⟩, fun y c e => ?_, ?_, fun y c e => I3.freeC y c (cl1 y c e), fun p hp => absurd (show p ∈ ([] : List (Addr × Obj)) from hp) (by simp), I3.hok.kept old, by show (List.replicate xs.length none ++ cu is σ).length = (xs ++ ns).length; rw [List.length_append, List.length_append, hlen, rl]⟩
    · have e1 : (xs ++ ns)[i]? = some y := e1
      by_cases hi : i < xs.length
      · rw [List.getElem?_append_left (by rw [rl]; exact hi), List.getElem?_replicate, if_pos hi] at e2
        cases e2
      · rw [List.getElem?_append_right (by rw [rl]; omega), rl] at e2
        rw [List.getElem?_append_right (by omega)] at e1
        generalize i - xs.length = j at e1 e2
        have e1' : ns[j]? = some y := e1
        have e2' : (cu is σ)[j]? = some (some v) := e2
        have hy := L.capf y (List.mem_of_getElem? e1')
        have hcap : (ns.map some)[j]? = (is.map fun i => X.N[i]?)[j]? := by rw [L.cap]
        rw [List.getElem?_map, List.getElem?_map, e1'] at hcap
        rw [cu, List.getElem?_map] at e2'
        cases hk : is[j]? with
        | none => rw [hk] at e2'; cases e2'
        | some k =>
          rw [hk] at hcap e2'
          have hN : X.N[k]? = some y := (Option.some.inj hcap).symm
          have hσ : σ[k]? = some (some v) := by
            have q : (σ[k]?).join = some v := Option.some.inj e2'
            cases z : σ[k]? with
            | none => rw [z] at q; cases q
            | some o => rw [z] at q; exact congrArg some q
          obtain ⟨m, hn, hl⟩ := I3.loc
          obtain ⟨u, r, l⟩ := hl k y v hN hσ (.inr (.inl hy.2))
          refine ⟨u, r, ?_⟩
          rcases l with ⟨hk', _⟩ | ⟨hk', c, ec, o, ho, hd⟩
          · have hk2 : X.env.scope.names.lookup y = some .local := hk'
            rw [hy.2] at hk2; cases hk2
          · exact .inr ⟨.inl (eY I.ok.kind hy.1 hy.2), c, (cl2 _ (PySem.mem_of_lookup hy.1) rfl).trans ec, o, old c o ho, hd⟩
    · obtain ⟨v, o, ho, hd⟩ := I3.cell y c (cl1 y c e)
      exact ⟨v, o, old c o ho, hd⟩
    · show H3 C = none
      rw [← hC]
      exact I3.hok.fresh (Nat.le_refl _)
  have st4 : tn 0 h₁ := T.keep 0 p3 h₁ st3 fun b _ o e => old b o e
  have stat : ∀ {H' : Hp}, (∀ b ∈ fp, H' b = none) → ∀ b ∈ fp, gK (cU X (xs ++ ns) scope cl fp { s2 with heap := p3 } H3 C) [] H' b := fun {H'} hn b hb =>
    ⟨hn b hb, Nat.ne_of_lt (fplt b hb), okX.exfs b hb, .inl hb, fun y c e => (fp3 b hb).2.2.2.2.1 y c (cl1 y c e), fun p hp => absurd (show p ∈ ([] : List (Addr × Obj)) from hp) (by simp)⟩
  have loop : codeAny (model X.prog X.w) X.A (.compLoop (.ListComp elt [⟨tg, iter, cts, 0⟩] scope pos) 0 (.ref it) (.ref D) (compEnvC scope cl C X.env))
      (compPost (model X.prog X.w) X.A X.xe use Qv (.ref D) C) { s2 with heap := h₁, toks := s2.toks + 0 } := by
    refine j1 (fun n s' => ∃ i os ys H', os.length = xs.length ∧ Inv (cU X (xs ++ ns) scope cl fp { s2 with heap := p3 } H3 C) [] (os ++ cu is σ) H' s' ∧ tn i s'.heap ∧ (∀ b ∈ fp, H' b = none) ∧ W i n ys H') ?_ m0 ⟨0, List.replicate xs.length none, [], H3, rl, I4, st4, hfree, w0⟩
    rintro n s5 ⟨i, os, ys, H5, hos, I5, st5, fr5, w5⟩
    obtain ⟨hD5, ⟨stop, q⟩ | ⟨go, step⟩⟩ := turn i n ys H5 w5
    · refine bJ (T.done (cU X (xs ++ ns) scope cl fp { s2 with heap := p3 } H3 C) rfl rfl rfl hc i [] s5 _ H5 _ I5 (stat fr5) st5 stop) fun r s6 ⟨hr, I6⟩ => ?_
      subst hr
      obtain ⟨m, hn, _⟩ := id I6.loc
      have neC : ∀ b o, p3.get? b = some o → b ≠ C := fun b o e => by rw [← hC]; exact Nat.ne_of_lt (Heap.lt_size e)
      have fC : H5 C = none := I6.free
      have I6X : Inv X pins σ H5 s6 := by
        refine I3.nX (s' := s6) (ch := fp) I6.os ⟨fun b o e nn hb hx => ?_, fun b o e nn hb hx => ?_, I6.base.free, fun b o e hx => ?_, I6.base.tups, I6.base.frzs, I6.base.tbls⟩ (fun b ob e => I6.hok b ob e) I6.bare fun b hb => ⟨(fp3 b hb).2.2.2.1, (fp3 b hb).2.1, (fp3 b hb).2.2.2.2.1, (fp3 b hb).2.2.2.2.2⟩
        · exact I6.base.keep b o e nn hb hx
        · exact I6.base.slot b o e nn hb hx
        · exact I6.base.there b o e hx
      exact fin D C H5 s6 m q I6X (I3.mW (Nat.le_of_eq hC) fC) hn
    · refine bJ (T.item (cU X (xs ++ ns) scope cl fp { s2 with heap := p3 } H3 C) rfl rfl rfl hc i [] s5 _ H5 _ I5 (stat fr5) st5 go) fun r s6 ⟨u, hr, h6⟩ => ?_
      subst hr
      refine bJ h6 fun _ s7 hpat => ?_
      obtain ⟨v, H7, I7, r7, y7, st7, fr7⟩ := hpat
      have I7' := I7.pinned (stat fr7) (T.obj _ _ st7)
      refine wpAny_mono (hg cl fp { s2 with heap := p3 } H3 C _ s7 (os ++ cu is σ) H7 v u _ I7' r7 (step os v H7 hos y7)) (fun _ s8 ⟨σ8, H8, I8, ⟨os', hos', e8⟩, q8⟩ => ?_) fun _ _ z => False.elim z
      subst e8
      refine wpAny_mono (hct cl fp { s2 with heap := p3 } H3 C _ s8 _ H8 _ I8 q8) (fun bb sb ⟨Hb, Ib, qb⟩ => ?_) fun _ _ z => False.elim z
      cases bb with
      | false =>
        rw [if_neg Bool.false_ne_true] at qb
        rw [if_neg Bool.false_ne_true]
        obtain ⟨m', hm', w9⟩ := qb
        refine ⟨m', hm', i + 1, os', ys, _, hos', Ib.dH, T.keep _ _ _ st7 fun b hb o e => (Ib.pin (b, o) (List.mem_append_right _ (List.mem_append_right _ (bQ hb e)))).1, fun b hb => ?_, w9⟩
        obtain ⟨o', e, d⟩ := T.obj _ _ st7 b hb
        exact (Ib.pin (b, o') (List.mem_append_right _ (List.mem_append_right _ (bQ hb e)))).2.1
      | true =>
        rw [if_pos rfl] at qb
        rw [if_pos rfl]
        refine wpAny_mono (he cl fp { s2 with heap := p3 } H3 C I3 fp3 _ sb _ Hb _ Ib qb) (fun uy s9 ⟨y, H9, I9, r9, hD9, hl9, m', hm', w9⟩ => ?_) fun _ _ z => False.elim z
        refine wpAny_mono (cD (X := cU X (xs ++ ns) scope cl fp { s2 with heap := p3 } H3 C) _ s9 _ H9 (.ref D) [y] (.ref D) [uy] (fun _ H' => H' = upd H9 D (.lst (ys ++ [y]))) I9 rfl (.cons r9 .nil) ⟨D, ys, y, rfl, rfl, hD9, hl9, rfl⟩) (fun _ s10 ⟨_, H10, I10, _, e10⟩ => ?_) fun _ _ z => False.elim z
        subst e10
        refine ⟨m', hm', i + 1, os', ys ++ [y], _, hos', I10.dH, T.keep _ _ _ st7 fun b hb o e => (I10.pin (b, o) (List.mem_append_right _ (List.mem_append_right _ (bQ hb e)))).1, fun b hb => ?_, w9⟩
        obtain ⟨o', e, d⟩ := T.obj _ _ st7 b hb
        exact (I10.pin (b, o') (List.mem_append_right _ (List.mem_append_right _ (bQ hb e)))).2.1
  exact codeAny_compStart_list loop (T.self X.A 0 _ _ _ st4 loop)
theorem qB {pins : List (Addr × Obj)} {σ : St} {Q : VK} : wW X pins σ Q none (EP X pins σ Q) := by
  intro D C H5 s6 m q I6 fC hn
  refine ⟨m, hn, fun h' sb => ⟨.ref D, H5, I6.gj (t' := s6.toks) (fp := [C]) (fun b hb => ?_) (fun b u nb e => (sb.2 b (fun z => nb (List.mem_singleton.mpr z))).trans e), rfl, q⟩⟩
  rw [List.mem_singleton] at hb
  subst hb
  exact fC
theorem zL {J : It} {te : TE} {is : List Nat} {σ : St} {H1 : Hp} {Q : VK} (h : fh J is te σ H1 Q) : ji J 1 is (fu 0) yr te σ H1 Q := by
  intro D hD
  obtain ⟨W, w0, k⟩ := h D hD
  refine ⟨W, w0, fun i m ys H2 w => ?_⟩
  obtain ⟨e, z | ⟨go, nx⟩⟩ := k i m ys H2 w
  · exact ⟨e, .inl z⟩
  · refine ⟨e, .inr ⟨go, fun os v H3 hos y => ?_⟩⟩
    match os, hos with
    | [o], _ => exact ⟨⟨[some v], rfl, rfl⟩, cv (B := ∃ m', m' < m ∧ W (i + 1) m' ys H3) (nx v H3 y)⟩
theorem et {sc : Scope} {N : List Str} {x : Str} {px : Pos} (hc : X.calm = true) (hi : PI X (.Name x px) iter wi) (L : wF sc N x scope is ns) (he : ∀ cl fp s3 H3 C, PE (cU X (x :: ns) scope cl fp s3 H3 C) elt te)
    (hsc : X.env.scope = sc := by rfl) (hN : X.N = N := by rfl) (hs : ∀ x, foldedSetIterable iter X.env x = pure x := by intro _; rfl) : PE X (.ListComp elt [⟨.Name x px, iter, [], 0⟩] scope pos) (BO wi is te) := by
  intro pins s σ H Q I h
  rw [eval_ListComp]
  exact qu (xs := [x]) (g := fu 0) (tc := yr) I h (fun _ _ z => zL z) qB hc hi ⟨L.kind, L.nocell, L.names, L.free, L.cap, L.capf⟩ (fun _ _ _ _ _ => jq (i := 0) L.nd rfl (.inl (lookup_relabel_local L.hx)) (.inr (lookup_relabel_local L.hx))) (fun _ _ _ _ _ => wD) (fun cl fp s3 H3 C _ _ => he cl fp s3 H3 C) hsc hN hs
end
section
variable {K : PySem.W.Frag} {n : Nat} {is : List Nat} {g : TG} {tc : TT} {te : TE} {σ : St} {H : Hp} {Q : VK}
end
section
variable {X : Cx}
end
end L2
namespace J
open PySem PySem.Spec PyProof.Rows
open L2 (Cx V Hp St VK TE TT TA TS TG jh TI TO aE)
structure Gu (X : Cx) (cts : List Expr) (t : TT) : Prop where
  out : L2.C4 X cts t
section
variable {X : Cx} {x y : Str} {xs ns : List Str} {scope : Scope} {cl : List (Str × Addr)} {fp : List Addr} {s3 : Shared} {H3 : Hp} {C : Addr} {p pos spos py : Pos} {ct tg it elt : Expr} {cts : List Expr} {tc : TT} {te : TE} {wi : TI} {g : TG} {is : List Nat} {sc : Scope} {N : List Str} {iy : Nat}
theorem et {x : Str} {px : Pos} (hc : X.calm = true) (hi : JI X (.Name x px) it wi) (L : L2.wF sc N x scope is ns) (he : ∀ cl fp s3 H3 C, JE (L2.cU X (x :: ns) scope cl fp s3 H3 C) elt te) (hsc : X.env.scope = sc) (hN : X.N = N) (hs : ∀ x, foldedSetIterable it X.env x = pure x := by intro _; rfl) :
    JE X (.ListComp elt [⟨.Name x px, it, [], 0⟩] scope pos) (L2.BO wi is te) := ⟨L2.et hc hi.out L (fun cl fp s3 H3 C => (he cl fp s3 H3 C).out) hsc hN hs⟩
end
end J
namespace L2
open PySem PySem.Spec PyProof.Rows
section
variable {κ : Type} [DecidableEq κ]
def rA (kvs : List (κ × V)) (k : κ) : Option V := (kvs.find? fun kv => decide (kv.1 = k)).map (·.2)
def putK (kvs : List (κ × V)) (k : κ) (v : V) : List (κ × V) :=
  if (kvs.any fun kv => decide (kv.1 = k)) = true then kvs.map (fun kv => if kv.1 = k then (kv.1, v) else kv) else kvs ++ [(k, v)]
def ue (kvs : List (κ × V)) (k : κ) : List (κ × V) := kvs.filter fun kv => decide (kv.1 ≠ k)
end
abbrev KT (H : Hp) : List (List Key × V) → List (List Key × Addr × Value) → Prop := Paired fun p q => p.1 = q.1 ∧ H q.2.1 = some (.tup (p.1.map kV)) ∧ RelV p.2 q.2.2
section
variable {P : Program} {w : World} {H : Hp} {h : Heap} {a : Addr}
end
def qA (H : Hp) (a : Addr) (y : V) (r : Option V) : Prop :=
  (∃ kvs k, Rd H a (.dK kvs) ∧ y = kV k ∧ r = rA kvs k) ∨ ∃ kvs k b, Rd H a (.dT kvs) ∧ y = .ref b ∧ H b = some (.tup (k.map kV)) ∧ r = rA kvs k
def Bi (H : Hp) (a : Addr) (y v : V) (H' : Hp) : Prop :=
  (∃ kvs k, H a = some (.dK kvs) ∧ y = kV k ∧ kvs.length < sizeLine ∧ H' = upd H a (.dK (putK kvs k v))) ∨
  ∃ kvs k b, H a = some (.dT kvs) ∧ y = .ref b ∧ H b = some (.tup (k.map kV)) ∧ kvs.length < sizeLine ∧ H' = upd H a (.dT (putK kvs k v))
section
variable {X : Cx} {pins : List (Addr × Obj)} {σ : St} {H : Hp} {s : Shared} {a : Addr} {y v : V} {u r : Value} {o : Option V} {A : Around} {E : Value → Shared → Prop}
end
section
variable {X : Cx} {pins : List (Addr × Obj)} {σ : St} {H : Hp} {s : Shared} {a : Addr} {kvs : List (Key × V)} {k : Key} {u : Value} {A : Around} {E : Value → Shared → Prop}
end
def Ez (i : Expr) : Prop := ∀ ov iv, subscripted i false ov iv = operate [ov, iv] (getItem ov iv)
def DA (td ty : TE) : TE := fun σ H Q => td σ H fun x H1 => ty σ H1 fun y H2 => ∃ a v, x = .ref a ∧ qA H2 a y (some v) ∧ Q v H2
def Fi (ty td : TE) : TE := fun σ H Q => ty σ H fun y H1 => td σ H1 fun x H2 => ∃ a o, x = .ref a ∧ qA H2 a y o ∧ Q (.bl o.isSome) H2
def BA (ty td : TE) : TE := fun σ H Q => ty σ H fun y H1 => td σ H1 fun x H2 => ∃ a o, x = .ref a ∧ qA H2 a y o ∧ Q (.bl (!o.isSome)) H2
def Eh (td ty tv : TE) : TS := fun D σ H => tv σ H fun v H1 => td σ H1 fun x H2 => ty σ H2 fun y H3 => ∃ a H4, x = .ref a ∧ Bi H3 a y v H4 ∧ D.nx σ H4
def DS (td ty tv : TE) (rd : V → V → Hp → VK → Prop) : TS := fun D σ H => td σ H fun x H1 => ty σ H1 fun y H2 => ∃ a v, x = .ref a ∧ qA H2 a y (some v) ∧
  tv σ H2 fun y2 H3 => rd v y2 H3 fun z H4 => ∃ H5, Bi H4 a y z H5 ∧ D.nx σ H5
def D4 (td ty : TE) : TS := fun D σ H => td σ H fun x H1 => ty σ H1 fun y H2 => ∃ a kvs k, x = .ref a ∧ H2 a = some (.dK kvs) ∧ y = kV k ∧ (rA kvs k).isSome = true ∧ D.nx σ (upd H2 a (.dK (ue kvs k)))
section
variable {X : Cx} {o i e value : Expr} {pos pos' tpos : Pos} {td ty tv : TE}
end
def CZ : TE := fun _ H Q => ∀ p, H p = none → Q (.ref p) (upd H p (.dK []))
def Ds : TE := fun _ H Q => ∀ p, H p = none → Q (.ref p) (upd H p (.dT []))
section
variable {X : Cx} {pos : Pos}
end
def o4 : List (TE × TE) → St → Hp → (List (V × V) → Hp → Prop) → Prop
  | [], _, H, Q => Q [] H
  | (tk, tv) :: r, σ, H, Q => tk σ H fun x H1 => tv σ H1 fun y H2 => o4 r σ H2 fun ps H3 => Q ((x, y) :: ps) H3
abbrev VV : List (V × V) → List (Value × Value) → Prop := Paired fun p q => RelV p.1 q.1 ∧ RelV p.2 q.2
def Gj (X : Cx) (pos : Pos) (keys : List (Option Expr)) (values : List Expr) (trs : List (TE × TE)) : Prop :=
  ∀ (pins : List (Addr × Obj)) (s : Shared) (σ : St) (H : Hp) (Q : List (V × V) → Hp → Prop), Inv X pins σ H s → o4 trs σ H Q →
    wpAny (model X.prog X.w) X.A (evalPairs (pairTrees keys values X.env pos)) (fun vs s' => ∃ ps H', Inv X pins σ H' s' ∧ VV ps vs ∧ Q ps H') X.xe s
def ug (kvs more : List (Key × V)) : List (Key × V) := more.foldl (fun acc kv => putK acc kv.1 kv.2) kvs
def DZ (trs : List (TE × TE)) : TE := fun σ H Q => ∀ p, H p = none → o4 trs σ (upd H p (.dK [])) fun ps H2 => H2 p = some (.dK []) ∧ ∃ kvs : List (Key × V), ps = kvs.map (fun kv => (kV kv.1, kv.2)) ∧ kvs.length ≤ 15 ∧ Q (.ref p) (upd H2 p (.dK (ug [] kvs)))
structure M1 (X : Cx) (o : Expr) (m : Str) (apos : Pos) (e : Expr) (cpos : Pos) : Prop where
  base : attributeBase o m X.env (eval o X.env) = eval o X.env
  C0 : ((backTo cpos (starEach [e] X.env)).all (fun x => !x.1) && (backToKw cpos (keywordEach [] X.env)).all (fun x => x.1.isSome)
    && decide (([e] : List Expr).length + ([] : List Keyword).length + (if ([] : List Keyword).isEmpty then 0 else 1) < 30)) = true
  line : (apos.endLine == cpos.line) = true
  trees : backTo cpos (starEach [e] X.env) = [(false, eval e X.env)]
structure M2 (X : Cx) (o : Expr) (m : Str) (apos : Pos) (e f : Expr) (cpos : Pos) : Prop where
  base : attributeBase o m X.env (eval o X.env) = eval o X.env
  C0 : ((backTo cpos (starEach [e, f] X.env)).all (fun x => !x.1) && (backToKw cpos (keywordEach [] X.env)).all (fun x => x.1.isSome)
    && decide (([e, f] : List Expr).length + ([] : List Keyword).length + (if ([] : List Keyword).isEmpty then 0 else 1) < 30)) = true
  line : (apos.endLine == cpos.line) = true
  trees : backTo cpos (starEach [e, f] X.env) = [(false, eval e X.env), (false, eval f X.env)]
def BP (H : Hp) (a : Addr) : Prop := (∃ kvs, Rd H a (.dK kvs)) ∨ ∃ kvs, Rd H a (.dT kvs)
section
variable {X : Cx} {pins : List (Addr × Obj)} {σ : St} {H : Hp} {s : Shared} {a : Addr} {y d : V} {u r : Value} {o : Option V} {A : Around} {E : Value → Shared → Prop}
end
def CS (td ty : TE) : TE := fun σ H Q => td σ H fun x H1 => ∃ a, x = .ref a ∧ BP H1 a ∧ ty σ H1 fun y H2 => ∃ o, qA H2 a y o ∧ Q (o.getD .non) H2
def B1 (td ty tx : TE) : TE := fun σ H Q => td σ H fun x H1 => ∃ a, x = .ref a ∧ BP H1 a ∧ ty σ H1 fun y H2 => tx σ H2 fun z H3 => ∃ o, qA H3 a y o ∧ Q (o.getD z) H3
def Cs (td ty : TE) : TE := fun σ H Q => td σ H fun x H1 => ∃ a, x = .ref a ∧ BP H1 a ∧ ty σ H1 fun y H2 => ∃ kvs k v, H2 a = some (.dK kvs) ∧ y = kV k ∧ rA kvs k = some v ∧ Q v (upd H2 a (.dK (ue kvs k)))
def Cc (td ty tx : TE) : TE := fun σ H Q => td σ H fun x H1 => ∃ a, x = .ref a ∧ BP H1 a ∧ ty σ H1 fun y H2 => tx σ H2 fun z H3 => ∃ kvs k, H3 a = some (.dK kvs) ∧ y = kV k ∧
  (∀ v, rA kvs k = some v → Q v (upd H3 a (.dK (ue kvs k)))) ∧ (rA kvs k = none → Q z H3)
section
variable {X : Cx} {o e f : Expr} {apos cpos : Pos} {td ty tx : TE}
end
section
variable {X : Cx} {pins : List (Addr × Obj)} {σ : St} {H : Hp} {s : Shared} {a : Addr} {kvs : List (Key × V)} {A : Around} {E : Value → Shared → Prop}
end
section
variable {X : Cx} {pins : List (Addr × Obj)} {σ : St} {H : Hp} {s : Shared} {a : Addr} {y : V} {u : Value} {A : Around} {E : Value → Shared → Prop}
end
end L2
namespace L2
open PySem PySem.Spec PyProof.Rows
section
variable {X : Cx} {y m : Str} {N' : List Str} {scope : Scope} {cl : List (Str × Addr)} {fp : List Addr} {s3 : Shared} {H3 : Hp} {C D : Addr} {sp : Sp}
end
def DB (zs xs : List V) : Bool := (List.range (min zs.length xs.length)).all (fun i => sh (zs.getD i .non) (xs.getD i .non)) && zs.length == xs.length
def Cm (H : Hp) (xs : List V) (v : V) : Bool := match v with
  | .ref c => match H c with
    | some (.tup zs) => DB zs xs
    | _ => false
  | _ => false
inductive Fg (K : PySem.W.Frag) (x y : V) (H : Hp) (Q : VK) : Prop
  | mk (a b : Addr) (xs ys : List V) (hx : x = .ref a) (hy : y = .ref b) (s : H a = some (.tup xs)) (t : aE K H b ys) (f : xs.all dh = true) (g : ∀ v ∈ ys, ∃ c zs, v = .ref c ∧ H c = some (.tup zs) ∧ zs.all dh = true) (q : Q (.bl (ys.any (Cm H xs))) H)
def Gb (H : Hp) (xs : List V) (u : Value) : Bool := match u with
  | .ref c => Cm H xs (.ref c)
  | _ => false
end L2
namespace J
open PySem PySem.Spec PyProof.Rows
open L2 (Cx V Hp St VK TE TT TA TS TG jh TI TO aE br)
section
variable {X : Cx} {N' : List Str} {scope : Scope} {cl : List (Str × Addr)} {fp : List Addr} {s3 : Shared} {H3 : Hp} {C : Addr} {o i e value : Expr} {es : List Expr} {pos pos' : Pos} {td ty tv : TE}
end
end J
namespace L2
open PySem PySem.Spec PyProof.Rows
section
variable {X : Cx}
inductive DI (x y : V) (H : Hp) (Q : VK) : Prop
  | mk (a b : Addr) (xs ys : List V) (hx : x = .ref a) (hy : y = .ref b) (s : H a = some (.tup xs)) (t : H b = some (.tup ys)) (f : xs.all dh = true) (g : ys.all dh = true) (q : Q (.bl (DB xs ys)) H)
inductive Em (x y : V) (H : Hp) (Q : VK) : Prop
  | mk (z : Str) (n : Int) (hx : x = .str z) (hy : y = .int n) (n01 : n = 0 ∨ n = 1) (q : Q (.str (Txt.mul z n)) H)
end
end L2
namespace J
open PySem PySem.Spec PyProof.Rows
open L2 (Cx V Hp St VK TE TT TA TS TG jh TI TO)
section
variable {X : Cx} {o e f c : Expr} {body : List Stmt} {apos cpos pos : Pos} {td ty tx : TE} {tc : TT} {tb : TS}
end
end J
namespace L2
open PySem PySem.Spec PyProof.Rows
section
variable {X : Cx}
inductive Fx (K : PySem.W.Frag) (xs : List V) (H : Hp) (Q : VK) : Prop
  | mk (p : Addr) (zs : List Str) (e : xs = [.ref p]) (s : aE K H p (zs.map V.str)) (l : zs.length < 64) (q : ∀ l zs', H l = none → zs'.Perm zs → sortedS zs' = true → Q (.ref l) (upd H l (.lst (zs'.map V.str))))
inductive ED (K : PySem.W.Frag) (x y : V) (H : Hp) (Q : VK) : Prop
  | same (a b : Addr) (xs ys : List V) (bs : List Bool) (hx : x = .ref a) (hy : y = .ref b) (s : aE K H a xs) (t : aE K H b ys) (l1 : xs.length = bs.length) (l2 : ys.length = bs.length) (e : ∀ (i : Nat) u v c, xs[i]? = some u → ys[i]? = some v → bs[i]? = some c → ig u v = some c) (q : Q (.bl (!(BU bs))) H)
  | other (a b : Addr) (xs ys : List V) (hx : x = .ref a) (hy : y = .ref b) (s : aE K H a xs) (t : aE K H b ys) (n : xs.length ≠ ys.length) (q : Q (.bl true) H)
end
section
variable {prog : Program} {w : World} {A : Around} {E : Value → Shared → Prop} {s : Shared}
end
section
variable {prog : Program} {w : World} {A : Around} {R : Result → Shared → Prop} {I : Addr} {fp wr : List Addr} {G : Array GenState → Array GenState → Prop} {n : Nat} {P : Nat → Value → Prop} {St : Nat → Shared → Prop}
end
section
variable {prog : Program} {w : World} {A : Around} {E : Value → Shared → Prop} {s : Shared}
end
section
variable {X : Cx}
inductive E9 (K : PySem.W.Frag) (vs : List V) (H : Hp) (Q : VK) : Prop
  | mk (p : Addr) (xs : List V) (kvs : List (Key × V)) (e : vs = [.ref p]) (s : aE K H p xs) (l : xs.length = kvs.length) (t : ∀ (i : Nat) x kv, xs[i]? = some x → kvs[i]? = some kv → ∃ a, x = .ref a ∧ H a = some (.tup [kV kv.1, kv.2])) (q : ∀ d, H d = none → Q (.ref d) (upd H d (.dK (ug [] kvs))))
end
section
variable {prog : Program} {w : World} {A : Around} {E : Value → Shared → Prop} {s : Shared}
end
section
variable {X : Cx}
inductive Ag (K : PySem.W.Frag) (vs : List V) (H : Hp) (Q : VK) : Prop
  | mk (p : Addr) (xs : List V) (e : vs = [.ref p]) (s : aE K H p xs) (q : ∀ l, H l = none → Q (.ref l) (upd H l (.lst xs.reverse)))
def DD (K : PySem.W.Frag) (ta : TA) : TE := fun σ H Q => ta σ H fun vs H1 => Ag K vs H1 Q
end
end L2
namespace J
open PySem PySem.Spec PyProof.Rows
open L2 (Cx V aE br)
end J
namespace L2
open PySem PySem.Spec PyProof.Rows
section
variable {X : Cx}
inductive Fm (K : PySem.W.Frag) (x y : V) (H : Hp) (Q : VK) : Prop
  | same (a b : Addr) (xs ys : List V) (bs : List Bool) (hx : x = .ref a) (hy : y = .ref b) (s : aE K H a xs) (t : aE K H b ys) (l1 : xs.length = bs.length) (l2 : ys.length = bs.length) (e : ∀ (i : Nat) u v c, xs[i]? = some u → ys[i]? = some v → bs[i]? = some c → ig u v = some c) (q : Q (.bl (BU bs)) H)
  | other (a b : Addr) (xs ys : List V) (hx : x = .ref a) (hy : y = .ref b) (s : aE K H a xs) (t : aE K H b ys) (n : xs.length ≠ ys.length) (q : Q (.bl false) H)
inductive D6 (K : PySem.W.Frag) (x y : V) (H : Hp) (Q : VK) : Prop
  | mk (a b : Addr) (xs ys : List V) (hx : x = .ref a) (hy : y = .ref b) (s : H a = some (.tup xs)) (t : aE K H b ys) (f : xs.all dh = true) (g : ∀ v ∈ ys, ∃ c zs, v = .ref c ∧ H c = some (.tup zs) ∧ zs.all dh = true) (q : Q (.bl (!(ys.any (Cm H xs)))) H)
inductive za (K : PySem.W.Frag) (x : V) (st : Option Int) (H : Hp) (Q : VK) : Prop
  | mk (a : Addr) (xs : List V) (hx : x = .ref a) (hst : st = some (-1)) (s : aE K H a xs) (q : ∀ p ys, H p = none → ys.length ≤ xs.length → (∀ v ∈ ys, v ∈ xs) → Q (.ref p) (upd H p (.lst ys)))
def Dj (K : PySem.W.Frag) (te : TE) (ts : TO) : TE := fun σ H Q => te σ H fun x H1 => ts σ H1 fun st H2 => za K x st H2 Q
end
section
variable {prog : Program} {w : World} {A : Around} {R : Result → Shared → Prop} {I : Addr} {fp wr : List Addr} {G : Array GenState → Array GenState → Prop} {n : Nat} {P : Nat → Value → Prop} {St : Nat → Shared → Prop}
def Bu (xs ps : List (List Key × Addr × Value)) : List (List Key × Addr × Value) := ps.foldl (fun acc q => storedH acc q.1 q.2.1 q.2.2) xs
end
section
variable {prog : Program} {w : World} {A : Around} {E : Value → Shared → Prop} {s : Shared}
end
def zu (kvs more : List (List Key × V)) : List (List Key × V) := more.foldl (fun acc kv => putK acc kv.1 kv.2) kvs
section
variable {X : Cx}
inductive Eb (K : PySem.W.Frag) (vs : List V) (H : Hp) (Q : VK) : Prop
  | mk (p : Addr) (xs : List V) (kvs : List (List Key × V)) (e : vs = [.ref p]) (s : aE K H p xs) (l : xs.length = kvs.length) (t : ∀ (i : Nat) x kv, xs[i]? = some x → kvs[i]? = some kv → ∃ a b, x = .ref a ∧ H a = some (.tup [.ref b, kv.2]) ∧ H b = some (.tup (kv.1.map kV))) (q : ∀ d, H d = none → Q (.ref d) (upd H d (.dT (zu [] kvs))))
end
end L2
namespace J
open PySem PySem.Spec PyProof.Rows
open L2 (Cx V Hp St VK TE TT TA TS TG jh TI TO aE br)
section
variable {X : Cx} {e d st : Expr} {ty td te : TE} {ts : TO} {pos p2 : Pos}
end
end J
namespace TS
open PySem PyProof.Rows
def Bz : Bool → Keyed → Array Keyed → Nat → Nat → Nat → StateT SortSt Sem (Option Nat) := sortPriv% PySem.Builtin.gallop
def key (κ : KeyKind) (p : Keyed) : κ.α := (κ.keyOf p.1).getD κ.dflt
def DQ (κ : KeyKind) (p : Keyed) : Prop := ∃ a, κ.keyOf p.1 = some a
def ES (prog : Program) (w : World) (A : Around) (E : Value → Shared → Prop) (s : Shared) (κ : KeyKind) (kd : SortKind) : Prop :=
  ∀ (x y : Keyed) (st : SortSt) (Q : Option Bool → SortSt → Prop), kindOf st = kd → DQ κ x → DQ κ y → Q (some (κ.blt (key κ x) (key κ y))) st → wpS (model prog w) A E s (lt' x y) Q st
section
variable {prog : Program} {w : World} {A : Around} {E : Value → Shared → Prop} {s : Shared} {κ : KeyKind} {kd : SortKind}
def Gp (κ : KeyKind) (left : Bool) (k x : Keyed) : Bool := if left then κ.blt (key κ x) (key κ k) else !(κ.blt (key κ k) (key κ x))
end
end TS
namespace TS
open PySem PyProof.Rows
variable {κ : KeyKind}
def tM (κ : KeyKind) (l : List Keyed) : Prop := l.Pairwise fun x y => κ.kle (key κ x) (key κ y)
def EL (κ : KeyKind) (v : κ.α) (p : Keyed) : Bool := !κ.blt (key κ p) v && !κ.blt v (key κ p)
def fk (κ : KeyKind) (v : κ.α) (l : List Keyed) : List Keyed := l.filter (EL κ v)
def Below (κ : KeyKind) (l m : List Keyed) : Prop := ∀ x ∈ l, ∀ y ∈ m, κ.kle (key κ x) (key κ y)
def Under (κ : KeyKind) (l m : List Keyed) : Prop := ∀ x ∈ l, ∀ y ∈ m, κ.klt (key κ x) (key κ y)
def oy (κ : KeyKind) (l m : List Keyed) : Prop := ∀ v, fk κ v l = fk κ v m
structure Fe (κ : KeyKind) (al bl out : List Keyed) (ia ib : Nat) : Prop where
  so : tM κ out
  oa : Below κ out (al.drop ia)
  ob : Below κ out (bl.drop ib)
  st : oy κ (out ++ (al.drop ia ++ bl.drop ib)) (al ++ bl)
def zM : Array Keyed → Array Keyed → StateT SortSt Sem (Array Keyed) := sortPriv% PySem.Builtin.mergeLo
section
variable {prog : Program} {w : World} {A : Around} {E : Value → Shared → Prop} {s : Shared} {kd : SortKind}
structure Kept (st st' : SortSt) : Prop where
  kind : kindOf st' = kindOf st
  arr : arrOf st' = arrOf st
  pend : pendingOf st' = pendingOf st
  failed : failedOf st' = failedOf st
def u7 : Nat → StateT SortSt Sem Unit := sortPriv% PySem.Builtin.setMinGallop
def Fh (κ : KeyKind) (a b r : Array Keyed) : Prop := tM κ r.toList ∧ oy κ r.toList (a.toList ++ b.toList)
section
variable {a b out : Array Keyed} {ia ib : Nat} (sa : tM κ a.toList) (sb : tM κ b.toList)
include sa sb
omit sa in
omit sb in
end
structure LI (κ : KeyKind) (a b : Array Keyed) (st : SortSt) (out : Array Keyed) (ia ib t : Nat) (st' : SortSt) : Prop where
  kp : Kept st st'
  m : Fe κ a.toList b.toList out.toList ia ib
  la : ia + 1 < a.size
  lb : ib < b.size
  t : t ≤ ia + ib
end
end TS
namespace TS
open PySem PyProof.Rows
variable {κ : KeyKind}
structure EB (κ : KeyKind) (al bl o : List Keyed) (na nb : Nat) : Prop where
  so : tM κ o
  oa : Below κ (al.take na) o
  ob : Below κ (bl.take nb) o
  st : oy κ (al.take na ++ (bl.take nb ++ o)) (al ++ bl)
def zZ : Array Keyed → Array Keyed → StateT SortSt Sem (Array Keyed) := sortPriv% PySem.Builtin.mergeHi
section
variable {prog : Program} {w : World} {A : Around} {E : Value → Shared → Prop} {s : Shared} {kd : SortKind}
abbrev bk (out : Array Keyed) : List Keyed := out.toList.reverse
section
variable {a b out : Array Keyed} {na nb : Nat} (sa : tM κ a.toList) (sb : tM κ b.toList)
include sa sb
omit sa in
omit sb in
end
structure HI (κ : KeyKind) (a b : Array Keyed) (st : SortSt) (out : Array Keyed) (na nb t : Nat) (st' : SortSt) : Prop where
  kp : Kept st st'
  m : EB κ a.toList b.toList (bk out) na nb
  la : 1 ≤ na
  lb : 2 ≤ nb
  ha : na ≤ a.size
  hb : nb ≤ b.size
  t : na + nb + t ≤ a.size + b.size
end
end TS
namespace TS
open PySem PyProof.Rows
variable {κ : KeyKind}
def yN : Nat → Nat → StateT SortSt Sem (Option Nat) := sortPriv% PySem.Builtin.countRun
def wb : Nat → Nat → Nat → StateT SortSt Sem Bool := sortPriv% PySem.Builtin.binarySort
structure Ek (st st' : SortSt) : Prop where
  kind : kindOf st' = kindOf st
  pend : pendingOf st' = pendingOf st
  failed : failedOf st' = failedOf st
section
variable {prog : Program} {w : World} {A : Around} {E : Value → Shared → Prop} {s : Shared} {kd : SortKind}
structure Gv (κ : KeyKind) (st0 : SortSt) (P S : List Keyed) (n : Nat) (M O R : List Keyed) (st : SortSt) : Prop where
  e : (arrOf st).toList = P ++ (M ++ R)
  s : S = O ++ R
  m : M.length = n
  o : O.length = n
  sm : tM κ M
  tm : oy κ M O
  cg : Ek st0 st
structure F9 (κ : KeyKind) (st0 : SortSt) (P S : List Keyed) (n neq : Nat) (C G O R : List Keyed) (st : SortSt) : Prop where
  e : (arrOf st).toList = P ++ ((C ++ G) ++ R)
  s : S = O ++ R
  o : O.length = n
  m : C.length + G.length = n
  g : G.length = neq + 1
  sc : tM κ C.reverse
  un : Under κ G C
  gg : Below κ G G
  t : oy κ (C.reverse ++ G) O
  cg : Ek st0 st
end
end TS
namespace TS
open PySem PyProof.Rows
variable {κ : KeyKind}
def zy : Nat → StateT SortSt Sem Bool := sortPriv% PySem.Builtin.mergeAt
section
variable {prog : Program} {w : World} {A : Around} {E : Value → Shared → Prop} {s : Shared} {kd : SortKind}
structure Mg (κ : KeyKind) (st st' : SortSt) (P X Y R : List Keyed) (pend : Array (Nat × Nat × Nat)) : Prop where
  kind : kindOf st' = kindOf st
  failed : failedOf st' = failedOf st
  pend : pendingOf st' = pend
  ex : ∃ M, (arrOf st').toList = P ++ (M ++ R) ∧ tM κ M ∧ oy κ M (X ++ Y)
end
end TS
namespace TS
open PySem PyProof.Rows
variable {κ : KeyKind}
def yq : StateT SortSt Sem Unit := sortPriv% PySem.Builtin.sortRuns
def Av (κ : KeyKind) : Nat → List (Nat × Nat × Nat) → List (List Keyed) → Prop
  | _, [], [] => True
  | off, p :: ps, r :: rs => p.1 = off ∧ p.2.1 = r.length ∧ 1 ≤ p.2.1 ∧ tM κ r ∧ Av κ (off + p.2.1) ps rs
  | _, _, _ => False
section
variable {prog : Program} {w : World} {A : Around} {E : Value → Shared → Prop} {s : Shared} {kd : SortKind}
structure RI (κ : KeyKind) (kd : SortKind) (a₀ : List Keyed) (lo : Nat) (S : List Keyed) (st : SortSt) : Prop where
  kind : kindOf st = kd
  failed : failedOf st = none
  stb : oy κ (arrOf st).toList a₀
  ex : ∃ Rs, Av κ 0 (pendingOf st).toList Rs ∧ (arrOf st).toList = Rs.flatten ++ S ∧ Rs.flatten.length = lo
end
end TS
namespace TS
open PySem PyProof.Rows
def intKind : KeyKind where
  α := Int
  blt a b := decide (a < b)
  irrefl a := by simp
  trans a b c h1 h2 := by
    rw [decide_eq_true_iff] at *
    omega
  negTrans a b c h := by
    rw [decide_eq_true_iff] at *
    rw [decide_eq_true_iff]
    omega
  total a b h1 h2 := by
    rw [decide_eq_false_iff_not] at *
    omega
  keyOf v := match v with
    | .int n _ => some n
    | _ => none
  dflt := 0
section
variable {prog : Program} {w : World} {A : Around} {E : Value → Shared → Prop} {s : Shared}
inductive KeysAre (R : Value → Int → Prop) : List Value → List Value → Prop
  | nil : KeysAre R [] []
  | snoc {vs ks : List Value} {v : Value} {i : Int} {t : Tok} (h : KeysAre R vs ks) (r : R v i) : KeysAre R (vs ++ [v]) (ks ++ [.int i t])
def zC : Array Value → Sem SortKind := sortPriv% PySem.Builtin.keyKind
end
end TS
namespace TS
open PySem PyProof.Rows
def FN (rv : Bool) (f : Addr) : List (Str × Value) := (Str.ofString "key", .ref f) :: if rv = true then [(Str.ofString "reverse", .bool true)] else []
section
variable {prog : Program} {w : World} {A : Around} {E : Value → Shared → Prop} {s : Shared}
end
end TS
namespace TS
open PySem PyProof.Rows
open PySem.SeqAt (EqAt RcAt)
def Ct (A : Around) (s : Shared) (x y : Value) (b : Bool) : Prop :=
  ∀ (prog : Program) (w : World) (E : Value → Shared → Prop) (Q : Value → Shared → Prop), Q (.bool b) s → wpAny (model prog w) A (richCompare .Lt x y) Q E s
def Cb (e l : Nat → Bool) (fin : Bool) : List Nat → Bool
  | [] => fin
  | j :: r => if e j = true then Cb e l fin r else l j
open AutoSeq1 (wpAny_loadPart')
open MeetsSeq MeetsSeq2 MeetsSeq3 SeqRoads2
def mJ (O P : KeyOrd) : KeyOrd where
  α := O.α × P.α
  blt a b := O.blt a.1 b.1 || (!O.blt b.1 a.1 && P.blt a.2 b.2)
  irrefl a := by simp [O.irrefl, P.irrefl]
  trans a b c h1 h2 := by
    simp only [Bool.or_eq_true, Bool.and_eq_true, Bool.not_eq_true'] at *
    rcases h1 with h1 | ⟨h1, h1'⟩ <;> rcases h2 with h2 | ⟨h2, h2'⟩
    · exact .inl (O.trans _ _ _ h1 h2)
    · rcases O.negTrans _ c.1 _ h1 with x | x
      · exact .inl x
      · rw [h2] at x; cases x
    · rcases O.negTrans _ a.1 _ h2 with x | x
      · rw [h1] at x; cases x
      · exact .inl x
    · refine .inr ⟨?_, P.trans _ _ _ h1' h2'⟩
      cases hc : O.blt c.1 a.1 with
      | false => rfl
      | true =>
        rcases O.negTrans _ b.1 _ hc with x | x
        · rw [h2] at x; cases x
        · rw [h1] at x; cases x
  negTrans a b c h := by
    simp only [Bool.or_eq_true, Bool.and_eq_true, Bool.not_eq_true'] at *
    rcases h with h | ⟨h, h'⟩
    · rcases O.negTrans _ b.1 _ h with x | x
      · exact .inl (.inl x)
      · exact .inr (.inl x)
    · cases h1 : O.blt b.1 a.1 with
      | true =>
        rcases O.negTrans _ c.1 _ h1 with x | x
        · exact .inr (.inl x)
        · rw [h] at x; cases x
      | false =>
        cases h2 : O.blt c.1 b.1 with
        | true =>
          rcases O.negTrans _ a.1 _ h2 with x | x
          · rw [h] at x; cases x
          · exact .inl (.inl x)
        | false =>
          rcases P.negTrans _ b.2 _ h' with x | x
          · exact .inl (.inr ⟨rfl, x⟩)
          · exact .inr (.inr ⟨rfl, x⟩)
  total a b h1 h2 := by
    simp only [Bool.or_eq_false_iff, Bool.and_eq_false_iff, Bool.not_eq_false'] at *
    obtain ⟨h1, h1'⟩ := h1
    obtain ⟨h2, h2'⟩ := h2
    have e := O.total _ _ h1 h2
    have e2 := P.total a.2 b.2 (h1'.resolve_left (by rw [h2]; exact Bool.false_ne_true)) (h2'.resolve_left (by rw [h1]; exact Bool.false_ne_true))
    exact Prod.ext e e2
def lQ : KeyOrd := mJ strKind.toKeyOrd (mJ intKind.toKeyOrd strKind.toKeyOrd)
def yT : KeyOrd := mJ intKind.toKeyOrd (mJ intKind.toKeyOrd (mJ strKind.toKeyOrd lQ))
def cps (x : Str) : List Nat := x.cps.toList
inductive nC (h : Heap) (p : Addr) : lQ.α → Prop
  | saw (k : Int) (t u : Tok) (i : h.IsTuple p #[.str "saw" t, .int k u]) : nC h p (cps "saw", k, [])
  | heard (k : Int) (z : Str) (t u v : Tok) (i : h.IsTuple p #[.str "heard" t, .int k u, .str z v]) : nC h p (cps "heard", k, cps z)
inductive AO (h : Heap) (p : Addr) : yT.α → Prop
  | mk (i j : Int) (z : Str) (q : Addr) (w : lQ.α) (t u v : Tok) (r : h.IsTuple p #[.int i t, .int j u, .str z v, .ref q]) (hw : nC h q w) : AO h p (i, j, cps z, w)
section
variable {prog : Program} {w : World} {A : Around} {E : Value → Shared → Prop} {s : Shared}
inductive CB (A : Around) (s : Shared) (p q : Addr) (x y : lQ.α) : Prop
  | same (e : EqAt A s (.ref p) (.ref q) true) (h : x = y)
  | other (e : EqAt A s (.ref p) (.ref q) false) (h : x ≠ y) (l : Ct A s (.ref p) (.ref q) (lQ.blt x y))
def BH (as : List Addr) (g : Addr → yT.α) : KeyKind where
  toKeyOrd := yT
  keyOf v := match v with
    | .ref a => if a ∈ as then some (g a) else none
    | _ => none
  dflt := ((0 : Int), (0 : Int), ([] : List Nat), ([] : List Nat), (0 : Int), ([] : List Nat))
def zK : Value → Addr
  | .ref a => a
  | _ => 0
end
end TS
namespace TS
open PySem PyProof.Rows
open PySem.SeqAt (EqAt RcAt)
def zf : KeyOrd := mJ strKind.toKeyOrd (mJ intKind.toKeyOrd lQ)
inductive AU (h : Heap) (p : Addr) : zf.α → Prop
  | mk (z : Str) (i : Int) (q : Addr) (w : lQ.α) (t u : Tok) (r : h.IsTuple p #[.str z t, .int i u, .ref q]) (hw : nC h q w) : AU h p (cps z, i, w)
section
variable {prog : Program} {w : World} {A : Around} {E : Value → Shared → Prop} {s : Shared}
def AA (as : List Addr) (g : Addr → zf.α) : KeyKind where
  toKeyOrd := zf
  keyOf v := match v with
    | .ref a => if a ∈ as then some (g a) else none
    | _ => none
  dflt := (([] : List Nat), (0 : Int), ([] : List Nat), (0 : Int), ([] : List Nat))
end
end TS
namespace TS
open PySem PyProof.Rows
open PySem.SeqAt (EqAt RcAt)
def xB : KeyOrd := mJ intKind.toKeyOrd (mJ strKind.toKeyOrd lQ)
inductive Bj (h : Heap) (p : Addr) : xB.α → Prop
  | mk (i : Int) (z : Str) (q : Addr) (w : lQ.α) (t u : Tok) (r : h.IsTuple p #[.int i t, .str z u, .ref q]) (hw : nC h q w) : Bj h p (i, cps z, w)
section
variable {prog : Program} {w : World} {A : Around} {E : Value → Shared → Prop} {s : Shared}
def zI (as : List Addr) (g : Addr → xB.α) : KeyKind where
  toKeyOrd := xB
  keyOf v := match v with
    | .ref a => if a ∈ as then some (g a) else none
    | _ => none
  dflt := ((0 : Int), ([] : List Nat), ([] : List Nat), (0 : Int), ([] : List Nat))
end
end TS
namespace L2
open PySem PySem.Spec PyProof.Rows
section
variable {X : Cx}
theorem fz.xc {P : Program} {w : World} {H : Hp} {h : Heap} {a : Addr} {o : HO} (x : fz P w H h) (hn : H a = none) (new : bA P w (upd H a o) h a o) : fz P w (upd H a o) h := fun b u e => by
  by_cases hb : b = a
  · subst hb
    rw [aa] at e
    cases e
    exact new
  · rw [aq hb] at e
    exact (x b u e).fG (fun c v _ q => q) (fun c q => by rw [aq (ah q hn)]; exact q) fun c xs q => by rw [aq (ah q hn)]; exact q
def zK : Value → Addr
  | .ref a => a
  | _ => 0
def CU (g : Addr → Int) (v : Value) (i : Int) : Prop := ∃ a, v = .ref a ∧ g a = i
inductive Fw (K : PySem.W.Frag) (sp : Sp) (xs : List V) (H : Hp) (Q : VK) : Prop
  | mk (p : Addr) (as : List Addr) (g : Addr → Int) (e : xs = [.ref p]) (s : aE K H p (as.map V.ref)) (hs : ∀ a ∈ as, ∀ Q' : VK, Q' (.int (g a)) H → sp [.ref a] H Q' E0)
      (q : ∀ (l : Addr) (zs : List Addr), H l = none → zs.Perm as → zs.Pairwise (fun a b => g a ≤ g b) → (∀ i, zs.filter (fun a => decide (g a = i)) = as.filter (fun a => decide (g a = i))) → Q (.ref l) (upd H l (.lst (zs.map V.ref))))
structure F2 (X : Cx) (x : Str) (sp : Sp) : Prop where
  ex : ∃ (k : Nat) (f : Addr) (fd : FuncData) (ps : List Str), bH X.prog X.w X.K X.mg X.base fD k f fd ps sp ∧ bL (k + 2) X.A ∧ X.mg x = some (.ref f) ∧ Binds X.K fd ps []
  gl : Gl X x
  db : (x == ("__debug__" : Str)) = false
end
end L2
namespace J
open PySem PySem.Spec PyProof.Rows
open L2 (Cx V aE br)
end J
namespace L2
open PySem PySem.Spec PyProof.Rows
section
variable {X : Cx}
inductive Ak (K : PySem.W.Frag) (x y : V) (H : Hp) (Q : Prop) : Prop
  | mk (a b : Addr) (xs ys : List V) (hx : x = .ref a) (hy : y = .ref b) (s : aE K H a xs) (t : aE K H b ys) (l : xs.length = ys.length)
      (he : ∀ (i : Nat) u v, xs[i]? = some u → ys[i]? = some v → ∃ p q zs, u = .ref p ∧ v = .ref q ∧ br K H p zs ∧ br K H q zs ∧ ∀ z ∈ zs, ig z z = some true) (q : Q)
end
end L2
namespace J
open PySem PySem.Spec PyProof.Rows
open L2 (Cx V aE br)
end J
namespace L2
open PySem PySem.Spec PyProof.Rows
section
variable {X : Cx}
inductive F6 (xs : List V) (H : Hp) (Q : VK) : Prop
  | mk (p : Addr) (kvs : List (Key × V)) (zs : List Str) (e : xs = [.ref p]) (s : H p = some (.dK kvs)) (k : kvs.map (·.1) = zs.map Sum.inr) (l : zs.length < 64) (q : ∀ l zs', H l = none → zs.Nodup → zs'.Perm zs → sortedS zs' = true → Q (.ref l) (upd H l (.lst (zs'.map V.str))))
inductive Ai (K : PySem.W.Frag) (H : Hp) (z y : V) : Prop
  | flat (e : z = y) (f : ig z z = some true)
  | tup (w v : Addr) (ws : List V) (hz : z = .ref w) (hy : y = .ref v) (s : br K H w ws) (t : br K H v ws) (f : ∀ x ∈ ws, ig x x = some true)
inductive yV (K : PySem.W.Frag) (x y : V) (H : Hp) (Q : Prop) : Prop
  | mk (a b : Addr) (xs ys : List V) (hx : x = .ref a) (hy : y = .ref b) (s : aE K H a xs) (t : aE K H b ys) (l : xs.length = ys.length)
      (he : ∀ (i : Nat) u v, xs[i]? = some u → ys[i]? = some v → ∃ p q zs ws, u = .ref p ∧ v = .ref q ∧ br K H p zs ∧ br K H q ws ∧ zs.length = ws.length ∧ ∀ (j : Nat) z y, zs[j]? = some z → ws[j]? = some y → Ai K H z y) (q : Q)
end
end L2
namespace J
open PySem PySem.Spec PyProof.Rows
open L2 (Cx V aE br)
end J
namespace L2
open PySem PySem.Spec PyProof.Rows
section
variable {X : Cx}
inductive AH (K : PySem.W.Frag) (H : Hp) (z y : V) : Prop
  | flat (e : z = y) (f : ig z z = some true)
  | rows (h : Ak K z y H True)
inductive D7 (K : PySem.W.Frag) (x y : V) (H : Hp) (Q : VK) : Prop
  | same (a b : Addr) (zs ws : List V) (hx : x = .ref a) (hy : y = .ref b) (s : br K H a zs) (t : br K H b ws) (l : zs.length = ws.length) (e : ∀ (j : Nat) z y, zs[j]? = some z → ws[j]? = some y → AH K H z y) (q : Q (.bl false) H)
end
end L2
namespace J
open PySem PySem.Spec PyProof.Rows
open L2 (Cx V aE br TE)
end J
namespace L2
open PySem PySem.Spec PyProof.Rows
section
variable {X : Cx}
inductive Ew (K : PySem.W.Frag) (rv : Bool) (sp : Sp) (xs : List V) (H : Hp) (Q : VK) : Prop
  | mk (p : Addr) (as : List Addr) (g : Addr → Int) (e : xs = [.ref p]) (s : aE K H p (as.map V.ref)) (hs : ∀ a ∈ as, ∀ Q' : VK, Q' (.int (g a)) H → sp [.ref a] H Q' E0)
      (q : ∀ (l : Addr) (ys : List Addr), H l = none → ys.Perm as → ys.Pairwise (fun a b => g a ≤ g b) → (∀ i, ys.filter (fun a => decide (g a = i)) = (if rv = true then as.reverse else as).filter (fun a => decide (g a = i))) → Q (.ref l) (upd H l (.lst ((if rv = true then ys.reverse else ys).map V.ref))))
end
end L2
namespace J
open PySem PySem.Spec PyProof.Rows
open L2 (Cx V aE br)
end J
namespace L2
open PySem PySem.Spec PyProof.Rows
def F0 (d : Addr) (o : Obj) (kvs : List (Key × V)) : It := ⟨fun i H => H d = some (.frz o (.dK kvs)) ∧ i < kvs.length, fun i H x H' => H' = H ∧ ∃ z y, kvs[i]? = some (Sum.inr z, y) ∧ x = .str z, fun i H => H d = some (.frz o (.dK kvs)) ∧ kvs.length ≤ i⟩
inductive zG (x : V) (H : Hp) (R : It → Hp → Prop) : Prop
  | mk (d : Addr) (kvs : List (Key × V)) (e : x = .ref d) (r : Rd H d (.dK kvs)) (sk : ∀ kv ∈ kvs, ∃ z, kv.1 = Sum.inr z) (q : ∀ (o : Obj) (H' : Hp), (∀ b, b ≠ d → H' b = H b) → H' d = some (.frz o (.dK kvs)) → R (F0 d o kvs) H')
def FO (tl : TE) : TI := fun σ H R => tl σ H fun x H1 => zG x H1 R
section
variable {X : Cx} {tg : Expr}
end
end L2
namespace J
open PySem PySem.Spec PyProof.Rows L2
section
variable {X : Cx} {tg e : Expr} {te : TE}
end
end J
namespace L2
open PySem PySem.Spec PyProof.Rows
section
variable {X : Cx}
inductive CQ (K : PySem.W.Frag) (H : Hp) (q : Addr) : Prop
  | saw (k : Int) (s : br K H q [.str "saw", .int k])
  | heard (k : Int) (z : Str) (s : br K H q [.str "heard", .int k, .str z])
inductive EX (K : PySem.W.Frag) (H : Hp) (a : Addr) : Prop
  | mk (i j : Int) (z : Str) (q : Addr) (s : br K H a [.int i, .int j, .str z, .ref q]) (w : CQ K H q)
inductive Fb (K : PySem.W.Frag) (xs : List V) (H : Hp) (Q : VK) : Prop
  | mk (p : Addr) (as : List Addr) (e : xs = [.ref p]) (s : aE K H p (as.map V.ref)) (hs : ∀ a ∈ as, EX K H a)
      (q : ∀ (l : Addr) (ys : List Addr), H l = none → ys.Perm as → Q (.ref l) (upd H l (.lst (ys.map V.ref))))
end
end L2
namespace J
open PySem L2
end J
namespace L2
open PySem PySem.Spec PyProof.Rows
structure Cf (P : Program) (w : World) (outer : List Env) (H H' : Hp) (s : Shared) (ea : Addr) (cls : Value) (B : Heap) (s' : Shared) : Prop where
  os : s'.os = s.os
  bare : AllBare s'.gens
  un : Un (di outer) [] H H' s.heap s'.heap
  hok : fz P w H' s'.heap
  tr : ∀ b o, H' b ≠ none → s'.heap.get? b = some o → B.get? b = some o
  kp : ∀ b o, s.heap.get? b = some o → H b = none → b ∉ di outer → B.get? b = some o
  th : ∀ b o, s.heap.get? b = some o → b ∉ di outer → ∃ o', B.get? b = some o'
  fl : ∃ a0, Heap.FlyingW B outer ea cls a0 s'.heap
def BQ (P : Program) (w : World) : rZ := fun outer H s E e s' => ∃ ea cls B H', e = .ref ea ∧ Cf P w outer H H' s ea cls B s' ∧ E cls none H'
section
variable {P : Program} {w : World} {outer : List Env} {H H' : Hp} {s s' : Shared} {ea : Addr} {cls : Value} {B : Heap}
end
theorem bA.there {P : Program} {w : World} {H : Hp} {h : Heap} {a : Addr} {o : HO} (x : bA P w H h a o) : ∃ ob, h.get? a = some ob := by
  cases o with
  | lst xs => obtain ⟨_, _, _, _, e⟩ := x; exact ⟨_, e⟩
  | tup xs => obtain ⟨_, _, _, ob, e, _⟩ := x; exact ⟨_, e⟩
  | dK kvs => obtain ⟨_, _, _, _, o, _, _, e, _⟩ := x; exact ⟨_, e⟩
  | dT kvs => obtain ⟨_, _, _, _, o, _, _, e, _⟩ := x; exact ⟨_, e⟩
  | set S n => obtain ⟨o, _, _, _, e, _⟩ := x; exact ⟨_, e⟩
  | ins C dx fs => obtain ⟨_, _, _, e, _⟩ := x; exact ⟨_, e⟩
  | own y => exact x
  | xd fs => obtain ⟨_, ⟨_, _, _, e, _⟩, _⟩ := x; exact ⟨_, e⟩
  | rng lo hi => obtain ⟨_, _, _, e⟩ := x; exact ⟨_, e⟩
  | frz ob u => exact ⟨_, x.1⟩
  | tbl ps => exact ⟨_, (show h.get? a = some _ from x)⟩
  | met f y => exact ⟨_, (show h.get? a = some _ from x)⟩
  | ext φ => exact x.2.1
def qN : List Str := ["__init__", "__getattribute__", "__getattr__", "__class__"]
def dF : List Value := [.type "ValueError", .type "Exception", .type "BaseException", .type "object"]
structure dy (K : PySem.W.Frag) (C : Addr) (bm : List Value) : Prop where
  ex : ∃ (nm q : Str) (N : Addr) (bs : List Value) (hdct : Bool) (sn : List Str) (sub : List Value) (ab : Bool) (col : Option Bool) (dd : Option Addr) (k0 k1 k2 k3 k5 : Option Value),
    K.lookup C = some (excClassObj nm q C N bs bm hdct sn sub ab col dd k0 k1 k2 k3 k5 "ValueError.__new__") ∧ PySem.W.nsOkIn K N = true ∧ (∀ n ∈ qN, PySem.W.nsIn K N n = some none) ∧ PySem.W.tailIn K dF bm = true
theorem vX {K : PySem.W.Frag} {h h' : Heap} {N : Addr} {m : Str → Option Value} (X : K.In h) (X' : K.In h') (ok : PySem.W.nsOkIn K N = true) (n : h.Ns N m) : h'.Ns N m := by
  unfold PySem.W.nsOkIn at ok
  split at ok
  · rename_i ho
    obtain ⟨o, es, ep, e, r⟩ := n
    have := X _ _ ho
    rw [e] at this
    cases this
    exact ⟨_, es, ep, X' _ _ ho, r⟩
  · cases ok
section
variable {X : Cx}
theorem uw {x : Str} {C : Addr} {bm : List Value} {e₀ : Expr} {rest : List Expr} {t : TA} {np cpos pos : Pos} (hx : PE X (.Name x np) (tC (.ref C))) (O : dy X.K C bm) (hc : X.calm = true) (ha : PA X (e₀ :: rest) t) (E' : Hp → Prop)
    (xe : ∀ pins σ H s, Inv X pins σ H s → E' H → ∀ h' ea args, Heap.MadeExcOf s.heap h' ea (.ref C) args → X.xe (.ref ea) { s with heap := h' })
    (he : starEach (e₀ :: rest) X.env = (false, eval e₀ X.env) :: starEach rest X.env := by rfl) (hplain : (backTo cpos (starEach rest X.env)).any (·.1) = false := by rfl) :
    PS X (.Raise (some (.Call (.Name x np) (e₀ :: rest) [] cpos)) none pos) (fun _ σ H => t σ H fun vs H1 => vs.length ≤ sizeLine ∧ E' H1) := by
  intro pins s σ H D I h
  obtain ⟨nm, q, N, bs, hdct, sn, sub, ab, col, dd, k0, k1, k2, k3, k5, lk, hok, hni, ht⟩ := O.ex
  have T := PySem.W.tail_of_in I.dr ht
  have ns0 : s.heap.Ns N (s.heap.nsMap N) := .of_isNs (PySem.W.isNs_of_in I.dr hok)
  refine wpAny_Raise_call_subT (C := C) (nm := nm) (q := q) (N := N) (bs := bs) (bm := bm) (hdct := hdct) (sn := sn) (sub := sub) (ab := ab) (col := col) (dd := dd) (k0 := k0) (k1 := k1) (k2 := k2) (k3 := k3) (k5 := k5)
    PySem.F.excBase_ValueError (mN := s.heap.nsMap N) (T.hasType PySem.F.excBase_ValueError.hasBase) (I.ok.hd hc) (by rw [he]; show (false || (backTo cpos (starEach rest X.env)).any (·.1)) = false; rw [hplain]; rfl) (PySem.W.nsMap_none_of_in I.dr hok (hni _ (.head _)))
    (bJ (hx pins s σ H (fun v H1 => v = .ref C ∧ H1 = H) I ⟨rfl, rfl⟩) fun u s1 ⟨v, H1, I1, r, hv, hH⟩ => ?_)
  subst hv hH
  cases r
  refine ⟨rfl, ?_⟩
  have h2 := ha cpos pins s1 σ H1 _ I1 h
  rw [he] at h2 ⊢
  exact Calls.evalArgs_plain (wpAny_mono h2 (fun us s2 ⟨vs, H2, I2, r2, l2, e2⟩ => ⟨rfl, by rw [← r2.length]; exact l2, I2.dr _ _ lk, vX I.dr I2.dr hok ns0, PySem.W.tail_of_in I2.dr ht, fun h' ea hm => xe pins σ H2 s2 I2 e2 h' ea _ hm⟩) fun _ _ y => y)
end
theorem kJ {X : Cx} {pins : List (Addr × Obj)} {σ : List (Option V)} {H : Hp} {s : Shared} {M : Model} {A : Around} {E : Value → Shared → Prop} {i : Nat} {x : Str} {v : V} {Q : Unit → Shared → Prop} (I : Inv X pins σ H s) (hN : X.N.Nodup) (hi : X.N[i]? = some x) (hk : X.env.kindOf x = some .local) (hv : σ[i]? = some (some v))
    (h : ∀ s', Inv X pins (σ.set i none) H s' → Q () s') : wpAny M A (unbindName X.env x) Q E s := by
  obtain ⟨m, hn, hl⟩ := id I.loc
  have hcls : (X.env.scope.kind == .class || (X.env.scope.kind == .module && X.env.locals != X.env.globals)) = false := by rw [I.ok.kind]; rfl
  have hiσ : i < σ.length := by rw [I.len]; exact (List.getElem?_eq_some_iff.mp hi).1
  have tE := I.tE
  have tracked : ∀ {a : Addr} {h' : Heap}, (∃ o, s.heap.get? a = some o ∧ H a = none) → Heap.SameBut a s.heap h' → fz X.prog X.w H h' := fun {a h'} ha hs b ob e => by
    obtain ⟨_, _, hfree⟩ := ha
    refine (I.hok b ob e).fG (fun c w' hc q => (hs.2 c ?_).trans q) (fun _ q => q) fun _ _ q => q
    rintro rfl
    rcases hc with rfl | hc
    · rw [hfree] at e; cases e
    · rw [hfree] at hc; cases hc
  obtain ⟨u, r, q⟩ := hl i x v hi hv (.inl hk)
  obtain ⟨mv, hmv⟩ : ∃ mv, m x = some mv := by
    rcases q with ⟨_, e⟩ | ⟨k, _⟩
    · exact ⟨_, e⟩
    · rw [hk] at k
      rcases k with k | k <;> cases k
  refine wpAny_unbindName_local hk hn hmv hcls fun h' u' hn' hs => ?_
  obtain ⟨oL, _, _, hoL, _⟩ := id hn
  refine h _ ⟨I.ok, I.os, I.bare, ⟨fun b o e n hb hx => ?_, fun b o e n hb hx => ?_, I.base.free, fun b o e hx => ?_, I.base.tups, I.base.frzs, I.base.tbls⟩, ⟨_, hn', fun j y v' e1 e2 e3 => ?_⟩, fun y c e => ?_, I.free, I.freeC, fun p hp => ?_, tracked ⟨oL, hoL, I.free⟩ hs, by simpa using I.len⟩
  · exact (hs.2 b (Nat.ne_of_lt (Nat.lt_of_lt_of_le (Heap.lt_size e) I.ok.above))).trans (I.base.keep b o e n hb hx)
  · obtain ⟨sl, e1⟩ := I.base.slot b o e n hb hx
    exact ⟨sl, (hs.2 b (Nat.ne_of_lt (Nat.lt_of_lt_of_le (Heap.lt_size e) I.ok.above))).trans e1⟩
  · obtain ⟨o', e1⟩ := I.base.there b o e hx
    exact ⟨o', (hs.2 b (Nat.ne_of_lt (Nat.lt_of_lt_of_le (Heap.lt_size e) I.ok.above))).trans e1⟩
  · by_cases hj : j = i
    · subst hj
      rw [List.getElem?_set_self hiσ] at e2
      cases e2
    · rw [List.getElem?_set_ne (Ne.symm hj)] at e2
      obtain ⟨u', r', q⟩ := hl j y v' e1 e2 e3
      refine ⟨u', r', ?_⟩
      rcases q with ⟨k, e⟩ | ⟨k, c, e, z⟩
      · refine .inl ⟨k, ?_⟩
        have : y ≠ x := fun e => hj (jF hN e1 (e ▸ hi))
        simp [this, e]
      · exact .inr ⟨k, c, e, z.sameBut hs (tE y c e)⟩
  · obtain ⟨w', z⟩ := I.cell y c e
    exact ⟨w', z.sameBut hs (tE y c e)⟩
  · obtain ⟨e, n, ne, nf, d⟩ := I.pin p hp
    exact ⟨(hs.2 p.1 ne).trans e, n, ne, nf, d⟩
theorem rD {M : Model} {A : Around} {E : Value → Shared → Prop} {h : Heap} {g : Array GenState} {d : Drawn} {t : Nat} {os : OsState} {e C D : Addr} {oe : Obj} {Q : Bool → Shared → Prop}
    {nm q : Str} {N : Addr} {bs bm : List Value} {hdct : Bool} {sn : List Str} {sub : List Value} {ab : Bool} {col : Option Bool} {dd : Option Addr} {k0 k1 k2 k3 k5 : Option Value} {newId : String}
    {nm' q' : Str} {N' : Addr} {bs' bm' : List Value} {hdct' : Bool} {sn' : List Str} {sub' : List Value} {ab' : Bool} {col' : Option Bool} {dd' : Option Addr} {k0' k1' k2' k3' k5' : Option Value} {newId' : String}
    (hC : h.get? C = some (excClassObj nm q C N bs bm hdct sn sub ab col dd k0 k1 k2 k3 k5 newId)) (hD : h.get? D = some (excClassObj nm' q' D N' bs' bm' hdct' sn' sub' ab' col' dd' k0' k1' k2' k3' k5' newId')) (he : h.get? e = some oe) (hcls : oe.cls = .ref C)
    (hbase : (Value.ref D :: bm').contains (.type "BaseException") = true) (hsub : (Value.ref C :: bm).contains (.ref D) = true) (hq : Q true ⟨h, g, d, t, os⟩) : wpAny M A (excMatches (.ref e) (.ref D)) Q E ⟨h, g, d, t, os⟩ := by
  have f := tc_notTuple
  unfold excMatches
  repeat (first | (with_reducible refine wpAny_loadPart_at he ?_; rw [hcls]) | with_reducible refine wpAny_loadPart_at hD ?_ | with_reducible refine wpAny_loadPart_at hC ?_ | (with_reducible refine wpAny_isSubtype_exc hD ?_; rw [hbase]) | (with_reducible refine wpAny_isSubtype_exc hC ?_; rw [hsub]) | wp_step)
  exact hq
theorem PS.gZ {X : Cx} {st : Stmt} {t : TS} (h : PS X.gZ st t) : PS X st t := fun pins s σ H D I hw =>
  wpAny_mono (h pins s σ H D (I.gL _) hw) (fun _ _ q => q.c6) fun _ _ z => False.elim z
theorem PA.gZ {X : Cx} {es : List Expr} {t : TA} (h : PA X.gZ es t) : PA X es t := fun pos pins s σ H Q I hw =>
  wpAny_mono (h pos pins s σ H Q (I.gL _) hw) (fun _ _ ⟨v, H', I', r, q⟩ => ⟨v, H', I'.c6, r, q⟩) fun _ _ z => False.elim z
structure Er (P : Program) (w : World) (K : PySem.W.Frag) (mg : Str → Option Value) (base : Heap) (k : Nat) (x : Str) (sp : Sp) : Prop where
  ex : ∃ (f : Addr) (fd : FuncData) (ps : List Str), bH P w K mg base (BQ P w) k f fd ps sp ∧ mg x = some (.ref f) ∧ PySem.W.keepIn K (.ref f) = true ∧ Binds K fd ps []
def sr (ea C : Addr) : Heap → Prop := fun h => ∃ ob, h.get? ea = some ob ∧ ob.cls = .ref C
inductive XP (X : Cx) (pins : List (Addr × Obj)) (σ : St) (E : XK) (e : Value) (s' : Shared) : Prop
  | mk (H H' : Hp) (s : Shared) (ea : Addr) (cls : Value) (B : Heap) (I : Inv X pins σ H s) (he : e = .ref ea) (F : Cf X.prog X.w X.stack H H' s ea cls B s') (q : E cls none H')
def EW (X : Cx) (st : List Stmt) (t : XK → TS) : Prop := ∀ (pins : List (Addr × Obj)) (s : Shared) (σ : St) (H : Hp) (D : Ends) (E : XK), Inv X pins σ H s → t E D σ H → wpAny (model X.prog X.w) X.A (execs st X.env) (SP X pins D) (XP X pins σ E) s
section
variable {X : Cx}
theorem uA {st : Stmt} {Q : Flow → Shared → Prop} {M : Model} {A : Around} {E : Value → Shared → Prop} {s : Shared} {env : Env} (h : wpAny M A (exec st env) Q E s) : wpAny M A (execs [st] env) Q E s := by
  refine wpAny_execs_cons (bJ h fun f s1 q => ?_)
  cases f with
  | next => exact wpAny_execs_nil q
  | ret v => exact q
  | brk => exact q
  | cont => exact q
abbrev Cx.mk' (X : Cx) (e : Value) : Cx := { X with A := X.A.mark (some e), calm := false, xe := fun _ _ => False }
theorem Inv.mark {pins : List (Addr × Obj)} {σ : St} {H : Hp} {s : Shared} (I : Inv X pins σ H s) (e : Value) : Inv (X.mk' e) pins σ H s :=
  ⟨⟨I.ok.mod, I.ok.kind, I.ok.glob, I.ok.blt, I.ok.above, I.ok.inj, I.ok.has, I.ok.cab, (fun z => nomatch z), I.ok.frames, I.ok.stk, I.ok.exf, I.ok.bs, I.ok.bsz, I.ok.noex, I.ok.exfs, I.ok.iS, I.ok.frf⟩, I.os, I.bare, I.base, I.loc, I.cell, I.free, I.freeC, I.pin, I.hok, I.len⟩
theorem Inv.unmark {pins : List (Addr × Obj)} {σ : St} {H : Hp} {s : Shared} {e : Value} (I : Inv (X.mk' e) pins σ H s) (ok : X.Ok) : Inv X pins σ H s := ⟨ok, I.os, I.bare, I.base, I.loc, I.cell, I.free, I.freeC, I.pin, I.hok, I.len⟩
end
section
variable {X : Cx}
end
section
variable {X : Cx}
inductive EG (X : Cx) (Ck : Addr) (i j : Nat) (D : Ends) (σ : St) (cls : Value) (H' : Hp) : Prop
  | mk (C : Addr) (bm : List Value) (e : cls = .ref C) (O : dy X.K C bm) (sub : (Value.ref C :: bm).contains (.ref Ck) = true) (q : ∀ ea, H' ea = none → D.nx (((σ.set i (some (.ref ea))).set j (some (.ref ea))).set i none) (upd H' ea (.ext (sr ea C))))
end
section
variable {prog : Program} {w : World} {A : Around} {E : Value → Shared → Prop} {h : Heap} {g : Array GenState} {d : Drawn} {t : Nat} {os : OsState} {a : Addr} {o : Obj} {vs : Array Value}
structure yQ (h : Heap) (C Kc : Addr) : Prop where
  ex : ∃ (nm q : Str) (N : Addr) (bs : List Value) (hdct : Bool) (sn : List Str) (sub : List Value) (ab : Bool) (col : Option Bool) (dd : Option Addr) (k0 k1 k2 k3 k5 : Option Value) (newId : String) (mN : Str → Option Value),
    h.get? C = some (excClassObj nm q C N bs (.ref Kc :: dF) hdct sn sub ab col dd k0 k1 k2 k3 k5 newId) ∧ h.Ns N mN ∧ ∀ n ∈ qN, mN n = none
  ek : ∃ (nm q : Str) (N : Addr) (bs : List Value) (hdct : Bool) (sn : List Str) (sub : List Value) (ab : Bool) (col : Option Bool) (dd : Option Addr) (k0 k1 k2 k3 k5 : Option Value) (newId : String) (mN : Str → Option Value),
    h.get? Kc = some (excClassObj nm q Kc N bs dF hdct sn sub ab col dd k0 k1 k2 k3 k5 newId) ∧ h.Ns N mN ∧ ∀ n ∈ qN, mN n = none
theorem gw {M : Model} {C Kc : Addr} {n : Str} {y : Option Value} {Q : Option Value → Shared → Prop} (T : yQ h C Kc) (hn : n ∈ qN) (hB : typeLookup (.type "ValueError") n = pure y) (hq : Q y ⟨h, g, d, t, os⟩) : wpAny M A (typeLookup (.ref C) n) Q E ⟨h, g, d, t, os⟩ := by
  obtain ⟨nm, q, N, bs, hdct, sn, sub, ab, col, dd, k0, k1, k2, k3, k5, newId, mN, hC, hN, hz⟩ := T.ex
  obtain ⟨nm', q', N', bs', hdct', sn', sub', ab', col', dd', k0', k1', k2', k3', k5', newId', mN', hC', hN', hz'⟩ := T.ek
  have hrest : lookupAlong dF n = pure y := by
    have hB' := hB
    rw [typeLookup_eq, PySem.F.excBase_ValueError.mroIs] at hB'
    exact hB'
  rw [typeLookup_eq]
  refine wpAny_bind (wpAny_mroOf_exc hC ?_)
  rw [lookupAlong_cons]
  refine wpAny_bind (wpAny_classOwn_exc hC hN ?_)
  rw [hz n hn]
  dsimp only
  rw [lookupAlong_cons]
  refine wpAny_bind (wpAny_classOwn_exc hC' hN' ?_)
  rw [hz' n hn]
  dsimp only
  rw [hrest]
  exact wpAny_pure hq
end
section
open PySem.F
variable {prog : Program} {w : World} {A : Around} {E : Value → Shared → Prop} {h : Heap} {g : Array GenState} {d : Drawn} {t : Nat} {os : OsState} {a C Kc : Addr} {o : Obj}
theorem jb : typeLookup (.type "ValueError") "__class__" = pure (some (.builtin "object.__class__")) := by rw [typeLookup_type, builtinLookup_eq_fast]; kernel_rfl
theorem ym {R : Result → Shared → Prop} (T : yQ h C Kc) (hx : h.get? a = some o) (hc : o.cls = .ref C) (hq : R (.ok (.ret (.ref C))) ⟨h, g, d, t, os⟩) :
    codeAny (model prog w) A (.call (.builtin "getset_descriptor.__get__") ⟨[.builtin "object.__class__", .ref a, .ref C], []⟩) R ⟨h, g, d, t, os⟩ := by
  obtain ⟨nm, q, N, bs, hdct, sn, sub, ab, col, dd, k0, k1, k2, k3, k5, newId, mN, hC, hN, hz⟩ := T.ex
  have hT5 : (⟨h, g, d, t, os⟩ : Shared).TypeIs (.builtin "object.__class__") "getset_descriptor" := typeOf_object_class
  have hcB : (Value.ref C :: Value.ref Kc :: dF).contains (.type (".".intercalate ("object.__class__".cutAt '.').dropLast)) = true := by
    rw [owner_object_class]
    unfold dF
    simp
  refine codeAny_call_builtin slot_gs_get.plain entry_gs_get (slot_gs_get.check _ _ _ _ _ _ _ _ hT5 (args_gs_get _ _ _) ?_)
  repeat (any_goals (first | assumption | (with_reducible refine wpAny_loadPart_at hx ?_; rw [hc]) | (with_reducible refine wpAny_isSubtype_exc hC ?_; rw [hcB]) | wp_step))
  refine ⟨Code.quiet_builtin _ (by decide +kernel), codeAny_builtin entry_object_class ?_⟩
  unfold Builtin.«object.__class__»
  repeat (any_goals (first | assumption | (with_reducible refine wpAny_loadPart_at hx ?_; rw [hc]) | wp_step))
theorem sM {tk : Tok} {Q : Fin → Shared → Prop} (T : yQ h C Kc) (hx : h.get? a = some o) (hc : o.cls = .ref C) (hq : Q (.done (.ret (.ref C))) ⟨h, g, d, t, os⟩) :
    wpAny (model prog w) A (Builtin.«object.__getattribute__» ⟨[.ref a, .str "__class__" tk], []⟩) Q E ⟨h, g, d, t, os⟩ := by
  have hT5 : (⟨h, g, d, t, os⟩ : Shared).TypeIs (.builtin "object.__class__") "getset_descriptor" := typeOf_object_class
  have f5 := typeOf_object_class
  have f6 := slot_gs_get.lookup
  have f7 := slot_gs_set.lookup
  have hmA : ("__class__" : Str) ∈ qN := .tail _ (.tail _ (.tail _ (.head _)))
  repeat (any_goals (first | assumption | (with_reducible refine wpAny_loadPart_at hx ?_; rw [hc]) | with_reducible refine gw T hmA jb ?_ | wp_step))
  refine ym T hx hc ?_
  repeat (any_goals (first | assumption | wp_step))
theorem tf {M : Model} {bS : Value} {Q : Unit → Shared → Prop} (T : yQ h C Kc) (hx : h.get? a = some o) (hc : o.cls = .ref C) (hq : Q () ⟨h, g, d, t, os⟩) : wpAny M A (checkBuiltinCall "BaseException.__getattribute__" ⟨[.ref a, bS], []⟩) Q E ⟨h, g, d, t, os⟩ := by
  obtain ⟨nm, q, N, bs, hdct, sn, sub, ab, col, dd, k0, k1, k2, k3, k5, newId, mN, hC, hN, hz⟩ := T.ex
  have hk : builtinKind "BaseException.__getattribute__" = some .slot := by decide +kernel
  have hsplit : splitId "BaseException.__getattribute__" = some ("BaseException", "__getattribute__") := by decide +kernel
  have hcB : (Value.ref C :: Value.ref Kc :: dF).contains (.type "BaseException") = true := by
    unfold dF
    simp
  have ha := args_bexc_ga (.ref a) bS
  simp only [checkBuiltinCall, hk, hsplit]
  refine wpAny_bind ?_
  · unfold isInstance
    repeat (first | (with_reducible refine wpAny_loadPart_at hx ?_; rw [hc]) | (with_reducible refine wpAny_isSubtype_exc hC ?_; rw [hcB]) | wp_step)
    exact hq
theorem Aj {tk : Tok} {Q : Value → Shared → Prop} (T : yQ h C Kc) (hx : h.get? a = some o) (hc : o.cls = .ref C) (hq : Q (.ref C) ⟨h, g, d, t, os⟩) :
    wpAny (model prog w) A (getAttrBy (.ref a) (.str "__class__" tk) false) Q E ⟨h, g, d, t, os⟩ := by
  have f3 := attrBase_ValueError.ga.bind (.ref a)
  have hx2 : (Value.builtin "BaseException.__getattribute__" == Value.builtin "object.__getattribute__") = false := by decide +kernel
  have hx1 : (onTheHeap (Value.ref C) && Value.builtin "BaseException.__getattribute__" == Value.builtin "object.__getattribute__") = false := by rw [hx2]; rfl
  have hm1 : ("__getattribute__" : Str) ∈ qN := .tail _ (.head _)
  have hm2 : ("__getattr__" : Str) ∈ qN := .tail _ (.tail _ (.head _))
  repeat (any_goals (first | assumption | (with_reducible refine wpAny_loadPart_at hx ?_; rw [hc]) | with_reducible refine gw T hm1 attrBase_ValueError.ga.lookup ?_ | with_reducible refine gw T hm2 attrBase_ValueError.noGetattr ?_ | wp_step))
  refine codeAny_call_builtin attrBase_ValueError.ga.plain entry_bexc_ga (tf T hx hc (sM T hx hc ?_))
  repeat (any_goals (first | assumption | wp_step))
theorem vn {Q : Option Value → Shared → Prop} (T : yQ h C Kc) (hx : h.get? a = some o) (hc : o.cls = .ref C) (hq : Q (some (.ref C)) ⟨h, g, d, t + 1, os⟩) : wpAny (model prog w) A (getAttr? (.ref a) "__class__") Q E ⟨h, g, d, t, os⟩ := by
  unfold getAttr? getAttrBy?
  repeat (any_goals (first | assumption | with_reducible apply Aj T hx hc | wp_step))
end
theorem yo {K : PySem.W.Frag} {h : Heap} {C Kc : Addr} (X : K.In h) (OC : dy K C (.ref Kc :: dF)) (OK : dy K Kc dF) : yQ h C Kc := by
  obtain ⟨nm, q, N, bs, hdct, sn, sub, ab, col, dd, k0, k1, k2, k3, k5, lk, hok, hni, ht⟩ := OC.ex
  obtain ⟨nm', q', N', bs', hdct', sn', sub', ab', col', dd', k0', k1', k2', k3', k5', lk', hok', hni', ht'⟩ := OK.ex
  exact ⟨⟨nm, q, N, bs, hdct, sn, sub, ab, col, dd, k0, k1, k2, k3, k5, _, h.nsMap N, X _ _ lk, .of_isNs (PySem.W.isNs_of_in X hok), fun n hn => PySem.W.nsMap_none_of_in X hok (hni n hn)⟩,
    ⟨nm', q', N', bs', hdct', sn', sub', ab', col', dd', k0', k1', k2', k3', k5', _, h.nsMap N', X _ _ lk', .of_isNs (PySem.W.isNs_of_in X hok'), fun n hn => PySem.W.nsMap_none_of_in X hok' (hni' n hn)⟩⟩
theorem m5 {K : PySem.W.Frag} {ea C Kc : Addr} (OC : dy K C (.ref Kc :: dF)) (OK : dy K Kc dF) : PySem.W.KitX K (.ref ea) (.ref C) (sr ea C) where
  ty := fun M h _ ⟨ob, ho, hc⟩ => by
    rw [← hc]
    exact (show PySem.W.Looks M h (typeOf (.ref ea)) ob.cls from (PySem.W.Looks.ld ho).andThen .now)
  it := fun M h X _ => by
    obtain ⟨nm, q, N, bs, hdct, sn, sub, ab, col, dd, k0, k1, k2, k3, k5, lk, _⟩ := OC.ex
    intro A' Q' E' s' k q
    unfold isType loadHead
    exact wpAny_bind (wpAny_loadPart (k _ _ (X _ _ lk)) (wpAny_pure q))
  ne := fun h tp dd its n sl X htp => by
    obtain ⟨nm, q, N, bs, hdct, sn, sub, ab, col, dd', k0, k1, k2, k3, k5, lk, _⟩ := OC.ex
    refine Bool.eq_false_iff.mpr fun q => ?_
    have e : C = tp := Value.ref.inj (beq_iff_eq.mp q)
    subst e
    have z := Option.some.inj ((X _ _ lk).symm.trans htp)
    have z2 := congrArg Obj.data z
    cases z2
  ca := fun {prog w A E Q s} X ⟨ob, ho, hc⟩ k => by
    obtain ⟨hp, g, d, t, os⟩ := s
    exact vn (yo X OC OK) ho hc k
inductive AG (K : PySem.W.Frag) (xs : List V) (H : Hp) (Q : VK) : Prop
  | own (ea C Kc D : Addr) (b : Bool) (e : xs = [.ref ea, .ref D]) (h : H ea = some (.ext (sr ea C))) (OC : dy K C (.ref Kc :: dF)) (OK : dy K Kc dF) (k : PySem.W.kitOne K (.ref C) (.ref D) = some b) (q : Q (.bl b) H)
  | ty (ea C Kc : Addr) (n : String) (b : Bool) (e : xs = [.ref ea, .ty n]) (h : H ea = some (.ext (sr ea C))) (OC : dy K C (.ref Kc :: dF)) (OK : dy K Kc dF) (k : PySem.W.kitOne K (.ref C) (.type n) = some b) (q : Q (.bl b) H)
theorem uv {X : Cx} : cN X (.builtin "isinstance") (fun xs H Q => AG X.K xs H Q) := by
  intro pins s σ H xs us Q I r h
  cases h with
  | own ea C Kc D b e h OC OK k q =>
    subst e
    obtain ⟨u, c, rfl, rx, rc⟩ := vals2 r
    cases rx
    cases rc
    exact PySem.W.kia_one (m5 OC OK) I.dr (I.hok _ _ h).1 k (fun z => nomatch z) fun tk => ⟨.bl b, H, I.tok _, rfl, q⟩
  | ty ea C Kc n b e h OC OK k q =>
    subst e
    obtain ⟨u, c, rfl, rx, rc⟩ := vals2 r
    cases rx
    obtain rfl : c = Value.type n := rc
    exact PySem.W.kia_one (m5 OC OK) I.dr (I.hok _ _ h).1 k (fun z => nomatch z) fun tk => ⟨.bl b, H, I.tok _, rfl, q⟩
section
variable {X : Cx}
inductive yZ (K : PySem.W.Frag) (H : Hp) (z y : V) : Prop
  | flat (e : z = y) (f : ig z z = some true)
  | rows (h : yV K z y H True)
inductive BX (K : PySem.W.Frag) (x y : V) (H : Hp) (Q : VK) : Prop
  | same (a b : Addr) (zs ws : List V) (hx : x = .ref a) (hy : y = .ref b) (s : br K H a zs) (t : br K H b ws) (l : zs.length = ws.length) (e : ∀ (j : Nat) z y, zs[j]? = some z → ws[j]? = some y → yZ K H z y) (q : Q (.bl false) H)
end
end L2
namespace J
open PySem PySem.Spec PyProof.Rows
open L2 (Cx V Hp St VK TE TT TA TS TG jh TI TO R2 Sp XK E0 fD bH bL Gl Binds RelV Vals aE br cT gJ aB Here Er BQ dy)
section
variable {P : Program} {w : World} {K : PySem.W.Frag} {mg : Str → Option Value} {base : Heap} {x qual m : Str} {st : Stmt} {f C : Addr} {fd : FuncData} {N ps : List Str} {k : Nat} {sp : Sp} {xr : Str} {bm : List Value}
end
section
variable {P : Program} {w : World} {K : PySem.W.Frag} {mg : Str → Option Value} {base : Heap} {x qual m : Str} {st : Stmt} {f C : Addr} {fd : FuncData} {N ps : List Str} {k j : Nat} {sp : Sp}
theorem wu (D : L2.Df K mg x st ps f fd) (S : aB N ps (L2.ao st)) (len : ∀ vs H Q E, sp vs H Q E → vs.length = ps.length)
    (hbody : ∀ (X : Cx) (H : Hp) (vs : List V) (Q : VK) (E : XK), Here X P w K mg base (L2.ao st) N k → (X.stack = X.env :: X.outer ∧ X.env.frame = some X.env.locals) → (∀ {es t}, JA X es t → L2.PA X.gZ es t) → (∀ {e t}, JT X e t → L2.PT X.gZ e t) → sp vs H Q E → ∃ t, om X (L2.aX st) t ∧ t { nx := fun _ H' => Q .non H', rt := Q } (L2.start N vs) H) : L2.Gd P w K mg base (k + 1) x sp := by
  refine ⟨f, fd, ps, J.xu D.fn S len fun X cdv A outer s H vs Q E hX hr h => ?_, D.nm, D.fn.kp, D.bi⟩
  subst hX
  exact hbody _ H vs Q E ⟨rfl, rfl, rfl, rfl, rfl, rfl, PassesOwn.never, rfl, rfl, S.nd, hr, fun _ => rfl⟩ ⟨rfl, rfl⟩ (fun h => h.out) (fun h => h.out) h
structure Gi (X : Cx) (st : List Stmt) (t : XK → TS) : Prop where
  out : L2.EW X st t
end
theorem pj {X : Cx} : JB X .Mult L2.zP := ⟨L2.pj⟩
end J
namespace L2
open PySem PySem.Spec PyProof.Rows
section
variable {M : Model} {A : Around} {Ex : Value → Shared → Prop} {s : Shared}
end
def Fy (X : Cx) (E : XK) : Prop := ∀ (pins : List (Addr × Obj)) (σ : St) (H1 H' : Hp) (s1 s2 : Shared) (ea : Addr) (cls : Value) (B : Heap) (C : Addr) (m : Str → Option Value) (cenv : Env) (use : Option (Value → Sem Unit)) (Q : Value → Shared → Prop) (acc : Value), Inv X pins σ H1 s1 → Cf X.prog X.w X.stack H1 H' s1 ea cls B s2 → E cls none H' → s1.heap.Ns C m → H1 C = none → C ∉ di X.stack → X.s₀.heap.get? C = none → cenv.frame = X.env.frame →
  notedBy (model X.prog X.w) X.A cenv (fun e s' => compPost (model X.prog X.w) X.A X.xe use Q acc C (.error e) s') (.ref ea) s2
def EN (X : Cx) (c : Expr) (t : XK → St → Hp → Prop) : Prop := ∀ (pins : List (Addr × Obj)) (s : Shared) (σ : St) (H : Hp) (E : XK), Inv X pins σ H s → t E σ H → wpAny (model X.prog X.w) X.A (isTrue c X.env (eval c X.env)) (fun _ _ => False) (XP X pins σ E) s
structure Dt (J : It) (n : Nat) (is : List Nat) (g : TG) (tx : XK → St → Hp → Prop) (E : XK) (σ : St) (H1 : Hp) : Prop where
  h : ∀ D, H1 D = none → J.go 0 (upd H1 D (.lst [])) ∧ ∀ (os : St) v H3, os.length = n → J.yld 0 (upd H1 D (.lst [])) v H3 → g v (os ++ cu is σ) H3 fun σ' H4 => (∃ os' : St, os'.length = n ∧ σ' = os' ++ cu is σ) ∧ tx E σ' H4
section
variable {X : Cx} {xs : List Str} {tg : Expr} {pos : Pos} {elt iter : Expr} {ct : Expr} {scope : Scope} {wi : TI} {g : TG} {tx : XK → St → Hp → Prop} {is : List Nat} {ns : List Str} {E : XK}
end
structure Fo (X : Cx) (x : Str) (sp : Sp) : Prop where
  ex : ∃ (k : Nat) (f : Addr) (fd : FuncData) (ps : List Str), bH X.prog X.w X.K X.mg X.base (BQ X.prog X.w) k f fd ps sp ∧ bL k X.A ∧ X.mg x = some (.ref f) ∧ PySem.W.keepIn X.K (.ref f) = true ∧ Binds X.K fd ps []
  db : (x == ("__debug__" : Str)) = false
end L2
namespace J
open PySem PySem.Spec PyProof.Rows
open L2 (Cx V Hp St VK TE TT TA TS TG jh TI TO R2 Sp XK E0 fD bH bL Gl Binds RelV Vals aE br cT gJ aB Here Er BQ dy)
section
variable {P : Program} {w : World} {K : PySem.W.Frag} {mg : Str → Option Value} {base : Heap} {x qual m : Str} {st : Stmt} {f C : Addr} {fd : FuncData} {N ps : List Str} {k j : Nat} {sp : Sp}
structure Gs (X : Cx) (c : Expr) (t : XK → L2.St → Hp → Prop) : Prop where
  out : L2.EN X c t
end
end J
namespace L2
open PySem PySem.Spec PyProof.Rows
def v8 (c : Addr) (qual : Str) : Heap → Prop := fun h => ∃ oc vs t, h.get? c = some oc ∧ oc.data = .fields vs ∧ vs[1]? = some (.str qual t)
def Dw (env : Env) (scope : Scope) (cl : List (Str × Addr)) : Prop := (∀ y c, cl.lookup y = some c → env.cells.lookup y = some c) ∧ ∀ y ∈ scope.names, y.2 = .free → cl.lookup y.1 = env.cells.lookup y.1
def v7 (env : Env) (name qual : Str) (params : Arguments) (body : List Stmt) (scope : Scope) (c q : Addr) : Heap → Prop := fun h => ∃ cl ctv doc pm, Dw env scope cl ∧ h.get? q = some (PySem.W.fnMade name qual params body scope cl doc pm c ctv)
structure wM (ps loc fs : List Str) (sc : Scope) : Prop where
  kind : sc.kind = .function
  co : sc.isCoroutine = false
  gen : sc.isGenerator = false
  nd : (ps ++ loc ++ fs).Nodup
  par : ∀ x ∈ ps, sc.names.lookup x = some .local
  fre : ∀ x ∈ fs, sc.names.lookup x = some .free
  nocell : ∀ y ∈ sc.names, y.2 ≠ .cell
structure D5 (scope : Scope) (cl : List (Str × Addr)) (fs : List Str) (fv : List V) (s : Shared) (H : Hp) : Prop where
  inj : ∀ x y c, cl.lookup x = some c → cl.lookup y = some c → x = y
  has : ∀ x, scope.names.lookup x = some .free → ∃ c, cl.lookup x = some c
  cell : ∀ x c, cl.lookup x = some c → (∃ v, s.heap.IsCell c v) ∧ H c = none
  val : ∀ (i : Nat) x v, fs[i]? = some x → fv[i]? = some v → ∃ c u, cl.lookup x = some c ∧ s.heap.IsCell c (some u) ∧ RelV v u
def B0 (P : Program) (w : World) (K : PySem.W.Frag) (mg : Str → Option Value) (base : Heap) (N : List Str) (qual : Str) (scope : Scope) (f : Addr) (cd : Value) (cl : List (Str × Addr)) (A : Around) (outer : List Env) (s : Shared) (H : Hp) (E : XK) : Cx where
  prog := P
  w := w
  K := K
  mg := mg
  base := base
  A := A.deeper (PySem.W.envX qual scope s.heap.objs.size f cd cl)
  N := N
  s₀ := s
  H₀ := H
  env := PySem.W.envX qual scope s.heap.objs.size f cd cl
  outer := outer
  stack := PySem.W.envX qual scope s.heap.objs.size f cd cl :: outer
  ex := []
  calm := true
  fn := fun _ => false
  pn := []
  xe := fun e s' => wpAny (model P w) (A.deeper (PySem.W.envX qual scope s.heap.objs.size f cd cl)) (leaving (PySem.W.envX qual scope s.heap.objs.size f cd cl) e) (fun _ s'' => fD outer H s E e s'') (fun e' s'' => fD outer H s E e' s'') s'
def vy (vs : List V) (loc : List Str) (fv : List V) : St := vs.map some ++ List.replicate loc.length none ++ fv.map some
def En (mg : Str → Option Value) (base : Heap) : Prop := ∃ bm o, mg "__builtins__" = some (.ref bm) ∧ bm ≠ builtinsNs ∧ bm ≠ mainGlobals ∧ base.get? bm = some o ∧ o.cls = .type "module" ∧ o.dict = some builtinsNs ∧ o.data = .plain
def FA (env : Env) (P0 : Addr) (name qual : Str) (params : Arguments) (body : List Stmt) (scope : Scope) (pos : Pos) (i : Nat) : TS := fun D σ H => ∃ ps, H P0 = some (.tbl ps) ∧ TriplesOk ps.toList ∧
  ((codeAmong pos ps.toList = none ∧ ∀ c q, H c = none → H q = none → q ≠ c → D.nx (σ.set i (some (.ref q))) (upd (upd (upd H P0 (.tbl (ps ++ #[rawInt pos.line, rawInt pos.col, .ref c]))) c (.ext (v8 c qual))) q (.ext (v7 env name qual params body scope c q)))) ∨
   ∃ c, codeAmong pos ps.toList = some (.ref c) ∧ H c = some (.ext (v8 c qual)) ∧ ∀ q, H q = none → D.nx (σ.set i (some (.ref q))) (upd H q (.ext (v7 env name qual params body scope c q))))
def FQ (H : Hp) (P0 : Addr) (pos : Pos) (qual : Str) : Prop := ∃ ps, H P0 = some (.tbl ps) ∧ TriplesOk ps.toList ∧ (codeAmong pos ps.toList = none ∨ ∃ c, codeAmong pos ps.toList = some (.ref c) ∧ H c = some (.ext (v8 c qual)))
def DG (P0 : Addr) (H H' : Hp) : Prop := ∀ b o, b ≠ P0 → H b = some o → H' b = some o
section
variable {X : Cx} {pins3 pins : List (Addr × Obj)} {σ3 σ' : St} {H3 H : Hp} {s3 s : Shared} {N' : List Str} {scope0 : Scope} {cl0 : List (Str × Addr)} {fp : List Addr} {C : Addr}
end
abbrev Cp := List V → List V → Hp → VK → Prop
structure FY (P : Program) (w : World) (K : PySem.W.Frag) (mg : Str → Option Value) (base : Heap) (k : Nat) (name qual : Str) (params : Arguments) (body : List Stmt) (scope : Scope) (ps loc fs : List Str) (sp : Cp) : Prop where
  sc : wM ps loc fs scope
  len : ∀ fv vs H Q, sp fv vs H Q → vs.length = ps.length ∧ fv.length = fs.length
  bind : ∀ (cl : List (Str × Addr)) (doc pm : Value) (c : Addr) (ctv : Value) (us : List Value), us.length = ps.length → bindArgs (PySem.W.fnX name qual params body scope cl .none .none doc pm none (.ref c) ctv) ⟨us, []⟩ = pure (ps.zip us)
  body : ∀ (f : Addr) (cd : Value) (cl : List (Str × Addr)) (A : Around) (outer : List Env) (s : Shared) (H : Hp) (E : XK) (fv vs : List V) (Q : VK), bL k (A.deeper (PySem.W.envX qual scope s.heap.objs.size f cd cl)) → sp fv vs H Q →
    ∃ t, oJ (B0 P w K mg base (ps ++ loc ++ fs) qual scope f cd cl A outer s H E).gZ body t ∧ t { nx := fun _ H' => Q .non H', rt := Q } (vy vs loc fv) H
def Ei (env : Env) (name qual : Str) (params : Arguments) (body : List Stmt) (scope : Scope) (i : Nat) (js : List Nat) (sp : Cp) (t : TA) (σ : St) : TE := fun σ' H Q => ∃ q c fv, σ'[i]? = some (some (.ref q)) ∧ fv.map some = cu js σ ∧ H q = some (.ext (v7 env name qual params body scope c q)) ∧
  t σ' H fun vs H1 => H1 q = some (.ext (v7 env name qual params body scope c q)) ∧ H1 c = some (.ext (v8 c qual)) ∧ sp fv vs H1 Q
section
variable {X : Cx} {pins3 : List (Addr × Obj)} {σ3 : St} {H3 : Hp} {s3 : Shared} {N' : List Str} {scope0 : Scope} {cl0 : List (Str × Addr)} {fp : List Addr} {C : Addr}
end
def Fu (wi : TI) (n : Nat) (is : List Nat) (g : TG) (tc : TT) (te : St → TE) : TE := fun σ H Q => wi σ H fun J H1 => ji J n is g tc (te σ) σ H1 Q
def DT (P0 : Addr) (H : Hp) : Prop := ∀ b, H b = none ∨ (∃ o xs, H b = some (.frz o (.lst xs))) ∨ (b = P0 ∧ H b = some (.tbl #[]))
end L2
namespace L2
open PySem PySem.Spec PyProof.Rows
structure DF (X : Cx) (P : Program) (w : World) (K : PySem.W.Frag) (mg : Str → Option Value) (base : Heap) (sc : Scope) (N : List Str) (k : Nat) : Prop where
  pr : X.prog = P
  wd : X.w = w
  fK : X.K = K
  gm : X.mg = mg
  bs : X.base = base
  calm : X.calm = true
  own : PassesOwn (model X.prog X.w) X.A X.env X.xe
  hsc : X.env.scope = sc
  hN : X.N = N
  nd : X.N.Nodup
  room : bL k X.A
section
variable {X : Cx} {P : Program} {w : World} {K : PySem.W.Frag} {mg : Str → Option Value} {base : Heap} {sc : Scope} {N : List Str} {k j : Nat} {x m : Str} {sp : Sp} {C : Addr}
end
def C1 (x : Str) (st : Stmt) (name : Str) : Str := qualnameIn (envOfC x (ao st) 0 0 .none) name name
def CT (s : Stmt) : Pos := match s with
  | .FunctionDef _ _ _ _ _ _ _ _ _ p => p
  | _ => ⟨0, 0, 0, 0⟩
end L2
namespace J
open PySem PySem.Spec PyProof.Rows L2
section
variable {P : Program} {w : World} {K : PySem.W.Frag} {mg : Str → Option Value} {base : Heap} {x qual name : Str} {st : Stmt} {f c0 P0 : Addr} {N ps loc fs : List Str} {k j : Nat} {sp : Sp} {cp : Cp}
variable {X : Cx} {sc : Scope} {params : Arguments} {body : List Stmt} {scope : Scope} {pos : Pos} {i : Nat}
end
end J
namespace L2
open PySem PySem.Spec PyProof.Rows
section
variable {X : Cx}
inductive Et (K : PySem.W.Frag) (H : Hp) (a : Addr) : Prop
  | mk (z : Str) (i : Int) (q : Addr) (s : br K H a [.str z, .int i, .ref q]) (w : CQ K H q)
inductive Fs (K : PySem.W.Frag) (xs : List V) (H : Hp) (Q : VK) : Prop
  | mk (p : Addr) (as : List Addr) (e : xs = [.ref p]) (s : aE K H p (as.map V.ref)) (hs : ∀ a ∈ as, Et K H a)
      (q : ∀ (l : Addr) (ys : List Addr), H l = none → ys.Perm as → Q (.ref l) (upd H l (.lst (ys.map V.ref))))
end
end L2
namespace J
open PySem L2
end J
namespace L2
open PySem PySem.Spec PyProof.Rows
theorem dS (a b : Str) : decide (V.str a = V.str b) = decide (a = b) := decide_eq_decide.mpr ⟨V.str.inj, congrArg _⟩
theorem dI (a b : Int) : decide (V.int a = V.int b) = decide (a = b) := decide_eq_decide.mpr ⟨V.int.inj, congrArg _⟩
end L2
namespace J
open PySem L2
end J
namespace L2
open PySem PySem.Spec PyProof.Rows
section
variable {X : Cx}
inductive F8 (K : PySem.W.Frag) (H : Hp) (a : Addr) : Prop
  | mk (i : Int) (z : Str) (q : Addr) (s : br K H a [.int i, .str z, .ref q]) (w : CQ K H q)
inductive FK (K : PySem.W.Frag) (xs : List V) (H : Hp) (Q : VK) : Prop
  | mk (p : Addr) (as : List Addr) (e : xs = [.ref p]) (s : aE K H p (as.map V.ref)) (hs : ∀ a ∈ as, F8 K H a)
      (q : ∀ (l : Addr) (ys : List Addr), H l = none → ys.Perm as → Q (.ref l) (upd H l (.lst (ys.map V.ref))))
end
end L2
namespace J
open PySem L2
end J
namespace L2
open PySem PySem.Spec PyProof.Rows
inductive Fc (h B : Heap) (e : Addr) (cls : Value) (dx : Option Addr) (fl : Value) : Prop
  | mk (oe : Obj) (vs : Array Value) (T : Addr) (oT : Obj) (ts : Array Value) (he : h.get? e = some oe) (hc : oe.cls = cls) (hx : oe.dict = dx) (hd : oe.data = .fields vs) (h1 : vs[1]? = some (.ref T)) (nT : B.get? T = none) (ne : T ≠ e) (hT : h.get? T = some oT) (hdT : oT.data = .fields ts) (h3 : ts[3]? = some fl)
structure iB (B : Heap) (l : List Env) (e : Addr) (cls : Value) (dx : Option Addr) (fl : Value) (h : Heap) : Prop where
  st : B.StaysIn h
  nw : B.get? e = none
  ff : h.FunFrames B l
  tr : Fc h B e cls dx fl
theorem j6 (f : Array Value → Array Value) (o : Obj) : (Obj.mapFields f o).dict = o.dict := by
  obtain ⟨c, d, x, sl⟩ := o
  cases x <;> rfl
section
variable {M : Model} {A : Around} {E : Value → Shared → Prop} {s : Shared} {B : Heap} {env : Env} {outer l : List Env} {L e : Addr} {dx : Option Addr} {cls : Value}
theorem nh {oe : Obj} {vs : Array Value} {head : Value} {hadNext : Bool} {Q : Unit → Shared → Prop} (fr : A.frames = some (env :: outer)) (ff : s.heap.FunFrames B (env :: outer)) (lf : env.frame = some L) (eo : s.heap.get? e = some oe) (st : B.StaysIn s.heap) (nw : B.get? e = none) (fd : oe.data = .fields vs) (xd : oe.dict = dx) (sz : 1 < vs.size)
    (k : ∀ h', iB B (env :: outer) e oe.cls dx (rawInt L) h' → s.heap.UpToSlots h' → Q () { s with heap := h' }) :
    wpAny M A (do let a ← frameOf env; let pl ← entryPlaceOf L hadNext; let b ← EntryCells.newEntry head a .none (rawInt L) .none pl; setField (.ref e) 1 b) Q E s := by
  have ef : e ∉ (env :: outer).filterMap (·.frame) := fun m => by
    obtain ⟨_, o, ho, n⟩ := ff.mem m
    rw [eo] at ho
    cases ho
    exact n vs fd
  refine wpAny_bind (wpAny_frameOf_fun fr ff lf fun g1 x1 => wpAny_bind (wpAny_entryPlaceOf fun pl lp => ?_))
  unfold EntryCells.newEntry newFields
  refine wpAny_bind (wpAny_newObj_type ?_ (lp.sizeOk5 _ _ _ _ _))
  have e1 : g1.get? e = some oe := (x1.2.1 e ef).trans eo
  have st1 : B.StaysIn g1 := fun b o q => (x1.2.1 b fun m => by rw [(ff.mem m).1] at q; cases q).trans (st b o q)
  generalize hto : ({ cls := .type "traceback", dict := none, data := .fields ([head, .ref L, .none, rawInt L, .none] ++ (if pl.isEmpty then List.replicate 6 Value.none else pl)).toArray } : Obj) = tO
  have e2 := Heap.get?_push_of_some (h := g1) tO e1
  refine wpAny_setField e2 fd sz (k _ ?_ ?_)
  all_goals
    have te : g1.objs.size ≠ e := Nat.ne_of_gt (Heap.lt_size e1)
    have d3 := Obj.data_mapFields fd (·.setIfInBounds 1 (Value.ref g1.objs.size))
    have e3 := Heap.get?_update_self (Obj.mapFields (·.setIfInBounds 1 (Value.ref g1.objs.size))) e2 (Obj.isFreed_of_fields d3)
    have hfr : tO.data = .fields ([head, .ref L, .none, rawInt L, .none] ++ (if pl.isEmpty then List.replicate 6 Value.none else pl)).toArray := by rw [← hto]
    have t3 := (Heap.get?_update_other (g1.push tO) (Obj.mapFields (·.setIfInBounds 1 (Value.ref g1.objs.size))) (Ne.symm te)).trans (Heap.get?_push_size g1 (Obj.isFreed_of_fields hfr))
    have keep : ∀ b o, b ≠ e → g1.get? b = some o → ((g1.push tO).update e (Obj.mapFields (·.setIfInBounds 1 (Value.ref g1.objs.size)))).get? b = some o := fun b o n q => by
      rw [Heap.get?_update_other _ _ (Ne.symm n)]
      exact Heap.get?_push_of_some _ q
    have nr : ∀ b o, s.heap.get? b = some o → (∀ vs, o.data ≠ .fields vs) → b ≠ e := fun b o q n z => by
      rw [z, eo] at q
      cases q
      exact n vs fd
  · refine ⟨fun b o q => keep b o (fun z => by rw [z, nw] at q; cases q) (st1 b o q), nw, ff.of_keeps fun b o q n => ?_, ⟨_, _, g1.objs.size, tO, _, e3, Obj.cls_mapFields _ _, (j6 _ _).trans xd, d3, by simp [sz], st1.fresh, te, t3, hfr, by first | (simp; done) | (rcases lp with rfl | ⟨_, _, _, _, _, _, _, rfl⟩ <;> simp)⟩⟩
    obtain ⟨sl, hs⟩ := x1.2.2 b o q
    exact ⟨_, keep b _ (nr b o q n) hs, rfl⟩
  · intro b o q n
    obtain ⟨sl, hs⟩ := x1.2.2 b o q
    exact ⟨sl, keep b _ (nr b o q n) hs⟩
theorem o8 {oe : Obj} {vs : Array Value} {Q : Unit → Shared → Prop} (fr : A.frames = some (env :: outer)) (ff : s.heap.FunFrames B (env :: outer)) (lf : env.frame = some L) (eo : s.heap.get? e = some oe) (st : B.StaysIn s.heap) (nw : B.get? e = none) (fd : oe.data = .fields vs) (xd : oe.dict = dx) (v1 : vs[1]? = some .none)
    (k : ∀ h', iB B (env :: outer) e oe.cls dx (rawInt L) h' → s.heap.UpToSlots h' → Q () { s with heap := h' }) : wpAny M A (noteFrame (.ref e) env) Q E s := by
  unfold noteFrame
  simp only [lf]
  refine wpAny_bind (wpAny_field eo fd v1 ?_)
  rw [if_neg (by decide)]
  exact nh fr ff lf eo st nw fd xd (Array.getElem?_eq_some_iff.mp v1).1 k
theorem lg {Q : Unit → Shared → Prop} (fr : A.frames = some (env :: outer)) (lf : env.frame = some L) (F : iB B (env :: outer) e cls dx .none s.heap) (k : ∀ h', iB B (env :: outer) e cls dx (rawInt L) h' → s.heap.UpToSlots h' → Q () { s with heap := h' }) : wpAny M A (noteFrame (.ref e) env) Q E s := by
  obtain ⟨st, nw, ff, oe, vs, T, oT, ts, he, rfl, hx, hd, h1, nT, ne, hT, hdT, h3⟩ := F
  unfold noteFrame
  simp only [lf]
  refine wpAny_bind (wpAny_field he hd h1 ?_)
  rw [if_pos (show (Value.ref T != Value.none) = true from by simp)]
  refine wpAny_bind (wpAny_field hT hdT h3 ?_)
  rw [if_neg (show ¬ ((Value.none == rawInt L) = true) from by simp [rawInt])]
  refine wpAny_bind (wpAny_setField hT hdT (Array.getElem?_eq_some_iff.mp h3).1 ?_)
  have oth : ∀ b, b ≠ T → (s.heap.update T (Obj.mapFields (·.setIfInBounds 3 Value.none))).get? b = s.heap.get? b := fun b n => Heap.get?_update_other _ _ (Ne.symm n)
  have nr : ∀ b o, s.heap.get? b = some o → (∀ vs, o.data ≠ .fields vs) → b ≠ T := fun b o q n z => by
    rw [z, hT] at q
    cases q
    exact n ts hdT
  refine nh fr (ff.of_keeps fun b o q n => ⟨o, (oth b (nr b o q n)).trans q, rfl⟩) lf ((oth e (Ne.symm ne)).trans he) (fun b o q => (oth b fun z => by rw [z, nT] at q; cases q).trans (st b o q)) nw hd hx (Array.getElem?_eq_some_iff.mp h1).1 fun h' f u => k h' f fun b o q n => u b o ((oth b (nr b o q n)).trans q) n
theorem ee {fl : Value} {Q : Unit → Shared → Prop} (F : iB B l e cls dx fl s.heap) (k : ∀ h', iB B l e cls dx .none h' → s.heap.UpToSlots h' → Q () { s with heap := h' }) : wpAny M A (setFlight (.ref e) none) Q E s := by
  obtain ⟨st, nw, ff, oe, vs, T, oT, ts, he, hc, hx, hd, h1, nT, ne, hT, hdT, h3⟩ := F
  have s3 : 3 < ts.size := (Array.getElem?_eq_some_iff.mp h3).1
  have oth : ∀ b, b ≠ T → (s.heap.update T (Obj.mapFields (·.setIfInBounds 3 ((none : Option Addr).elim Value.none fun f => rawInt f)))).get? b = s.heap.get? b := fun b n => Heap.get?_update_other _ _ (Ne.symm n)
  have nr : ∀ b o, s.heap.get? b = some o → (∀ vs, o.data ≠ .fields vs) → b ≠ T := fun b o q n z => by
    rw [z, hT] at q
    cases q
    exact n ts hdT
  unfold setFlight
  refine wpAny_bind (wpAny_field he hd h1 ?_)
  rw [if_pos (show (Value.ref T != Value.none) = true from by simp)]
  refine wpAny_setField hT hdT s3 (k _ ⟨fun b o q => (oth b fun z => by rw [z, nT] at q; cases q).trans (st b o q), nw, ff.of_keeps fun b o q n => ⟨o, (oth b (nr b o q n)).trans q, rfl⟩, ⟨oe, vs, T, _, _, (oth e (Ne.symm ne)).trans he, hc, hx, hd, h1, nT, ne, Heap.get?_update_self _ hT (Obj.isFreed_of_fields (Obj.data_mapFields hdT _)), Obj.data_mapFields hdT _, by simp [s3]⟩⟩ fun b o q n => ⟨o.slots, (oth b (nr b o q n)).trans q⟩)
theorem iB.pop {fl : Value} {h : Heap} (F : iB B (env :: outer) e cls dx fl h) : iB B outer e cls dx fl h := by
  obtain ⟨st, nw, ⟨_, _, ff⟩, tr⟩ := F
  exact ⟨st, nw, ff, tr⟩
theorem i9 {oe : Obj} {vs : Array Value} {Q : Unit → Shared → Prop} (fr : A.frames = some (env :: outer)) (ff : s.heap.FunFrames B (env :: outer)) (lf : env.frame = some L) (eo : s.heap.get? e = some oe) (st : B.StaysIn s.heap) (nw : B.get? e = none) (fd : oe.data = .fields vs) (xd : oe.dict = dx) (v1 : vs[1]? = some .none)
    (k : ∀ h', iB B outer e oe.cls dx .none h' → s.heap.UpToSlots h' → Q () { s with heap := h' }) : wpAny M A (leaving env (.ref e)) Q E s := by
  unfold leaving
  exact wpAny_bind (o8 fr ff lf eo st nw fd xd v1 fun h' f u => ee f fun h2 f2 u2 => k h2 f2.pop (u.trans u2))
theorem pe {Q : Unit → Shared → Prop} (fr : A.frames = some (env :: outer)) (lf : env.frame = some L) (F : iB B (env :: outer) e cls dx .none s.heap) (k : ∀ h', iB B outer e cls dx .none h' → s.heap.UpToSlots h' → Q () { s with heap := h' }) : wpAny M A (leaving env (.ref e)) Q E s := by
  unfold leaving
  exact wpAny_bind (lg fr lf F fun h' f u => ee f fun h2 f2 u2 => k h2 f2.pop (u.trans u2))
end
end L2
namespace L2
open PySem PySem.Spec PyProof.Rows
section
variable {prog : Program} {w : World} {A : Around} {E : Value → Shared → Prop} {h : Heap} {g : Array GenState} {d : Drawn} {t : Nat} {os : OsState}
variable {nm q : Str} {C N fI : Addr} {bs bm : List Value} {hdct : Bool} {sn : List Str} {sub : List Value} {ab : Bool} {col : Option Bool} {dd : Option Addr} {k0 k1 k2 k3 k5 : Option Value} {oI : Obj} {mN : Str → Option Value} {rest : List Value}
theorem qU {Q : Fin → Shared → Prop} (hC : h.get? C = some (excClassObj nm q C N bs bm hdct sn sub ab col dd k0 k1 k2 k3 k5 "ValueError.__new__")) (T : OwnTail h dF bm) (ns : h.Ns N mN) (hi : mN "__init__" = some (.ref fI)) (fo : h.get? fI = some oI) (fc : oI.cls = .type "function") (hl : rest.length ≤ sizeLine)
    (k : ∀ h' e, Heap.MadeExcOf h h' e (.ref C) rest → h.objs.size ≤ e → wpAny (model prog w) A (call (.ref fI) (.ref e :: rest)) (fun r s' => r = .none ∧ Q (.done (.ret (.ref e))) s') E ⟨h', g, d, t, os⟩) :
    wpAny (model prog w) A (Builtin.«type.__call__» ⟨.ref C :: rest, []⟩) Q E ⟨h, g, d, t, os⟩ := by
  have F := PySem.F.excBase_ValueError
  repeat (first | with_reducible refine wpAny_loadPart_at hC ?_ | with_reducible refine wpAny_madeBy_exc hC ?_ | wp_step)
  refine codeAny_call_builtin_code (Code.quiet_builtin _ F.quiet) (wpAny_check_new_subT F T hC (codeAny_exc_new_subT F T hC ?_ hl))
  show wpAny _ _ _ _ _ _
  have up : ∀ {b : Addr} {o : Obj}, h.get? b = some o → ((h.push { cls := .type "tuple", data := .seq rest.toArray }).push { cls := .ref C, data := .fields #[.ref h.objs.size, .none, .none, .none, .bool false, .none] }).get? b = some o := fun q => Heap.get?_push_of_some _ (Heap.get?_push_of_some _ q)
  have eo : ((h.push { cls := .type "tuple", data := .seq rest.toArray }).push { cls := .ref C, data := .fields #[.ref h.objs.size, .none, .none, .none, .bool false, .none] }).get? (h.objs.size + 1) = some { cls := .ref C, data := .fields #[.ref h.objs.size, .none, .none, .none, .bool false, .none] } := by heap_get
  have self : (Value.ref C :: bm).contains (.ref C) = true := by simp
  unfold isInstance
  repeat (first | with_reducible refine wpAny_loadPart_at eo ?_ | (with_reducible refine wpAny_isSubtype_exc (up hC) ?_; rw [self]) | wp_step)
  show wpAny _ _ (typeLookup (.ref C) _) _ _ _
  refine wpAny_typeLookup_tail (up hC) (let ⟨o, es, ep, e, r⟩ := ns; ⟨o, es, ep, up e, r⟩) (T.keeps fun _ _ q => up q) F.mroIs F.init.lookup ?_
  rw [hi]
  refine wpAny_holding (wpAny_bind ?_)
  unfold bindSpecial
  refine wpAny_bind (wpAny_typeOf (T := "function") ⟨_, up fo, fc⟩ ?_)
  rw [if_pos (by decide)]
  refine wpAny_pure (wpAny_bind (wpAny_mono (k _ (h.objs.size + 1) ⟨fun _ _ q => up q, Heap.get?_none_of_le (Nat.le_succ _), h.objs.size, eo, Heap.get?_none_of_le (Nat.le_refl _), Heap.get?_push_of_some _ (Heap.get?_push_at rfl rfl)⟩ (Nat.le_succ _)) (fun r s' hr => ?_) fun _ _ x => x))
  obtain ⟨rfl, hQ⟩ := hr
  wp_walk
  exact hQ
theorem qG {Q : Value → Shared → Prop} (hC : h.get? C = some (excClassObj nm q C N bs bm hdct sn sub ab col dd k0 k1 k2 k3 k5 "ValueError.__new__")) (T : OwnTail h dF bm) (ns : h.Ns N mN) (hi : mN "__init__" = some (.ref fI)) (fo : h.get? fI = some oI) (fc : oI.cls = .type "function") (hl : rest.length ≤ sizeLine)
    (k : ∀ h' e, Heap.MadeExcOf h h' e (.ref C) rest → h.objs.size ≤ e → wpAny (model prog w) (A.under (.builtin "type.__call__" ⟨.ref C :: rest, []⟩)) (call (.ref fI) (.ref e :: rest)) (fun r s' => r = .none ∧ Q (.ref e) s') E ⟨h', g, d, t, os⟩) :
    wpAny (model prog w) A (call (.ref C) rest) Q E ⟨h, g, d, t, os⟩ := by
  have f1 := tc_lookup
  have f2 := tc_bind (.ref C)
  have ty : (⟨h, g, d, t, os⟩ : Shared).TypeIs (.ref C) "type" := ⟨_, hC, rfl⟩
  refine wpAny_call (codeAny_of_tree ?_)
  show wpAny _ _ (callAny (.ref C) _) _ _ _
  repeat (any_goals (first | assumption | with_reducible refine wpAny_loadPart_at hC ?_ | wp_step))
  exact ⟨rfl, codeAny_call_builtin_at (Code.quiet_builtin _ (by decide +kernel)) entry_typeCall (wpAny_check_type_call_sub hC (qU hC T ns hi fo fc hl fun h' e hm hz => k h' e hm hz))⟩
theorem nN {M : Model} {env : Env} {s : Shared} {x : Sem Value} {Q : Flow → Shared → Prop} (hb : bm.contains (.type "BaseException") = true) (hh : A.handled = none)
    (k : wpAny M A x (fun v s1 => ∃ e oe vs, v = .ref e ∧ s1.heap.get? C = some (excClassObj nm q C N bs bm hdct sn sub ab col dd k0 k1 k2 k3 k5 "ValueError.__new__") ∧ s1.heap.get? e = some oe ∧ oe.cls = .ref C ∧ oe.data = .fields vs ∧ vs[1]? = some .none ∧ E (.ref e) s1) E s) : wpAny M A (raiseStmt env (some x) none) Q E s := by
  have cb : (Value.ref C :: bm).contains (.type "BaseException") = true := by rw [List.contains_cons, hb, Bool.or_true]
  unfold raiseStmt
  refine wpAny_bind (wpAny_mono k (fun v s1 hx => ?_) fun _ _ x => x)
  obtain ⟨e, oe, vs, rfl, hC, he, hc, hd, v1, hE⟩ := hx
  obtain ⟨oc, od, odt, osl⟩ := oe
  cases hd
  cases hc
  obtain ⟨hp, g, d, tk, os⟩ := s1
  repeat (first | with_reducible refine wpAny_loadPart_at he ?_ | with_reducible refine wpAny_loadPart_at hC ?_ | (with_reducible refine wpAny_isSubtype_exc hC ?_; rw [cb]) | rw [v1] | wp_step)
  exact wpAny_raiseNew_none hh hE
end
end L2
namespace L2
open PySem PySem.Spec PyProof.Rows PySem.F
open Builtin Builtin.ObjectAttr
def qI : List Str := ["__getattribute__", "__getattr__", "__class__", "__setattr__", "part"]
structure iZ (h : Heap) (C Kc : Addr) : Prop where
  ex : ∃ (nm q : Str) (N : Addr) (bs : List Value) (sn : List Str) (sub : List Value) (ab : Bool) (col : Option Bool) (dd : Option Addr) (k0 k1 k2 k3 k5 : Option Value) (mN : Str → Option Value),
    h.get? C = some (excClassObj nm q C N bs (.ref Kc :: dF) true sn sub ab col dd k0 k1 k2 k3 k5 "ValueError.__new__") ∧ h.Ns N mN ∧ ∀ n ∈ qI, mN n = none
  ek : ∃ (nm q : Str) (N : Addr) (bs : List Value) (hdct : Bool) (sn : List Str) (sub : List Value) (ab : Bool) (col : Option Bool) (dd : Option Addr) (k0 k1 k2 k3 k5 : Option Value) (newId : String) (mN : Str → Option Value),
    h.get? Kc = some (excClassObj nm q Kc N bs dF hdct sn sub ab col dd k0 k1 k2 k3 k5 newId) ∧ h.Ns N mN ∧ ∀ n ∈ qI, mN n = none
theorem kg : typeLookup (.type "ValueError") "part" = pure none := by rw [typeLookup_type, builtinLookup_eq_fast]; kernel_rfl
section
variable {prog : Program} {w : World} {A : Around} {E : Value → Shared → Prop} {h : Heap} {g : Array GenState} {d : Drawn} {t : Nat} {os : OsState} {a C Kc : Addr} {o : Obj} {vs : Array Value} {v : Value}
theorem bN {M : Model} {n : Str} {y : Option Value} {Q : Option Value → Shared → Prop} (T : iZ h C Kc) (hn : n ∈ qI) (hB : typeLookup (.type "ValueError") n = pure y) (hq : Q y ⟨h, g, d, t, os⟩) : wpAny M A (typeLookup (.ref C) n) Q E ⟨h, g, d, t, os⟩ := by
  obtain ⟨nm, q, N, bs, sn, sub, ab, col, dd, k0, k1, k2, k3, k5, mN, hC, hN, hz⟩ := T.ex
  obtain ⟨nm', q', N', bs', hdct', sn', sub', ab', col', dd', k0', k1', k2', k3', k5', newId', mN', hC', hN', hz'⟩ := T.ek
  have hrest : lookupAlong dF n = pure y := by
    have hB' := hB
    rw [typeLookup_eq, PySem.F.excBase_ValueError.mroIs] at hB'
    exact hB'
  rw [typeLookup_eq]
  refine wpAny_bind (wpAny_mroOf_exc hC ?_)
  rw [lookupAlong_cons]
  refine wpAny_bind (wpAny_classOwn_exc hC hN ?_)
  rw [hz n hn]
  dsimp only
  rw [lookupAlong_cons]
  refine wpAny_bind (wpAny_classOwn_exc hC' hN' ?_)
  rw [hz' n hn]
  dsimp only
  rw [hrest]
  exact wpAny_pure hq
theorem sE : ("part" : Str) ∈ qI := .tail _ (.tail _ (.tail _ (.tail _ (.head _))))
theorem Ao : ("__setattr__" : Str) ∈ qI := .tail _ (.tail _ (.tail _ (.head _)))
theorem ux {M : Model} {bS : Value} {Q : Unit → Shared → Prop} (T : iZ h C Kc) (hx : h.get? a = some o) (hc : o.cls = .ref C) (hq : Q () ⟨h, g, d, t, os⟩) : wpAny M A (checkBuiltinCall "object.__setattr__" ⟨[.ref a, bS, v], []⟩) Q E ⟨h, g, d, t, os⟩ := by
  obtain ⟨nm, q, N, bs, sn, sub, ab, col, dd, k0, k1, k2, k3, k5, mN, hC, hN, hz⟩ := T.ex
  have S := store_ValueError
  have hcB : (Value.ref C :: Value.ref Kc :: dF).contains (.type "object") = true := by
    unfold dF
    simp
  have ha := S.args (.ref a) bS v
  simp only [checkBuiltinCall, S.kind, S.split]
  refine wpAny_bind ?_
  unfold isInstance
  repeat (first | (with_reducible refine wpAny_loadPart_at hx ?_; rw [hc]) | (with_reducible refine wpAny_isSubtype_exc hC ?_; rw [hcB]) | wp_step)
  exact hq
theorem uY {tk : Tok} {Q : Fin → Shared → Prop} (T : iZ h C Kc) (hx : h.get? a = some o) (hc : o.cls = .ref C) (hd : o.data = .fields vs) (nd : o.dict = none)
    (k : ∀ h' tk' dx, h'.get? a = some { o with dict := some dx } → h'.Ns1 dx (fun y => if y = "part" then some v else none) → (∀ b u, b ≠ a → h.get? b = some u → h'.get? b = some u) → h.objs.size ≤ dx → dx ≠ a → Q (.done (.ret .none)) ⟨h', g, d, tk', os⟩) :
    wpAny (model prog w) A (Builtin.«object.__setattr__» ⟨[.ref a, .str "part" tk, v], []⟩) Q E ⟨h, g, d, t, os⟩ := by
  obtain ⟨nm, q, N, bs, sn, sub, ab, col, dd, k0, k1, k2, k3, k5, mN, hC, hN, hz⟩ := id T.ex
  have hp := store_ValueError.passes (.ref a)
  have hp : refuseLoop (.ref a) "__setattr__" dF = pure () := hp
  unfold Builtin.«object.__setattr__»
  repeat (first | rw [refuse_eq] | (rw [refuseLoop_ref, refuseLoop_ref, hp]) | (with_reducible refine wpAny_loadPart_at hx ?_; rw [hc]) | with_reducible refine wpAny_mroOf_exc hC ?_ | with_reducible refine bN T sE kg ?_ | wp_step)
  rw [nd, if_neg (by simp [typeHasDict])]
  obtain ⟨oc, od, odt, osl⟩ := o
  cases hd
  cases nd
  have x1 : (h.push { cls := .type "dict", data := .dict #[] }).get? a = some _ := Heap.get?_push_of_some _ hx
  have ne : a ≠ h.objs.size := Nat.ne_of_lt (Heap.lt_size hx)
  refine wpAny_bind (wpAny_alloc' (wpAny_bind (wpAny_update' x1 (wpAny_pure ?_))))
  show wpAny _ _ (storeInDict h.objs.size (.str "part" tk) "part" v) _ _ _
  have gd : ((h.push { cls := .type "dict", data := .dict #[] }).update a fun o => { cls := o.cls, dict := some h.objs.size, data := o.data, slots := o.slots }).get? h.objs.size = some { cls := .type "dict", data := .dict #[] } := (Heap.get?_update_ne _ _ _ _ ne.symm).trans (Heap.get?_push_at rfl rfl)
  have gn : ((h.push { cls := .type "dict", data := .dict #[] }).update a fun o => { cls := o.cls, dict := some h.objs.size, data := o.data, slots := o.slots }).Ns h.objs.size (fun _ => none) := ⟨_, #[], _, gd, rfl, fun e he => absurd he (by simp), fun _ => rfl⟩
  unfold storeInDict newKeyGuard
  refine wpAny_bind (wpAny_pure (wpAny_bind (wpAny_nsSet1 (Heap.Ns1.of_empty gn) fun h' n' sb => ?_)))
  obtain ⟨oD, esD, epD, hoD, hdD, hcD⟩ := n'.count (Within.cons "part" v Within.nil)
  refine wpAny_bind (wpAny_lookBehind hoD (by rw [hdD]; exact pastItsLine_dict (Nat.le_trans hcD (by rw [List.length_cons, List.length_nil, sizeLine_eq]; omega))) ?_)
  wp_walk
  refine k h' _ h.objs.size ((sb.2 a ne).trans (Heap.get?_update_self _ x1 rfl)) n' (fun b u nb q => (sb.2 b (Nat.ne_of_lt (Heap.lt_size q))).trans ((Heap.get?_update_ne _ _ _ _ nb).trans (Heap.get?_push_of_some _ q))) (Nat.le_refl _) ne.symm
theorem t9 {Q : Unit → Shared → Prop} (T : iZ h C Kc) (hx : h.get? a = some o) (hc : o.cls = .ref C) (hd : o.data = .fields vs) (nd : o.dict = none)
    (k : ∀ h' tk' dx, h'.get? a = some { o with dict := some dx } → h'.Ns1 dx (fun y => if y = "part" then some v else none) → (∀ b u, b ≠ a → h.get? b = some u → h'.get? b = some u) → h.objs.size ≤ dx → dx ≠ a → Q () ⟨h', g, d, tk', os⟩) : wpAny (model prog w) A (setAttr (.ref a) "part" v) Q E ⟨h, g, d, t, os⟩ := by
  have f3 := store_ValueError.slot.bind (.ref a)
  unfold setAttr callSpecial? specialOf
  repeat (any_goals (first | assumption | (with_reducible refine wpAny_loadPart_at hx ?_; rw [hc]) | with_reducible refine bN T Ao store_ValueError.slot.lookup ?_ | wp_step))
  refine codeAny_call_builtin store_ValueError.slot.plain store_ValueError.entry (ux T hx hc (uY T hx hc hd nd fun h' tk' dx a1 a2 a3 a4 a5 => ?_))
  repeat (any_goals (first | assumption | wp_step))
  exact k h' tk' dx a1 a2 a3 a4 a5
theorem kL {M : Model} {bS : Value} {Q : Unit → Shared → Prop} (T : iZ h C Kc) (hx : h.get? a = some o) (hc : o.cls = .ref C) (hq : Q () ⟨h, g, d, t, os⟩) : wpAny M A (checkBuiltinCall "BaseException.__getattribute__" ⟨[.ref a, bS], []⟩) Q E ⟨h, g, d, t, os⟩ := by
  obtain ⟨nm, q, N, bs, sn, sub, ab, col, dd, k0, k1, k2, k3, k5, mN, hC, hN, hz⟩ := T.ex
  have hk : builtinKind "BaseException.__getattribute__" = some .slot := by decide +kernel
  have hsplit : splitId "BaseException.__getattribute__" = some ("BaseException", "__getattribute__") := by decide +kernel
  have hcB : (Value.ref C :: Value.ref Kc :: dF).contains (.type "BaseException") = true := by
    unfold dF
    simp
  have ha := args_bexc_ga (.ref a) bS
  simp only [checkBuiltinCall, hk, hsplit]
  refine wpAny_bind ?_
  unfold isInstance
  repeat (first | (with_reducible refine wpAny_loadPart_at hx ?_; rw [hc]) | (with_reducible refine wpAny_isSubtype_exc hC ?_; rw [hcB]) | wp_step)
  exact hq
theorem rE {tk : Tok} {dx : Addr} {mA : Str → Option Value} {Q : Fin → Shared → Prop} (T : iZ h C Kc) (hx : h.get? a = some o) (hc : o.cls = .ref C) (hd : o.data = .fields vs) (xd : o.dict = some dx) (ns : h.Ns dx mA) (hv : mA "part" = some v) (hq : Q (.done (.ret v)) ⟨h, g, d, t, os⟩) :
    wpAny (model prog w) A (Builtin.«object.__getattribute__» ⟨[.ref a, .str "part" tk], []⟩) Q E ⟨h, g, d, t, os⟩ := by
  obtain ⟨nm, q, N, bs, sn, sub, ab, col, dd, k0, k1, k2, k3, k5, mN, hC, hN, hz⟩ := id T.ex
  obtain ⟨oc, od, odt, osl⟩ := o
  cases hd
  cases xd
  cases hc
  repeat (any_goals (first | assumption | with_reducible refine wpAny_loadPart_at hx ?_ | with_reducible refine wpAny_loadPart_at hC ?_ | with_reducible refine bN T sE kg ?_ | (with_reducible refine wpAny_nsGet ns ?_; rw [hv]) | wp_step))
theorem Bg {tk : Tok} {fill expr : Bool} {dx : Addr} {mA : Str → Option Value} {Q : Value → Shared → Prop} (T : iZ h C Kc) (hx : h.get? a = some o) (hc : o.cls = .ref C) (hd : o.data = .fields vs) (xd : o.dict = some dx) (ns : h.Ns dx mA) (hv : mA "part" = some v) (hb : ∀ id, v ≠ .builtin id) (hq : Q v ⟨h, g, d, t, os⟩) :
    wpAny (model prog w) A (getAttrBy (.ref a) (.str "part" tk) fill expr) Q E ⟨h, g, d, t, os⟩ := by
  have f3 := attrBase_ValueError.ga.bind (.ref a)
  have hx0 : (expr && onTheHeap (Value.builtin "BaseException.__getattribute__")) = false := by cases expr <;> rfl
  have hx2 : (Value.builtin "BaseException.__getattribute__" == Value.builtin "object.__getattribute__") = false := by decide +kernel
  have hx1 : (onTheHeap (Value.ref C) && Value.builtin "BaseException.__getattribute__" == Value.builtin "object.__getattribute__") = false := by rw [hx2]; rfl
  have hm1 : ("__getattribute__" : Str) ∈ qI := .head _
  have hm2 : ("__getattr__" : Str) ∈ qI := .tail _ (.head _)
  repeat (any_goals (first | assumption | (with_reducible refine wpAny_loadPart_at hx ?_; rw [hc]) | with_reducible refine bN T hm1 attrBase_ValueError.ga.lookup ?_ | with_reducible refine bN T hm2 attrBase_ValueError.noGetattr ?_ | wp_step))
  refine codeAny_call_builtin attrBase_ValueError.ga.plain entry_bexc_ga (kL T hx hc (rE T hx hc hd xd ns hv ?_))
  repeat (any_goals (first | assumption | wp_step))
  cases v with
  | builtin id => exact absurd rfl (hb id)
  | _ => exact wpAny_pure hq
theorem vV {expr : Bool} {dx : Addr} {mA : Str → Option Value} {Q : Value → Shared → Prop} (T : iZ h C Kc) (hx : h.get? a = some o) (hc : o.cls = .ref C) (hd : o.data = .fields vs) (xd : o.dict = some dx) (ns : h.Ns dx mA) (hv : mA "part" = some v) (hb : ∀ id, v ≠ .builtin id) (hq : Q v ⟨h, g, d, t + 1, os⟩) :
    wpAny (model prog w) A (getAttr (.ref a) "part" expr) Q E ⟨h, g, d, t, os⟩ := by
  unfold getAttr
  repeat (any_goals (first | assumption | with_reducible apply Bg T hx hc hd xd ns hv hb | wp_step))
end
end L2
namespace L2
open PySem PySem.Spec PyProof.Rows
structure eJ (K : PySem.W.Frag) (C Kc fI : Addr) : Prop where
  ex : ∃ (nm q : Str) (N : Addr) (bs : List Value) (sn : List Str) (sub : List Value) (ab : Bool) (col : Option Bool) (dd : Option Addr) (k0 k1 k2 k3 k5 : Option Value),
    K.lookup C = some (excClassObj nm q C N bs (.ref Kc :: dF) true sn sub ab col dd k0 k1 k2 k3 k5 "ValueError.__new__") ∧ PySem.W.nsOkIn K N = true ∧ PySem.W.nsIn K N "__init__" = some (some (.ref fI)) ∧ ∀ n ∈ qI, PySem.W.nsIn K N n = some none
  ek : ∃ (nm q : Str) (N : Addr) (bs : List Value) (hdct : Bool) (sn : List Str) (sub : List Value) (ab : Bool) (col : Option Bool) (dd : Option Addr) (k0 k1 k2 k3 k5 : Option Value) (newId : String),
    K.lookup Kc = some (excClassObj nm q Kc N bs dF hdct sn sub ab col dd k0 k1 k2 k3 k5 newId) ∧ PySem.W.nsOkIn K N = true ∧ ∀ n ∈ qI, PySem.W.nsIn K N n = some none
  tl : PySem.W.tailIn K dF (.ref Kc :: dF) = true
  fn : PySem.W.isFn K (.ref fI) = true
theorem eJ.two {K : PySem.W.Frag} {h : Heap} {C Kc fI : Addr} (O : eJ K C Kc fI) (X : K.In h) : iZ h C Kc := by
  obtain ⟨nm, q, N, bs, sn, sub, ab, col, dd, k0, k1, k2, k3, k5, lk, ok, _, hz⟩ := O.ex
  obtain ⟨nm', q', N', bs', hd', sn', sub', ab', col', dd', k0', k1', k2', k3', k5', ni', lk', ok', hz'⟩ := O.ek
  exact ⟨⟨nm, q, N, bs, sn, sub, ab, col, dd, k0, k1, k2, k3, k5, h.nsMap N, X _ _ lk, .of_isNs (PySem.W.isNs_of_in X ok), fun n hn => PySem.W.nsMap_none_of_in X ok (hz n hn)⟩,
    ⟨nm', q', N', bs', hd', sn', sub', ab', col', dd', k0', k1', k2', k3', k5', ni', h.nsMap N', X _ _ lk', .of_isNs (PySem.W.isNs_of_in X ok'), fun n hn => PySem.W.nsMap_none_of_in X ok' (hz' n hn)⟩⟩
def vb (ea C : Addr) : Heap → Prop := fun h => ∃ ob vs, h.get? ea = some ob ∧ ob.cls = .ref C ∧ ob.data = .fields vs ∧ vs[1]? = some .none ∧ ob.dict = none
def vS (ea C dx : Addr) : Heap → Prop := fun h => ∃ ob vs, h.get? ea = some ob ∧ ob.cls = .ref C ∧ ob.data = .fields vs ∧ vs[1]? = some .none ∧ ob.dict = some dx
def qj (ea C dx : Addr) : Heap → Prop := fun h => ∃ ob vs, h.get? ea = some ob ∧ ob.cls = .ref C ∧ ob.data = .fields vs ∧ ob.dict = some dx
theorem p6 {P : Program} {w : World} {H : Hp} {h : Heap} {ea C : Addr} (x : vb ea C h) : bA P w H h ea (.ext (vb ea C)) := ⟨x, let ⟨ob, _, e, _⟩ := x; ⟨ob, e⟩, fun _ _ ⟨ob, vs, e, r⟩ k => ⟨ob, vs, k _ e, r⟩⟩
theorem vd {P : Program} {w : World} {H : Hp} {h : Heap} {ea C dx : Addr} (x : vS ea C dx h) : bA P w H h ea (.ext (vS ea C dx)) := ⟨x, let ⟨ob, _, e, _⟩ := x; ⟨ob, e⟩, fun _ _ ⟨ob, vs, e, r⟩ k => ⟨ob, vs, k _ e, r⟩⟩
theorem vE {P : Program} {w : World} {H : Hp} {h : Heap} {ea C dx : Addr} (x : qj ea C dx h) : bA P w H h ea (.ext (qj ea C dx)) := ⟨x, let ⟨ob, _, e, _⟩ := x; ⟨ob, e⟩, fun _ _ ⟨ob, vs, e, r⟩ k => ⟨ob, vs, k _ e, r⟩⟩
inductive FU (X : Cx) (x y : V) (H : Hp) (q : Hp → Prop) : Prop
  | mk (ea C Kc fI : Addr) (e : x = .ref ea) (h : H ea = some (.ext (vb ea C))) (O : eJ X.K C Kc fI) (k : ∀ dx, H dx = none → dx ≠ ea → q (upd (upd H dx (.xd [("part", y)])) ea (.ext (vS ea C dx))))
def DY (X : Cx) (ta tv : TE) : TS := fun D σ H => tv σ H fun y H1 => ta σ H1 fun x H2 => FU X x y H2 fun H3 => D.nx σ H3
theorem zV {X : Cx} {o value : Expr} {pos pos' : Pos} {ta tv : TE} (ha : PE X o ta) (hv : PE X value tv) (hs : swapsWith value (some (.Attribute o "part" pos')) pos.line X.env = pure false) : PS X (.Assign [.Attribute o "part" pos'] value pos) (DY X ta tv) := by
  intro pins s σ H D I h
  refine plainObj_wpAny_Assign_Attribute (bJ (hv pins s σ H _ I h) fun u s1 ⟨y, H1, I1, ry, q⟩ => bJ (ha pins s1 σ H1 _ I1 q) fun ov s2 hpat => ?_) hs
  obtain ⟨x, H2, I2, rx, ea, C, Kc, fI, ex, hea, O, k⟩ := hpat
  subst ex
  obtain rfl : ov = Value.ref ea := rx
  obtain ⟨⟨ob, vs, e1, e2, e3, e4, e5⟩, _⟩ := I2.hok _ _ hea
  obtain ⟨hp, g, d, t, os⟩ := s2
  refine t9 (O.two I2.dr) e1 e2 e3 e5 fun h' tk' dx a1 a2 a3 a4 a5 => ?_
  have nd : H2 dx = none := I2.hok.fresh a4
  have m1 : (h'.update ea fun _ => ob).get? ea = some ob := Heap.get?_update_self _ a1 (Obj.isFreed_of_fields e3)
  have m2 : ∀ b, b ≠ ea → (h'.update ea fun _ => ob).get? b = h'.get? b := fun b n => Heap.get?_update_ne _ _ _ _ n
  have I3 := I2.laid (a := dx) (o := .xd [("part", y)]) (h' := h'.update ea fun _ => ob) (t' := tk') (fun b v q => by
    by_cases n : b = ea
    · rw [n] at q ⊢
      rw [show hp.get? ea = some ob from e1] at q
      cases q
      exact m1
    · rw [m2 b n]
      exact a3 b v n q) a4 ⟨_, a2.at fun o q => by rw [m2 dx a5]; exact q, fun f => by
    by_cases z : f = "part"
    · subst z
      exact ry
    · rw [if_neg z, List.lookup_cons, show (f == ("part" : Str)) = false from beq_eq_false_iff_ne.mpr z]
      exact True.intro⟩
  have hea3 : upd H2 dx (.xd [("part", y)]) ea = some (.ext (vb ea C)) := by rw [aq (Ne.symm a5)]; exact hea
  have I4 := I3.write (x := ea) (e := ea) (o := .ext (vS ea C dx)) (h' := h') (t' := tk') (by rw [hea3]; trivial) (.inl rfl) (fun b v n q => (m2 b n).symm.trans q) ⟨_, a1⟩ (vd ⟨_, vs, a1, e2, e3, e4, rfl⟩)
  exact ⟨σ, _, I4, k dx nd a5⟩
end L2
namespace L2
open PySem PySem.Spec PyProof.Rows
structure mS (P : Program) (w : World) (outer : List Env) (H H' : Hp) (s : Shared) (ea : Addr) (cls : Value) (dx : Option Addr) (B : Heap) (s' : Shared) : Prop where
  os : s'.os = s.os
  bare : AllBare s'.gens
  un : Un (di outer) [] H H' s.heap s'.heap
  hok : fz P w H' s'.heap
  tr : ∀ b o, H' b ≠ none → s'.heap.get? b = some o → B.get? b = some o
  kp : ∀ b o, s.heap.get? b = some o → H b = none → b ∉ di outer → B.get? b = some o
  th : ∀ b o, s.heap.get? b = some o → b ∉ di outer → ∃ o', B.get? b = some o'
  fl : iB B outer ea cls dx .none s'.heap
def jl (P : Program) (w : World) : rZ := fun outer H s E e s' => ∃ ea cls dx B H', e = .ref ea ∧ mS P w outer H H' s ea cls dx B s' ∧ E cls dx H'
def el (H : Hp) (a : Addr) : Hp := fun b => if b = a then none else H b
theorem cP {H : Hp} {a b : Addr} (h : b ≠ a) : el H a b = H b := if_neg h
theorem cX {H : Hp} {a : Addr} : el H a a = none := if_pos rfl
section
variable {P : Program} {w : World} {outer : List Env} {H H' : Hp} {s s' : Shared} {ea : Addr} {cls : Value} {dx : Option Addr} {B : Heap}
theorem mS.new (F : mS P w outer H H' s ea cls dx B s') : H' ea = none := by
  cases q : H' ea with
  | none => rfl
  | some o =>
    exfalso
    obtain ⟨_, n, _, oe, _, _, _, _, he, _⟩ := F.fl
    have := F.tr ea oe (by rw [q]; exact fun z => by cases z) he
    rw [n] at this
    cases this
theorem mS.on (F : mS P w outer H H' s ea cls dx B s') {h' : Heap} (st : B.StaysIn h') (up : s'.heap.UpToSlots h') (fr : ∀ b o, s.heap.get? b = some o → b ∈ di outer → H b = none → ∀ vs, o.data ≠ .fields vs) (frH : ∀ b ∈ di outer, H b = none) : Un (di outer) [] H H' s.heap h' ∧ fz P w H' h' := by
  have slot : ∀ b o, s.heap.get? b = some o → H b = none → b ∈ di outer → ∃ sl, h'.get? b = some { o with slots := sl } := fun b o e n m => by
    obtain ⟨sl, h1⟩ := F.un.slot b o e n m (by simp)
    obtain ⟨sl2, h2⟩ := up b _ h1 (fr b o e m n)
    exact ⟨sl2, h2⟩
  refine ⟨⟨fun b o e n m _ => st _ _ (F.kp b o e n m), fun b o e n m _ => slot b o e n m, F.un.free, fun b o e _ => ?_, F.un.tups, F.un.frzs, F.un.tbls⟩, fun a o e => ?_⟩
  · by_cases m : b ∈ di outer
    · obtain ⟨sl, h⟩ := slot b o e (frH b m) m
      exact ⟨_, h⟩
    · obtain ⟨o', h⟩ := F.th b o e m
      exact ⟨o', st _ _ h⟩
  · refine (F.hok a o e).fG (fun b u hb q => st _ _ (F.tr b u ?_ q)) (fun _ q => q) fun _ _ q => q
    rcases hb with rfl | hb
    · rw [e]; exact fun z => by cases z
    · rw [hb]; exact fun z => by cases z
end
theorem fz.el {P : Program} {w : World} {H : Hp} {h : Heap} {a : Addr} {φ : Heap → Prop} (x : fz P w H h) (ha : H a = some (.ext φ)) : fz P w (el H a) h := fun b u e => by
  by_cases hb : b = a
  · rw [hb, cX] at e
    cases e
  · rw [cP hb] at e
    refine (x b u e).fG (fun c v _ q => q) (fun c q => ?_) fun c xs q => ?_
    · rw [cP fun z => by rw [z, ha] at q; cases q]
      exact q
    · rw [cP fun z => by rw [z, ha] at q; cases q]
      exact q
section
variable {P : Program} {w : World} {K : PySem.W.Frag} {mg : Str → Option Value} {base : Heap} {N : List Str} {qual : Str} {scope : Scope} {f : Addr} {cd : Value} {A : Around} {outer : List Env} {s s1 : Shared} {H H1 : Hp} {E : XK} {pins : List (Addr × Obj)} {σ : St} {ea : Addr}
theorem ow {qual : Str} {scope : Scope} {n f : Addr} {cd : Value} {outer : List Env} {b : Addr} (m : b ∈ di outer) : b ∈ di (envOfC qual scope n f cd :: outer) := by
  obtain ⟨env, he, hf⟩ := List.mem_filterMap.mp m
  exact List.mem_filterMap.mpr ⟨env, .tail _ he, hf⟩
theorem jI {h : Heap} {qual : Str} {scope : Scope} {f : Addr} {cd : Value} {outer : List Env} {b : Addr} {o : Obj} (e : h.get? b = some o) (n : b ∉ di outer) : b ∉ di (envOfC qual scope h.objs.size f cd :: outer) := fun m => by
  rcases List.mem_filterMap.mp m with ⟨env, he, hf⟩
  rcases List.mem_cons.mp he with rfl | he
  · have := Heap.lt_size e
    rw [← Option.some.inj hf] at this
    exact Nat.lt_irrefl _ this
  · exact n (List.mem_filterMap.mpr ⟨env, he, hf⟩)
theorem nF {C : Addr} {dx : Option Addr} {φ : Heap → Prop} {ob : Obj} {vs : Array Value} (I : Inv (dD (jl P w) P w K mg base N qual scope f cd A outer s H E) pins σ H1 s1) (hea : H1 ea = some (.ext φ)) (new : s.heap.objs.size ≤ ea) (eo : s1.heap.get? ea = some ob) (hc : ob.cls = .ref C) (fd : ob.data = .fields vs) (v1 : vs[1]? = some .none) (xd : ob.dict = dx) (hE : E (.ref C) dx (el H1 ea)) :
    (dD (jl P w) P w K mg base N qual scope f cd A outer s H E).xe (.ref ea) s1 := by
  have stk := I.stack
  have sfr := I.dX
  have nef : ea ∉ di (envOfC qual scope s.heap.objs.size f cd :: outer) := fun m => by
    have := sfr ea m
    rw [hea] at this
    cases this
  have hid : ∀ b o, s1.heap.get? b = some o → b ∉ ea :: di (envOfC qual scope s.heap.objs.size f cd :: outer) → (PySem.W.hideAll s1.heap (ea :: di (envOfC qual scope s.heap.objs.size f cd :: outer))).get? b = some o := fun b o e n => PySem.W.hideAll_get _ e n
  refine i9 (B := PySem.W.hideAll s1.heap (ea :: di (envOfC qual scope s.heap.objs.size f cd :: outer))) (oe := ob) (vs := vs) I.ok.frames (PySem.W.funFrames_hide stk fun env he a hf => .tail _ (List.mem_filterMap.mpr ⟨env, he, hf⟩)) rfl eo (fun b o e => PySem.W.of_hideAll _ e) (PySem.W.hideAll_none _ (.head _)) fd xd v1 fun h2 fl up => ?_
  rw [hc] at fl
  generalize PySem.W.hideAll s1.heap (ea :: di (envOfC qual scope s.heap.objs.size f cd :: outer)) = B at fl hid
  have st := fl.st
  have b0 : Un (di outer) [] H H1 s.heap s1.heap := I.base
  have nea : ∀ b o, s.heap.get? b = some o → b ≠ ea := fun b o e z => by
    have := Heap.lt_size e
    rw [z] at this
    exact Nat.lt_irrefl _ (Nat.lt_of_lt_of_le this new)
  have out : ∀ b o, s.heap.get? b = some o → b ∉ di outer → b ∉ ea :: di (envOfC qual scope s.heap.objs.size f cd :: outer) := fun b o e n m => by
    rcases List.mem_cons.mp m with z | m
    · exact nea b o e z
    · exact jI e n m
  have slot : ∀ b o, s.heap.get? b = some o → H b = none → b ∈ di outer → ∃ sl, h2.get? b = some { o with slots := sl } := fun b o e n m => by
    obtain ⟨sl, h1⟩ := b0.slot b o e n m (by simp)
    obtain ⟨_, of, hof, hd⟩ := stk.mem (ow m)
    rw [h1] at hof
    cases hof
    obtain ⟨sl2, h3⟩ := up b _ h1 hd
    exact ⟨sl2, h3⟩
  have kp : ∀ b o, s.heap.get? b = some o → H b = none → b ∉ di outer → B.get? b = some o := fun b o e n m => hid b o (b0.keep b o e n m (by simp)) (out b o e m)
  have th : ∀ b o, s.heap.get? b = some o → b ∉ di outer → ∃ o', B.get? b = some o' := fun b o e m => by
    obtain ⟨o', h1⟩ := b0.there b o e (by simp)
    exact ⟨o', hid b o' h1 (out b o e m)⟩
  have trB : ∀ b o, el H1 ea b ≠ none → s1.heap.get? b = some o → B.get? b = some o := fun b o n e => hid b o e fun m => by
    rcases List.mem_cons.mp m with z | m
    · rw [z, cX] at n
      exact n rfl
    · by_cases z : b = ea
      · rw [z, cX] at n
        exact n rfl
      · rw [cP z] at n
        exact n (sfr b m)
  have ok1 := I.hok.el hea
  have exi : ∀ b, el H1 ea b ≠ none → ∃ o, s1.heap.get? b = some o := fun b n => by
    cases q : el H1 ea b with
    | none => exact absurd q n
    | some u => exact (ok1 b u q).there
  have kept : ∀ b u, H1 b = some u → (∀ φ, u ≠ .ext φ) → el H1 ea b = some u := fun b u e n => by
    rw [cP fun z => by rw [z, hea] at e; cases e; exact n _ rfl]
    exact e
  refine ⟨ea, .ref C, dx, B, el H1 ea, rfl, ⟨I.os, I.bare, ⟨fun b o e n m _ => st _ _ (kp b o e n m), fun b o e n m _ => slot b o e n m, fun b o e n hx => ?_, fun b o e _ => ?_, fun b xs e => kept b _ (b0.tups b xs e) (fun φ z => by cases z), fun b o u e => kept b _ (b0.frzs b o u e) (fun φ z => by cases z), fun b ps e => ?_⟩, fun a o e => ?_, fun b o n e => ?_, kp, th, fl⟩, hE⟩
  · rw [cP (nea b o e)]
    exact b0.free b o e n hx
  · by_cases m : b ∈ di outer
    · obtain ⟨sl, h⟩ := slot b o e (I.ok.frf b m) m
      exact ⟨_, h⟩
    · obtain ⟨o', h⟩ := th b o e m
      exact ⟨o', st _ _ h⟩
  · obtain ⟨m, h⟩ := b0.tbls b ps e
    exact ⟨m, kept b _ h (fun φ z => by cases z)⟩
  · refine (ok1 a o e).fG (fun b u hb q => st _ _ (trB b u ?_ q)) (fun _ q => q) fun _ _ q => q
    rcases hb with rfl | hb
    · rw [e]; exact fun z => by cases z
    · rw [hb]; exact fun z => by cases z
  · obtain ⟨o1, h1⟩ := exi b n
    have h2' := st _ _ (trB b o1 n h1)
    have e' : h2.get? b = some o := e
    rw [h2'] at e'
    cases e'
    exact trB b _ n h1
end
end L2
namespace L2
open PySem PySem.Spec PyProof.Rows
theorem yA {K : PySem.W.Frag} {f : Addr} (h : PySem.W.isFn K (.ref f) = true) : ∃ o, K.lookup f = some o ∧ o.cls = .type "function" := by
  have : (K.lookup f).map (·.cls) = some (.type "function") := beq_iff_eq.mp h
  exact Option.map_eq_some_iff.mp this
def wC (K : PySem.W.Frag) : Sp := fun vs H Q _ => ∃ (ea C Kc fI : Addr) (v : V), vs = [.ref ea, v] ∧ H ea = some (.ext (vb ea C)) ∧ eJ K C Kc fI ∧ ∀ dx, H dx = none → dx ≠ ea → Q .non (upd (upd H dx (.xd [("part", v)])) ea (.ext (vS ea C dx)))
theorem qz {H : Hp} {ea dx : Addr} {o1 o2 o3 : HO} (h : H ea = none) (n : dx ≠ ea) : el (upd (upd (upd H ea o1) dx o2) ea o3) ea = upd H dx o2 := by
  funext b
  by_cases e : b = ea
  · rw [e, cX, aq (Ne.symm n), h]
  · rw [cP e, aq e]
    by_cases e2 : b = dx
    · rw [e2, aa, aa]
    · rw [aq e2, aq e2, aq e]
theorem vg {K : PySem.W.Frag} {h : Heap} {N : Addr} {m : Str → Option Value} {n : Str} {v : Value} (X : K.In h) (G : h.Ns N m) (e : PySem.W.nsIn K N n = some (some v)) : m n = some v := by
  obtain ⟨o, es, ep, ho, hd, _, hf⟩ := G
  unfold PySem.W.nsIn at e
  split at e
  · rename_i q
    have := X _ _ q
    rw [ho] at this
    cases this
    cases hd
    split at e
    · rename_i he
      rw [← hf]
      unfold nsFind findBy
      rw [← Array.find?_toList, he]
      exact Option.some.inj e
    · split at e <;> cases e
  · cases e
section
variable {X : Cx}
theorem rm {x : Str} {C Kc fI : Addr} {kI : Nat} {fdI : FuncData} {e₀ : Expr} {t : TA} {np cpos pos : Pos} (hx : PE X (.Name x np) (tC (.ref C))) (O : eJ X.K C Kc fI) (hc : X.calm = true) (hr : bL (kI + 1) X.A) (F : bH X.prog X.w X.K X.mg X.base fD kI fI fdI ["self", "part"] (wC X.K)) (hb : Binds X.K fdI ["self", "part"] []) (ha : PA X [e₀] t) (E' : XK)
    (xe : ∀ pins σ H s ea dx ob vs, Inv X pins σ H s → H ea = some (.ext (vS ea C dx)) → X.s₀.heap.objs.size ≤ ea → s.heap.get? ea = some ob → ob.cls = .ref C → ob.data = .fields vs → vs[1]? = some .none → ob.dict = some dx → E' (.ref C) (some dx) (el H ea) → X.xe (.ref ea) s)
    (he : starEach [e₀] X.env = (false, eval e₀ X.env) :: starEach [] X.env := by rfl) :
    PS X (.Raise (some (.Call (.Name x np) [e₀] [] cpos)) none pos) (fun _ σ H => t σ H fun vs H1 => ∃ v, vs = [v] ∧ ∀ dx, H1 dx = none → E' (.ref C) (some dx) (upd H1 dx (.xd [("part", v)]))) := by
  intro pins s σ H D I h
  obtain ⟨nm, q, N, bs, sn, sub, ab, col, dd, k0, k1, k2, k3, k5, lk, hok, hni, hz⟩ := O.ex
  obtain ⟨oI, lkI, fc⟩ := yA O.fn
  have T := PySem.W.tail_of_in I.dr O.tl
  have hbase : (Value.ref Kc :: dF).contains (.type "BaseException") = true := T.hasType PySem.F.excBase_ValueError.hasBase
  have hplain : (backTo cpos (starEach [e₀] X.env)).any (·.1) = false := by rw [he]; rfl
  rw [arm_exec_Raise]
  refine wpAny_bind (wpAny_standAt (nN (C := C) (nm := nm) (q := q) (N := N) (bs := bs) (bm := .ref Kc :: dF) (hdct := true) (sn := sn) (sub := sub) (ab := ab) (col := col) (dd := dd) (k0 := k0) (k1 := k1) (k2 := k2) (k3 := k3) (k5 := k5) hbase (I.ok.hd hc) ?_))
  refine wpAny_bind (wpAny_mono (wpAny_Call_ofName (wpAny_mono (hx pins s σ H (fun v H1 => v = .ref C ∧ H1 = H) I ⟨rfl, rfl⟩) (fun u s1 hu => ?_) fun _ _ z => z)) (fun v s3 h3 => wpAny_bind (wpAny_standAt (wpAny_pure h3))) fun _ _ z => z)
  obtain ⟨v, H1, I1, r, rfl, rfl⟩ := hu
  cases r
  unfold callWith
  have h2 := ha cpos pins s1 σ H1 _ I1 h
  rw [he] at h2
  refine wpAny_bind (wpAny_holding (wpAny_mono (Q := fun a s2 => a.kw = [] ∧ ∃ vs H2, Inv X pins σ H2 s2 ∧ Vals vs a.pos ∧ ∃ v, vs = [v] ∧ ∀ dx, H2 dx = none → E' (.ref C) (some dx) (upd H2 dx (.xd [("part", v)]))) ?_ (fun a s2 h3 => wpAny_bind (wpAny_standAt ?_)) fun _ _ z => z))
  · rw [he]
    exact Calls.evalArgs_plain (wpAny_mono h2 (fun us s2 ⟨vs, H2, I2, r2, q2⟩ => ⟨rfl, vs, H2, I2, r2, q2⟩) fun _ _ z => z)
  obtain ⟨apos, akw⟩ := a
  obtain ⟨hkw, vs, H2, I2, r2, v, rfl, hE⟩ := h3
  obtain rfl : akw = [] := hkw
  obtain ⟨hp, g, d, tk, os⟩ := s2
  simp only [hplain]
  have hC := I2.dr _ _ lk
  refine wpAny_bind (wpAny_keeperOf_exc hC (wpAny_bind (wpAny_mono (Q := fun v s1 => ∃ e oe vs, v = .ref e ∧ s1.heap.get? C = some (excClassObj nm q C N bs (.ref Kc :: dF) true sn sub ab col dd k0 k1 k2 k3 k5 "ValueError.__new__") ∧ s1.heap.get? e = some oe ∧ oe.cls = .ref C ∧ oe.data = .fields vs ∧ vs[1]? = some .none ∧ X.xe (.ref e) s1) (qG hC (PySem.W.tail_of_in I2.dr O.tl) (.of_isNs (PySem.W.isNs_of_in I2.dr hok)) ?_ (I2.dr _ _ lkI) fc ?_ fun h' ea hm hz => ?_) (fun v s3 h3 => wpAny_bind (wpAny_holding (wpAny_point (wpAny_pure h3)))) fun _ _ z => z)))
  · exact vg I2.dr (.of_isNs (PySem.W.isNs_of_in I2.dr hok)) hni
  · have : apos.length = 1 := r2.length.symm
    show apos.length ≤ sizeLine
    rw [this]
    decide
  · obtain ⟨tt, he1, _, _⟩ := hm.there
    have n2 : H2 ea = none := I2.hok.fresh hz
    have I3 := I2.laid (a := ea) (o := .ext (vb ea C)) (h' := h') (t' := tk) hm.keeps hz (p6 ⟨_, _, he1, rfl, rfl, rfl, rfl⟩)
    have r3 : Vals [V.ref ea, v] (Value.ref ea :: apos) := .cons rfl r2
    have sz : X.s₀.heap.objs.size ≤ ea := Nat.le_trans I2.sz hz
    refine wpAny_call (codeAny_mono (F.run _ X.stack _ _ ⟨Value.ref ea :: apos, []⟩ (Value.ref ea :: apos) [V.ref ea, v] (fun u H3 => u = .non ∧ ∃ dx, H2 dx = none ∧ dx ≠ ea ∧ H3 = upd (upd (upd H2 ea (.ext (vb ea C))) dx (.xd [("part", v)])) ea (.ext (vS ea C dx))) E0 (hr.make C apos []) (I3.wz.make C apos []) (by
      have := hb ⟨h', g, d, tk, os⟩ (Value.ref ea :: apos) I3.dr (by rw [List.append_nil, ← r3.length]; rfl)
      rw [List.append_nil] at this
      exact this) r3 ⟨ea, C, Kc, fI, v, rfl, aa, O, fun dx nd ne => ⟨rfl, dx, by rw [aq ne] at nd; exact nd, ne, rfl⟩⟩) fun rr s' hq' => ?_)
    cases rr with
    | error e => exact False.elim hq'
    | ok fl =>
      cases fl with
      | ret u =>
        obtain ⟨x', H3, I4, rv, rfl, dx, nd, ne, rfl⟩ := I3.after hq'
        have hea : upd (upd (upd H2 ea (.ext (vb ea C))) dx (.xd [("part", v)])) ea (.ext (vS ea C dx)) ea = some (.ext (vS ea C dx)) := aa
        obtain ⟨⟨ob, ws, a1, a2, a3, a4, a5⟩, _⟩ := I4.hok _ _ hea
        refine ⟨rv, ea, ob, ws, rfl, I4.dr _ _ lk, a1, a2, a3, a4, xe pins σ _ _ ea dx ob ws I4 hea sz a1 a2 a3 a4 a5 ?_⟩
        rw [qz n2 ne]
        exact hE dx nd
      | next => exact False.elim hq'
      | brk => exact False.elim hq'
      | cont => exact False.elim hq'
end
end L2
namespace L2
open PySem PySem.Spec PyProof.Rows
inductive EU (X : Cx) (pins : List (Addr × Obj)) (σ : St) (E : XK) (e : Value) (s' : Shared) : Prop
  | mk (H H' : Hp) (s : Shared) (ea : Addr) (cls : Value) (dx : Option Addr) (B : Heap) (I : Inv X pins σ H s) (he : e = .ref ea) (F : mS X.prog X.w X.stack H H' s ea cls dx B s') (q : E cls dx H')
def yK (X : Cx) (st : List Stmt) (t : XK → TS) : Prop := ∀ (pins : List (Addr × Obj)) (s : Shared) (σ : St) (H : Hp) (D : Ends) (E : XK), Inv X pins σ H s → t E D σ H → wpAny (model X.prog X.w) X.A (execs st X.env) (SP X pins D) (EU X pins σ E) s
structure sf (P : Program) (w : World) (K : PySem.W.Frag) (mg : Str → Option Value) (base : Heap) (k : Nat) (x : Str) (C : Addr) (sp : Sp) : Prop where
  ex : ∃ (f : Addr) (fd : FuncData) (ps : List Str), bH P w K mg base (jl P w) k f fd ps sp ∧ Mk K C f ∧ Binds K fd ps []
  nm : mg x = some (.ref C)
section
variable {X : Cx}
inductive DR (X : Cx) (Ck : Addr) (i : Nat) (th : Value → TS) (D : Ends) (σ : St) (cls : Value) (dx : Option Addr) (H' : Hp) : Prop
  | mk (C dxa fI : Addr) (e : cls = .ref C) (ed : dx = some dxa) (O : eJ X.K C Ck fI) (q : ∀ ea, H' ea = none → th (.ref ea) { nx := fun σ' H2 => D.nx (σ'.set i none) H2, rt := D.rt } (σ.set i (some (.ref ea))) (upd H' ea (.ext (qj ea C dxa))))
end
end L2
namespace L2
open PySem PySem.Spec PyProof.Rows PySem.F
section
variable {prog : Program} {w : World} {A : Around} {E : Value → Shared → Prop} {h : Heap} {g : Array GenState} {d : Drawn} {t : Nat} {os : OsState} {a C Kc : Addr} {o : Obj}
theorem vx : ("__class__" : Str) ∈ qI := .tail _ (.tail _ (.head _))
theorem wH {R : Result → Shared → Prop} (T : iZ h C Kc) (hx : h.get? a = some o) (hc : o.cls = .ref C) (hq : R (.ok (.ret (.ref C))) ⟨h, g, d, t, os⟩) :
    codeAny (model prog w) A (.call (.builtin "getset_descriptor.__get__") ⟨[.builtin "object.__class__", .ref a, .ref C], []⟩) R ⟨h, g, d, t, os⟩ := by
  obtain ⟨nm, q, N, bs, sn, sub, ab, col, dd, k0, k1, k2, k3, k5, mN, hC, hN, hz⟩ := T.ex
  have hT5 : (⟨h, g, d, t, os⟩ : Shared).TypeIs (.builtin "object.__class__") "getset_descriptor" := typeOf_object_class
  have hcB : (Value.ref C :: Value.ref Kc :: dF).contains (.type (".".intercalate ("object.__class__".cutAt '.').dropLast)) = true := by
    rw [owner_object_class]
    unfold dF
    simp
  refine codeAny_call_builtin slot_gs_get.plain entry_gs_get (slot_gs_get.check _ _ _ _ _ _ _ _ hT5 (args_gs_get _ _ _) ?_)
  repeat (any_goals (first | assumption | (with_reducible refine wpAny_loadPart_at hx ?_; rw [hc]) | (with_reducible refine wpAny_isSubtype_exc hC ?_; rw [hcB]) | wp_step))
  refine ⟨Code.quiet_builtin _ (by decide +kernel), codeAny_builtin entry_object_class ?_⟩
  unfold Builtin.«object.__class__»
  repeat (any_goals (first | assumption | (with_reducible refine wpAny_loadPart_at hx ?_; rw [hc]) | wp_step))
theorem qr {tk : Tok} {Q : Fin → Shared → Prop} (T : iZ h C Kc) (hx : h.get? a = some o) (hc : o.cls = .ref C) (hq : Q (.done (.ret (.ref C))) ⟨h, g, d, t, os⟩) :
    wpAny (model prog w) A (Builtin.«object.__getattribute__» ⟨[.ref a, .str "__class__" tk], []⟩) Q E ⟨h, g, d, t, os⟩ := by
  have hT5 : (⟨h, g, d, t, os⟩ : Shared).TypeIs (.builtin "object.__class__") "getset_descriptor" := typeOf_object_class
  have f5 := typeOf_object_class
  have f6 := slot_gs_get.lookup
  have f7 := slot_gs_set.lookup
  repeat (any_goals (first | assumption | (with_reducible refine wpAny_loadPart_at hx ?_; rw [hc]) | with_reducible refine bN T vx jb ?_ | wp_step))
  refine wH T hx hc ?_
  repeat (any_goals (first | assumption | wp_step))
theorem yh {tk : Tok} {Q : Value → Shared → Prop} (T : iZ h C Kc) (hx : h.get? a = some o) (hc : o.cls = .ref C) (hq : Q (.ref C) ⟨h, g, d, t, os⟩) :
    wpAny (model prog w) A (getAttrBy (.ref a) (.str "__class__" tk) false) Q E ⟨h, g, d, t, os⟩ := by
  have f3 := attrBase_ValueError.ga.bind (.ref a)
  have hx2 : (Value.builtin "BaseException.__getattribute__" == Value.builtin "object.__getattribute__") = false := by decide +kernel
  have hx1 : (onTheHeap (Value.ref C) && Value.builtin "BaseException.__getattribute__" == Value.builtin "object.__getattribute__") = false := by rw [hx2]; rfl
  have hm1 : ("__getattribute__" : Str) ∈ qI := .head _
  have hm2 : ("__getattr__" : Str) ∈ qI := .tail _ (.head _)
  repeat (any_goals (first | assumption | (with_reducible refine wpAny_loadPart_at hx ?_; rw [hc]) | with_reducible refine bN T hm1 attrBase_ValueError.ga.lookup ?_ | with_reducible refine bN T hm2 attrBase_ValueError.noGetattr ?_ | wp_step))
  refine codeAny_call_builtin attrBase_ValueError.ga.plain entry_bexc_ga (kL T hx hc (qr T hx hc ?_))
  repeat (any_goals (first | assumption | wp_step))
theorem uV {Q : Option Value → Shared → Prop} (T : iZ h C Kc) (hx : h.get? a = some o) (hc : o.cls = .ref C) (hq : Q (some (.ref C)) ⟨h, g, d, t + 1, os⟩) : wpAny (model prog w) A (getAttr? (.ref a) "__class__") Q E ⟨h, g, d, t, os⟩ := by
  unfold getAttr? getAttrBy?
  repeat (any_goals (first | assumption | with_reducible apply yh T hx hc | wp_step))
end
theorem uz {K : PySem.W.Frag} {ea C Kc fI dx : Addr} (O : eJ K C Kc fI) : PySem.W.KitX K (.ref ea) (.ref C) (qj ea C dx) where
  ty := fun M h _ ⟨ob, _, ho, hc, _⟩ => by
    rw [← hc]
    exact (show PySem.W.Looks M h (typeOf (.ref ea)) ob.cls from (PySem.W.Looks.ld ho).andThen .now)
  it := fun M h X _ => by
    obtain ⟨nm, q, N, bs, sn, sub, ab, col, dd, k0, k1, k2, k3, k5, lk, _⟩ := O.ex
    intro A' Q' E' s' k q
    unfold isType loadHead
    exact wpAny_bind (wpAny_loadPart (k _ _ (X _ _ lk)) (wpAny_pure q))
  ne := fun h tp dd its n sl X htp => by
    obtain ⟨nm, q, N, bs, sn, sub, ab, col, dd', k0, k1, k2, k3, k5, lk, _⟩ := O.ex
    refine Bool.eq_false_iff.mpr fun q => ?_
    have e : C = tp := Value.ref.inj (beq_iff_eq.mp q)
    subst e
    have z := Option.some.inj ((X _ _ lk).symm.trans htp)
    have z2 := congrArg Obj.data z
    cases z2
  ca := fun {prog w A E Q s} X ⟨ob, _, ho, hc, _⟩ k => by
    obtain ⟨hp, g, d, t, os⟩ := s
    exact uV (O.two X) ho hc k
inductive Az (K : PySem.W.Frag) (xs : List V) (H : Hp) (Q : VK) : Prop
  | own (ea C Kc fI dx D : Addr) (b : Bool) (e : xs = [.ref ea, .ref D]) (h : H ea = some (.ext (qj ea C dx))) (O : eJ K C Kc fI) (k : PySem.W.kitOne K (.ref C) (.ref D) = some b) (q : Q (.bl b) H)
  | ty (ea C Kc fI dx : Addr) (n : String) (b : Bool) (e : xs = [.ref ea, .ty n]) (h : H ea = some (.ext (qj ea C dx))) (O : eJ K C Kc fI) (k : PySem.W.kitOne K (.ref C) (.type n) = some b) (q : Q (.bl b) H)
theorem uZ {X : Cx} : cN X (.builtin "isinstance") (fun xs H Q => Az X.K xs H Q) := by
  intro pins s σ H xs us Q I r h
  cases h with
  | own ea C Kc fI dx D b e h O k q =>
    subst e
    obtain ⟨u, c, rfl, rx, rc⟩ := vals2 r
    cases rx
    cases rc
    exact PySem.W.kia_one (uz O) I.dr (I.hok _ _ h).1 k (fun z => nomatch z) fun tk => ⟨.bl b, H, I.tok _, rfl, q⟩
  | ty ea C Kc fI dx n b e h O k q =>
    subst e
    obtain ⟨u, c, rfl, rx, rc⟩ := vals2 r
    cases rx
    obtain rfl : c = Value.type n := rc
    exact PySem.W.kia_one (uz O) I.dr (I.hok _ _ h).1 k (fun z => nomatch z) fun tk => ⟨.bl b, H, I.tok _, rfl, q⟩
inductive E7 (K : PySem.W.Frag) (x : V) (H : Hp) (Q : VK) : Prop
  | mk (ea C Kc fI dx : Addr) (z : Str) (e : x = .ref ea) (h : H ea = some (.ext (qj ea C dx))) (hd : H dx = some (.xd [("part", .str z)])) (O : eJ K C Kc fI) (q : Q (.str z) H)
def Ep (K : PySem.W.Frag) (ta : TE) : TE := fun σ H Q => ta σ H fun x H1 => E7 K x H1 Q
theorem zJ {X : Cx} {e : Expr} {pos : Pos} {ta : TE} (he : PE X e ta) (hb : attributeBase e "part" X.env (eval e X.env) = eval e X.env) : PE X (.Attribute e "part" pos) (Ep X.K ta) := by
  intro pins s σ H Q I h
  refine pW hb (bJ (he pins s σ H _ I h) fun u s1 hpat => ?_)
  obtain ⟨x, H1, I1, rx, ea, C, Kc, fI, dx, z, ex, hea, hdx, O, q⟩ := hpat
  subst ex
  obtain rfl : u = Value.ref ea := rx
  obtain ⟨⟨ob, vs, e1, e2, e3, e4⟩, _⟩ := I1.hok _ _ hea
  obtain ⟨mA, n1, rl⟩ := I1.hok _ _ hdx
  have r := rl "part"
  obtain ⟨hp, g, d, t, os⟩ := s1
  cases hv : mA "part" with
  | none =>
    rw [hv] at r
    exact False.elim r
  | some v =>
    rw [hv] at r
    obtain ⟨tk, rfl⟩ : ∃ tk, v = Value.str z tk := r
    exact vV (O.two I1.dr) e1 e2 e3 e4 n1.ns hv (fun id z => by cases z) ⟨.str z, H1, I1.tok _, ⟨tk, rfl⟩, q⟩
end L2
namespace L2
open PySem PySem.Spec PyProof.Rows
section
variable {X : Cx}
theorem Slot.mk' {i : Nat} {x : Str} (S : Slot X i x) (e : Value) : Slot (X.mk' e) i x := ⟨S.hN, S.lc, S.fn, S.db, S.cd⟩
theorem Bt.mk' {x : Str} (B : Bt X x) (e : Value) : Bt (X.mk' e) x := ⟨B.gl, B.nm, B.hn, B.db⟩
end
end L2
namespace J
open PySem PySem.Spec PyProof.Rows
open L2 (Cx V Hp St VK TE TT TA TS TG jh TI TO R2 Sp XK E0 fD bH bL Gl Binds RelV Vals aE br cT gJ aB Here jl eJ sf Mk)
theorem xg {X : Cx} {x : Str} {p pos : Pos} {ta : TE} (he : JE X (.Name x p) ta) : JE X (.Attribute (.Name x p) "part" pos) (L2.Ep X.K ta) := ⟨L2.zJ he.out rfl⟩
theorem xs {X : Cx} {o value : Expr} {pos pos' : Pos} {ta tv : TE} (ha : JE X o ta) (hv : JE X value tv) (h : L2.gr value = false := by rfl) : JS X (.Assign [.Attribute o "part" pos'] value pos) (L2.DY X ta tv) := ⟨L2.zV ha.out hv.out (L2.ix h)⟩
section
variable {P : Program} {w : World} {K : PySem.W.Frag} {mg : Str → Option Value} {base : Heap} {x qual m : Str} {st : Stmt} {f C Ce Kc fI : Addr} {fd fdI : FuncData} {N ps : List Str} {k kI j : Nat} {sp : Sp} {xr : Str}
theorem jC {X : Cx} {sc : Scope} {v : V} {p : Pos} (hh : Here X P w K mg base sc N k) (hm : ∃ u, mg x = some u ∧ RelV v u) (hg : sc.names.lookup x = some .globalImplicit) (db : (x == ("__debug__" : Str)) = false) (e : Value) : JE (X.mk' e) (.Name x p) (L2.tC v) := by
  obtain ⟨u, h1, h2⟩ := hm
  exact J.ft (X := X.mk' e) (hh.gl hg) (show X.mg x = some u by rw [hh.gm]; exact h1) h2 db
theorem uJ (F : gJ K "__init__" qual st f fd) (mk : Mk K C f) (bi : Binds K fd ps []) (nm : mg x = some (.ref C)) (S : aB N ps (L2.ao st)) (O : eJ K Ce Kc fI) (FI : bH P w K mg base fD kI fI fdI ["self", "part"] (L2.wC K)) (bI : Binds K fdI ["self", "part"] []) (hk : kI + 1 ≤ k)
    (hg : mg xr = some (.ref Ce)) (hgl : (L2.ao st).names.lookup xr = some .globalImplicit) (hdb : (xr == ("__debug__" : Str)) = false) (len : ∀ vs H Q E, sp vs H Q E → vs.length = ps.length)
    (hbody : ∀ (X Y : Cx) (H : Hp) (vs : List V) (Q : VK) (E : XK), Here X P w K mg base (L2.ao st) N k → (∀ {st t}, JS X st t → JS Y st t) → (∀ {e t}, JT X e t → JT Y e t) →
      (∀ {e₀ : Expr} {t : TA} {np cpos pos : Pos}, JA X [e₀] t → L2.notStar e₀ = true → JS Y (.Raise (some (.Call (.Name xr np) [e₀] [] cpos)) none pos) (fun _ σ H => t σ H fun vs H1 => ∃ v, vs = [v] ∧ ∀ dx, H1 dx = none → E (.ref Ce) (some dx) (L2.upd H1 dx (.xd [("part", v)])))) →
      sp vs H Q E → ∃ t, om Y (L2.aX st) t ∧ t { nx := fun _ H' => Q .non H', rt := Q } (L2.start N vs) H) : sf P w K mg base (k + 1) x C sp := by
  refine ⟨⟨f, fd, ps, ?_, mk, bi⟩, nm⟩
  obtain ⟨oc, od, kV, doc, pm, an, cdv, ct, osl, rfl, lk, hcd⟩ := F.ex
  refine L2.pH lk hcd S len fun A outer s H vs Q E hr hsp => ?_
  obtain ⟨t, h, q⟩ := hbody (L2.dD (jl P w) P w K mg base N qual (L2.ao st) f cdv A outer s H E).gZ (L2.dD (jl P w) P w K mg base N qual (L2.ao st) f cdv A outer s H E) H vs Q E ⟨rfl, rfl, rfl, rfl, rfl, rfl, PassesOwn.never, rfl, rfl, S.nd, hr, fun _ => rfl⟩ (fun h => ⟨h.out.gZ⟩) (fun h => ⟨h.out.gZ⟩) (fun {e₀ t np cpos pos} ha hs => ⟨L2.rm (x := xr) (L2.ft (X := L2.dD (jl P w) P w K mg base N qual (L2.ao st) f cdv A outer s H E) hgl hg rfl hdb) O rfl (hr.mono hk) FI bI ha.out.gZ E (fun pins σ H1 s1 ea dx ob ws I h1 sz a1 a2 a3 a4 a5 hE => L2.nF I h1 sz a1 a2 a3 a4 a5 hE) (L2.aR hs)⟩) hsp
  exact ⟨t, h.out, q⟩
theorem vm (G : sf P w K mg base k x C sp) : L2.Kd P w K mg base k x C (fun vs H Q _ => sp vs H Q E0) := by
  obtain ⟨f, fd, ps, F, h2, h3⟩ := G.ex
  refine ⟨⟨f, fd, ps, ⟨fun vs H Q E h => F.len vs H Q E0 h, fun A outer s H args us vs Q E hr e0 hb r h => ?_⟩, h2, h3⟩, G.nm⟩
  refine codeAny_mono (F.run A outer s H args us vs Q E0 hr e0 hb r h) fun rr s' hq => ?_
  cases rr with
  | ok fl => cases fl <;> exact hq
  | error e =>
    obtain ⟨_, _, _, _, _, _, _, z⟩ := hq
    exact z.elim
structure Ad (X : Cx) (st : List Stmt) (t : XK → TS) : Prop where
  out : L2.yK X st t
end
end J
namespace L2
open PySem PySem.Spec PyProof.Rows
local instance keyBEqU : BEq Key := instBEqOfDecidableEq
local instance keyLBEqU : @LawfulBEq Key keyBEqU := inferInstanceAs (@LawfulBEq Key instBEqOfDecidableEq)
def cntK (key : Nat → Key) : Nat → Nat
  | 0 => 0
  | i + 1 => if (List.range i).any (fun j => decide (key i = key j)) then cntK key i else cntK key i + 1
theorem mG (key : Nat → Key) : ∀ i, cntK key i ≤ i
  | 0 => Nat.le_refl _
  | i + 1 => by
    have := mG key i
    unfold cntK
    split <;> omega
theorem jV {key : Nat → Key} : ∀ {n : Nat}, (∀ i j, i < j → j < n → key i ≠ key j) → cntK key n = n
  | 0, _ => rfl
  | n + 1, h => by
    unfold cntK
    rw [if_neg (fun q => by
      obtain ⟨j, hj, e⟩ := List.any_eq_true.mp q
      exact h j n (List.mem_range.mp hj) (Nat.lt_succ_self _) (of_decide_eq_true e).symm), jV fun i j hi hj => h i j hi (Nat.lt_succ_of_lt hj)]
theorem m6 {key : Nat → Key} : ∀ {n i j : Nat}, i < j → j < n → key i = key j → cntK key n < n
  | 0, _, _, _, h, _ => absurd h (Nat.not_lt_zero _)
  | n + 1, i, j, hij, hj, e => by
    have le := mG key n
    unfold cntK
    by_cases q : j = n
    · rw [if_pos (List.any_eq_true.mpr ⟨i, List.mem_range.mpr (by omega), decide_eq_true (by rw [← q]; exact e.symm)⟩)]
      omega
    · have := m6 (key := key) (n := n) hij (by omega) e
      split <;> omega
section
variable {prog : Program} {w : World} {A : Around} {R : Result → Shared → Prop} {I : Addr} {fp wr : List Addr} {G : Array GenState → Array GenState → Prop} {n : Nat} {P : Nat → Value → Prop} {St : Nat → Shared → Prop}
theorem tJ (W : WalksS prog w A.in1 I fp wr G n P St) (S : Addr) (hSf : S ∉ fp) (key : Nat → Key) (hval : ∀ i v, P i v → jW (key i) v = true ∧ v.scannable = true)
    (hb : n + 1 < scanBound) : ∀ (k i : Nat) (s : Shared), n - i = k → i ≤ n → St i s → s.heap.SetOf (bR prog w) S (fun c => (List.range i).any fun j => decide (c = key j)) (cntK key i) →
      (∀ s', Moved (S :: wr) G s s' → s'.heap.SetOf (bR prog w) S (fun c => (List.range n).any fun j => decide (c = key j)) (cntK key n) → R (.ok (.ret .none)) s') →
      codeAny (model prog w) A (.builtin "set.update.loop" ⟨[.ref S, .ref I], []⟩) R s := by
  have hSw : S ∉ wr := fun h => hSf (W.sub _ h)
  have hsub : ∀ b ∈ wr, b ∈ S :: wr := fun b hb => List.mem_cons_of_mem _ hb
  have fG : ∀ {s s' : Shared} {T : Key → Bool} {m : Nat}, Moved wr G s s' → s.heap.SetOf (bR prog w) S T m → s'.heap.SetOf (bR prog w) S T m := fun hm ⟨o, es, ep, tb, ho, rest⟩ => ⟨o, es, ep, tb, hm.heap S _ hSw ho, rest⟩
  intro k
  induction k with
  | zero =>
    intro i s hk hi hst hS hR
    obtain rfl : i = n := by omega
    refine codeAny_builtin PyProof.Rows.F.entry_set_update_loop ?_
    rw [Around.under_plainId PyProof.Rows.F.plain_set_update_loop _]
    show wpAny _ A.in1 (pyNext (.ref I) >>= _) _ _ s
    refine wpAny_bind (W.done s _ _ hst fun s' hm => ?_)
    show wpAny _ A.in1 (ret Value.none) _ _ s'
    exact wpAny_pure (hR s' (hm.mono hsub) (fG hm hS))
  | succ k ih =>
    intro i s hk hi hst hS hR
    have hlt : i < n := by omega
    refine codeAny_builtin PyProof.Rows.F.entry_set_update_loop ?_
    rw [Around.under_plainId PyProof.Rows.F.plain_set_update_loop _]
    show wpAny _ A.in1 (pyNext (.ref I) >>= _) _ _ s
    refine wpAny_bind (W.item i s _ _ hlt hst fun v s' hP hst' hm => ?_)
    obtain ⟨hkv, hsc⟩ := hval i v hP
    have hS1 := fG hm hS
    show wpAny _ A.in1 (holding [v] (setAdd S v) >>= _) _ _ s'
    refine wpAny_bind (wpAny_holding ?_)
    unfold setAdd
    refine wpAny_holding ?_
    refine wpAny_bind ((bR prog w).pyHash (k := key i) hkv ?_)
    refine wpAny_setAddHashed_of (knd := bR prog w) (s := { s' with toks := s'.toks + 1 }) hkv hsc hS1 (by have := mG key i; omega) fun g hsb hS2 => ?_
    have hS3 : g.SetOf (bR prog w) S (fun c => (List.range (i + 1)).any fun j => decide (c = key j)) (cntK key (i + 1)) := by
      refine gX hS2 (fun c => ?_) rfl
      rw [List.range_succ, List.any_append]
      simp
    refine wpAny_pure ⟨plainId_quiet PyProof.Rows.F.plain_set_update_loop _, ih (i + 1) _ (by omega) hlt (W.frame _ s' _ _ hst' (Nat.le_succ _) fun b hb o e => ?_) hS3 fun s'' hm'' hS'' => ?_⟩
    · rw [hsb.2 b (by rintro rfl; exact hSf hb)]
      exact e
    · refine hR s'' (Moved.trans W.gtrans ((hm.mono hsub).then_heap (Nat.le_succ _) fun b o hb e => ?_) hm'') hS''
      rw [hsb.2 b (by rintro rfl; exact hb List.mem_cons_self)]
      exact e
end
section
variable {prog : Program} {w : World} {A : Around} {E : Value → Shared → Prop} {s : Shared}
theorem ou {l : Addr} {items : Array Value} {key : Nat → Key} {Q : Value → Shared → Prop} (hh : A.handled = none) (hl : s.heap.IsList l items) (hv : ∀ i v, items[i]? = some v → jW (key i) v = true ∧ v.scannable = true)
    (hb : items.size + 1 < scanBound)
    (h : ∀ (g : Heap) (tk : Nat) (T : Key → Bool), g.SetOf (bR prog w) s.heap.objs.size T (cntK key items.size) → (∀ b o, b < s.heap.objs.size → s.heap.get? b = some o → g.get? b = some o) → Q (.ref s.heap.objs.size) { s with heap := g, toks := tk }) :
    wpAny (model prog w) A (call (.type "set") [.ref l]) Q E s := by
  obtain ⟨c, tl, hmro⟩ := PySem.F.called_set.mro
  have hmade := PySem.F.called_set.made
  have hsub := PySem.F.called_set.sub
  refine wpAny_call (codeAny_of_tree ?_)
  show wpAny _ _ (callAny (.type "set") _) _ _ _
  refine wpAny_pure ⟨Code.quiet_builtin _ (by decide +kernel), codeAny_builtin PySem.F.entry_type_call ?_⟩
  rw [Around.under_plain (weight_type_call_type "set" [.ref l] []) rfl]
  have f1 := PySem.F.called_set.notType
  have f2 := PySem.F.called_set.canCreate
  have f3 := PySem.F.typeCall_set_1 (.ref l)
  repeat (any_goals (first | assumption | wp_step))
  refine codeAny_mono (code_set_new_1 (.ref l) (E := E) (Q₁ := fun obj u => ∃ led : Bool, obj = .ref s.heap.objs.size ∧ u = { s with heap := s.heap.push { cls := .type "set", dict := none, data := .set #[] 0 (.fresh 0 0 led) } }) fun led => ⟨led, rfl, rfl⟩) fun r u hr => ?_
  cases r with
  | error e => exact hr
  | ok fl =>
    cases fl with
    | ret obj =>
      obtain ⟨led, rfl, rfl⟩ := hr
      have hS : (s.heap.push { cls := .type "set", dict := none, data := .set #[] 0 (.fresh 0 0 led) }).get? s.heap.objs.size = some { cls := .type "set", dict := none, data := .set #[] 0 (.fresh 0 0 led) } := Heap.get?_push_size _ rfl
      have hT : Shared.TypeIs { s with heap := s.heap.push { cls := .type "set", dict := none, data := .set #[] 0 (.fresh 0 0 led) } } (.ref s.heap.objs.size) "set" := ⟨_, hS, rfl⟩
      have hli := PySem.F.called_set.init.lookup
      have hbi := PySem.F.called_set.init.bind (.ref s.heap.objs.size)
      repeat (any_goals (first | assumption | wp_step))
      refine codeAny_mono (codeAny_call_builtin (R := wants (fun r u => r = .none ∧ ∃ g tk T, u = { s with heap := g, toks := tk } ∧ g.SetOf (bR prog w) s.heap.objs.size T (cntK key items.size) ∧ (∀ b o, b < s.heap.objs.size → s.heap.get? b = some o → g.get? b = some o)) E)
        PySem.F.called_set.init.plain PySem.F.entry_set_init (check_set_init_1 hT ?_)) fun r2 u hr2 => ?_
      · obtain ⟨⟨ocls, odict, odata, oslots⟩, hol, hcl, nl, hdl⟩ := hl
        simp only at hcl hdl
        subst hcl
        subst hdl
        have hol' : (s.heap.push { cls := .type "set", dict := none, data := .set #[] 0 (.fresh 0 0 led) }).get? l = some { cls := .type "list", dict := odict, data := .seq items nl, slots := oslots } := Heap.get?_push_of_some _ hol
        have k1 := PySem.F.sub_list_set
        have k2 := PySem.F.sub_list_frozenset
        have k3 : (Value.type "list" == Value.type "dict") = false := by decide
        have hl1 : (s.heap.push { cls := .type "set", dict := none, data := .set #[] 0 (.fresh 0 0 led) }).IsList l items := ⟨_, hol', rfl, nl, rfl⟩
        unfold Builtin.«set.__init__» noKeywords Builtin.Frozenset.updateFrom
        generalize hPI : pyIter = PI
        wp_walk
        subst hPI
        refine wpAny_pyIter_list hl1 ?_
        refine wpAny_bind (wpAny_runValue ?_)
        have hlS : l < s.heap.objs.size := Heap.lt_size hol
        have hneI : l ≠ (s.heap.push { cls := .type "set", dict := none, data := .set #[] 0 (.fresh 0 0 led) }).objs.size := by
          rw [Heap.size_push]
          exact Nat.ne_of_lt (Nat.lt_succ_of_lt hlS)
        have hSf : s.heap.objs.size ∉ [(s.heap.push { cls := .type "set", dict := none, data := .set #[] 0 (.fresh 0 0 led) }).objs.size, l] := by
          rw [Heap.size_push]
          simp only [List.mem_cons, List.not_mem_nil, or_false, not_or]
          exact ⟨Nat.ne_of_lt (Nat.lt_succ_self _), Nat.ne_of_gt hlS⟩
        refine tJ ((Walks.list (show A.in1.in1.in1.handled = none by simp [hh]) _ l hneI items).toS) s.heap.objs.size hSf key hv hb (items.size - 0) 0 _ (by omega) (Nat.zero_le _) ⟨⟨_, Heap.get?_push_size _ rfl, rfl, rfl⟩, (hl1.push _)⟩ ?_ ?_
        · refine gX ((PyProof.Rows.setObjOf_fresh (knd := bR prog w) led).setOf (Heap.get?_push_of_some _ hS) (by unfold scanBound; omega)) (fun _ => rfl) rfl
        · intro s' hm hS'
          obtain ⟨g, g', d', tk', os'⟩ := s'
          have eg : g' = s.gens := hm.gens
          have ed : d' = s.drawn := hm.drawn
          have eo : os' = s.os := hm.os
          subst eg ed eo
          show wpAny _ _ _ _ _ _
          refine wpAny_pure ?_
          show wpAny _ _ (ret Value.none) _ _ _
          refine wpAny_pure ⟨rfl, g, tk', _, rfl, hS', fun b o hb e => ?_⟩
          have hb2 : b ≠ (s.heap.push { cls := .type "set", dict := none, data := .set #[] 0 (.fresh 0 0 led) }).objs.size := by
            rw [Heap.size_push]
            exact Nat.ne_of_lt (Nat.lt_succ_of_lt hb)
          exact hm.heap b o (by simp only [List.mem_cons, List.not_mem_nil, or_false, not_or]; exact ⟨Nat.ne_of_lt hb, hb2⟩) (Heap.get?_push_of_some _ (Heap.get?_push_of_some _ e))
      · cases r2 with
        | error e => exact hr2
        | ok fl2 =>
          cases fl2 with
          | ret r =>
            obtain ⟨rfl, g, tk, T, rfl, hS', hk'⟩ := hr2
            repeat (any_goals (first | assumption | wp_step))
            exact h _ _ _ hS' hk'
          | _ => exact hr2.elim
    | _ => exact hr.elim
end
theorem uj : ∀ {zs : List Str}, ¬ zs.Nodup → ∃ i j, i < j ∧ ∃ hj : j < zs.length, ∃ hi : i < zs.length, zs[i] = zs[j]
  | [], h => absurd List.nodup_nil h
  | z :: r, h => by
    by_cases m : z ∈ r
    · obtain ⟨j, hj, e⟩ := List.getElem_of_mem m
      exact ⟨0, j + 1, Nat.succ_pos _, Nat.succ_lt_succ hj, Nat.succ_pos _, e.symm⟩
    · obtain ⟨i, j, a, b, c, e⟩ := uj (zs := r) fun nd => h (List.nodup_cons.mpr ⟨m, nd⟩)
      exact ⟨i + 1, j + 1, Nat.succ_lt_succ a, Nat.succ_lt_succ b, Nat.succ_lt_succ c, e⟩
theorem iQ {X : Cx} (hc : X.calm = true) : cN X (.type "set") (fun xs H Q => ∃ (p : Addr) (zs : List Str), xs = [.ref p] ∧ aE X.K H p (zs.map V.str) ∧ zs.length < 1000 ∧ ∀ (q : Addr) (n : Nat), H q = none → (zs.Nodup → n = zs.length) → (¬ zs.Nodup → n < zs.length) → Q (.ref q) (upd H q (setM X.prog X.w q n))) := by
  intro pins s σ H xs us Q I r h
  obtain ⟨p, zs, rfl, hq, hz, q⟩ := h
  obtain ⟨u, rfl, rx⟩ := vals1 r
  cases rx
  obtain ⟨its, rv, pl, _⟩ := I.list hq
  have hl := rv.length
  rw [List.length_map] at hl
  refine ou (key := fun i => Sum.inr (zs.getD i "")) (I.ok.hd hc) pl.isList (fun i v e => ?_) (by rw [List.size_toArray, ← hl]; unfold scanBound; omega) fun g tk T hS kp => ?_
  · have e' : its[i]? = some v := by simpa using e
    have hi : i < zs.length := by
      have := (List.getElem?_eq_some_iff.mp e').1
      omega
    obtain ⟨u, eu, t, rfl⟩ := rv.get (show (zs.map V.str)[i]? = some (V.str zs[i]) by simp [hi])
    rw [eu] at e'
    cases e'
    have e2 : zs.getD i "" = zs[i] := by simp [List.getD, hi]
    show jW (Sum.inr (zs.getD i "")) _ = true ∧ _
    rw [e2]
    exact ⟨qy _ _, rfl⟩
  · have hn : H s.heap.objs.size = none := I.hok.fresh (Nat.le_refl _)
    have e3 : its.toArray.size = zs.length := by rw [List.size_toArray, hl]
    rw [e3] at hS
    refine ⟨.ref s.heap.objs.size, _, I.laid (t' := tk) (o := setM X.prog X.w s.heap.objs.size _) (fun b o e => kp b o (Heap.lt_size e) e) (Nat.le_refl _) ⟨⟨T, hS⟩, ?_, fun h1 h2 p k => ?_⟩, rfl, q _ _ hn (fun nd => jV fun i j hij hj e => ?_) (fun nn => ?_)⟩
    · obtain ⟨o, _, _, _, e, _⟩ := hS
      exact ⟨o, e⟩
    · obtain ⟨T, o, es, ep, t, e, rest⟩ := p
      exact ⟨T, o, es, ep, t, k o e, rest⟩
    · have hi' : i < zs.length := by omega
      have e1 : zs.getD i "" = zs.getD j "" := Sum.inr.inj e
      have e2 : zs[i] = zs[j] := by simpa [List.getD, hi', hj] using e1
      exact absurd ((List.getElem_inj nd).mp e2) (by omega)
    · obtain ⟨i, j, hij, hj, hi', e⟩ := uj nn
      exact m6 hij hj (congrArg Sum.inr (by
        show zs.getD i "" = zs.getD j ""
        simpa [List.getD, hi', hj] using e))
end L2
namespace J
open PySem PySem.Spec PyProof.Rows
open L2 (Cx V Hp VK aE)
theorem iQ {X : Cx} (hc : X.calm = true) : JF X (.type "set") (fun xs H Q => ∃ (p : Addr) (zs : List Str), xs = [.ref p] ∧ aE X.K H p (zs.map V.str) ∧ zs.length < 1000 ∧ ∀ (q : Addr) (n : Nat), H q = none → (zs.Nodup → n = zs.length) → (¬ zs.Nodup → n < zs.length) → Q (.ref q) (L2.upd H q (L2.setM X.prog X.w q n))) := ⟨L2.iQ hc⟩
end J
namespace L2
open PySem PySem.Spec PyProof.Rows
section
variable {X : Cx}
inductive DV (x y : V) (H : Hp) (Q : VK) : Prop
  | mk (z : Str) (n : Int) (hx : x = .str z) (hy : y = .int n) (hz : z.length ≤ 16) (n0 : 0 ≤ n) (n1 : n ≤ 1000) (q : Q (.str (Txt.mul z n)) H)
end
inductive D9 (x y : V) (H : Hp) (Q : VK) : Prop
  | mk (l : Addr) (v : V) (hx : x = .ref l) (hy : y = .int 7) (h : H l = some (.tup [v])) (q : ∀ p, H p = none → Q (.ref p) (upd H p (.tup [v, v, v, v, v, v, v])))
end L2
namespace J
open PySem PySem.Spec PyProof.Rows
open L2 (Cx V Hp VK)
end J
namespace L2
open PySem PySem.Spec PyProof.Rows
section
variable {P : Program} {w : World} {K : PySem.W.Frag} {mg : Str → Option Value} {base : Heap} {N : List Str} {qual : Str} {scope : Scope} {f : Addr} {cd : Value} {A : Around} {outer : List Env} {s : Shared} {H : Hp} {E : XK}
theorem xv : Passes (jl P w) (dD (jl P w) P w K mg base N qual scope f cd A outer s H E) E := by
  intro pins σ H1 s1 e s' I hq
  obtain ⟨ea, cls, dx, B, H', rfl, F, hE⟩ := hq
  have b0 : Un (di outer) [] H H1 s.heap s1.heap := I.base
  refine pe (B := B) (L := s.heap.objs.size) I.ok.frames rfl F.fl fun h2 fl up => ?_
  have st := fl.st
  obtain ⟨u, hok⟩ := F.on st up (fun b o e m n => by
    obtain ⟨_, o', ho, hd⟩ := I.stack.mem m
    rw [e] at ho
    cases ho
    exact hd) I.dX
  have exi : ∀ b, H' b ≠ none → ∃ o, s'.heap.get? b = some o := fun b n => by
    cases q : H' b with
    | none => exact absurd q n
    | some v => exact (F.hok b v q).there
  refine ⟨ea, cls, dx, B, H', rfl, ⟨F.os.trans I.os, F.bare, ⟨fun b o e n m _ => ?_, fun b o e n m _ => ?_, fun b o e n _ => ?_, fun b o e _ => ?_, fun b xs e => u.tups b xs (b0.tups b xs e), fun b o v e => u.frzs b o v (b0.frzs b o v e), fun b ps e => ?_⟩, hok, fun b o n e => ?_, fun b o e n m => ?_, fun b o e m => ?_, fl⟩, hE⟩
  · exact u.keep b o (b0.keep b o e n m (by simp)) (b0.free b o e n (by simp)) (jI e m) (by simp)
  · obtain ⟨sl, h1⟩ := b0.slot b o e n m (by simp)
    obtain ⟨sl2, h3⟩ := u.slot b _ h1 (b0.free b o e n (by simp)) (ow m) (by simp)
    exact ⟨sl2, h3⟩
  · obtain ⟨o1, h1⟩ := b0.there b o e (by simp)
    exact u.free b o1 h1 (b0.free b o e n (by simp)) (by simp)
  · obtain ⟨o1, h1⟩ := b0.there b o e (by simp)
    exact u.there b o1 h1 (by simp)
  · obtain ⟨m1, h1⟩ := b0.tbls b ps e
    obtain ⟨m2, h2⟩ := u.tbls b _ h1
    exact ⟨m1 ++ m2, by rw [← Array.append_assoc]; exact h2⟩
  · obtain ⟨o1, h1⟩ := exi b n
    have h3 := F.tr b o1 n h1
    have h4 := st _ _ h3
    have e' : h2.get? b = some o := e
    rw [h4] at e'
    cases e'
    exact h3
  · exact F.kp b o (b0.keep b o e n m (by simp)) (b0.free b o e n (by simp)) (jI e m)
  · obtain ⟨o1, h1⟩ := b0.there b o e (by simp)
    exact F.th b o1 h1 (jI e m)
end
end L2
namespace L2
open PySem PySem.Spec PyProof.Rows
section
variable {P : Program} {w : World} {K : PySem.W.Frag} {mg : Str → Option Value} {base : Heap} {N : List Str} {qual : Str} {scope : Scope} {f : Addr} {cd : Value} {A : Around} {outer : List Env} {s s1 : Shared} {H H1 : Hp} {E : XK} {pins : List (Addr × Obj)} {σ : St} {ea : Addr}
theorem mF {C : Addr} {dx : Option Addr} {φ : Heap → Prop} {ob : Obj} {vs : Array Value} (I : Inv (dD (jl P w) P w K mg base N qual scope f cd A outer s H E) pins σ H1 s1) (hea : H1 ea = some (.ext φ)) (nea : ∀ b o, s.heap.get? b = some o → b ≠ ea) (eo : s1.heap.get? ea = some ob) (hc : ob.cls = .ref C) (fd : ob.data = .fields vs) (v1 : vs[1]? = some .none) (xd : ob.dict = dx) (hE : E (.ref C) dx (el H1 ea)) :
    (dD (jl P w) P w K mg base N qual scope f cd A outer s H E).xe (.ref ea) s1 := by
  have stk := I.stack
  have sfr := I.dX
  have nef : ea ∉ di (envOfC qual scope s.heap.objs.size f cd :: outer) := fun m => by
    have := sfr ea m
    rw [hea] at this
    cases this
  have hid : ∀ b o, s1.heap.get? b = some o → b ∉ ea :: di (envOfC qual scope s.heap.objs.size f cd :: outer) → (PySem.W.hideAll s1.heap (ea :: di (envOfC qual scope s.heap.objs.size f cd :: outer))).get? b = some o := fun b o e n => PySem.W.hideAll_get _ e n
  refine i9 (B := PySem.W.hideAll s1.heap (ea :: di (envOfC qual scope s.heap.objs.size f cd :: outer))) (oe := ob) (vs := vs) I.ok.frames (PySem.W.funFrames_hide stk fun env he a hf => .tail _ (List.mem_filterMap.mpr ⟨env, he, hf⟩)) rfl eo (fun b o e => PySem.W.of_hideAll _ e) (PySem.W.hideAll_none _ (.head _)) fd xd v1 fun h2 fl up => ?_
  rw [hc] at fl
  generalize PySem.W.hideAll s1.heap (ea :: di (envOfC qual scope s.heap.objs.size f cd :: outer)) = B at fl hid
  have st := fl.st
  have b0 : Un (di outer) [] H H1 s.heap s1.heap := I.base
  have out : ∀ b o, s.heap.get? b = some o → b ∉ di outer → b ∉ ea :: di (envOfC qual scope s.heap.objs.size f cd :: outer) := fun b o e n m => by
    rcases List.mem_cons.mp m with z | m
    · exact nea b o e z
    · exact jI e n m
  have slot : ∀ b o, s.heap.get? b = some o → H b = none → b ∈ di outer → ∃ sl, h2.get? b = some { o with slots := sl } := fun b o e n m => by
    obtain ⟨sl, h1⟩ := b0.slot b o e n m (by simp)
    obtain ⟨_, of, hof, hd⟩ := stk.mem (ow m)
    rw [h1] at hof
    cases hof
    obtain ⟨sl2, h3⟩ := up b _ h1 hd
    exact ⟨sl2, h3⟩
  have kp : ∀ b o, s.heap.get? b = some o → H b = none → b ∉ di outer → B.get? b = some o := fun b o e n m => hid b o (b0.keep b o e n m (by simp)) (out b o e m)
  have th : ∀ b o, s.heap.get? b = some o → b ∉ di outer → ∃ o', B.get? b = some o' := fun b o e m => by
    obtain ⟨o', h1⟩ := b0.there b o e (by simp)
    exact ⟨o', hid b o' h1 (out b o e m)⟩
  have trB : ∀ b o, el H1 ea b ≠ none → s1.heap.get? b = some o → B.get? b = some o := fun b o n e => hid b o e fun m => by
    rcases List.mem_cons.mp m with z | m
    · rw [z, cX] at n
      exact n rfl
    · by_cases z : b = ea
      · rw [z, cX] at n
        exact n rfl
      · rw [cP z] at n
        exact n (sfr b m)
  have ok1 := I.hok.el hea
  have exi : ∀ b, el H1 ea b ≠ none → ∃ o, s1.heap.get? b = some o := fun b n => by
    cases q : el H1 ea b with
    | none => exact absurd q n
    | some u => exact (ok1 b u q).there
  have kept : ∀ b u, H1 b = some u → (∀ φ, u ≠ .ext φ) → el H1 ea b = some u := fun b u e n => by
    rw [cP fun z => by rw [z, hea] at e; cases e; exact n _ rfl]
    exact e
  refine ⟨ea, .ref C, dx, B, el H1 ea, rfl, ⟨I.os, I.bare, ⟨fun b o e n m _ => st _ _ (kp b o e n m), fun b o e n m _ => slot b o e n m, fun b o e n hx => ?_, fun b o e _ => ?_, fun b xs e => kept b _ (b0.tups b xs e) (fun φ z => by cases z), fun b o u e => kept b _ (b0.frzs b o u e) (fun φ z => by cases z), fun b ps e => ?_⟩, fun a o e => ?_, fun b o n e => ?_, kp, th, fl⟩, hE⟩
  · rw [cP (nea b o e)]
    exact b0.free b o e n hx
  · by_cases m : b ∈ di outer
    · obtain ⟨sl, h⟩ := slot b o e (I.ok.frf b m) m
      exact ⟨_, h⟩
    · obtain ⟨o', h⟩ := th b o e m
      exact ⟨o', st _ _ h⟩
  · obtain ⟨m, h⟩ := b0.tbls b ps e
    exact ⟨m, kept b _ h (fun φ z => by cases z)⟩
  · refine (ok1 a o e).fG (fun b u hb q => st _ _ (trB b u ?_ q)) (fun _ q => q) fun _ _ q => q
    rcases hb with rfl | hb
    · rw [e]; exact fun z => by cases z
    · rw [hb]; exact fun z => by cases z
  · obtain ⟨o1, h1⟩ := exi b n
    have h2' := st _ _ (trB b o1 n h1)
    have e' : h2.get? b = some o := e
    rw [h2'] at e'
    cases e'
    exact trB b _ n h1
theorem nU {C : Addr} {args : List Value} {h' : Heap} (I : Inv (dD (jl P w) P w K mg base N qual scope f cd A outer s H E) pins σ H1 s1) (hx : Heap.MadeExcOf s1.heap h' ea (.ref C) args) (hE : E (.ref C) none H1) : (dD (jl P w) P w K mg base N qual scope f cd A outer s H E).xe (.ref ea) { s1 with heap := h' } := by
  have n1 : H1 ea = none := by
    cases q : H1 ea with
    | none => rfl
    | some u =>
      exfalso
      obtain ⟨o, h⟩ := (I.hok ea u q).there
      rw [hx.new] at h
      cases h
  obtain ⟨tt, he1, _, _⟩ := hx.there
  have ne1 : ∀ b o, s1.heap.get? b = some o → b ≠ ea := fun b o e z => by
    rw [z, hx.new] at e
    cases e
  have I2 : Inv (dD (jl P w) P w K mg base N qual scope f cd A outer s H E) pins σ (upd H1 ea (.ext (vb ea C))) { s1 with heap := h' } := I.nX (ch := []) rfl ⟨fun b o e _ _ _ => hx.keeps b o e, fun b o e _ _ _ => ⟨o.slots, hx.keeps b o e⟩, fun b o e n _ => by rw [aq (ne1 b o e)]; exact n, fun b o e _ => ⟨o, hx.keeps b o e⟩, fun b xs e => by rw [aq (ah e n1)]; exact e, fun b o u e => by rw [aq (ah e n1)]; exact e, fun b ps e => ⟨#[], by rw [aq (ah e n1), Array.append_empty]; exact e⟩⟩ (fz.xc (fun b u e => (I.hok b u e).fG (fun c o _ q => hx.keeps c o q) (fun _ q => q) fun _ _ q => q) n1 (p6 ⟨_, _, he1, rfl, rfl, rfl, rfl⟩)) I.bare (fun b z => by cases z)
  refine mF (C := C) (dx := none) I2 aa (fun b o e z => ?_) he1 rfl rfl rfl rfl ?_
  · obtain ⟨o', h1⟩ := I.base.there b o e (by show b ∉ []; simp)
    exact ne1 b o' h1 z
  · have e : el (upd H1 ea (.ext (vb ea C))) ea = H1 := funext fun b => by
      by_cases hb : b = ea
      · rw [hb, cX, n1]
      · rw [cP hb, aq hb]
    rw [e]
    exact hE
end
end L2
namespace L2
open PySem PySem.Spec PyProof.Rows
structure oo (P : Program) (w : World) (K : PySem.W.Frag) (mg : Str → Option Value) (base : Heap) (k : Nat) (C : Addr) (m : Str) (sp : Sp) : Prop where
  ex : ∃ (f : Addr) (fd : FuncData) (ps : List Str), bH P w K mg base (jl P w) k f fd ps sp ∧ Meth K C m f ∧ Binds K fd ps []
  cl : kB K C
structure xo (P : Program) (w : World) (K : PySem.W.Frag) (mg : Str → Option Value) (base : Heap) (k : Nat) (x : Str) (sp : Sp) : Prop where
  ex : ∃ (f : Addr) (fd : FuncData) (ps : List Str), bH P w K mg base (jl P w) k f fd ps sp ∧ mg x = some (.ref f) ∧ PySem.W.keepIn K (.ref f) = true ∧ Binds K fd ps []
end L2
namespace J
open PySem PySem.Spec PyProof.Rows
open L2 (Cx V Hp St VK TE TT TA TS TG jh TI TO R2 Sp XK E0 fD bH bL Gl Binds RelV Vals aE br cT gJ aB Here jl eJ dy sf oo xo Mk Meth kB)
structure Dz (X Y : Cx) (P : Program) (w : World) (K : PySem.W.Frag) (mg : Str → Option Value) (base : Heap) (sc : Scope) (N : List Str) (k : Nat) (E : XK) : Prop where
  here : Here X P w K mg base sc N k
  js : ∀ {st t}, JS X st t → JS Y st t
  jt : ∀ {e t}, JT X e t → JT Y e t
  rz : ∀ {xr : Str} {Ce : Addr} {bm : List Value} {e₀ : Expr} {t : TA} {np cpos pos : Pos}, dy K Ce bm → mg xr = some (.ref Ce) → sc.names.lookup xr = some .globalImplicit → (xr == ("__debug__" : Str)) = false → JA X [e₀] t → L2.notStar e₀ = true →
    JS Y (.Raise (some (.Call (.Name xr np) [e₀] [] cpos)) none pos) (fun _ σ H => t σ H fun vs H1 => vs.length ≤ sizeLine ∧ E (.ref Ce) none H1)
  rmk : ∀ {x : Str} {C : Addr} {j : Nat} {sp : Sp} {e : Expr} {es : List Expr} {t : TA} {p pos rpos : Pos}, sf P w K mg base j x C sp → JA X (e :: es) t → sc.names.lookup x = some .globalImplicit → j + 1 ≤ k → (x == ("__debug__" : Str)) = false → L2.notStar e = true → es.all L2.notStar = true →
    JS Y (.Return (some (.Call (.Name x p) (e :: es) [] pos)) rpos) (L2.qS (L2.tI C sp [] E t))
  rmt : ∀ {m : Str} {C : Addr} {j : Nat} {sp : Sp} {o e : Expr} {es : List Expr} {ta : TE} {t : TA} {apos pos rpos : Pos} {pl : Env → Sem Bool}, oo P w K mg base j C m sp → JE X o ta → JA X (e :: es) t → j ≤ k → (∀ env : Env, eval (.Call (.Attribute o m apos) (e :: es) [] pos) env = (do
      let ov ← eval o env
      standAt apos.atName
      let (f, first) ← holding [ov] (getMethod ov m (pl env))
      callWith pos f first (backTo pos (starEach (e :: es) env)) (backToKw pos (keywordEach [] env)))) → L2.notStar e = true → es.all L2.notStar = true →
    JS Y (.Return (some (.Call (.Attribute o m apos) (e :: es) [] pos)) rpos) (L2.qS (L2.qe C m sp [] E ta t))
section
variable {P : Program} {w : World} {K : PySem.W.Frag} {mg : Str → Option Value} {base : Heap} {x qual m : Str} {st : Stmt} {f C : Addr} {fd : FuncData} {N ps : List Str} {k j : Nat} {sp : Sp}
theorem w4 {cdv : Value} {A : Around} {outer : List Env} {s : Shared} {H : Hp} {E : XK} (S : aB N ps (L2.ao st)) (hr : bL k (A.deeper (envOfC qual (L2.ao st) s.heap.objs.size f cdv))) :
    Dz (L2.dD (jl P w) P w K mg base N qual (L2.ao st) f cdv A outer s H E).gZ (L2.dD (jl P w) P w K mg base N qual (L2.ao st) f cdv A outer s H E) P w K mg base (L2.ao st) N k E where
  here := ⟨rfl, rfl, rfl, rfl, rfl, rfl, PassesOwn.never, rfl, rfl, S.nd, hr, fun _ => rfl⟩
  js := fun h => ⟨h.out.gZ⟩
  jt := fun h => ⟨h.out.gZ⟩
  rz := fun {xr Ce bm e₀ t np cpos pos} O hg hgl hdb ha hs => ⟨L2.uw (x := xr) (L2.ft (X := L2.dD (jl P w) P w K mg base N qual (L2.ao st) f cdv A outer s H E) hgl hg rfl hdb) O rfl ha.out.gZ _ (fun pins σ H1 s1 I hE h' ea args hm => L2.nU I hm hE) (L2.aR hs) rfl⟩
  rmk := fun {x C j sp e es t p pos rpos} G ha hgl hj hdb h1 h2 => by
    obtain ⟨f', fd', ps', F, M, bi⟩ := G.ex
    exact ⟨L2.aw (L2.p7 (X := L2.dD (jl P w) P w K mg base N qual (L2.ao st) f cdv A outer s H E) M F (hr.mono hj) hgl G.nm bi .nil L2.xv ha.out.gZ hdb (L2.aR h1) (L2.bW h2))⟩
  rmt := fun {m C j sp o e es ta t apos pos rpos pl} G ho ha hj ht h1 h2 => by
    obtain ⟨f', fd', ps', F, M, bi⟩ := G.ex
    exact ⟨L2.aw (L2.vz (X := L2.dD (jl P w) P w K mg base N qual (L2.ao st) f cdv A outer s H E) ho.out.gZ G.cl M F (hr.mono hj) bi .nil L2.xv ha.out.gZ (L2.aR h1) (L2.bW h2) (ht _))⟩
theorem iw (F : gJ K m qual st f fd) (me : Meth K C m f) (bi : Binds K fd ps []) (cl : kB K C) (S : aB N ps (L2.ao st)) (len : ∀ vs H Q E, sp vs H Q E → vs.length = ps.length)
    (hbody : ∀ (X Y : Cx) (H : Hp) (vs : List V) (Q : VK) (E : XK), Dz X Y P w K mg base (L2.ao st) N k E → sp vs H Q E → ∃ t, om Y (L2.aX st) t ∧ t { nx := fun _ H' => Q .non H', rt := Q } (L2.start N vs) H) : oo P w K mg base (k + 1) C m sp := by
  refine ⟨⟨f, fd, ps, ?_, me, bi⟩, cl⟩
  obtain ⟨oc, od, kV, doc, pm, an, cdv, ct, osl, rfl, lk, hcd⟩ := F.ex
  refine L2.pH lk hcd S len fun A outer s H vs Q E hr hsp => ?_
  obtain ⟨t, h, q⟩ := hbody _ _ H vs Q E (w4 S hr) hsp
  exact ⟨t, h.out, q⟩
theorem vp (D : L2.Df K mg x st ps f fd) (S : aB N ps (L2.ao st)) (len : ∀ vs H Q E, sp vs H Q E → vs.length = ps.length)
    (hbody : ∀ (X Y : Cx) (H : Hp) (vs : List V) (Q : VK) (E : XK), Dz X Y P w K mg base (L2.ao st) N k E → sp vs H Q E → ∃ t, om Y (L2.aX st) t ∧ t { nx := fun _ H' => Q .non H', rt := Q } (L2.start N vs) H) : xo P w K mg base (k + 1) x sp := by
  refine ⟨f, fd, ps, ?_, D.nm, D.fn.kp, D.bi⟩
  obtain ⟨oc, od, kV, doc, pm, an, cdv, ct, osl, rfl, lk, hcd⟩ := D.fn.ex
  refine L2.pH lk hcd S len fun A outer s H vs Q E hr hsp => ?_
  obtain ⟨t, h, q⟩ := hbody _ _ H vs Q E (w4 S hr) hsp
  exact ⟨t, h.out, q⟩
theorem sR (G : xo P w K mg base k x sp) : L2.Gd P w K mg base k x (fun vs H Q _ => sp vs H Q E0) := by
  obtain ⟨f, fd, ps, F, h1, h2, h3⟩ := G.ex
  refine ⟨f, fd, ps, ⟨fun vs H Q E h => F.len vs H Q E0 h, fun A outer s H args us vs Q E hr e0 hb r h => ?_⟩, h1, h2, h3⟩
  refine codeAny_mono (F.run A outer s H args us vs Q E0 hr e0 hb r h) fun rr s' hq => ?_
  cases rr with
  | ok fl => cases fl <;> exact hq
  | error e =>
    obtain ⟨_, _, _, _, _, _, _, z⟩ := hq
    exact z.elim
end
end J
namespace L2
open PySem PySem.Spec PyProof.Rows
section
variable {X : Cx}
theorem wk {k : Nat} {f : Addr} {fd : FuncData} {ps : List Str} {sp : Sp} {x : Str} {e : Expr} {es : List Expr} {t : TA} {p pos rpos : Pos} (F : bH X.prog X.w X.K X.mg X.base (jl X.prog X.w) k f fd ps sp) (hr : bL k X.A) (hg : Gl X x) (hm : X.mg x = some (.ref f)) (hk : PySem.W.keepIn X.K (.ref f) = true) (hb : Binds X.K fd ps [])
    (ha : PA X.gZ (e :: es) t) (hdb : (x == ("__debug__" : Str)) = false := by decide) (he : starEach (e :: es) X.env = (false, eval e X.env) :: starEach es X.env := by rfl) (hpl : (backTo pos (starEach es X.env)).any (·.1) = false := by rfl) :
    yK X [.Return (some (.Call (.Name x p) (e :: es) [] pos)) rpos] (fun E => qS (og sp [] E t)) := by
  intro pins s σ H D E I h
  refine uA (wpAny_Return_some (bJ (Q := EP X pins σ D.rt) ?_ fun v s1 ⟨x, H1, I1, r1, q1⟩ => ⟨x, σ, H1, I1, r1, q1⟩))
  refine wpAny_Call_Name_kw (ie I hg hm ?_ hdb)
  refine PySem.W.callWith_K (h₀ := X.base) I.ok.mod.kin hk (wpAny_mono (ha pos pins s σ H _ (I.gL _) h) (fun us s1 ⟨vs, H1, I1, r, q⟩ => ⟨I1.dr, ?_⟩) fun _ _ z => False.elim z) he hpl
  have r2 : Vals (vs ++ []) (us ++ []) := r.append .nil
  have hl : (us ++ []).length = ps.length := by rw [← r2.length]; exact F.len _ _ _ _ q
  have I1' := I1.c6
  refine wpAny_call (codeAny_mono (F.run X.A X.stack s1 H1 ⟨us, []⟩ (us ++ []) (vs ++ []) _ E hr I1'.wz (hb s1 us I1'.dr hl) r2 q) fun r s' hq => ?_)
  cases r with
  | error e =>
    obtain ⟨ea, cls, dx, B, H', rfl, fl, hE⟩ := hq
    exact ⟨H1, H', s1, ea, cls, dx, B, I1', rfl, fl, hE⟩
  | ok fl =>
    cases fl with
    | ret u => exact I1'.after hq
    | next => exact False.elim hq
    | brk => exact False.elim hq
    | cont => exact False.elim hq
theorem mS.pT {φ : Heap → Prop} {pins : List (Addr × Obj)} {σ : St} {H H' : Hp} {s s' : Shared} {ea : Addr} {cls : Value} {dx : Option Addr} {B : Heap} {fl : Value} (I : Inv X pins σ H s) (F : mS X.prog X.w X.stack H H' s ea cls dx B s') {h' : Heap} (f : iB B X.stack ea cls dx fl h') (up : s'.heap.UpToSlots h') (hφ : ∀ h, (∃ ob ws, h.get? ea = some ob ∧ ob.cls = cls ∧ ob.data = .fields ws ∧ ob.dict = dx) → bA X.prog X.w (upd H' ea (.ext φ)) h ea (.ext φ)) :
    Inv X pins σ H' { s' with heap := h' } ∧ Inv X pins σ (upd H' ea (.ext φ)) { s' with heap := h' } := by
  obtain ⟨un, hok⟩ := F.on f.st up (fun b o e m n => by
    obtain ⟨_, o', ho, hd⟩ := I.stack.mem m
    rw [e] at ho
    cases ho
    exact hd) I.dX
  have nw := F.new
  obtain ⟨oe, ws, _, _, _, he, hc, hx, hd', _⟩ := id f.tr
  have nb : s.heap.get? ea = none := by
    cases q : s.heap.get? ea with
    | none => rfl
    | some o =>
      exfalso
      by_cases m : ea ∈ di X.stack
      · obtain ⟨_, o', ho, hd⟩ := I.stack.mem m
        rw [q] at ho
        cases ho
        obtain ⟨sl, h1⟩ := un.slot ea o q (I.dX ea m) m (by simp)
        rw [h1] at he
        cases he
        exact hd _ hd'
      · obtain ⟨o', h1⟩ := F.th ea o q m
        rw [f.nw] at h1
        cases h1
  refine ⟨I.nX (ch := []) F.os un hok F.bare (fun b z => by cases z), I.nX (ch := []) F.os ⟨un.keep, un.slot, fun b o q n hx => ?_, un.there, fun b xs q => ?_, fun b o u q => ?_, fun b ps q => ?_⟩ (fz.xc hok nw (hφ _ ⟨oe, ws, he, hc, hd', hx⟩)) F.bare (fun b z => by cases z)⟩
  · rw [aq (fun z => by rw [z, nb] at q; cases q)]
    exact un.free b o q n hx
  · have := un.tups b xs q
    rw [aq (ah this nw)]
    exact this
  · have := un.frzs b o u q
    rw [aq (ah this nw)]
    exact this
  · obtain ⟨m, this⟩ := un.tbls b ps q
    exact ⟨m, by rw [aq (ah this nw)]; exact this⟩
structure zc (K : PySem.W.Frag) (C Ck : Addr) : Prop where
  c : ∃ (nm q : Str) (N : Addr) (bs : List Value) (hdct : Bool) (sn : List Str) (sub : List Value) (ab : Bool) (col : Option Bool) (dd : Option Addr) (k0 k1 k2 k3 k5 : Option Value) (newId : String), K.lookup C = some (excClassObj nm q C N bs (.ref Ck :: dF) hdct sn sub ab col dd k0 k1 k2 k3 k5 newId)
  k : ∃ (nm q : Str) (N : Addr) (bs : List Value) (hdct : Bool) (sn : List Str) (sub : List Value) (ab : Bool) (col : Option Bool) (dd : Option Addr) (k0 k1 k2 k3 k5 : Option Value) (newId : String), K.lookup Ck = some (excClassObj nm q Ck N bs dF hdct sn sub ab col dd k0 k1 k2 k3 k5 newId)
theorem eJ.err {K : PySem.W.Frag} {C Ck fI : Addr} (O : eJ K C Ck fI) : zc K C Ck := by
  obtain ⟨nm, q, N, bs, sn, sub, ab, col, dd, k0, k1, k2, k3, k5, lk, _⟩ := O.ex
  obtain ⟨nm', q', N', bs', hd', sn', sub', ab', col', dd', k0', k1', k2', k3', k5', ni', lk', _⟩ := O.ek
  exact ⟨⟨nm, q, N, bs, true, sn, sub, ab, col, dd, k0, k1, k2, k3, k5, _, lk⟩, ⟨nm', q', N', bs', hd', sn', sub', ab', col', dd', k0', k1', k2', k3', k5', ni', lk'⟩⟩
theorem dy.err {K : PySem.W.Frag} {C Ck : Addr} (O : dy K C (.ref Ck :: dF)) (OK : dy K Ck dF) : zc K C Ck := by
  obtain ⟨nm, q, N, bs, hd, sn, sub, ab, col, dd, k0, k1, k2, k3, k5, lk, _⟩ := O.ex
  obtain ⟨nm', q', N', bs', hd', sn', sub', ab', col', dd', k0', k1', k2', k3', k5', lk', _⟩ := OK.ex
  exact ⟨⟨nm, q, N, bs, hd, sn, sub, ab, col, dd, k0, k1, k2, k3, k5, _, lk⟩, ⟨nm', q', N', bs', hd', sn', sub', ab', col', dd', k0', k1', k2', k3', k5', _, lk'⟩⟩
theorem wR {P : Program} {w : World} {H : Hp} {h : Heap} {ea C : Addr} (x : sr ea C h) : bA P w H h ea (.ext (sr ea C)) := ⟨x, let ⟨ob, e, _⟩ := x; ⟨ob, e⟩, fun _ _ ⟨ob, e, r⟩ k => ⟨ob, k _ e, r⟩⟩
inductive ja (X : Cx) (Ck : Addr) (i : Nat) (th : Value → TS) (D : Ends) (σ : St) (cls : Value) (dx : Option Addr) (H' : Hp) : Prop
  | mk (C : Addr) (φ : Addr → Heap → Prop) (e : cls = .ref C) (hC : zc X.K C Ck) (hφ : ∀ P w H ea h, (∃ ob ws, h.get? ea = some ob ∧ ob.cls = .ref C ∧ ob.data = .fields ws ∧ ob.dict = dx) → bA P w H h ea (.ext (φ ea))) (q : ∀ ea, H' ea = none → th (.ref ea) { nx := fun σ' H2 => D.nx (σ'.set i none) H2, rt := D.rt } (σ.set i (some (.ref ea))) (upd H' ea (.ext (φ ea))))
theorem ja.own {Ck C dxa fI : Addr} {i : Nat} {th : Value → TS} {D : Ends} {σ : St} {H' : Hp} (O : eJ X.K C Ck fI) (q : ∀ ea, H' ea = none → th (.ref ea) { nx := fun σ' H2 => D.nx (σ'.set i none) H2, rt := D.rt } (σ.set i (some (.ref ea))) (upd H' ea (.ext (qj ea C dxa)))) : ja X Ck i th D σ (.ref C) (some dxa) H' :=
  ⟨C, fun ea => qj ea C dxa, rfl, O.err, fun _ _ _ _ _ ⟨ob, ws, e1, e2, e3, e4⟩ => vE ⟨ob, ws, e1, e2, e3, e4⟩, q⟩
theorem ja.pl {Ck C : Addr} {i : Nat} {th : Value → TS} {D : Ends} {σ : St} {H' : Hp} (O : dy X.K C (.ref Ck :: dF)) (OK : dy X.K Ck dF) (q : ∀ ea, H' ea = none → th (.ref ea) { nx := fun σ' H2 => D.nx (σ'.set i none) H2, rt := D.rt } (σ.set i (some (.ref ea))) (upd H' ea (.ext (sr ea C)))) : ja X Ck i th D σ (.ref C) none H' :=
  ⟨C, fun ea => sr ea C, rfl, O.err OK, fun _ _ _ _ _ ⟨ob, ws, e1, e2, e3, e4⟩ => wR ⟨ob, e1, e2⟩, q⟩
theorem wj {body : List Stmt} {b₀ : Stmt} {hbody : List Stmt} {tb : XK → TS} {th : Value → TS} {xk n : Str} {Ck : Addr} {i : Nat} {kp hpos pos : Pos} (hb : yK X body tb) (hh : ∀ e, oJ (X.mk' e) (b₀ :: hbody) (th e)) (stk : X.stack = X.env :: X.outer ∧ X.env.frame = some X.env.locals) (hg : Gl X xk) (hm : X.mg xk = some (.ref Ck)) (nd : X.N.Nodup)
    (Sn : Slot X i n) (hl : X.env.scope.names.lookup n = some .local) (hdb : (xk == ("__debug__" : Str)) = false) :
    PS X (.Try body [.ExceptHandler (some (.Name xk kp)) (some n) (b₀ :: hbody) hpos] [] [] pos) (fun D σ H => tb (fun cls dx H' => ja X Ck i th D σ cls dx H') D σ H) := by
  intro pins s σ H D I h
  refine wpAny_Try_except (wpAny_mono (hb pins s σ H D _ I h) (fun f s1 q => ?_) fun e s1 q => ?_)
  · cases f with
    | next => exact wpAny_execs_nil q
    | ret v => exact q
    | brk => exact q
    | cont => exact q
  obtain ⟨H1, H', s0, ea, cls, dx, B, I0, rfl, F, C, φ, rfl, OC, hφ, q⟩ := q
  have hfl := F.fl
  rw [stk.1] at hfl
  refine lg (I0.ok.frames.trans (congrArg some stk.1)) stk.2 hfl fun h4 f4 up4 => ?_
  refine ee f4 fun h5 f5 up5 => ?_
  have up45 := up4.trans up5
  rw [← stk.1] at f5
  obtain ⟨I5, _⟩ := F.pT I0 f5 up45 (fun h x => hφ _ _ _ ea h x)
  obtain ⟨nmC, qC, NC, bsC, hdC, snC, subC, abC, colC, ddC, c0, c1, c2, c3, c5, niC, lkC⟩ := OC.c
  obtain ⟨nmK, qK, NK, bsK, hdK, snK, subK, abK, colK, ddK, d0, d1, d2, d3, d5, niK, lkK⟩ := OC.k
  obtain ⟨oe, ws, _, _, _, hoe, hoc, _⟩ := id f5.tr
  have hbK : (Value.ref Ck :: dF).contains (.type "BaseException") = true := by
    unfold dF
    simp
  have sub : (Value.ref C :: Value.ref Ck :: dF).contains (.ref Ck) = true := by simp
  refine wpAny_handleBy_cons (codeAny_handlers_test (ie (I5.mark (.ref ea)) hg hm ?_ hdb)) (by intro q; cases q)
  refine rD (I5.dr _ _ lkC) (I5.dr _ _ lkK) hoe hoc hbK sub (codeAny_handlers_suite_as ?_)
  refine ee (s := { s1 with heap := h5 }) f5 fun h6 f6 up6 => ?_
  obtain ⟨_, I6⟩ := F.pT I0 f6 (up45.trans up6) (fun h x => hφ _ _ _ ea h x)
  have nw := F.new
  refine fT (X := X.mk' (.ref ea)) (I6.mark (.ref ea)) nd Sn.hN Sn.lc (v := .ref ea) rfl (fun s7 I7 => ?_) Sn.fn
  have il : i < σ.length := by rw [I0.len]; exact (List.getElem?_eq_some_iff.mp Sn.hN).1
  refine wpAny_mono (hh (.ref ea) pins s7 _ _ _ I7 (q ea nw)) (fun f s8 h8 => ?_) fun _ _ z => False.elim z
  cases f with
  | next =>
    obtain ⟨σ', H2, I8, q8⟩ := h8
    have I8' := I8.unmark I0.ok
    have il8 : i < σ'.length := by rw [I8.len]; exact (List.getElem?_eq_some_iff.mp Sn.hN).1
    refine wpAny_bind (wpAny_bindName (fT I8' nd Sn.hN Sn.lc (v := .non) rfl (fun s9 I9 => ?_) Sn.fn))
    refine wpAny_onRaise (kJ I9 nd Sn.hN hl (v := .non) (List.getElem?_set_self il8) fun s10 I10 => ?_)
    refine ⟨_, _, I10, ?_⟩
    rw [List.set_set]
    exact q8
  | ret v =>
    obtain ⟨v', σ', H2, I8, r8, q8⟩ := h8
    have I8' := I8.unmark I0.ok
    have il8 : i < σ'.length := by rw [I8.len]; exact (List.getElem?_eq_some_iff.mp Sn.hN).1
    refine wpAny_bind (wpAny_bindName (fT I8' nd Sn.hN Sn.lc (v := .non) rfl (fun s9 I9 => ?_) Sn.fn))
    refine wpAny_onRaise (kJ I9 nd Sn.hN hl (v := .non) (List.getElem?_set_self il8) fun s10 I10 => ?_)
    exact ⟨v', _, _, I10, r8, q8⟩
  | brk =>
    obtain ⟨_, _, _, z⟩ := h8
    exact z.elim
  | cont =>
    obtain ⟨_, _, _, z⟩ := h8
    exact z.elim
def qx (K : PySem.W.Frag) (xs : List V) (H : Hp) (Q : VK) : Prop := Az K xs H Q ∨ AG K xs H Q
theorem bZ : cN X (.builtin "isinstance") (fun xs H Q => qx X.K xs H Q) := fun pins s σ H xs us Q I r h =>
  h.elim (fun h => uZ pins s σ H xs us Q I r h) fun h => uv pins s σ H xs us Q I r h
end
end L2
namespace J
open PySem PySem.Spec PyProof.Rows
open L2 (Cx V Hp St VK TE TT TA TS TG jh TI TO R2 Sp XK E0 fD bH bL Gl Binds RelV Vals aE br cT gJ aB Here jl eJ dy sf oo xo Mk Meth kB)
theorem bZ {X : Cx} : JF X (.builtin "isinstance") (fun xs H Q => L2.qx X.K xs H Q) := ⟨L2.bZ⟩
section
variable {P : Program} {w : World} {K : PySem.W.Frag} {mg : Str → Option Value} {base : Heap} {x : Str} {N : List Str} {k j : Nat} {sp : Sp}
theorem AZ {X : Cx} {sc : Scope} {e : Expr} {es : List Expr} {t : TA} {p pos rpos : Pos} (hh : Here X P w K mg base sc N k) (G : xo P w K mg base j x sp) (ha : L2.PA X.gZ (e :: es) t) (hg : sc.names.lookup x = some .globalImplicit) (hj : j ≤ k) (hdb : (x == ("__debug__" : Str)) = false) (h1 : L2.notStar e = true := by rfl) (h2 : es.all L2.notStar = true := by rfl) :
    Ad X [.Return (some (.Call (.Name x p) (e :: es) [] pos)) rpos] (fun E => L2.qS (L2.og sp [] E t)) := by
  obtain ⟨f, fd, ps, F, e1, e2, e3⟩ := G.ex
  obtain ⟨rfl, rfl, rfl, rfl, rfl⟩ := And.intro hh.pr (And.intro hh.wd (And.intro hh.fK (And.intro hh.gm hh.bs)))
  exact ⟨L2.wk F (hh.room.mono hj) (hh.gl hg) e1 e2 e3 ha hdb (L2.aR h1) (L2.bW h2)⟩
theorem Dq {X : Cx} {sc : Scope} {body : List Stmt} {b₀ : Stmt} {hb : List Stmt} {tb : XK → TS} {th : Value → TS} {xk n : Str} {Ck : Addr} {i : Nat} {kp hpos pos : Pos} (hh : Here X P w K mg base sc N k) (stk : X.stack = X.env :: X.outer ∧ X.env.frame = some X.env.locals) (h1 : Ad X body tb) (h2 : ∀ e, om (X.mk' e) (b₀ :: hb) (th e)) (hm : mg xk = some (.ref Ck))
    (Sn : L2.Slot X i n) (hg : sc.names.lookup xk = some .globalImplicit) (hl : sc.names.lookup n = some .local) (hdb : (xk == ("__debug__" : Str)) = false) :
    JS X (.Try body [.ExceptHandler (some (.Name xk kp)) (some n) (b₀ :: hb) hpos] [] [] pos) (fun D σ H => tb (fun cls dx H' => L2.ja X Ck i th D σ cls dx H') D σ H) := by
  have hg' := hh.gl hg
  have hsc := hh.hsc
  obtain ⟨rfl, rfl, rfl, rfl, rfl⟩ := And.intro hh.pr (And.intro hh.wd (And.intro hh.fK (And.intro hh.gm hh.bs)))
  exact ⟨L2.wj h1.out (fun e => (h2 e).out) stk hg' hm hh.nd Sn (by rw [hsc]; exact hl) hdb⟩
end
end J
namespace K04
open PySem L2
def kept : List Str := ["person", "talk", "saw", "knew", "heard", "told", "not", "nobody", "never", "by", "from", "to"]
def bB : V → Bool
  | .int i => decide (0 ≤ i) && decide (i ≤ 10 ^ Int.toNat 18)
  | _ => false
def fQ : V → Bool
  | .str w => !decide (w.cps.toList < ("a" : Str).cps.toList) && !decide (("z" : Str).cps.toList < w.cps.toList)
  | _ => false
def cG (z : Str) : Bool := decide (1 ≤ (z.length : Int)) && (decide ((z.length : Int) ≤ 12) && (((signs z).map fQ).all id && !u9 (.str z) (kept.map V.str)))
def bS : V → Bool
  | .str z => cG z
  | _ => false
def jm (K : PySem.W.Frag) : Sp := fun vs H Q _ => ∃ x T, vs = [x] ∧ cT K H x (.type T) ∧ T ∈ tys ∧ Q (.bl (T == "int")) H
def iK (K : PySem.W.Frag) : Sp := fun vs H Q _ => ∃ x T, vs = [x] ∧ cT K H x (.type T) ∧ T ∈ tys ∧ Q (.bl (bB x)) H
def jX (K : PySem.W.Frag) : Sp := fun vs H Q _ => ∃ x T, vs = [x] ∧ cT K H x (.type T) ∧ T ∈ tys ∧ (∀ z, x = .str z → z.length ≤ sizeLine) ∧ ∀ H', aj H H' → Q (.bl (bS x)) H'
def lets : Str := "bcdfghijklmnpqrstuvwxz"
def fA (z : Str) : Prop := ∀ c ∈ z.cps.toList, c ∈ lets.cps.toList
theorem jQ : lets.cps.toList.length = 22 := by decide +kernel
theorem vo : lets.cps.toList.Nodup := by decide +kernel
theorem rq : ∀ c ∈ lets.cps.toList, fQ (.str ⟨#[c]⟩) = true := by decide +kernel
theorem uF : ∀ w ∈ kept, (w.cps.toList.any fun c => !lets.cps.toList.contains c) = true := by decide +kernel
theorem fj (a b : Str) : (a ++ b).cps.toList = a.cps.toList ++ b.cps.toList := by
  show (a.cps ++ b.cps).toList = _
  rw [Array.toList_append]
theorem iH (a b : Str) : (a ++ b).length = a.length + b.length := Array.size_append
theorem lY (a : Str) : a.cps.toList.length = a.length := Array.length_toList
theorem vD {a b : Str} (h : a.cps.toList = b.cps.toList) : a = b := by
  obtain ⟨x⟩ := a
  obtain ⟨y⟩ := b
  have : x = y := Array.ext' h
  rw [this]
theorem nB {z : Str} (h : fA z) (h1 : 1 ≤ z.length) (h2 : z.length ≤ 12) : cG z = true := by
  unfold cG
  rw [decide_eq_true (by omega), decide_eq_true (by omega), Bool.true_and, Bool.true_and, Bool.and_eq_true]
  refine ⟨?_, ?_⟩
  · rw [List.all_map, List.all_eq_true]
    intro v hv
    obtain ⟨c, hc, rfl⟩ := List.mem_map.mp hv
    exact rq c (h c hc)
  · cases e : u9 (.str z) (kept.map V.str) with
    | false => rfl
    | true =>
      have e' : (kept.map V.str).any (fun y => sh y (.str z)) = true := e
      rw [List.any_map, List.any_eq_true] at e'
      obtain ⟨w, hw, e2⟩ := e'
      have e3 : (w == z) = true := e2
      have e4 : w = z := eq_of_beq e3
      have ko := uF w hw
      rw [List.any_eq_true] at ko
      obtain ⟨c, hc, nc⟩ := ko
      rw [e4] at hc
      have := h c hc
      rw [← List.contains_iff_mem] at this
      rw [this] at nc
      cases nc
theorem ze {z : Str} {k : Nat} (hk : k ≤ z.length) : (jg z none (some (k : Int))).cps.toList = z.cps.toList.take k := by
  show ((z.cps.toList.drop (HT.eS z.length 0 none)).take (HT.eS z.length z.length (some (k : Int)) - HT.eS z.length 0 none)) = _
  rw [HT.eG, HT.fZ, List.drop_zero, Nat.sub_zero, Nat.min_eq_left hk]
theorem xJ {z : Str} {k : Nat} (hk : k ≤ z.length) : (jg z (some (k : Int)) none).cps.toList = z.cps.toList.drop k := by
  show ((z.cps.toList.drop (HT.eS z.length 0 (some (k : Int)))).take (HT.eS z.length z.length none - HT.eS z.length 0 (some (k : Int)))) = _
  rw [HT.eG, HT.fZ, Nat.min_eq_left hk]
  refine List.take_of_length_le ?_
  rw [List.length_drop, lY]
  exact Nat.le_refl _
def putIn (z : Str) (k : Int) (c : Nat) : Str := (jg z none (some k) ++ (⟨#[c]⟩ : Str)) ++ jg z (some k) none
theorem eD {z : Str} {k : Nat} {c : Nat} (hk : k ≤ z.length) : (putIn z k c).cps.toList = z.cps.toList.take k ++ ([c] ++ z.cps.toList.drop k) := by
  unfold putIn
  rw [fj, fj, ze hk, xJ hk, List.append_assoc]
theorem qt {z : Str} {k : Nat} {c : Nat} (hk : k ≤ z.length) : (putIn z k c).length = z.length + 1 := by
  rw [← lY, eD hk, List.length_append, List.length_append, List.length_take, List.length_drop, lY]
  show min k z.length + (1 + (z.length - k)) = _
  omega
theorem rJ {z : Str} {k : Nat} {c : Nat} (hk : k ≤ z.length) (hz : fA z) (hc : c ∈ lets.cps.toList) : fA (putIn z k c) := by
  intro d hd
  rw [eD hk, List.mem_append, List.mem_append, List.mem_singleton] at hd
  rcases hd with hd | rfl | hd
  · exact hz d (List.mem_of_mem_take hd)
  · exact hc
  · exact hz d (List.mem_of_mem_drop hd)
theorem rk {z : Str} {k : Nat} {c d : Nat} (hk : k ≤ z.length) (h : putIn z k c = putIn z k d) : c = d := by
  have e := congrArg (fun s : Str => s.cps.toList) h
  try dsimp only at e
  rw [eD hk, eD hk] at e
  have e2 := List.append_cancel_left e
  exact (List.cons.inj e2).1
theorem mx {a b : Str} (ha : fA a) (hb : fA b) : fA (a ++ b) := by
  intro c hc
  rw [fj, List.mem_append] at hc
  exact hc.elim (ha c) (hb c)
theorem p8 {c : Nat} (hc : c ∈ lets.cps.toList) : fA ⟨#[c]⟩ := by
  intro d hd
  have : d ∈ [c] := hd
  rw [List.mem_singleton] at this
  rw [this]
  exact hc
theorem mU (sep : Str) (hs : fA sep) : ∀ zs : List Str, (∀ z ∈ zs, fA z) → fA (Str.join sep zs)
  | [], _ => fun c hc => by
    have : c ∈ ([] : List Nat) := hc
    cases this
  | [x], h => h x (List.mem_cons_self ..)
  | x :: y :: r, h => by
    show fA (x ++ sep ++ Str.join sep (y :: r))
    exact mx (mx (h x (List.mem_cons_self ..)) hs) (mU sep hs (y :: r) fun z hz => h z (List.mem_cons_of_mem _ hz))
def kb (f : Nat → Str) (more : Str) : Nat → List Str
  | 0 => []
  | i + 1 => kb f more i ++ [f i, f i ++ more]
theorem kj (f : Nat → Str) (more : Str) : ∀ i, (kb f more i).length = 2 * i
  | 0 => rfl
  | i + 1 => by
    show (kb f more i ++ [f i, f i ++ more]).length = _
    rw [List.length_append, kj f more i]
    show 2 * i + 2 = _
    omega
theorem hV (f : Nat → Str) (more : Str) (x : Str) : ∀ i, x ∈ kb f more i → ∃ j, j < i ∧ (x = f j ∨ x = f j ++ more)
  | 0, h => by cases h
  | i + 1, h => by
    have h' : x ∈ kb f more i ++ [f i, f i ++ more] := h
    rw [List.mem_append] at h'
    rcases h' with h' | h'
    · obtain ⟨j, hj, e⟩ := hV f more x i h'
      exact ⟨j, by omega, e⟩
    · rw [List.mem_cons, List.mem_singleton] at h'
      exact ⟨i, Nat.lt_succ_self i, h'⟩
theorem kf (f : Nat → Str) (more : Str) (L : Nat) (hL : ∀ j, (f j).length = L) (hm : more.length = 1) : ∀ i, (∀ j k, j < i → k < i → f j = f k → j = k) → (kb f more i).Nodup
  | 0, _ => List.nodup_nil
  | i + 1, h => by
    show (kb f more i ++ [f i, f i ++ more]).Nodup
    have ih := kf f more L hL hm i fun j k hj hk => h j k (by omega) (by omega)
    have lm : ∀ j, (f j ++ more).length = L + 1 := fun j => by rw [iH, hL, hm]
    have cancel : ∀ j k, f j ++ more = f k ++ more → f j = f k := fun j k e => by
      have e' := congrArg (fun s : Str => s.cps.toList) e
      try dsimp only at e'
      rw [fj, fj] at e'
      exact vD (List.append_cancel_right e')
    rw [List.nodup_append]
    refine ⟨ih, ?_, ?_⟩
    · rw [List.nodup_cons, List.mem_singleton]
      refine ⟨fun e => ?_, List.nodup_cons.mpr ⟨(by intro z; cases z), List.nodup_nil⟩⟩
      have := congrArg Str.length e
      rw [lm, hL] at this
      omega
    · intro x hx y hy e
      subst e
      obtain ⟨j, hj, e⟩ := hV f more x i hx
      rw [List.mem_cons, List.mem_singleton] at hy
      rcases e with rfl | rfl <;> rcases hy with hy | hy
      · have := h j i (by omega) (by omega) hy
        omega
      · have := congrArg Str.length hy
        rw [lm, hL] at this
        omega
      · have := congrArg Str.length hy
        rw [lm, hL] at this
        omega
      · have := h j i (by omega) (by omega) (cancel j i hy)
        omega
structure lG (us : List Str) : Prop where
  len : us.length = 24
  nd : us.Nodup
  nm : ∀ z ∈ us, cG z = true
theorem uR (f : Nat → Str) (more : Str) (L : Nat) (hL : ∀ j, (f j).length = L) (hl : ∀ j, fA (f j)) (h1 : 1 ≤ L) (h2 : L ≤ 11) (hm : more.length = 1) (lm : fA more) (inj : ∀ j k, j < 12 → k < 12 → f j = f k → j = k) : lG (kb f more 12) := by
  refine ⟨kj f more 12, kf f more L hL hm 12 inj, fun z hz => ?_⟩
  obtain ⟨j, _, e⟩ := hV f more z 12 hz
  rcases e with rfl | rfl
  · exact nB (hl j) (by rw [hL]; exact h1) (by rw [hL]; omega)
  · exact nB (mx (hl j) lm) (by rw [iH, hL]; omega) (by rw [iH, hL, hm]; omega)
def dj (i : Int) : Nat := lets.cps.toList.getD i.toNat 0
theorem eU {i : Int} (h0 : 0 ≤ i) (h1 : i < 22) : sH lets.cps.toList i = some (dj i) ∧ dj i ∈ lets.cps.toList := by
  have hj : i.toNat < lets.cps.toList.length := by rw [jQ]; omega
  have e : ((i.toNat : Nat) : Int) = i := Int.toNat_of_nonneg h0
  have eg : lets.cps.toList.getD i.toNat 0 = lets.cps.toList[i.toNat] := by
    rw [List.getD_eq_getElem?_getD, List.getElem?_eq_getElem hj]
    rfl
  have := cA (xs := lets.cps.toList) (j := i.toNat) (v := lets.cps.toList[i.toNat]) (List.getElem?_eq_getElem hj)
  rw [e] at this
  refine ⟨?_, ?_⟩
  · rw [this]
    exact congrArg some eg.symm
  · show lets.cps.toList.getD i.toNat 0 ∈ _
    rw [eg]
    exact List.getElem_mem hj
theorem kZ {i j : Int} (h0 : 0 ≤ i) (h1 : i < 22) (g0 : 0 ≤ j) (g1 : j < 22) (e : dj i = dj j) : i = j := by
  have hi : i.toNat < lets.cps.toList.length := by rw [jQ]; omega
  have hj : j.toNat < lets.cps.toList.length := by rw [jQ]; omega
  have e' : lets.cps.toList.getD i.toNat 0 = lets.cps.toList.getD j.toNat 0 := e
  rw [List.getD_eq_getElem?_getD, List.getD_eq_getElem?_getD, List.getElem?_eq_getElem hi, List.getElem?_eq_getElem hj] at e'
  have e2 : lets.cps.toList[i.toNat] = lets.cps.toList[j.toNat] := e'
  have e3 := (List.getElem_inj vo).mp e2
  omega
theorem kQ (us : List Str) (lo hi : Option Int) : bj (us.map V.str) lo hi = (((us.drop (HT.eS us.length 0 lo)).take (HT.eS us.length us.length hi - HT.eS us.length 0 lo))).map V.str := by
  unfold bj
  rw [List.length_map, List.map_take, List.map_drop]
theorem wrap {L x : Int} (h0 : 0 ≤ x) (h1 : x < 2 * L) : x % L = if x < L then x else x - L := by
  by_cases h : x < L
  · rw [if_pos h, Int.emod_eq_of_lt h0 h]
  · rw [if_neg h]
    have e : x % L = (x - L) % L := by rw [Int.sub_emod_right]
    rw [e, Int.emod_eq_of_lt (by omega) (by omega)]
theorem nJ {n r L : Int} (hL : 2 ≤ L) (r0 : 0 ≤ r) (r1 : r < L - 1) : (n + 1 + r) % L ≠ n % L := by
  have m0 : 0 ≤ n % L := Int.emod_nonneg n (by omega)
  have m1 : n % L < L := Int.emod_lt_of_pos n (by omega)
  have e : (n + 1 + r) % L = (n % L + (1 + r)) % L := by
    rw [Int.emod_add_emod]
    congr 1
    omega
  rw [e, wrap (x := n % L + (1 + r)) (by omega) (by omega)]
  split <;> omega
def c4 (h : Int) : Prop := 0 ≤ h ∧ h ≤ 10 ^ Int.toNat 18
theorem eN {h : Int} (k : c4 h) : bB (.int h) = true := by
  show (decide (0 ≤ h) && decide (h ≤ 10 ^ Int.toNat 18)) = true
  rw [decide_eq_true k.1, decide_eq_true k.2]
  rfl
theorem dN {z : Str} (h : cG z = true) : z.length ≤ 12 := by
  unfold cG at h
  rw [Bool.and_eq_true, Bool.and_eq_true, decide_eq_true_iff, decide_eq_true_iff] at h
  have := h.2.1
  omega
structure a6 (ps : List Str) : Prop where
  lo : 1 ≤ ps.length
  hi : ps.length ≤ 24
  nd : ps.Nodup
  nm : ∀ z ∈ ps, cG z = true
inductive ck  (ps : List Str) (H : Hp) (v : V) : Prop
  | mk (a : Addr) (z : Str) (h : Int) (ta : Addr) (ws : List Str) (h0 : v = .ref a) (h1 : H a = some (.tup [.str z, .int h, .ref ta])) (h2 : z ∈ ps) (h3 : c4 h) (h4 : H ta = some (.tup (ws.map V.str))) (h5 : 1 ≤ ws.length) (h6 : ws.length ≤ 6) (h7 : ∀ x ∈ ws, cG x = true)
inductive cV  (ps : List Str) (H : Hp) (v : V) : Prop
  | mk (a : Addr) (h : Int) (p q w : Str) (h0 : v = .ref a) (h1 : H a = some (.tup [.int h, .str p, .str q, .str w])) (h2 : c4 h) (h3 : p ∈ ps) (h4 : q ∈ ps) (h5 : p ≠ q) (h6 : (w = "both" ∨ w = "one"))
inductive dE  (ps : List Str) (H : Hp) (v : V) : Prop
  | mk (a : Addr) (h0 : v = .ref a) (h1 : ((∃ (p : Str) (h : Int), H a = some (.tup [.str "knew", .str p, .int h]) ∧ p ∈ ps ∧ c4 h) ∨    (∃ (p : Str) (b : V), H a = some (.tup [.str "unheard", .str p, b]) ∧ p ∈ ps ∧ (b = .non ∨ ∃ h : Int, b = .int h ∧ c4 h)) ∨    (∃ (p : Str) (h k : Int), H a = some (.tup [.str "silent", .str p, .int h, .int k]) ∧ p ∈ ps ∧ c4 h ∧ c4 k ∧ h ≤ k) ∨    (∃ p q : Str, H a = some (.tup [.str "barred", .str p, .str q]) ∧ p ∈ ps ∧ q ∈ ps ∧ p ≠ q)))
def Tk (H H' : Hp) : Prop := ∀ b xs, H b = some (.tup xs) → H' b = some (.tup xs)
theorem Tk.of {H H' : Hp} (s : aj H H') : Tk H H' := fun b _ e => s b _ e
theorem Tk.trans {H H1 H2 : Hp} (a : Tk H H1) (b : Tk H1 H2) : Tk H H2 := fun c xs e => b c xs (a c xs e)
theorem Tk.upd {H : Hp} {l : Addr} {xs ys : List V} (h : H l = some (.lst xs)) : Tk H (upd H l (.lst ys)) := fun b zs e => by
  rw [aq (nI e h (by intro z; cases z))]
  exact e
theorem ck.mono {ps : List Str} {H H' : Hp} {v : V} (s : Tk H H') (h : ck ps H v) : ck ps H' v := by
  obtain ⟨a, z, h, ta, ws, e, ha, hz, hh, ht, r1, r2, r3⟩ := h
  exact ⟨a, z, h, ta, ws, e, s _ _ ha, hz, hh, s _ _ ht, r1, r2, r3⟩
theorem cV.mono {ps : List Str} {H H' : Hp} {v : V} (s : Tk H H') (h : cV ps H v) : cV ps H' v := by
  obtain ⟨a, h, p, q, w, e, ha, r1, r2, r3, r4, r5⟩ := h
  exact ⟨a, h, p, q, w, e, s _ _ ha, r1, r2, r3, r4, r5⟩
theorem dE.mono {ps : List Str} {H H' : Hp} {v : V} (s : Tk H H') (h : dE ps H v) : dE ps H' v := by
  obtain ⟨a, e, h⟩ := h
  refine ⟨a, e, ?_⟩
  rcases h with ⟨p, h, ha, r⟩ | ⟨p, b, ha, r⟩ | ⟨p, h, k, ha, r⟩ | ⟨p, q, ha, r⟩
  · exact .inl ⟨p, h, s _ _ ha, r⟩
  · exact .inr (.inl ⟨p, b, s _ _ ha, r⟩)
  · exact .inr (.inr (.inl ⟨p, h, k, s _ _ ha, r⟩))
  · exact .inr (.inr (.inr ⟨p, q, s _ _ ha, r⟩))
theorem uu {z : Str} {ps : List Str} (h : z ∈ ps) : u9 (.str z) (ps.map V.str) = true := by
  show (ps.map V.str).any (fun y => sh y (.str z)) = true
  rw [List.any_map, List.any_eq_true]
  exact ⟨z, h, by show (z == z) = true; exact beq_self_eq_true z⟩
theorem rh (ps : List Str) : (ps.map V.str).all dh = true := by
  rw [List.all_map, List.all_eq_true]
  intro z _
  rfl
theorem ub {xs : List V} {n : Nat} {m : Int} (h : xs.length = n) (hm : (n : Int) = m) : decide (V.int (xs.length : Nat) = V.int m) = true := by
  rw [decide_eq_true_iff, h, hm]
inductive qh  (vs : List V) (H : Hp) (Q : VK) : Prop
  | mk (p : Addr) (xs : List V) (m : Int) (h0 : vs = [.ref p, .int m]) (h1 : H p = some (.lst xs)) (h2 : (xs.length : Int) ≤ m) (h3 : Q (.bl true) H)
def AF  : Sp := fun vs H Q _ => qh  vs H Q
inductive tX  (vs : List V) (H : Hp) (Q : VK) : Prop
  | mk (p : Addr) (xs : List V) (m : Int) (h0 : vs = [.ref p, .int m]) (h1 : H p = some (.tup xs)) (h2 : (xs.length : Int) = m) (h3 : Q (.bl true) H)
def BL  : Sp := fun vs H Q _ => tX  vs H Q
inductive qO  (vs : List V) (H : Hp) (Q : VK) : Prop
  | mk (p : Addr) (ps : List Str) (z : Str) (h0 : vs = [.ref p, .str z]) (h1 : H p = some (.lst (ps.map V.str))) (h2 : a6 ps) (h3 : z ∈ ps) (h4 : ∀ H', aj H H' → Q (.bl true) H')
def zF  : Sp := fun vs H Q _ => qO  vs H Q
inductive rV  (vs : List V) (H : Hp) (Q : VK) : Prop
  | mk (p : Addr) (ps : List Str) (y z : Str) (h0 : vs = [.ref p, .str y, .str z]) (h1 : H p = some (.lst (ps.map V.str))) (h2 : a6 ps) (h3 : y ∈ ps) (h4 : z ∈ ps) (h5 : y ≠ z) (h6 : ∀ H', aj H H' → Q (.bl true) H')
def zR  : Sp := fun vs H Q _ => rV  vs H Q
inductive wg  (vs : List V) (H : Hp) (Q : VK) : Prop
  | mk (t : Addr) (ws : List Str) (h0 : vs = [.ref t]) (h1 : H t = some (.tup (ws.map V.str))) (h2 : 1 ≤ ws.length) (h3 : ws.length ≤ 6) (h4 : (∀ x ∈ ws, cG x = true)) (h5 : ∀ H', aj H H' → Q (.bl true) H')
def CM  : Sp := fun vs H Q _ => wg  vs H Q
inductive uQ  (vs : List V) (H : Hp) (Q : VK) : Prop
  | mk (p : Addr) (ps : List Str) (v : V) (h0 : vs = [.ref p, v]) (h1 : H p = some (.lst (ps.map V.str))) (h2 : a6 ps) (h3 : ck ps H v) (h4 : ∀ H', aj H H' → Q (.bl true) H')
def BM  : Sp := fun vs H Q _ => uQ  vs H Q
inductive yx  (vs : List V) (H : Hp) (Q : VK) : Prop
  | mk (w : Str) (h0 : vs = [.str w]) (h1 : (w = "both" ∨ w = "one")) (h2 : ∀ H', aj H H' → Q (.bl true) H')
def DP  : Sp := fun vs H Q _ => yx  vs H Q
inductive vT  (vs : List V) (H : Hp) (Q : VK) : Prop
  | mk (p : Addr) (ps : List Str) (v : V) (h0 : vs = [.ref p, v]) (h1 : H p = some (.lst (ps.map V.str))) (h2 : a6 ps) (h3 : cV ps H v) (h4 : ∀ H', aj H H' → Q (.bl true) H')
def C9  : Sp := fun vs H Q _ => vT  vs H Q
inductive wU  (vs : List V) (H : Hp) (Q : VK) : Prop
  | mk (h k : Int) (h0 : vs = [.int h, .int k]) (h1 : c4 h) (h2 : c4 k) (h3 : h ≤ k) (h4 : Q (.bl true) H)
def De  : Sp := fun vs H Q _ => wU  vs H Q
inductive uP  (vs : List V) (H : Hp) (Q : VK) : Prop
  | mk (p : Addr) (ps : List Str) (kd y : Str) (b : V) (h0 : vs = [.ref p, .str kd, .str y, b]) (h1 : H p = some (.lst (ps.map V.str))) (h2 : a6 ps) (h3 : y ∈ ps) (h4 : ((kd = "barred" ∧ ∃ z, b = .str z ∧ z ∈ ps ∧ y ≠ z) ∨ (kd = "unheard" ∧ (b = .non ∨ ∃ h : Int, b = .int h ∧ c4 h)) ∨ (kd = "knew" ∧ ∃ h : Int, b = .int h ∧ c4 h))) (h5 : ∀ H', aj H H' → Q (.bl true) H')
def BI  : Sp := fun vs H Q _ => uP  vs H Q
inductive rL  (vs : List V) (H : Hp) (Q : VK) : Prop
  | mk (p : Addr) (ps : List Str) (v : V) (h0 : vs = [.ref p, v]) (h1 : H p = some (.lst (ps.map V.str))) (h2 : a6 ps) (h3 : dE ps H v) (h4 : ∀ H', aj H H' → Q (.bl true) H')
def AJ  : Sp := fun vs H Q _ => rL  vs H Q
inductive oA  (vs : List V) (H : Hp) (Q : VK) : Prop
  | mk (p : Addr) (ps : List Str) (h0 : vs = [.ref p]) (h1 : H p = some (.lst (ps.map V.str))) (h2 : a6 ps) (h3 : ∀ H', aj H H' → Q (.bl true) H')
def zE  : Sp := fun vs H Q _ => oA  vs H Q
inductive vi  (M : List Str → Hp → V → Prop) (n : Nat) (vs : List V) (H : Hp) (Q : VK) : Prop
  | mk (p q : Addr) (ps : List Str) (xs : List V) (h0 : vs = [.ref p, .ref q]) (h1 : H p = some (.lst (ps.map V.str))) (h2 : a6 ps) (h3 : H q = some (.lst xs)) (h4 : xs.length ≤ n) (h5 : (∀ v ∈ xs, M ps H v)) (h6 : ∀ H', aj H H' → Q (.bl true) H')
def Cq  (M : List Str → Hp → V → Prop) (n : Nat) : Sp := fun vs H Q _ => vi M n vs H Q
def iW (p s t y : Addr) : List (Str × V) := dq "kept_sayings" (.ref y) (dq "kept_talks" (.ref t) (dq "kept_sights" (.ref s) (dq "kept_persons" (.ref p) [])))
theorem nH (p s t y : Addr) : (iW p s t y).lookup ("kept_persons" : Str) = some (.ref p) := by
  unfold iW
  rw [aT, if_neg (by decide +kernel), aT, if_neg (by decide +kernel), aT, if_neg (by decide +kernel), aT, if_pos rfl]
theorem mV (p s t y : Addr) : (iW p s t y).lookup ("kept_sights" : Str) = some (.ref s) := by
  unfold iW
  rw [aT, if_neg (by decide +kernel), aT, if_neg (by decide +kernel), aT, if_pos rfl]
theorem m9 (p s t y : Addr) : (iW p s t y).lookup ("kept_talks" : Str) = some (.ref t) := by
  unfold iW
  rw [aT, if_neg (by decide +kernel), aT, if_pos rfl]
theorem ka (p s t y : Addr) : (iW p s t y).lookup ("kept_sayings" : Str) = some (.ref y) := by
  unfold iW
  rw [aT, if_pos rfl]
theorem iX (p s t y : Addr) {m : Str} (h1 : ¬ m = "kept_sayings") (h2 : ¬ m = "kept_talks") (h3 : ¬ m = "kept_sights") (h4 : ¬ m = "kept_persons") : (iW p s t y).lookup m = none := by
  unfold iW
  rw [aT, if_neg h1, aT, if_neg h2, aT, if_neg h3, aT, if_neg h4]
  rfl
structure Parts (H : Hp) (ps : List Str) (ss ts ys : List V) : Prop where
  ok : a6 ps
  sl : ss.length ≤ 24
  sg : ∀ v ∈ ss, ck ps H v
  tl : ts.length ≤ 120
  tg : ∀ v ∈ ts, cV ps H v
  yl : ys.length ≤ 60
  yg : ∀ v ∈ ys, dE ps H v
theorem Parts.mono {H H' : Hp} {ps : List Str} {ss ts ys : List V} (s : Tk H H') (g : Parts H ps ss ts ys) : Parts H' ps ss ts ys :=
  ⟨g.ok, g.sl, fun v h => (g.sg v h).mono s, g.tl, fun v h => (g.tg v h).mono s, g.yl, fun v h => (g.yg v h).mono s⟩
structure Bk (C : Addr) (H : Hp) (x p s t y : Addr) (ps : List Str) (ss ts ys : List V) : Prop where
  ob : ∃ dx, H x = some (.ins C dx (iW p s t y))
  hp : H p = some (.lst (ps.map V.str))
  hs : H s = some (.lst ss)
  ht : H t = some (.lst ts)
  hy : H y = some (.lst ys)
theorem Bk.mono {C : Addr} {H H' : Hp} {x p s t y : Addr} {ps : List Str} {ss ts ys : List V} (m : aj H H') (b : Bk C H x p s t y ps ss ts ys) : Bk C H' x p s t y ps ss ts ys := by
  obtain ⟨⟨dx, e⟩, h1, h2, h3, h4⟩ := b
  exact ⟨⟨dx, m _ _ e⟩, m _ _ h1, m _ _ h2, m _ _ h3, m _ _ h4⟩
inductive wQ  (C : Addr) (vs : List V) (H : Hp) (Q : VK) : Prop
  | mk (x dx p a b c : Addr) (ps : List Str) (ss ts ys : List V) (h0 : vs = [.ref x, .ref p, .ref a, .ref b, .ref c]) (h1 : H x = some (.ins C dx [])) (h2 : H p = some (.lst (ps.map V.str))) (h3 : H a = some (.lst ss)) (h4 : H b = some (.lst ts)) (h5 : H c = some (.lst ys)) (h6 : Parts H ps ss ts ys) (h7 : ∀ (p' s' t' y' : Addr) (H' : Hp), H p' = none → H s' = none → H t' = none → H y' = none → Bk C H' x p' s' t' y' ps ss ts ys → (∀ d o, H d = some o → d ≠ x → H' d = some o) → Q .non H')
def xR  (C : Addr) : Sp := fun vs H Q _ => wQ C vs H Q
structure Txt (K : PySem.W.Frag) (mg : Str → Option Value) (kw C : Addr) : Prop where
  b_isinstance : mg "isinstance" = none
  b_int : mg "int" = none
  b_bool : mg "bool" = none
  b_str : mg "str" = none
  b_len : mg "len" = none
  b_all : mg "all" = none
  b_range : mg "range" = none
  b_list : mg "list" = none
  b_tuple : mg "tuple" = none
  b_set : mg "set" = none
  b_zip : mg "zip" = none
  b_enumerate : mg "enumerate" = none
  b_min : mg "min" = none
  b_max : mg "max" = none
  b_any : mg "any" = none
  b_sorted : mg "sorted" = none
  b_dict : mg "dict" = none
  b_sum : mg "sum" = none
  b_reversed : mg "reversed" = none
  kwm : mg "KEPT_WORDS" = some (.ref kw)
  kwt : ∃ (o : Obj) (its : Array Value) (n : Nat), K.lookup kw = some o ∧ o.cls = .type "tuple" ∧ o.data = .seq its n ∧ its.size ≤ sizeLine ∧ Vals (kept.map V.str) its.toList
  g_MOST_PERSONS : ∃ u, mg "MOST_PERSONS" = some u ∧ RelV (.int 24) u
  g_MOST_SIGHTS : ∃ u, mg "MOST_SIGHTS" = some u ∧ RelV (.int 24) u
  g_MOST_TALKS : ∃ u, mg "MOST_TALKS" = some u ∧ RelV (.int 120) u
  g_MOST_SAYINGS : ∃ u, mg "MOST_SAYINGS" = some u ∧ RelV (.int 60) u
  g_MOST_WORDS : ∃ u, mg "MOST_WORDS" = some u ∧ RelV (.int 6) u
  cl : kB K C
  nP : dG K C "kept_persons"
  nS : dG K C "kept_sights"
  nT : dG K C "kept_talks"
  nY : dG K C "kept_sayings"
section
variable {P : Program} {w : World} {K : PySem.W.Frag} {mg : Str → Option Value} {base : Heap} {kw C : Addr}
theorem EM : aB ["thing"] ["thing"] (ao fq) := {}
theorem nZ {f : Addr} {fd : FuncData} (F : gJ K "is_whole" "is_whole" fq f fd) (T : Txt K mg kw C) : bH P w K mg base fD 1 f fd ["thing"] (jm K) := by
  refine F.ok EM (fun vs H Q E h => ?_) (fun cdv A outer s H vs Q E hr h => ?_)
  · obtain ⟨x, t, rfl, _⟩ := h
    rfl
  · obtain ⟨x, t, rfl, ty, ht, k⟩ := h
    refine ⟨_, ar (aw (a8 (eE aU rfl T.b_isinstance av (da (pv 0) (da (jy (v := .ty "int") rfl T.b_int lA rfl) ae)))
      (bw (jN (eE aU rfl T.b_isinstance av (da (pv 0) (da (jy (v := .ty "bool") rfl T.b_bool pD rfl) ae))))))), ?_⟩
    refine ⟨_, rfl, _, _, _, _, rfl, ty, bo ht (by decide), _, rfl, ?_⟩
    refine ba (fun h1 => ?_) (fun h1 => ?_)
    · refine ⟨_, rfl, _, _, _, _, rfl, ty, bo ht (by decide), _, rfl, ?_⟩
      have e : (!cJ t "bool") = (t == "int") := by
        simp only [tys, List.mem_cons, List.not_mem_nil, or_false] at ht
        rcases ht with rfl | rfl | rfl | rfl | rfl | rfl | rfl <;> first | rfl | (exfalso; revert h1; decide)
      show Q (.bl (!cJ t "bool")) H
      rw [e]
      exact k
    · have e : (t == "int") = false := by
        simp only [tys, List.mem_cons, List.not_mem_nil, or_false] at ht
        rcases ht with rfl | rfl | rfl | rfl | rfl | rfl | rfl <;> first | rfl | (exfalso; revert h1; decide)
      show Q (.bl false) H
      rw [← e]
      exact k
theorem Fq : aB ["thing"] ["thing"] (ao iN) := {}
theorem vC {f fW : Addr} {fd fdW : FuncData} (F : gJ K "is_hour" "is_hour" iN f fd) (DW : Df K mg "is_whole" fq ["thing"] fW fdW) (T : Txt K mg kw C) : bH P w K mg base fD 2 f fd ["thing"] (iK K) := by
  have GW : bH P w K mg base fD 1 fW fdW ["thing"] (jm K) := nZ DW.fn T
  refine F.ok Fq (fun vs H Q E h => ?_) (fun cdv A outer s H vs Q E hr h => ?_)
  · obtain ⟨x, t, rfl, _⟩ := h
    rfl
  · obtain ⟨x, t, rfl, ty, ht, k⟩ := h
    refine ⟨_, ar (aw (a8 (qd GW hr rfl DW.nm DW.fn.kp DW.bi .nil pK (da (pv 0) ae))
      (bw (oj fL fL ag (pv 0) (au c7 ag ag))))), ?_⟩
    refine ⟨_, rfl, x, t, rfl, ty, ht, _, rfl, ?_⟩
    refine ba (fun h1 => ?_) (fun h1 => ?_)
    · have e : t = "int" := eq_of_beq h1
      subst e
      obtain ⟨i, rfl⟩ := ty_int ty
      · refine ⟨_, rfl, _, _, rfl, rfl, _, rfl, ?_⟩
        refine ba (fun h2 => ?_) (fun h2 => ?_)
        · refine ⟨_, _, rfl, rfl, ⟨by decide, by decide, by decide⟩, _, _, rfl, rfl, ?_⟩
          have e2 : bB (.int i) = decide (i ≤ 10 ^ Int.toNat 18) := by
            show (decide (0 ≤ i) && decide (i ≤ 10 ^ Int.toNat 18)) = _
            rw [h2, Bool.true_and]
          rw [e2] at k
          exact k
        · have e2 : bB (.int i) = false := by
            show (decide (0 ≤ i) && decide (i ≤ 10 ^ Int.toNat 18)) = _
            rw [Bool.eq_false_iff.mpr h2, Bool.false_and]
          rw [e2] at k
          exact k
    · have e2 : bB x = false := by
        cases x with
        | int i => exact absurd (beq_iff_eq.mpr (qZ ty)) h1
        | _ => rfl
      rw [e2] at k
      exact k
theorem FH : aB ["thing"] ["thing"] (ao fV) := {}
theorem vI {f : Addr} {fd : FuncData} (F : gJ K "is_name" "is_name" fV f fd) (T : Txt K mg kw C) : bH P w K mg base fD 1 f fd ["thing"] (jX K) := by
  refine F.ok FH (fun vs H Q E h => ?_) (fun cdv A outer s H vs Q E hr h => ?_)
  · obtain ⟨x, t, rfl, _⟩ := h
    rfl
  · obtain ⟨x, t, rfl, ty, ht, hz, k⟩ := h
    refine ⟨_, ai (aN (PW.pt (dW (bf (oW (eE aU rfl T.b_isinstance av (da (pv 0) (da (jy (v := .ty "str") rfl T.b_str fE rfl) ae)))))
        (c8 (bf (fB fL fL ag (eE mi rfl T.b_len aZ (da (pv 0) ae)) ag))))) (ar (aw cq)) aF)
      (ar (aw (a8 (eE (cE rfl) rfl T.b_all iM (da (et (sc := ao fV) (N := ["thing"]) (is := []) (ns := []) rfl (xQ (pv 0))
          {} (fun _ _ _ _ _ => oj kP kP aM (pv 0) aM)) ae))
        (bw (bp lu (pv 0) (ft (v := .ref kw) rfl T.kwm rfl) (by with_unfolding_all rfl)))))), ?_⟩
    refine ⟨_, rfl, _, _, _, _, rfl, ty, bo ht (by decide), _, rfl, ?_⟩
    by_cases hs : t = "str"
    · subst hs
      obtain ⟨z, rfl⟩ := ty_str ty
      · have hz' := hz z rfl
        refine bX ?_
        refine ⟨_, rfl, z, rfl, hz', _, _, rfl, rfl, _, rfl, ?_⟩
        by_cases h1 : 1 ≤ (z.length : Int)
        · rw [decide_eq_true h1]
          refine cv ⟨_, _, rfl, rfl, _, rfl, ?_⟩
          by_cases h2 : (z.length : Int) ≤ 12
          · rw [decide_eq_true h2]
            refine bX ?_
            refine ⟨_, rfl, z, rfl, xC (fun v => .bl (fQ v)) hz' (fun v H2 Q' hv sm q' => ?_) fun D hD => ?_⟩
            · obtain ⟨c, _, rfl⟩ := List.mem_map.mp hv
              refine ⟨_, rfl, _, _, rfl, rfl, _, rfl, ba (fun h => ⟨_, _, rfl, rfl, ?_⟩) (fun h => ?_)⟩
              · have e : fQ (.str ⟨#[c]⟩) = !decide (("z" : Str).cps.toList < (⟨#[c]⟩ : Str).cps.toList) := by
                  show (!decide ((⟨#[c]⟩ : Str).cps.toList < ("a" : Str).cps.toList) && _) = _
                  rw [h, Bool.true_and]
                rw [e] at q'
                exact q'
              · have e : fQ (.str ⟨#[c]⟩) = false := by
                  show (!decide ((⟨#[c]⟩ : Str).cps.toList < ("a" : Str).cps.toList) && _) = _
                  rw [Bool.eq_false_iff.mpr h, Bool.false_and]
                rw [e] at q'
                exact q'
            · refine ⟨D, (signs z).map fQ, rfl, aE.of (aa.trans (by rw [List.map_map]; rfl)), _, rfl, ?_⟩
              have e : cG z = (((signs z).map fQ).all id && !u9 (.str z) (kept.map V.str)) := by
                unfold cG
                rw [decide_eq_true h1, decide_eq_true h2, Bool.true_and, Bool.true_and]
              have k' := k _ (aj.upd (o := .lst (((signs z).map fun v => V.bl (fQ v)))) hD)
              have k2 : Q (.bl (cG z)) _ := k'
              rw [e] at k2
              refine ba (fun h => ?_) (fun h => ?_)
              · rw [h, Bool.true_and] at k2
                refine ⟨_, rfl, kw, _, rfl, .inr (.inr T.kwt), rfl, ?_, k2⟩
                decide +kernel
              · rw [Bool.eq_false_iff.mpr h, Bool.false_and] at k2
                exact k2
          · rw [decide_eq_false h2]
            refine cv ?_
            have e : cG z = false := by
              unfold cG
              rw [decide_eq_false h2, Bool.false_and, Bool.and_false]
            have k2 : Q (.bl (cG z)) H := k H (aj.refl H)
            rw [e] at k2
            exact k2
        · rw [decide_eq_false h1]
          refine bX ⟨_, rfl, cv ?_⟩
          have e : cG z = false := by
            unfold cG
            rw [decide_eq_false h1, Bool.false_and]
          have k2 : Q (.bl (cG z)) H := k H (aj.refl H)
          rw [e] at k2
          exact k2
    · have e : cJ t "str" = false := by
        unfold cJ
        rw [beq_eq_false_iff_ne.mpr hs, Bool.false_or]
        exact Bool.and_false _
      rw [e]
      refine cv (cv ?_)
      have e2 : bS x = false := by
        cases x with
        | str z => exact absurd (rK ty) hs
        | _ => rfl
      have k2 := k H (aj.refl H)
      rw [e2] at k2
      exact k2
theorem mT {α : Type} {xs : List α} {i : Int} (h0 : 0 ≤ i) (h1 : i < xs.length) : ∃ v, sH xs i = some v ∧ v ∈ xs := by
  have hj : i.toNat < xs.length := by omega
  have e : ((i.toNat : Nat) : Int) = i := Int.toNat_of_nonneg h0
  refine ⟨xs[i.toNat], ?_, List.getElem_mem hj⟩
  have := cA (xs := xs) (j := i.toNat) (v := xs[i.toNat]) (by simp [hj])
  rw [e] at this
  exact this
theorem i6 : aB ["thing", "most"] ["thing", "most"] (ao dv) := {}
theorem j7 : aB ["thing", "length"] ["thing", "length"] (ao ez) := {}
theorem lU : aB ["persons", "thing"] ["persons", "thing"] (ao fH) := {}
theorem fw : aB ["persons", "one", "other"] ["persons", "one", "other"] (ao cf) := {}
theorem oV : aB ["thing"] ["thing"] (ao gb) := {}
theorem ng : aB ["persons", "thing"] ["persons", "thing"] (ao gH) := {}
theorem qv : aB ["thing"] ["thing"] (ao j4) := {}
theorem oG : aB ["persons", "thing"] ["persons", "thing"] (ao iL) := {}
theorem o6 : aB ["begin", "end"] ["begin", "end"] (ao iU) := {}
theorem gM : aB ["persons", "kind", "person", "behind"] ["persons", "kind", "person", "behind"] (ao cW) := {}
theorem lq : aB ["persons", "thing"] ["persons", "thing"] (ao fF) := {}
theorem jD : aB ["thing"] ["thing"] (ao c9) := {}
theorem kD : aB ["persons", "thing"] ["persons", "thing"] (ao dz) := {}
theorem mm : aB ["persons", "thing"] ["persons", "thing"] (ao dR) := {}
theorem km : aB ["persons", "thing"] ["persons", "thing"] (ao df) := {}
theorem rW : aB ["self", "persons", "sights", "talks", "sayings"] ["self", "persons", "sights", "talks", "sayings"] (ao eM) := {}
end
end K04
namespace K04
open PySem L2
inductive Th (H : Hp) : V → Prop
  | non : Th H .non
  | bl (b : Bool) : Th H (.bl b)
  | int (i : Int) : Th H (.int i)
  | str (z : Str) (l : z.length ≤ sizeLine) : Th H (.str z)
  | lst {a : Addr} {xs : List V} (h : H a = some (.lst xs)) : Th H (.ref a)
  | tup {a : Addr} {xs : List V} (h : H a = some (.tup xs)) : Th H (.ref a)
  | dct {a : Addr} {kvs : List (Key × V)} (h : H a = some (.dK kvs)) : Th H (.ref a)
theorem Th.mono {H H' : Hp} {v : V} (s : aj H H') (h : Th H v) : Th H' v := by
  cases h with
  | non => exact .non
  | bl b => exact .bl b
  | int i => exact .int i
  | str z l => exact .str z l
  | lst h => exact .lst (s _ _ h)
  | tup h => exact .tup (s _ _ h)
  | dct h => exact .dct (s _ _ h)
def knd (H : Hp) : V → String
  | .non => "NoneType"
  | .bl _ => "bool"
  | .int _ => "int"
  | .str _ => "str"
  | .ref a => match H a with
    | some (.lst _) => "list"
    | some (.tup _) => "tuple"
    | some (.dK _) => "dict"
    | _ => ""
  | _ => ""
def dP (H : Hp) : V → Option (List V)
  | .ref a => match H a with
    | some (.tup xs) => some xs
    | _ => none
  | _ => none
def dt (H : Hp) : V → Option (List V)
  | .ref a => match H a with
    | some (.lst xs) => some xs
    | _ => none
  | _ => none
theorem bG {H : Hp} {a : Addr} {xs : List V} (h : H a = some (.tup xs)) : dP H (.ref a) = some xs := by
  show (match H a with | some (.tup xs) => some xs | _ => none) = _
  rw [h]
theorem fb {H : Hp} {a : Addr} {xs : List V} (h : H a = some (.lst xs)) : dt H (.ref a) = some xs := by
  show (match H a with | some (.lst xs) => some xs | _ => none) = _
  rw [h]
theorem jB {H : Hp} {v : V} {xs : List V} (h : dP H v = some xs) : ∃ a, v = .ref a ∧ H a = some (.tup xs) := by
  cases v with
  | ref a =>
    have h : (match H a with | some (.tup xs) => some xs | _ => none) = some xs := h
    split at h
    · rename_i e
      cases h
      exact ⟨a, rfl, e⟩
    · cases h
  | _ => cases h
theorem jY {H : Hp} {v : V} {xs : List V} (h : dt H v = some xs) : ∃ a, v = .ref a ∧ H a = some (.lst xs) := by
  cases v with
  | ref a =>
    have h : (match H a with | some (.lst xs) => some xs | _ => none) = some xs := h
    split at h
    · rename_i e
      cases h
      exact ⟨a, rfl, e⟩
    · cases h
  | _ => cases h
theorem Th.eT {H H' : Hp} {v : V} (h : Th H v) (s : aj H H') : dP H' v = dP H v := by
  cases h with
  | lst h =>
    show (match H' _ with | some (.tup xs) => some xs | _ => none) = (match H _ with | some (.tup xs) => some xs | _ => none)
    rw [h, s _ _ h]
  | tup h =>
    show (match H' _ with | some (.tup xs) => some xs | _ => none) = (match H _ with | some (.tup xs) => some xs | _ => none)
    rw [h, s _ _ h]
  | dct h =>
    show (match H' _ with | some (.tup xs) => some xs | _ => none) = (match H _ with | some (.tup xs) => some xs | _ => none)
    rw [h, s _ _ h]
  | _ => rfl
theorem Th.gY {H H' : Hp} {v : V} (h : Th H v) (s : aj H H') : dt H' v = dt H v := by
  cases h with
  | lst h =>
    show (match H' _ with | some (.lst xs) => some xs | _ => none) = (match H _ with | some (.lst xs) => some xs | _ => none)
    rw [h, s _ _ h]
  | tup h =>
    show (match H' _ with | some (.lst xs) => some xs | _ => none) = (match H _ with | some (.lst xs) => some xs | _ => none)
    rw [h, s _ _ h]
  | dct h =>
    show (match H' _ with | some (.lst xs) => some xs | _ => none) = (match H _ with | some (.lst xs) => some xs | _ => none)
    rw [h, s _ _ h]
  | _ => rfl
def D3 : V → Bool
  | .str _ => true
  | _ => false
theorem lN {H : Hp} {a : Addr} {xs : List V} (h : H a = some (.lst xs)) : knd H (.ref a) = "list" := by
  show (match H a with | some (.lst _) => "list" | some (.tup _) => "tuple" | some (.dK _) => "dict" | _ => "") = _
  rw [h]
theorem mB {H : Hp} {a : Addr} {xs : List V} (h : H a = some (.tup xs)) : knd H (.ref a) = "tuple" := by
  show (match H a with | some (.lst _) => "list" | some (.tup _) => "tuple" | some (.dK _) => "dict" | _ => "") = _
  rw [h]
theorem mj {H : Hp} {a : Addr} {kvs : List (Key × V)} (h : H a = some (.dK kvs)) : knd H (.ref a) = "dict" := by
  show (match H a with | some (.lst _) => "list" | some (.tup _) => "tuple" | some (.dK _) => "dict" | _ => "") = _
  rw [h]
theorem jr {H : Hp} {a : Addr} {o : HO} (h : H a = some o) (n : ∀ xs, o ≠ .tup xs) : dP H (.ref a) = none := by
  show (match H a with | some (.tup xs) => some xs | _ => none) = _
  rw [h]
  cases o with
  | tup xs => exact absurd rfl (n xs)
  | _ => rfl
theorem pV {H : Hp} {a : Addr} {o : HO} (h : H a = some o) (n : ∀ xs, o ≠ .lst xs) : dt H (.ref a) = none := by
  show (match H a with | some (.lst xs) => some xs | _ => none) = _
  rw [h]
  cases o with
  | lst xs => exact absurd rfl (n xs)
  | _ => rfl
theorem Th.kn {H : Hp} {v : V} (h : Th H v) : knd H v ∈ tys ∧ cJ (knd H v) "tuple" = (dP H v).isSome ∧ cJ (knd H v) "list" = (dt H v).isSome ∧ cJ (knd H v) "str" = D3 v := by
  cases h with
  | non => exact (by decide : ("NoneType" : String) ∈ tys ∧ cJ "NoneType" "tuple" = false ∧ cJ "NoneType" "list" = false ∧ cJ "NoneType" "str" = false)
  | bl b => exact (by decide : ("bool" : String) ∈ tys ∧ cJ "bool" "tuple" = false ∧ cJ "bool" "list" = false ∧ cJ "bool" "str" = false)
  | int i => exact (by decide : ("int" : String) ∈ tys ∧ cJ "int" "tuple" = false ∧ cJ "int" "list" = false ∧ cJ "int" "str" = false)
  | str z l => exact (by decide : ("str" : String) ∈ tys ∧ cJ "str" "tuple" = false ∧ cJ "str" "list" = false ∧ cJ "str" "str" = true)
  | lst h =>
    rw [lN h, fb h, jr h (fun xs e => by cases e)]
    exact (by decide : ("list" : String) ∈ tys ∧ cJ "list" "tuple" = false ∧ cJ "list" "list" = true ∧ cJ "list" "str" = false)
  | tup h =>
    rw [mB h, bG h, pV h (fun xs e => by cases e)]
    exact (by decide : ("tuple" : String) ∈ tys ∧ cJ "tuple" "tuple" = true ∧ cJ "tuple" "list" = false ∧ cJ "tuple" "str" = false)
  | dct h =>
    rw [mj h, jr h (fun xs e => by cases e), pV h (fun xs e => by cases e)]
    exact (by decide : ("dict" : String) ∈ tys ∧ cJ "dict" "tuple" = false ∧ cJ "dict" "list" = false ∧ cJ "dict" "str" = false)
theorem Th.ty {K : PySem.W.Frag} {H : Hp} {v : V} (h : Th H v) : cT K H v (.type (knd H v)) := by
  cases h with
  | non => exact .non
  | bl b => exact .bl b
  | int i => exact .int i
  | str z l => exact .str z
  | lst h => rw [lN h]; exact .lst h
  | tup h => rw [mB h]; exact .tup h
  | dct h => rw [mj h]; exact .dK h
theorem Th.len {H : Hp} {v : V} (h : Th H v) : ∀ z, v = .str z → z.length ≤ sizeLine := fun z e => by
  cases h with
  | str y l =>
    cases e
    exact l
  | _ => cases e
theorem C8 {K : PySem.W.Frag} {H : Hp} {v : V} {n : String} {Q : VK} (h : Th H v) (hn : n ∈ ["int", "bool", "str", "list", "tuple"]) (q : Q (.bl (cJ (knd H v) n)) H) : ql K [v, .ty n] H Q := ⟨v, _, n, _, rfl, h.ty, bo h.kn.1 hn, q⟩
theorem ml {K : PySem.W.Frag} {H : Hp} {v : V} {Q : VK} (h : Th H v) (q : Q (.bl (dP H v).isSome) H) : ql K [v, .ty "tuple"] H Q := C8 h (by decide) (by rw [h.kn.2.1]; exact q)
theorem v5 {K : PySem.W.Frag} {H : Hp} {v : V} {Q : VK} (h : Th H v) (q : Q (.bl (dt H v).isSome) H) : ql K [v, .ty "list"] H Q := C8 h (by decide) (by rw [h.kn.2.2.1]; exact q)
theorem jo {K : PySem.W.Frag} {H : Hp} {v : V} {Q : VK} (h : Th H v) (q : Q (.bl (D3 v)) H) : ql K [v, .ty "str"] H Q := C8 h (by decide) (by rw [h.kn.2.2.2]; exact q)
def Dp : Nat → Hp → V → Prop
  | 0, H, v => Th H v
  | n + 1, H, v => Th H v ∧ ∀ xs, dP H v = some xs → ∀ x ∈ xs, Dp n H x
theorem Dp.th {n : Nat} {H : Hp} {v : V} (h : Dp n H v) : Th H v := by
  cases n with
  | zero => exact h
  | succ n => exact h.1
theorem Dp.mono {H H' : Hp} (s : aj H H') : ∀ {n : Nat} {v : V}, Dp n H v → Dp n H' v
  | 0, _, h => Th.mono s h
  | n + 1, v, h => ⟨h.1.mono s, fun xs e x hx => Dp.mono s (h.2 xs (by rw [← h.1.eT s]; exact e) x hx)⟩
def mQ (H : Hp) (v : V) (m : Int) : Bool := match dt H v with
  | some xs => decide ((xs.length : Int) ≤ m)
  | none => false
def va (H : Hp) (v : V) (m : Int) : Bool := match dP H v with
  | some xs => decide ((xs.length : Int) = m)
  | none => false
def cy (ps : List Str) : V → Bool
  | .str z => decide (z ∈ ps)
  | _ => false
def ik (ps : List Str) (a b : V) : Bool := cy ps a && (cy ps b && !decide (a = b))
def dZ (H : Hp) (v : V) : Bool := match dP H v with
  | some xs => (decide (1 ≤ (xs.length : Int)) && decide ((xs.length : Int) ≤ 6)) && xs.all bS
  | none => false
def a9 (ps : List Str) (H : Hp) (v : V) : Bool := match dP H v with
  | some [a, b, c] => cy ps a && (bB b && dZ H c)
  | _ => false
def rj : V → Bool
  | .str w => decide (w = "both") || decide (w = "one")
  | _ => false
def bK (ps : List Str) (H : Hp) (v : V) : Bool := match dP H v with
  | some [h, a, b, w] => bB h && (ik ps a b && rj w)
  | _ => false
def F7 : V → V → Bool
  | .int a, .int b => decide (a ≤ b)
  | _, _ => false
def kq (a b : V) : Bool := bB a && (bB b && F7 a b)
def cL (ps : List Str) (kd : Str) (a b : V) : Bool := if kd = "barred" then ik ps a b else if cy ps a = false then false else if kd = "unheard" then (decide (b = .non) || bB b) else (decide (kd = "knew") && bB b)
def cK (ps : List Str) (H : Hp) (v : V) : Bool := match dP H v with
  | some (.str kd :: r) => (match r with
    | [a, b, c] => decide (kd = "silent") && (cy ps a && kq b c)
    | [a, b] => cL ps kd a b
    | _ => false)
  | _ => false
def iI (xs : List V) : List Str := xs.filterMap fun
  | .str z => some z
  | _ => none
def fR (H : Hp) (v : V) : Bool := match dt H v with
  | some xs => decide (xs.length ≤ 24) && (!xs.isEmpty && (xs.all bS && decide (iI xs).Nodup))
  | none => false
def cQ (f : V → Bool) (n : Int) (H : Hp) (v : V) : Bool := match dt H v with
  | some xs => decide ((xs.length : Int) ≤ n) && xs.all f
  | none => false
inductive yP  (vs : List V) (H : Hp) (Q : VK) : Prop
  | mk (v : V) (m : Int) (h0 : vs = [v, .int m]) (h1 : Th H v) (h2 : Q (.bl (mQ H v m)) H)
def kG  : Sp := fun vs H Q _ => yP  vs H Q
inductive yu  (vs : List V) (H : Hp) (Q : VK) : Prop
  | mk (v : V) (m : Int) (h0 : vs = [v, .int m]) (h1 : Th H v) (h2 : Q (.bl (va H v m)) H)
def pR  : Sp := fun vs H Q _ => yu  vs H Q
inductive yw  (vs : List V) (H : Hp) (Q : VK) : Prop
  | mk (p : Addr) (ps : List Str) (v : V) (h0 : vs = [.ref p, v]) (h1 : H p = some (.lst (ps.map V.str))) (h2 : a6 ps) (h3 : Th H v) (h4 : ∀ H', aj H H' → Q (.bl (cy ps v)) H')
def kK  : Sp := fun vs H Q _ => yw  vs H Q
inductive zq  (vs : List V) (H : Hp) (Q : VK) : Prop
  | mk (p : Addr) (ps : List Str) (a b : V) (h0 : vs = [.ref p, a, b]) (h1 : H p = some (.lst (ps.map V.str))) (h2 : a6 ps) (h3 : Th H a) (h4 : Th H b) (h5 : ∀ H', aj H H' → Q (.bl (ik ps a b)) H')
def pO  : Sp := fun vs H Q _ => zq  vs H Q
inductive zj  (vs : List V) (H : Hp) (Q : VK) : Prop
  | mk (v : V) (h0 : vs = [v]) (h1 : Dp 1 H v) (h2 : ∀ H', aj H H' → Q (.bl (dZ H v)) H')
def uU  : Sp := fun vs H Q _ => zj  vs H Q
inductive xV  (vs : List V) (H : Hp) (Q : VK) : Prop
  | mk (p : Addr) (ps : List Str) (v : V) (h0 : vs = [.ref p, v]) (h1 : H p = some (.lst (ps.map V.str))) (h2 : a6 ps) (h3 : Dp 2 H v) (h4 : ∀ H', aj H H' → Q (.bl (a9 ps H v)) H')
def sJ  : Sp := fun vs H Q _ => xV  vs H Q
inductive xP  (vs : List V) (H : Hp) (Q : VK) : Prop
  | mk (v : V) (h0 : vs = [v]) (h1 : Th H v) (h2 : ∀ H', aj H H' → Q (.bl (rj v)) H')
def tV  : Sp := fun vs H Q _ => xP  vs H Q
inductive xE  (vs : List V) (H : Hp) (Q : VK) : Prop
  | mk (p : Addr) (ps : List Str) (v : V) (h0 : vs = [.ref p, v]) (h1 : H p = some (.lst (ps.map V.str))) (h2 : a6 ps) (h3 : Dp 1 H v) (h4 : ∀ H', aj H H' → Q (.bl (bK ps H v)) H')
def sW  : Sp := fun vs H Q _ => xE  vs H Q
inductive yJ  (vs : List V) (H : Hp) (Q : VK) : Prop
  | mk (a b : V) (h0 : vs = [a, b]) (h1 : Th H a) (h2 : Th H b) (h3 : Q (.bl (kq a b)) H)
def sO  : Sp := fun vs H Q _ => yJ  vs H Q
inductive yk  (vs : List V) (H : Hp) (Q : VK) : Prop
  | mk (p : Addr) (ps : List Str) (kd : Str) (a b : V) (h0 : vs = [.ref p, .str kd, a, b]) (h1 : H p = some (.lst (ps.map V.str))) (h2 : a6 ps) (h3 : Th H a) (h4 : Th H b) (h5 : ∀ H', aj H H' → Q (.bl (cL ps kd a b)) H')
def tH  : Sp := fun vs H Q _ => yk  vs H Q
inductive xW  (vs : List V) (H : Hp) (Q : VK) : Prop
  | mk (p : Addr) (ps : List Str) (v : V) (h0 : vs = [.ref p, v]) (h1 : H p = some (.lst (ps.map V.str))) (h2 : a6 ps) (h3 : Dp 1 H v) (h4 : ∀ H', aj H H' → Q (.bl (cK ps H v)) H')
def tL  : Sp := fun vs H Q _ => xW  vs H Q
inductive zr  (vs : List V) (H : Hp) (Q : VK) : Prop
  | mk (v : V) (h0 : vs = [v]) (h1 : Th H v) (h2 : (∀ xs, dt H v = some xs → ∀ x ∈ xs, Th H x)) (h3 : ∀ H', aj H H' → Q (.bl (fR H v)) H')
def uD  : Sp := fun vs H Q _ => zr  vs H Q
inductive zv  (f : List Str → Hp → V → Bool) (d : Nat) (n : Int) (vs : List V) (H : Hp) (Q : VK) : Prop
  | mk (p : Addr) (ps : List Str) (v : V) (h0 : vs = [.ref p, v]) (h1 : H p = some (.lst (ps.map V.str))) (h2 : a6 ps) (h3 : Th H v) (h4 : (∀ xs, dt H v = some xs → xs.length ≤ 200 ∧ ∀ x ∈ xs, Dp d H x)) (h5 : ∀ H', aj H H' → Q (.bl (cQ (f ps H) n H v)) H')
def ir  (f : List Str → Hp → V → Bool) (d : Nat) (n : Int) : Sp := fun vs H Q _ => zv f d n vs H Q
theorem qf (z : Str) (ps : List Str) : u9 (.str z) (ps.map V.str) = decide (z ∈ ps) := by
  by_cases h : z ∈ ps
  · rw [uu h, decide_eq_true h]
  · rw [decide_eq_false h]
    unfold u9
    rw [List.any_eq_false]
    intro v hv e
    obtain ⟨y, hy, rfl⟩ := List.mem_map.mp hv
    have e : (y == z) = true := e
    exact h (by rw [← beq_iff_eq.mp e]; exact hy)
theorem oO {ps : List Str} (hP : a6 ps) {v : V} (h : bS v = false) : cy ps v = false := by
  cases v with
  | str z =>
    refine decide_eq_false fun m => ?_
    have e := hP.nm z m
    have h : cG z = false := h
    rw [e] at h
    cases h
  | _ => rfl
theorem kO {ps : List Str} {v : V} (h : cy ps v = true) : ∃ z, v = .str z ∧ z ∈ ps := by
  cases v with
  | str z => exact ⟨z, rfl, of_decide_eq_true h⟩
  | _ => cases h
section
variable {P : Program} {w : World} {K : PySem.W.Frag} {mg : Str → Option Value} {base : Heap} {kw C : Addr}
theorem yR {f : Addr} {fd : FuncData} (D : Df K mg "is_list_up_to" dv ["thing", "most"] f fd) (T : Txt K mg kw C) : Gd P w K mg base 1 "is_list_up_to" kG := by
  refine J.a7 D i6 (fun vs H Q E h => ?_) (fun X H vs Q E hh h => ?_)
  · obtain ⟨v, m, rfl, _⟩ := h
    rfl
  · obtain ⟨v, m, rfl, th, k⟩ := h
    have S0 := hh.sl 0 "thing"
    have S1 := hh.sl 1 "most"
    have B_isinstance := hh.b T.b_isinstance
    have B_len := hh.b T.b_len
    have B_list := hh.b T.b_list
    refine ⟨_, (J.ar (J.aw (J.a8 (J.blt B_isinstance J.aU L2.av (J.af (J.rd S0) (J.af (J.ty B_list L2.bF) J.ae))) (J.bw (J.bp J.fL (J.blt B_len J.aD L2.aZ (J.af (J.rd S0) J.ae)) (J.rd S1) (L2.aH _)))))), ?_⟩
    unfold mQ at k
    refine ⟨_, rfl, v5 th ⟨_, rfl, ba (fun hb => ?_) (fun hb => ?_)⟩⟩
    · obtain ⟨xs, hx⟩ := Option.isSome_iff_exists.mp hb
      obtain ⟨a, rfl, ha⟩ := jY hx
      rw [hx] at k
      exact ⟨_, rfl, a, xs, rfl, .inl (aE.of ha), _, rfl, _, _, rfl, rfl, k⟩
    · have e : dt H v = none := Option.not_isSome_iff_eq_none.mp hb
      rw [e] at k
      exact k
theorem zi {f : Addr} {fd : FuncData} (D : Df K mg "is_tuple_of" ez ["thing", "length"] f fd) (T : Txt K mg kw C) : Gd P w K mg base 1 "is_tuple_of" pR := by
  refine J.a7 D j7 (fun vs H Q E h => ?_) (fun X H vs Q E hh h => ?_)
  · obtain ⟨v, m, rfl, _⟩ := h
    rfl
  · obtain ⟨v, m, rfl, th, k⟩ := h
    have S0 := hh.sl 0 "thing"
    have S1 := hh.sl 1 "length"
    have B_isinstance := hh.b T.b_isinstance
    have B_len := hh.b T.b_len
    have B_tuple := hh.b T.b_tuple
    refine ⟨_, (J.ar (J.aw (J.a8 (J.blt B_isinstance J.aU L2.av (J.af (J.rd S0) (J.af (J.ty B_tuple L2.eP) J.ae))) (J.bw (J.bp J.bq (J.blt B_len J.aD L2.aZ (J.af (J.rd S0) J.ae)) (J.rd S1) (L2.aH _)))))), ?_⟩
    unfold va at k
    refine ⟨_, rfl, ml th ⟨_, rfl, ba (fun hb => ?_) (fun hb => ?_)⟩⟩
    · obtain ⟨xs, hx⟩ := Option.isSome_iff_exists.mp hb
      obtain ⟨a, rfl, ha⟩ := jB hx
      rw [hx] at k
      refine ⟨_, rfl, a, xs, rfl, .inr (br.of ha), _, rfl, rfl, ?_⟩
      rw [dI]
      exact k
    · have e : dP H v = none := Option.not_isSome_iff_eq_none.mp hb
      rw [e] at k
      exact k
theorem yL {f : Addr} {fd : FuncData} (D : Df K mg "is_person" fH ["persons", "thing"] f fd) (G_is_name : Gd P w K mg base 1 "is_name" (jX K)) : Gd P w K mg base 2 "is_person" kK := by
  refine J.a7 D lU (fun vs H Q E h => ?_) (fun X H vs Q E hh h => ?_)
  · obtain ⟨p, ps, v, rfl, _⟩ := h
    rfl
  · obtain ⟨p, ps, v, rfl, hp, hP, th, k⟩ := h
    have S0 := hh.sl 0 "persons"
    have S1 := hh.sl 1 "thing"
    have C_is_name := hh.c G_is_name
    refine ⟨_, (J.ar (J.aw (J.a8 (J.cn C_is_name (J.af (J.rd S1) J.ae)) (J.bw (J.bp J.eH (J.rd S1) (J.rd S0) J.i8))))), ?_⟩
    refine ⟨_, rfl, v, _, rfl, th.ty, th.kn.1, th.len, fun H1 s1 => ⟨_, rfl, ba (fun hb => ?_) (fun hb => ?_)⟩⟩
    · cases v with
      | str z =>
        refine ⟨_, rfl, _, rfl, p, _, rfl, .inl (aE.of (s1 _ _ hp)), rfl, rh ps, ?_⟩
        show Q (.bl (u9 (.str z) (ps.map V.str))) H1
        rw [qf]
        exact k H1 s1
      | _ => cases hb
    · have := k H1 s1
      rw [oO hP (eq_false_of_ne_true hb)] at this
      exact this
theorem yD {f : Addr} {fd : FuncData} (D : Df K mg "are_unlike_persons" cf ["persons", "one", "other"] f fd) (G_is_person : Gd P w K mg base 2 "is_person" kK) : Gd P w K mg base 3 "are_unlike_persons" pO := by
  refine J.a7 D fw (fun vs H Q E h => ?_) (fun X H vs Q E hh h => ?_)
  · obtain ⟨p, ps, a, b, rfl, _⟩ := h
    rfl
  · obtain ⟨p, ps, a, b, rfl, hp, hP, ta, tb, k⟩ := h
    have S0 := hh.sl 0 "persons"
    have S1 := hh.sl 1 "one"
    have S2 := hh.sl 2 "other"
    have C_is_person := hh.c G_is_person
    refine ⟨_, (J.ar (J.aw (J.a8 (J.cn C_is_person (J.af (J.rd S0) (J.af (J.rd S1) J.ae))) (J.a8 (J.cn C_is_person (J.af (J.rd S0) (J.af (J.rd S2) J.ae))) (J.bw (J.bp J.ip (J.rd S1) (J.rd S2) (L2.aH _))))))), ?_⟩
    unfold ik at k
    refine ⟨_, rfl, _, rfl, p, ps, a, rfl, hp, hP, ta, fun H1 s1 => ⟨_, rfl, ba (fun h1 => ?_) (fun h1 => ?_)⟩⟩
    · rw [h1, Bool.true_and] at k
      refine ⟨_, rfl, _, rfl, p, ps, b, rfl, s1 _ _ hp, hP, tb.mono s1, fun H2 s2 => ⟨_, rfl, ba (fun h2 => ?_) (fun h2 => ?_)⟩⟩
      · rw [h2, Bool.true_and] at k
        obtain ⟨y, rfl, _⟩ := kO h1
        obtain ⟨z, rfl, _⟩ := kO h2
        exact ⟨_, rfl, _, rfl, rfl, k H2 (s1.trans s2)⟩
      · rw [eq_false_of_ne_true h2, Bool.false_and] at k
        exact k H2 (s1.trans s2)
    · rw [eq_false_of_ne_true h1, Bool.false_and] at k
      exact k H1 s1
end
section
variable {P : Program} {w : World} {K : PySem.W.Frag} {mg : Str → Option Value} {base : Heap} {kw C : Addr}
theorem yU {f : Addr} {fd : FuncData} (D : Df K mg "is_tale" gb ["thing"] f fd) (T : Txt K mg kw C) (G_is_name : Gd P w K mg base 1 "is_name" (jX K)) : Gd P w K mg base 2 "is_tale" uU := by
  refine J.a7 D oV (fun vs H Q E h => ?_) (fun X H vs Q E hh h => ?_)
  · obtain ⟨v, rfl, _⟩ := h
    rfl
  · obtain ⟨v, rfl, dp, k⟩ := h
    have S0 := hh.sl 0 "thing"
    have B_all := hh.b T.b_all
    have B_isinstance := hh.b T.b_isinstance
    have B_len := hh.b T.b_len
    have B_tuple := hh.b T.b_tuple
    have g_MOST_WORDS : ∀ {p : Pos}, J.JE X (.Name "MOST_WORDS" p) (L2.tC (.int 6)) := J.glob hh T.g_MOST_WORDS rfl (by decide)
    have CI_is_name := hh.ci G_is_name
    have hsz : sizeLine = 16777216 := sizeLine_eq
    refine ⟨_, (J.ai (J.aN (J.dw (J.dW (J.bf (J.aV (J.blt B_isinstance J.aU L2.av (J.af (J.rd S0) (J.af (J.ty B_tuple L2.eP) J.ae))))) (J.c8 (J.bf (J.fB J.fL J.fL J.ag (J.blt B_len J.aD L2.aZ (J.af (J.rd S0) J.ae)) g_MOST_WORDS L2.j8)))))
 (J.ar (J.aw J.cq))
 J.aF)
 (J.ar (J.aw (J.blt B_all (J.cE hh.calm) L2.iM (J.af (J.et (sc := L2.ao gb) (N := ["thing"]) (is := []) (ns := []) hh.calm (J.pw (J.rd S0)) {} (fun _ _ _ _ _ => (J.cn (CI_is_name.lc rfl) (J.af (J.vj rfl (by decide) (by decide)) J.ae))) hh.hsc hh.hN) J.ae))))), ?_⟩
    unfold dZ at k
    refine ⟨_, rfl, ml dp.th ⟨_, rfl, ?_⟩⟩
    cases hx : dP H v with
    | none =>
      rw [hx] at k
      exact cv (k H (aj.refl _))
    | some xs =>
      rw [hx] at k
      dsimp only at k
      obtain ⟨a, rfl, ha⟩ := jB hx
      refine bX ⟨_, rfl, a, xs, rfl, .inr (br.of ha), _, _, rfl, rfl, _, rfl, ba (fun h1 => ⟨_, _, rfl, rfl, _, rfl, ba (fun h2 => ?_) (fun h2 => ?_)⟩) (fun h1 => ?_)⟩
      · have h2 : decide ((xs.length : Int) ≤ 6) = false := by
          simpa using h2
        have k' := k H (aj.refl _)
        rw [h2, Bool.and_false, Bool.false_and] at k'
        exact k'
      · have h2 : decide ((xs.length : Int) ≤ 6) = true := by
          simpa using h2
        have h1' : decide (1 ≤ (xs.length : Int)) = true := h1
        rw [h1', h2, Bool.true_and, Bool.true_and] at k
        have l6 := of_decide_eq_true h2
        refine ⟨_, rfl, a, rfl, ⟨_, br.of ha⟩, wG (fun v => .bl (bS v)) (br.of ha) (by omega) (fun x H2 Q' hv sm q' => ?_) (fun D' H' hD sm hl' => ?_)⟩
        · have tx := (dp.2 xs hx x hv).mono sm
          exact ⟨_, rfl, x, _, rfl, tx.ty, tx.kn.1, tx.len, fun H3 s3 => q' H3 s3⟩
        · refine ⟨D', xs.map bS, rfl, aE.of (hl'.trans (by rw [List.map_map]; rfl)), ?_⟩
          have e : (xs.map bS).all id = xs.all bS := by rw [List.all_map]; rfl
          rw [e]
          exact k H' sm
      · have h1' : decide (1 ≤ (xs.length : Int)) = false := eq_false_of_ne_true h1
        have k' := k H (aj.refl _)
        rw [h1', Bool.false_and, Bool.false_and] at k'
        exact ⟨_, rfl, cv k'⟩
theorem yy {f : Addr} {fd : FuncData} (D : Df K mg "is_way" j4 ["thing"] f fd) (T : Txt K mg kw C) : Gd P w K mg base 1 "is_way" tV := by
  refine J.a7 D qv (fun vs H Q E h => ?_) (fun X H vs Q E hh h => ?_)
  · obtain ⟨z, rfl, _⟩ := h
    rfl
  · obtain ⟨v, rfl, th, k⟩ := h
    have S0 := hh.sl 0 "thing"
    have B_isinstance := hh.b T.b_isinstance
    have B_str := hh.b T.b_str
    refine ⟨_, (J.ar (J.aw (J.a8 (J.blt B_isinstance J.aU L2.av (J.af (J.rd S0) (J.af (J.ty B_str L2.fE) J.ae))) (J.bw (J.bp J.eH (J.rd S0) (J.bh (J.af J.aM (J.af J.aM J.ae))) J.sy))))), ?_⟩
    refine ⟨_, rfl, jo th ⟨_, rfl, ?_⟩⟩
    cases v with
    | str z =>
      refine cv ⟨_, rfl, by show 2 ≤ sizeLine; decide, fun q hq => ⟨q, _, rfl, .inr (br.of aa), rfl, by decide +kernel, ?_⟩⟩
      show Q (.bl (u9 (.str z) ([("both" : Str), "one"].map V.str))) _
      rw [qf]
      have e : decide (z ∈ [("both" : Str), "one"]) = rj (.str z) := by
        show _ = (decide (z = "both") || decide (z = "one"))
        by_cases h1 : z = "both"
        · rw [decide_eq_true h1, Bool.true_or]
          exact decide_eq_true (by rw [h1]; exact .head _)
        · by_cases h2 : z = "one"
          · rw [decide_eq_true h2, Bool.or_true]
            exact decide_eq_true (by rw [h2]; exact .tail _ (.head _))
          · rw [decide_eq_false h1, decide_eq_false h2]
            refine decide_eq_false fun m => ?_
            rcases List.mem_cons.mp m with m | m
            · exact h1 m
            · exact h2 (List.mem_singleton.mp m)
      rw [e]
      exact k _ (aj.upd hq)
    | _ => exact bX (k H (aj.refl _))
theorem zp {f : Addr} {fd : FuncData} (D : Df K mg "is_sight" gH ["persons", "thing"] f fd) (G_is_tuple_of : Gd P w K mg base 1 "is_tuple_of" pR) (G_is_person : Gd P w K mg base 2 "is_person" kK)
    (G_is_hour : Gd P w K mg base 2 "is_hour" (iK K)) (G_is_tale : Gd P w K mg base 2 "is_tale" uU) : Gd P w K mg base 3 "is_sight" sJ := by
  refine J.a7 D ng (fun vs H Q E h => ?_) (fun X H vs Q E hh h => ?_)
  · obtain ⟨p, ps, v, rfl, _⟩ := h
    rfl
  · obtain ⟨p, ps, v, rfl, hp, hP, dp, k⟩ := h
    have S0 := hh.sl 0 "persons"
    have S1 := hh.sl 1 "thing"
    have C_is_hour := hh.c G_is_hour
    have C_is_person := hh.c G_is_person
    have C_is_tale := hh.c G_is_tale
    have C_is_tuple_of := hh.c G_is_tuple_of
    refine ⟨_, (J.ai (J.aN (J.bf (J.aV (J.cn C_is_tuple_of (J.af (J.rd S1) (J.af J.ag J.ae)))))
 (J.ar (J.aw J.cq))
 J.aF)
 (J.ar (J.aw (J.a8 (J.cn C_is_person (J.af (J.rd S0) (J.af (J.aK J.b6 (J.rd S1) J.ag J.aP) J.ae))) (J.a8 (J.cn C_is_hour (J.af (J.aK J.b6 (J.rd S1) J.ag J.aP) J.ae)) (J.bw (J.cn C_is_tale (J.af (J.aK J.b6 (J.rd S1) J.ag J.aP) J.ae)))))))), ?_⟩
    unfold a9 at k
    refine ⟨_, rfl, v, 3, rfl, dp.th, _, rfl, ?_⟩
    cases hx : dP H v with
    | none =>
      rw [hx] at k
      have e : va H v 3 = false := by
        unfold va
        rw [hx]
      rw [e]
      exact cv (k H (aj.refl _))
    | some xs =>
      have e : va H v 3 = decide ((xs.length : Int) = 3) := by
        unfold va
        rw [hx]
      rw [e]
      by_cases l3 : xs.length = 3
      · obtain ⟨a, rfl, ha⟩ := jB hx
        obtain ⟨x, y, z, rfl⟩ : ∃ x y z, xs = [x, y, z] := by
          match xs, l3 with
          | [x, y, z], _ => exact ⟨x, y, z, rfl⟩
        rw [hx] at k
        dsimp only at k
        have d1 := dp.2 _ hx x (.head _)
        have d2 := dp.2 _ hx y (.tail _ (.head _))
        have d3 := dp.2 _ hx z (.tail _ (.tail _ (.head _)))
        refine bX ?_
        refine ⟨_, rfl, _, rfl, a, _, _, _, rfl, rfl, br.of ha, rfl, p, ps, x, rfl, hp, hP, d1.th, fun H1 s1 => ⟨_, rfl, ba (fun h1 => ?_) (fun h1 => ?_)⟩⟩
        · rw [show cy ps x = true from h1, Bool.true_and] at k
          have t2 := d2.th.mono s1
          refine ⟨_, rfl, a, _, _, _, rfl, rfl, br.of (s1 _ _ ha), rfl, y, _, rfl, t2.ty, t2.kn.1, _, rfl, ba (fun h2 => ?_) (fun h2 => ?_)⟩
          · rw [show bB y = true from h2, Bool.true_and] at k
            refine ⟨_, rfl, a, _, _, _, rfl, rfl, br.of (s1 _ _ ha), rfl, z, rfl, d3.mono s1, fun H2 s2 => ?_⟩
            have e3 : dZ H1 z = dZ H z := by
              unfold dZ
              rw [d3.th.eT s1]
            rw [e3]
            exact k H2 (s1.trans s2)
          · rw [show bB y = false from eq_false_of_ne_true h2, Bool.false_and] at k
            exact k H1 s1
        · rw [show cy ps x = false from eq_false_of_ne_true h1, Bool.false_and] at k
          exact k H1 s1
      · rw [decide_eq_false (by omega)]
        refine cv ?_
        have k' := k H (aj.refl _)
        rw [hx] at k'
        match xs, l3 with
        | [], _ => exact k'
        | [_], _ => exact k'
        | [_, _], _ => exact k'
        | [_, _, _], h => exact absurd rfl h
        | _ :: _ :: _ :: _ :: _, _ => exact k'
theorem xO {f : Addr} {fd : FuncData} (D : Df K mg "is_talk" iL ["persons", "thing"] f fd) (G_is_tuple_of : Gd P w K mg base 1 "is_tuple_of" pR) (G_are_unlike_persons : Gd P w K mg base 3 "are_unlike_persons" pO)
    (G_is_hour : Gd P w K mg base 2 "is_hour" (iK K)) (G_is_way : Gd P w K mg base 1 "is_way" tV) : Gd P w K mg base 4 "is_talk" sW := by
  refine J.a7 D oG (fun vs H Q E h => ?_) (fun X H vs Q E hh h => ?_)
  · obtain ⟨p, ps, v, rfl, _⟩ := h
    rfl
  · obtain ⟨p, ps, v, rfl, hp, hP, dp, k⟩ := h
    have S0 := hh.sl 0 "persons"
    have S1 := hh.sl 1 "thing"
    have C_are_unlike_persons := hh.c G_are_unlike_persons
    have C_is_hour := hh.c G_is_hour
    have C_is_tuple_of := hh.c G_is_tuple_of
    have C_is_way := hh.c G_is_way
    refine ⟨_, (J.ai (J.aN (J.bf (J.aV (J.cn C_is_tuple_of (J.af (J.rd S1) (J.af J.ag J.ae)))))
 (J.ar (J.aw J.cq))
 J.aF)
 (J.ar (J.aw (J.a8 (J.cn C_is_hour (J.af (J.aK J.b6 (J.rd S1) J.ag J.aP) J.ae)) (J.a8 (J.cn C_are_unlike_persons (J.af (J.rd S0) (J.af (J.aK J.b6 (J.rd S1) J.ag J.aP) (J.af (J.aK J.b6 (J.rd S1) J.ag J.aP) J.ae)))) (J.bw (J.cn C_is_way (J.af (J.aK J.b6 (J.rd S1) J.ag J.aP) J.ae)))))))), ?_⟩
    unfold bK at k
    refine ⟨_, rfl, v, 4, rfl, dp.th, _, rfl, ?_⟩
    cases hx : dP H v with
    | none =>
      rw [hx] at k
      have e : va H v 4 = false := by
        unfold va
        rw [hx]
      rw [e]
      exact cv (k H (aj.refl _))
    | some xs =>
      have e : va H v 4 = decide ((xs.length : Int) = 4) := by
        unfold va
        rw [hx]
      rw [e]
      by_cases l4 : xs.length = 4
      · obtain ⟨a, rfl, ha⟩ := jB hx
        obtain ⟨h, x, y, z, rfl⟩ : ∃ h x y z, xs = [h, x, y, z] := by
          match xs, l4 with
          | [h, x, y, z], _ => exact ⟨h, x, y, z, rfl⟩
        rw [hx] at k
        dsimp only at k
        have d0 := dp.2 _ hx h (.head _)
        have d1 := dp.2 _ hx x (.tail _ (.head _))
        have d2 := dp.2 _ hx y (.tail _ (.tail _ (.head _)))
        have d3 := dp.2 _ hx z (.tail _ (.tail _ (.tail _ (.head _))))
        refine bX ⟨_, rfl, a, _, _, _, rfl, rfl, br.of ha, rfl, h, _, rfl, d0.th.ty, d0.th.kn.1, _, rfl, ba (fun h0 => ?_) (fun h0 => ?_)⟩
        · rw [show bB h = true from h0, Bool.true_and] at k
          refine ⟨_, rfl, _, rfl, a, _, _, _, rfl, rfl, br.of ha, rfl, _, rfl, a, _, _, _, rfl, rfl, br.of ha, rfl, p, ps, x, y, rfl, hp, hP, d1.th, d2.th, fun H1 s1 => ⟨_, rfl, ba (fun h1 => ?_) (fun h1 => ?_)⟩⟩
          · rw [show ik ps x y = true from h1, Bool.true_and] at k
            exact ⟨_, rfl, a, _, _, _, rfl, rfl, br.of (s1 _ _ ha), rfl, z, rfl, d3.th.mono s1, fun H2 s2 => k H2 (s1.trans s2)⟩
          · rw [show ik ps x y = false from eq_false_of_ne_true h1, Bool.false_and] at k
            exact k H1 s1
        · rw [show bB h = false from eq_false_of_ne_true h0, Bool.false_and] at k
          exact k H (aj.refl _)
      · rw [decide_eq_false (by omega)]
        refine cv ?_
        have k' := k H (aj.refl _)
        rw [hx] at k'
        match xs, l4 with
        | [], _ => exact k'
        | [_], _ => exact k'
        | [_, _], _ => exact k'
        | [_, _, _], _ => exact k'
        | [_, _, _, _], h => exact absurd rfl h
        | _ :: _ :: _ :: _ :: _ :: _, _ => exact k'
theorem nj {v : V} (h : bB v = true) : ∃ i, v = .int i := by
  cases v with
  | int i => exact ⟨i, rfl⟩
  | _ => cases h
theorem xY {f : Addr} {fd : FuncData} (D : Df K mg "is_span" iU ["begin", "end"] f fd) (G_is_hour : Gd P w K mg base 2 "is_hour" (iK K)) : Gd P w K mg base 3 "is_span" sO := by
  refine J.a7 D o6 (fun vs H Q E h => ?_) (fun X H vs Q E hh h => ?_)
  · obtain ⟨a, b, rfl, _⟩ := h
    rfl
  · obtain ⟨a, b, rfl, ta, tb, k⟩ := h
    have S0 := hh.sl 0 "begin"
    have S1 := hh.sl 1 "end"
    have C_is_hour := hh.c G_is_hour
    refine ⟨_, (J.ar (J.aw (J.a8 (J.cn C_is_hour (J.af (J.rd S0) J.ae)) (J.a8 (J.cn C_is_hour (J.af (J.rd S1) J.ae)) (J.bw (J.bp J.fL (J.rd S0) (J.rd S1) (L2.aH _))))))), ?_⟩
    unfold kq at k
    refine ⟨_, rfl, a, _, rfl, ta.ty, ta.kn.1, _, rfl, ba (fun h1 => ?_) (fun h1 => ?_)⟩
    · rw [show bB a = true from h1, Bool.true_and] at k
      refine ⟨_, rfl, b, _, rfl, tb.ty, tb.kn.1, _, rfl, ba (fun h2 => ?_) (fun h2 => ?_)⟩
      · rw [show bB b = true from h2, Bool.true_and] at k
        obtain ⟨i, rfl⟩ := nj h1
        obtain ⟨j, rfl⟩ := nj h2
        exact ⟨_, rfl, _, rfl, _, _, rfl, rfl, k⟩
      · rw [show bB b = false from eq_false_of_ne_true h2, Bool.false_and] at k
        exact k
    · rw [show bB a = false from eq_false_of_ne_true h1, Bool.false_and] at k
      exact k
theorem xG {f : Addr} {fd : FuncData} (D : Df K mg "is_short_saying" cW ["persons", "kind", "person", "behind"] f fd) (G_are_unlike_persons : Gd P w K mg base 3 "are_unlike_persons" pO)
    (G_is_person : Gd P w K mg base 2 "is_person" kK) (G_is_hour : Gd P w K mg base 2 "is_hour" (iK K)) : Gd P w K mg base 4 "is_short_saying" tH := by
  refine J.a7 D gM (fun vs H Q E h => ?_) (fun X H vs Q E hh h => ?_)
  · obtain ⟨p, ps, kd, a, b, rfl, _⟩ := h
    rfl
  · obtain ⟨p, ps, kd, a, b, rfl, hp, hP, ta, tb, k⟩ := h
    have S0 := hh.sl 0 "persons"
    have S1 := hh.sl 1 "kind"
    have S2 := hh.sl 2 "person"
    have S3 := hh.sl 3 "behind"
    have C_are_unlike_persons := hh.c G_are_unlike_persons
    have C_is_hour := hh.c G_is_hour
    have C_is_person := hh.c G_is_person
    refine ⟨_, (J.ai (J.aN (J.aJ J.bq (J.rd S1) J.aM (L2.aH _))
 (J.ar (J.aw (J.cn C_are_unlike_persons (J.af (J.rd S0) (J.af (J.rd S2) (J.af (J.rd S3) J.ae))))))
 J.aF)
 (J.ai (J.aN (J.bf (J.aV (J.cn C_is_person (J.af (J.rd S0) (J.af (J.rd S2) J.ae)))))
 (J.ar (J.aw J.cq))
 J.aF)
 (J.ai (J.aN (J.aJ J.bq (J.rd S1) J.aM (L2.aH _))
 (J.ar (J.aw (J.uc (J.bp J.kh (J.rd S3) J.cS (L2.aH _)) (J.bw (J.cn C_is_hour (J.af (J.rd S3) J.ae))))))
 J.aF)
 (J.ar (J.aw (J.a8 (J.bp J.bq (J.rd S1) J.aM (L2.aH _)) (J.bw (J.cn C_is_hour (J.af (J.rd S3) J.ae))))))))), ?_⟩
    unfold cL at k
    refine ⟨_, rfl, rfl, _, rfl, ba (fun h1 => ?_) (fun h1 => ?_)⟩
    · rw [dS] at h1
      rw [if_pos (of_decide_eq_true h1)] at k
      exact ⟨_, rfl, _, rfl, _, rfl, p, ps, a, b, rfl, hp, hP, ta, tb, k⟩
    · rw [dS] at h1
      rw [if_neg (fun e => h1 (decide_eq_true e))] at k
      refine ⟨_, rfl, _, rfl, p, ps, a, rfl, hp, hP, ta, fun H1 s1 => ⟨_, rfl, ba (fun h2 => ?_) (fun h2 => ?_)⟩⟩
      · rw [if_pos (by simpa using h2)] at k
        exact k H1 s1
      · rw [if_neg (by simpa using h2)] at k
        refine ⟨_, rfl, rfl, _, rfl, ba (fun h3 => ?_) (fun h3 => ?_)⟩
        · rw [dS] at h3
          rw [if_pos (of_decide_eq_true h3)] at k
          have t1 := tb.mono s1
          refine ⟨_, rfl, rfl, _, rfl, ba (fun h4 => ?_) (fun h4 => ?_)⟩
          · have k' := k H1 s1
            rw [show decide (b = .non) = true from h4, Bool.true_or] at k'
            exact k'
          · have k' := k H1 s1
            rw [show decide (b = .non) = false from eq_false_of_ne_true h4, Bool.false_or] at k'
            exact ⟨_, rfl, b, _, rfl, t1.ty, t1.kn.1, k'⟩
        · rw [dS] at h3
          rw [if_neg (fun e => h3 (decide_eq_true e))] at k
          have t1 := tb.mono s1
          refine ⟨_, rfl, rfl, _, rfl, ba (fun h4 => ?_) (fun h4 => ?_)⟩
          · rw [dS] at h4
            have k' := k H1 s1
            rw [h4, Bool.true_and] at k'
            exact ⟨_, rfl, b, _, rfl, t1.ty, t1.kn.1, k'⟩
          · rw [dS] at h4
            have k' := k H1 s1
            rw [eq_false_of_ne_true h4, Bool.false_and] at k'
            exact k'
end
section
variable {P : Program} {w : World} {K : PySem.W.Frag} {mg : Str → Option Value} {base : Heap} {kw C : Addr}
theorem yc {f : Addr} {fd : FuncData} (D : Df K mg "is_saying" fF ["persons", "thing"] f fd) (T : Txt K mg kw C) (G_is_person : Gd P w K mg base 2 "is_person" kK) (G_is_span : Gd P w K mg base 3 "is_span" sO)
    (G_is_short_saying : Gd P w K mg base 4 "is_short_saying" tH) : Gd P w K mg base 5 "is_saying" tL := by
  refine J.a7 D lq (fun vs H Q E h => ?_) (fun X H vs Q E hh h => ?_)
  · obtain ⟨p, ps, v, rfl, _⟩ := h
    rfl
  · obtain ⟨p, ps, v, rfl, hp, hP, dp, k⟩ := h
    have S0 := hh.sl 0 "persons"
    have S1 := hh.sl 1 "thing"
    have B_isinstance := hh.b T.b_isinstance
    have B_len := hh.b T.b_len
    have B_str := hh.b T.b_str
    have B_tuple := hh.b T.b_tuple
    have C_is_person := hh.c G_is_person
    have C_is_short_saying := hh.c G_is_short_saying
    have C_is_span := hh.c G_is_span
    refine ⟨_, (J.ai (J.aN (J.dw (J.dW (J.bf (J.aV (J.blt B_isinstance J.aU L2.av (J.af (J.rd S1) (J.af (J.ty B_tuple L2.eP) J.ae))))) (J.dW (J.aJ J.bq (J.blt B_len J.aD L2.aZ (J.af (J.rd S1) J.ae)) J.ag (L2.aH _)) (J.c8 (J.bf (J.aV (J.blt B_isinstance J.aU L2.av (J.af (J.aK J.b6 (J.rd S1) J.ag J.aP) (J.af (J.ty B_str L2.fE) J.ae)))))))))
 (J.ar (J.aw J.cq))
 J.aF)
 (J.ai (J.aN (J.aJ J.bq (J.blt B_len J.aD L2.aZ (J.af (J.rd S1) J.ae)) J.ag (L2.aH _))
 (J.ar (J.aw (J.a8 (J.bp J.bq (J.aK J.b6 (J.rd S1) J.ag J.aP) J.aM (L2.aH _)) (J.a8 (J.cn C_is_person (J.af (J.rd S0) (J.af (J.aK J.b6 (J.rd S1) J.ag J.aP) J.ae))) (J.bw (J.cn C_is_span (J.af (J.aK J.b6 (J.rd S1) J.ag J.aP) (J.af (J.aK J.b6 (J.rd S1) J.ag J.aP) J.ae))))))))
 J.aF)
 (J.ar (J.aw (J.a8 (J.bp J.bq (J.blt B_len J.aD L2.aZ (J.af (J.rd S1) J.ae)) J.ag (L2.aH _)) (J.bw (J.cn C_is_short_saying (J.af (J.rd S0) (J.af (J.aK J.b6 (J.rd S1) J.ag J.aP) (J.af (J.aK J.b6 (J.rd S1) J.ag J.aP) (J.af (J.aK J.b6 (J.rd S1) J.ag J.aP) J.ae))))))))))), ?_⟩
    unfold cK at k
    refine ⟨_, rfl, ml dp.th ⟨_, rfl, ?_⟩⟩
    cases hx : dP H v with
    | none =>
      rw [hx] at k
      exact cv (k H (aj.refl _))
    | some xs =>
      rw [hx] at k
      obtain ⟨a, rfl, ha⟩ := jB hx
      cases xs with
      | nil => exact bX ⟨_, rfl, a, _, rfl, .inr (br.of ha), rfl, _, rfl, eB (decide_eq_true rfl) (k H (aj.refl _))⟩
      | cons x r =>
        have dx := (dp.2 _ hx x (.head _)).th
        have n0 : ¬ decide (V.int (((x :: r).length : Nat) : Int) = V.int 0) = true := by
          rw [decide_eq_true_iff]
          intro e
          injection e with e
          rw [List.length_cons] at e
          omega
        refine bX ⟨_, rfl, a, _, rfl, .inr (br.of ha), rfl, _, rfl, cw n0 ⟨_, rfl, a, _, _, _, rfl, rfl, br.of ha, (cA (j := 0) (v := x) rfl), jo dx ⟨_, rfl, ?_⟩⟩⟩
        cases x with
        | str kd =>
          dsimp only at k
          refine bX ?_
          by_cases l4 : r.length = 3
          · obtain ⟨b, c, d, rfl⟩ : ∃ b c d, r = [b, c, d] := by
              match r, l4 with
              | [b, c, d], _ => exact ⟨b, c, d, rfl⟩
            dsimp only at k
            have d1 := (dp.2 _ hx b (.tail _ (.head _))).th
            have d2 := (dp.2 _ hx c (.tail _ (.tail _ (.head _)))).th
            have d3 := (dp.2 _ hx d (.tail _ (.tail _ (.tail _ (.head _))))).th
            refine ⟨_, rfl, a, _, rfl, .inr (br.of ha), rfl, _, rfl, eB (ub (n := 4) rfl (by decide)) ?_⟩
            refine ⟨_, rfl, a, _, _, _, rfl, rfl, br.of ha, rfl, rfl, _, rfl, ba (fun h1 => ?_) (fun h1 => ?_)⟩
            · rw [dS] at h1
              rw [h1, Bool.true_and] at k
              refine ⟨_, rfl, _, rfl, a, _, _, _, rfl, rfl, br.of ha, rfl, p, ps, b, rfl, hp, hP, d1, fun H1 s1 => ⟨_, rfl, ba (fun h2 => ?_) (fun h2 => ?_)⟩⟩
              · rw [show cy ps b = true from h2, Bool.true_and] at k
                exact ⟨_, rfl, a, _, _, _, rfl, rfl, br.of (s1 _ _ ha), rfl, _, rfl, a, _, _, _, rfl, rfl, br.of (s1 _ _ ha), rfl, c, d, rfl, d2.mono s1, d3.mono s1, k H1 s1⟩
              · rw [show cy ps b = false from eq_false_of_ne_true h2, Bool.false_and] at k
                exact k H1 s1
            · rw [dS] at h1
              rw [eq_false_of_ne_true h1, Bool.false_and] at k
              exact k H (aj.refl _)
          · have e4 : ¬ decide (V.int (((V.str kd :: r).length : Nat) : Int) = V.int 4) = true := by
              rw [decide_eq_true_iff]
              intro e
              injection e with e
              rw [List.length_cons] at e
              omega
            refine ⟨_, rfl, a, _, rfl, .inr (br.of ha), rfl, _, rfl, cw e4 ?_⟩
            by_cases l3 : r.length = 2
            · obtain ⟨b, c, rfl⟩ : ∃ b c, r = [b, c] := by
                match r, l3 with
                | [b, c], _ => exact ⟨b, c, rfl⟩
              dsimp only at k
              have d1 := (dp.2 _ hx b (.tail _ (.head _))).th
              have d2 := (dp.2 _ hx c (.tail _ (.tail _ (.head _)))).th
              refine ⟨_, rfl, a, _, rfl, .inr (br.of ha), rfl, _, rfl, eB (ub (n := 3) rfl (by decide)) ?_⟩
              exact ⟨_, rfl, _, rfl, a, _, _, _, rfl, rfl, br.of ha, rfl, _, rfl, a, _, _, _, rfl, rfl, br.of ha, rfl, _, rfl, a, _, _, _, rfl, rfl, br.of ha, rfl, p, ps, kd, b, c, rfl, hp, hP, d1, d2, k⟩
            · have e3 : ¬ decide (V.int (((V.str kd :: r).length : Nat) : Int) = V.int 3) = true := by
                rw [decide_eq_true_iff]
                intro e
                injection e with e
                rw [List.length_cons] at e
                omega
              refine ⟨_, rfl, a, _, rfl, .inr (br.of ha), rfl, _, rfl, cw e3 ?_⟩
              have k' := k H (aj.refl _)
              match r, l3, l4 with
              | [], _, _ => exact k'
              | [_], _, _ => exact k'
              | [_, _], h, _ => exact absurd rfl h
              | [_, _, _], _, h => exact absurd rfl h
              | _ :: _ :: _ :: _ :: _, _, _ => exact k'
        | _ => exact cv (k H (aj.refl _))
theorem oE {xs : List V} (h : ∀ x ∈ xs, bS x = true) : xs = (iI xs).map V.str := by
  induction xs with
  | nil => rfl
  | cons x r ih =>
    have hx := h x (.head _)
    cases x with
    | str z =>
      show V.str z :: r = V.str z :: (iI r).map V.str
      rw [← ih fun y hy => h y (.tail _ hy)]
    | _ => cases hx
theorem xX {f : Addr} {fd : FuncData} (D : Df K mg "are_persons" c9 ["thing"] f fd) (T : Txt K mg kw C) (G_is_list_up_to : Gd P w K mg base 1 "is_list_up_to" kG) (G_is_name : Gd P w K mg base 1 "is_name" (jX K)) : Gd P w K mg base 2 "are_persons" uD := by
  refine J.a7 D jD (fun vs H Q E h => ?_) (fun X H vs Q E hh h => ?_)
  · obtain ⟨v, rfl, _⟩ := h
    rfl
  · obtain ⟨v, rfl, th, ts, k⟩ := h
    have S0 := hh.sl 0 "thing"
    have B_all := hh.b T.b_all
    have B_len := hh.b T.b_len
    have B_set := hh.b T.b_set
    have g_MOST_PERSONS : ∀ {p : Pos}, J.JE X (.Name "MOST_PERSONS" p) (L2.tC (.int 24)) := J.glob hh T.g_MOST_PERSONS rfl (by decide)
    have C_is_list_up_to := hh.c G_is_list_up_to
    have CI_is_name := hh.ci G_is_name
    have hsz : sizeLine = 16777216 := sizeLine_eq
    refine ⟨_, (J.ai (J.aN (J.dw (J.dW (J.bf (J.aV (J.cn C_is_list_up_to (J.af (J.rd S0) (J.af g_MOST_PERSONS J.ae))))) (J.c8 (J.aJ J.bq (J.blt B_len J.aD L2.aZ (J.af (J.rd S0) J.ae)) J.ag (L2.aH _)))))
 (J.ar (J.aw J.cq))
 J.aF)
 (J.ar (J.aw (J.a8 (J.blt B_all (J.cE hh.calm) L2.iM (J.af (J.et (sc := L2.ao c9) (N := ["thing"]) (is := []) (ns := []) hh.calm (J.eW (J.rd S0)) {} (fun _ _ _ _ _ => (J.cn (CI_is_name.lc rfl) (J.af (J.vj rfl (by decide) (by decide)) J.ae))) hh.hsc hh.hN) J.ae)) (J.bw (J.bp J.bq (J.blt B_len J.eC L2.aZ (J.af (J.fU B_set (J.iQ hh.calm) L2.zd (J.af (J.rd S0) J.ae)) J.ae)) (J.blt B_len J.aD L2.aZ (J.af (J.rd S0) J.ae)) (L2.aH _))))))), ?_⟩
    unfold fR at k
    refine ⟨_, rfl, v, 24, rfl, th, _, rfl, ?_⟩
    cases hx : dt H v with
    | none =>
      rw [hx] at k
      have e : mQ H v 24 = false := by
        unfold mQ
        rw [hx]
      rw [e]
      exact cv (k H (aj.refl _))
    | some xs =>
      rw [hx] at k
      dsimp only at k
      obtain ⟨a, rfl, ha⟩ := jY hx
      have e : mQ H (.ref a) 24 = decide ((xs.length : Int) ≤ 24) := by
        unfold mQ
        rw [hx]
      rw [e]
      by_cases l24 : xs.length ≤ 24
      · rw [decide_eq_true (by omega : (xs.length : Int) ≤ 24)]
        rw [decide_eq_true l24, Bool.true_and] at k
        refine bX ⟨_, rfl, a, xs, rfl, .inl (aE.of ha), rfl, _, rfl, ?_⟩
        cases xs with
        | nil => exact eB (decide_eq_true rfl) (k H (aj.refl _))
        | cons x r =>
          refine cw (by
            rw [decide_eq_true_iff]
            intro e
            injection e with e
            rw [List.length_cons] at e
            omega) ?_
          have k : ∀ H', aj H H' → Q (.bl ((x :: r).all bS && decide (iI (x :: r)).Nodup)) H' := k
          generalize x :: r = xs at ha hx k l24
          refine ⟨_, rfl, a, rfl, ⟨_, aE.of ha⟩, iz (fun v => .bl (bS v)) (aE.of ha) (by omega) (fun x H2 Q' hv sm q' => ?_) (fun D' H' hD sm hl' => ?_)⟩
          · have tx := (ts xs hx x hv).mono sm
            exact ⟨_, rfl, x, _, rfl, tx.ty, tx.kn.1, tx.len, fun H3 s3 => q' H3 s3⟩
          · have e : (xs.map bS).all id = xs.all bS := by rw [List.all_map]; rfl
            refine ⟨D', xs.map bS, rfl, aE.of (hl'.trans (by rw [List.map_map]; rfl)), _, rfl, ?_⟩
            rw [e]
            refine ba (fun hb => ?_) (fun hb => ?_)
            · rw [hb, Bool.true_and] at k
              have es := oE (List.all_eq_true.mp hb)
              have len : (iI xs).length = xs.length := by
                have := congrArg List.length es
                rw [List.length_map] at this
                exact this.symm
              refine ⟨_, rfl, a, iI xs, rfl, aE.of (by rw [← es]; exact sm _ _ ha), by omega, fun q n hq h1 h2 => ?_⟩
              refine ⟨q, n, rfl, aa, _, rfl, a, xs, rfl, .inl (aE.of ((aj.upd hq) _ _ (sm _ _ ha))), rfl, ?_⟩
              have k' := k _ (sm.trans (aj.upd (o := setM X.prog X.w q n) hq))
              by_cases nd : (iI xs).Nodup
              · rw [h1 nd, len, decide_eq_true rfl]
                rw [decide_eq_true nd, h1 nd] at k'
                rw [← len]
                exact k'
              · have := h2 nd
                rw [decide_eq_false nd] at k'
                rw [dI, decide_eq_false (by omega)]
                exact k'
            · rw [eq_false_of_ne_true hb, Bool.false_and] at k
              exact k H' sm
      · rw [decide_eq_false (by omega : ¬ (xs.length : Int) ≤ 24)]
        have k' := k H (aj.refl _)
        rw [decide_eq_false l24, Bool.false_and] at k'
        exact cv k'
end
theorem oU {H H' : Hp} {v : V} (h : Th H v) (s : aj H H') : dZ H' v = dZ H v := by
  unfold dZ
  rw [h.eT s]
theorem dk {ps : List Str} {H H' : Hp} {v : V} (h : Dp 2 H v) (s : aj H H') : a9 ps H' v = a9 ps H v := by
  unfold a9
  rw [h.th.eT s]
  cases hx : dP H v with
  | none => rfl
  | some xs =>
    match xs, hx with
    | [a, b, c], hx =>
      have := (h.2 _ hx c (.tail _ (.tail _ (.head _)))).th
      show (cy ps a && (bB b && dZ H' c)) = (cy ps a && (bB b && dZ H c))
      rw [oU this s]
    | [], _ => rfl
    | [_], _ => rfl
    | [_, _], _ => rfl
    | _ :: _ :: _ :: _ :: _, _ => rfl
theorem dM {ps : List Str} {H H' : Hp} {v : V} (h : Dp 1 H v) (s : aj H H') : bK ps H' v = bK ps H v := by
  unfold bK
  rw [h.th.eT s]
theorem eK {ps : List Str} {H H' : Hp} {v : V} (h : Dp 1 H v) (s : aj H H') : cK ps H' v = cK ps H v := by
  unfold cK
  rw [h.th.eT s]
section
variable {P : Program} {w : World} {K : PySem.W.Frag} {mg : Str → Option Value} {base : Heap} {kw C : Addr}
theorem lj {f : Addr} {fd : FuncData} (D : Df K mg "are_sights" dz ["persons", "thing"] f fd) (T : Txt K mg kw C) (G_is_list_up_to : Gd P w K mg base 1 "is_list_up_to" kG) (G_is_sight : Gd P w K mg base 3 "is_sight" sJ) : Gd P w K mg base 4 "are_sights" (ir a9 2 24) := by
  refine J.a7 D kD (fun vs H Q E h => ?_) (fun X H vs Q E hh h => ?_)
  · obtain ⟨p, ps, v, rfl, _⟩ := h
    rfl
  · obtain ⟨p, ps, v, rfl, hp, hP, th, dp, k⟩ := h
    have S0 := hh.sl 0 "persons"
    have S1 := hh.sl 1 "thing"
    have B_all := hh.b T.b_all
    have g_MOST_SIGHTS : ∀ {p : Pos}, J.JE X (.Name "MOST_SIGHTS" p) (L2.tC (.int 24)) := J.glob hh T.g_MOST_SIGHTS rfl (by decide)
    have C_is_list_up_to := hh.c G_is_list_up_to
    have CI_is_sight := hh.ci G_is_sight
    have hsz : sizeLine = 16777216 := sizeLine_eq
    refine ⟨_, (J.ar (J.aw (J.a8 (J.cn C_is_list_up_to (J.af (J.rd S1) (J.af g_MOST_SIGHTS J.ae))) (J.bw (J.blt B_all (J.cE hh.calm) L2.iM (J.af (J.et (sc := L2.ao dz) (N := ["persons", "thing"]) (is := [0]) (ns := ["persons"]) hh.calm (J.eW (J.rd S1)) {} (fun _ _ _ _ _ => (J.cn (CI_is_sight.lc rfl) (J.af (J.xS (i := 0) rfl rfl (by decide) (by decide)) (J.af (J.vj rfl (by decide) (by decide)) J.ae)))) hh.hsc hh.hN) J.ae)))))), ?_⟩
    unfold cQ at k
    refine ⟨_, rfl, v, 24, rfl, th, _, rfl, ?_⟩
    cases hx : dt H v with
    | none =>
      rw [hx] at k
      have e : mQ H v 24 = false := by
        unfold mQ
        rw [hx]
      rw [e]
      exact bX (k H (aj.refl _))
    | some xs =>
      rw [hx] at k
      dsimp only at k
      obtain ⟨a, rfl, ha⟩ := jY hx
      have e : mQ H (.ref a) 24 = decide ((xs.length : Int) ≤ 24) := by
        unfold mQ
        rw [hx]
      rw [e]
      refine ba (fun hb => ?_) (fun hb => ?_)
      · rw [hb, Bool.true_and] at k
        obtain ⟨l2, dx⟩ := dp xs hx
        refine ⟨_, rfl, a, rfl, ⟨_, aE.of ha⟩, iz (fun v => .bl (a9 ps H v)) (aE.of ha) (by omega) (fun x H2 Q' hv sm q' => ?_) (fun D' H' hD sm hl' => ?_)⟩
        · have e : a9 ps H2 x = a9 ps H x := dk (dx x hv) sm
          refine ⟨_, rfl, _, rfl, p, ps, x, rfl, sm _ _ hp, hP, (dx x hv).mono sm, fun H3 s3 => ?_⟩
          rw [e]
          exact q' H3 s3
        · refine ⟨D', xs.map (a9 ps H), rfl, aE.of (hl'.trans (by rw [List.map_map]; rfl)), ?_⟩
          have e : (xs.map (a9 ps H)).all id = xs.all (a9 ps H) := by rw [List.all_map]; rfl
          rw [e]
          exact k H' sm
      · rw [eq_false_of_ne_true hb, Bool.false_and] at k
        exact k H (aj.refl _)
theorem nu {f : Addr} {fd : FuncData} (D : Df K mg "are_talks" dR ["persons", "thing"] f fd) (T : Txt K mg kw C) (G_is_list_up_to : Gd P w K mg base 1 "is_list_up_to" kG) (G_is_talk : Gd P w K mg base 4 "is_talk" sW) : Gd P w K mg base 5 "are_talks" (ir bK 1 120) := by
  refine J.a7 D mm (fun vs H Q E h => ?_) (fun X H vs Q E hh h => ?_)
  · obtain ⟨p, ps, v, rfl, _⟩ := h
    rfl
  · obtain ⟨p, ps, v, rfl, hp, hP, th, dp, k⟩ := h
    have S0 := hh.sl 0 "persons"
    have S1 := hh.sl 1 "thing"
    have B_all := hh.b T.b_all
    have g_MOST_TALKS : ∀ {p : Pos}, J.JE X (.Name "MOST_TALKS" p) (L2.tC (.int 120)) := J.glob hh T.g_MOST_TALKS rfl (by decide)
    have C_is_list_up_to := hh.c G_is_list_up_to
    have CI_is_talk := hh.ci G_is_talk
    have hsz : sizeLine = 16777216 := sizeLine_eq
    refine ⟨_, (J.ar (J.aw (J.a8 (J.cn C_is_list_up_to (J.af (J.rd S1) (J.af g_MOST_TALKS J.ae))) (J.bw (J.blt B_all (J.cE hh.calm) L2.iM (J.af (J.et (sc := L2.ao dR) (N := ["persons", "thing"]) (is := [0]) (ns := ["persons"]) hh.calm (J.eW (J.rd S1)) {} (fun _ _ _ _ _ => (J.cn (CI_is_talk.lc rfl) (J.af (J.xS (i := 0) rfl rfl (by decide) (by decide)) (J.af (J.vj rfl (by decide) (by decide)) J.ae)))) hh.hsc hh.hN) J.ae)))))), ?_⟩
    unfold cQ at k
    refine ⟨_, rfl, v, 120, rfl, th, _, rfl, ?_⟩
    cases hx : dt H v with
    | none =>
      rw [hx] at k
      have e : mQ H v 120 = false := by
        unfold mQ
        rw [hx]
      rw [e]
      exact bX (k H (aj.refl _))
    | some xs =>
      rw [hx] at k
      dsimp only at k
      obtain ⟨a, rfl, ha⟩ := jY hx
      have e : mQ H (.ref a) 120 = decide ((xs.length : Int) ≤ 120) := by
        unfold mQ
        rw [hx]
      rw [e]
      refine ba (fun hb => ?_) (fun hb => ?_)
      · rw [hb, Bool.true_and] at k
        obtain ⟨l2, dx⟩ := dp xs hx
        refine ⟨_, rfl, a, rfl, ⟨_, aE.of ha⟩, iz (fun v => .bl (bK ps H v)) (aE.of ha) (by omega) (fun x H2 Q' hv sm q' => ?_) (fun D' H' hD sm hl' => ?_)⟩
        · have e : bK ps H2 x = bK ps H x := dM (dx x hv) sm
          refine ⟨_, rfl, _, rfl, p, ps, x, rfl, sm _ _ hp, hP, (dx x hv).mono sm, fun H3 s3 => ?_⟩
          rw [e]
          exact q' H3 s3
        · refine ⟨D', xs.map (bK ps H), rfl, aE.of (hl'.trans (by rw [List.map_map]; rfl)), ?_⟩
          have e : (xs.map (bK ps H)).all id = xs.all (bK ps H) := by rw [List.all_map]; rfl
          rw [e]
          exact k H' sm
      · rw [eq_false_of_ne_true hb, Bool.false_and] at k
        exact k H (aj.refl _)
theorem kx {f : Addr} {fd : FuncData} (D : Df K mg "are_sayings" df ["persons", "thing"] f fd) (T : Txt K mg kw C) (G_is_list_up_to : Gd P w K mg base 1 "is_list_up_to" kG) (G_is_saying : Gd P w K mg base 5 "is_saying" tL) : Gd P w K mg base 6 "are_sayings" (ir cK 1 60) := by
  refine J.a7 D km (fun vs H Q E h => ?_) (fun X H vs Q E hh h => ?_)
  · obtain ⟨p, ps, v, rfl, _⟩ := h
    rfl
  · obtain ⟨p, ps, v, rfl, hp, hP, th, dp, k⟩ := h
    have S0 := hh.sl 0 "persons"
    have S1 := hh.sl 1 "thing"
    have B_all := hh.b T.b_all
    have g_MOST_SAYINGS : ∀ {p : Pos}, J.JE X (.Name "MOST_SAYINGS" p) (L2.tC (.int 60)) := J.glob hh T.g_MOST_SAYINGS rfl (by decide)
    have C_is_list_up_to := hh.c G_is_list_up_to
    have CI_is_saying := hh.ci G_is_saying
    have hsz : sizeLine = 16777216 := sizeLine_eq
    refine ⟨_, (J.ar (J.aw (J.a8 (J.cn C_is_list_up_to (J.af (J.rd S1) (J.af g_MOST_SAYINGS J.ae))) (J.bw (J.blt B_all (J.cE hh.calm) L2.iM (J.af (J.et (sc := L2.ao df) (N := ["persons", "thing"]) (is := [0]) (ns := ["persons"]) hh.calm (J.eW (J.rd S1)) {} (fun _ _ _ _ _ => (J.cn (CI_is_saying.lc rfl) (J.af (J.xS (i := 0) rfl rfl (by decide) (by decide)) (J.af (J.vj rfl (by decide) (by decide)) J.ae)))) hh.hsc hh.hN) J.ae)))))), ?_⟩
    unfold cQ at k
    refine ⟨_, rfl, v, 60, rfl, th, _, rfl, ?_⟩
    cases hx : dt H v with
    | none =>
      rw [hx] at k
      have e : mQ H v 60 = false := by
        unfold mQ
        rw [hx]
      rw [e]
      exact bX (k H (aj.refl _))
    | some xs =>
      rw [hx] at k
      dsimp only at k
      obtain ⟨a, rfl, ha⟩ := jY hx
      have e : mQ H (.ref a) 60 = decide ((xs.length : Int) ≤ 60) := by
        unfold mQ
        rw [hx]
      rw [e]
      refine ba (fun hb => ?_) (fun hb => ?_)
      · rw [hb, Bool.true_and] at k
        obtain ⟨l2, dx⟩ := dp xs hx
        refine ⟨_, rfl, a, rfl, ⟨_, aE.of ha⟩, iz (fun v => .bl (cK ps H v)) (aE.of ha) (by omega) (fun x H2 Q' hv sm q' => ?_) (fun D' H' hD sm hl' => ?_)⟩
        · have e : cK ps H2 x = cK ps H x := eK (dx x hv) sm
          refine ⟨_, rfl, _, rfl, p, ps, x, rfl, sm _ _ hp, hP, (dx x hv).mono sm, fun H3 s3 => ?_⟩
          rw [e]
          exact q' H3 s3
        · refine ⟨D', xs.map (cK ps H), rfl, aE.of (hl'.trans (by rw [List.map_map]; rfl)), ?_⟩
          have e : (xs.map (cK ps H)).all id = xs.all (cK ps H) := by rw [List.all_map]; rfl
          rw [e]
          exact k H' sm
      · rw [eq_false_of_ne_true hb, Bool.false_and] at k
        exact k H (aj.refl _)
theorem rN : aB ["self", "part"] ["self", "part"] (ao eL) := {}
theorem AS {f : Addr} {fd : FuncData} (F : gJ K "__init__" "NoBook.__init__" eL f fd) : bH P w K mg base fD 1 f fd ["self", "part"] (wC K) := by
  refine J.jw F rN (fun vs H Q E h => ?_) (fun X H vs Q E hh h => ?_)
  · obtain ⟨ea, Cx, Kc, fI, v, rfl, _⟩ := h
    rfl
  · obtain ⟨ea, Cx, Kc, fI, v, rfl, he, O, k⟩ := h
    have S0 := hh.sl 0 "self"
    have S1 := hh.sl 1 "part"
    obtain rfl := hh.fK
    refine ⟨_, (J.ar (J.xs (J.rd S0) (J.rd S1))), ?_⟩
    exact ⟨_, rfl, _, rfl, ea, Cx, Kc, fI, rfl, he, O, k⟩
end
inductive Ac (C NB : Addr) (vs : List V) (H : Hp) (E : XK) : Prop
  | mk (x dx : Addr) (pv sv tv yv : V) (at_ : Nat) (nm : Str) (e : vs = [.ref x, pv, sv, tv, yv]) (hx : H x = some (.ins C dx []))
      (k : ∀ d H', aj H H' → H' d = none → E (.ref NB) (some d) (upd H' d (.xd [("part", .str nm)])))
      (hpv : Th H pv ∧ ∀ xs, dt H pv = some xs → ∀ x ∈ xs, Th H x)
      (b : (at_ = 0 ∧ nm = "persons" ∧ fR H pv = false) ∨ (0 < at_ ∧ ∃ (p : Addr) (ps : List Str), pv = .ref p ∧ H p = some (.lst (ps.map V.str)) ∧ a6 ps ∧ (Th H sv ∧ ∀ xs, dt H sv = some xs → xs.length ≤ 200 ∧ ∀ x ∈ xs, Dp 2 H x) ∧
        ((at_ = 1 ∧ nm = "sights" ∧ cQ (a9 ps H) 24 H sv = false) ∨ (1 < at_ ∧ cQ (a9 ps H) 24 H sv = true ∧ (Th H tv ∧ ∀ xs, dt H tv = some xs → xs.length ≤ 200 ∧ ∀ x ∈ xs, Dp 1 H x) ∧
          ((at_ = 2 ∧ nm = "talks" ∧ cQ (bK ps H) 120 H tv = false) ∨ (2 < at_ ∧ cQ (bK ps H) 120 H tv = true ∧ (Th H yv ∧ ∀ xs, dt H yv = some xs → xs.length ≤ 200 ∧ ∀ x ∈ xs, Dp 1 H x) ∧ nm = "sayings" ∧ cQ (cK ps H) 60 H yv = false))))))
def DJ (C NB : Addr) : Sp := fun vs H _ E => Ac C NB vs H E
theorem nR {H : Hp} {p : Addr} {ps : List Str} (hp : H p = some (.lst (ps.map V.str))) (hP : a6 ps) : fR H (.ref p) = true := by
  unfold fR
  rw [fb hp]
  have h1 := hP.lo
  have h2 := hP.hi
  have e : iI (ps.map V.str) = ps := by
    unfold iI
    rw [List.filterMap_map]
    exact List.filterMap_some
  have e2 : (ps.map V.str).isEmpty = false := by
    cases ps with
    | nil => exact absurd h1 (by decide)
    | cons a r => rfl
  dsimp only
  rw [e, e2, decide_eq_true hP.nd, List.length_map, decide_eq_true h2, List.all_eq_true.mpr fun v hv => by
    obtain ⟨z, hz, rfl⟩ := List.mem_map.mp hv
    exact hP.nm z hz]
  rfl
theorem gP {f g : V → Bool} {n : Int} {H H' : Hp} {v : V} (h : Th H v) (s : aj H H') (e : ∀ xs, dt H v = some xs → ∀ x ∈ xs, g x = f x) : cQ g n H' v = cQ f n H v := by
  unfold cQ
  rw [h.gY s]
  cases hx : dt H v with
  | none => rfl
  | some xs =>
    dsimp only
    congr 1
    rw [Bool.eq_iff_iff, List.all_eq_true, List.all_eq_true]
    exact ⟨fun a x hx' => by rw [← e xs hx x hx']; exact a x hx', fun a x hx' => by rw [e xs hx x hx']; exact a x hx'⟩
section
variable {P : Program} {w : World} {K : PySem.W.Frag} {mg : Str → Option Value} {base : Heap} {kw C NB Kn fI : Addr} {fdI : FuncData}
end
def By (x y : V) : Prop := (∃ z, x = .str z ∧ y = .str z) ∨ (x = .non ∧ y = .non) ∨ ∃ i, x = .int i ∧ y = .int i
def eR (q : Bool) (H : Hp) (a : Addr) (xs : List V) : Prop := match q with
  | true => H a = some (.lst xs)
  | false => H a = some (.tup xs)
theorem eR.mono {q : Bool} {H H' : Hp} {a : Addr} {xs : List V} (s : aj H H') (h : eR q H a xs) : eR q H' a xs := by
  cases q with
  | true => exact s _ _ h
  | false => exact s _ _ h
theorem eR.sq {q : Bool} {K : PySem.W.Frag} {H : Hp} {a : Addr} {xs : List V} (h : eR q H a xs) : gS q K H a xs := by
  cases q with
  | true => exact aE.of h
  | false => exact br.of h
theorem eR.ln {q : Bool} {K : PySem.W.Frag} {H : Hp} {a : Addr} {xs : List V} (h : eR q H a xs) : aE K H a xs ∨ br K H a xs := by
  cases q with
  | true => exact .inl (aE.of h)
  | false => exact .inr (br.of h)
def DE (q : Bool) : String := match q with
  | true => "list"
  | false => "tuple"
theorem iO (q : Bool) : DE q ∈ tys := by cases q <;> decide
theorem eR.ty {q : Bool} {K : PySem.W.Frag} {H : Hp} {a : Addr} {xs : List V} (h : eR q H a xs) : cT K H (.ref a) (.type (DE q)) := by
  cases q with
  | true => exact .lst h
  | false => exact .tup h
def jz : Nat → Hp → V → V → Prop
  | 0, _, x, y => By x y
  | d + 1, H, x, y => By x y ∨ ∃ (q : Bool) (a b : Addr) (xs ys : List V), x = .ref a ∧ y = .ref b ∧ eR q H a xs ∧ eR q H b ys ∧ xs.length = ys.length ∧ ∀ (i : Nat) u v, xs[i]? = some u → ys[i]? = some v → jz d H u v
theorem jz.mono {H H' : Hp} (s : aj H H') : ∀ {d : Nat} {x y : V}, jz d H x y → jz d H' x y
  | 0, _, _, h => h
  | d + 1, x, y, h => by
    rcases h with h | ⟨q, a, b, xs, ys, e1, e2, h1, h2, hl, h⟩
    · exact .inl h
    · exact .inr ⟨q, a, b, xs, ys, e1, e2, h1.mono s, h2.mono s, hl, fun i u v hu hv => jz.mono s (h i u v hu hv)⟩
theorem jz.sc {d : Nat} {H : Hp} {x y : V} (h : By x y) : jz d H x y := by
  cases d with
  | zero => exact h
  | succ d => exact .inl h
def uT : Nat → Sp
  | 0 => fun _ _ _ _ => False
  | d + 1 => fun vs H Q _ => ∃ x y, vs = [x, y] ∧ jz d H x y ∧ ∀ H', aj H H' → Q (.bl true) H'
section
variable {P : Program} {w : World} {K : PySem.W.Frag} {mg : Str → Option Value} {base : Heap} {kw C : Addr}
theorem oF : aB ["_law_found", "_law_due_here", "_law_one", "_law_two"] ["_law_found", "_law_due_here"] (ao f9) := {}
theorem o5 {f : Addr} {fd : FuncData} {d : Nat} (D : Df K mg "_law_alike" f9 ["_law_found", "_law_due_here"] f fd) (T : Txt K mg kw C) (G__law_alike : Gd P w K mg base d "_law_alike" (uT d)) : Gd P w K mg base (d + 1) "_law_alike" (uT (d + 1)) := by
  refine J.a7 D oF (fun vs H Q E h => ?_) (fun X H vs Q E hh h => ?_)
  · obtain ⟨x, y, rfl, _⟩ := h
    rfl
  · obtain ⟨x, y, rfl, ha, k⟩ := h
    have S0 := hh.sl 0 "_law_found"
    have S1 := hh.sl 1 "_law_due_here"
    have S2 := hh.sl 2 "_law_one"
    have S3 := hh.sl 3 "_law_two"
    have B_bool := hh.b T.b_bool
    have B_int := hh.b T.b_int
    have B_isinstance := hh.b T.b_isinstance
    have B_len := hh.b T.b_len
    have B_list := hh.b T.b_list
    have B_str := hh.b T.b_str
    have B_tuple := hh.b T.b_tuple
    have B_zip := hh.b T.b_zip
    have C__law_alike := hh.c G__law_alike
    refine ⟨_, (J.ai (J.aN (J.dw (J.dW (J.aV (J.blt B_isinstance J.aU L2.av (J.af (J.rd S1) (J.af (J.ty B_str L2.fE) J.ae)))) (J.c8 (J.aJ J.kh (J.rd S1) J.cS (L2.aH _)))))
 (J.ar (J.aw (J.a8 (J.bp J.bq (J.blt B_isinstance J.aU L2.av (J.af (J.rd S0) (J.af (J.ty B_str L2.fE) J.ae))) (J.blt B_isinstance J.aU L2.av (J.af (J.rd S1) (J.af (J.ty B_str L2.fE) J.ae))) (L2.aH _)) (J.bw (J.bp J.bq (J.rd S0) (J.rd S1) (L2.aH _))))))
 J.aF)
 (J.ai (J.aN (J.aV (J.blt B_isinstance J.aU L2.av (J.af (J.rd S1) (J.af (J.ty B_int L2.lA) J.ae))))
 (J.ar (J.aw (J.a8 (J.blt B_isinstance J.aU L2.av (J.af (J.rd S0) (J.af (J.ty B_int L2.lA) J.ae))) (J.a8 (J.jN (J.blt B_isinstance J.aU L2.av (J.af (J.rd S0) (J.af (J.ty B_bool L2.pD) J.ae)))) (J.bw (J.bp J.bq (J.rd S0) (J.rd S1) (L2.aH _)))))))
 J.aF)
 (J.ai (J.aN (J.dw (J.dW (J.aJ J.ip (J.blt B_isinstance J.aU L2.av (J.af (J.rd S1) (J.af (J.ty B_tuple L2.eP) J.ae))) (J.blt B_isinstance J.aU L2.av (J.af (J.rd S0) (J.af (J.ty B_tuple L2.eP) J.ae))) (L2.aH _)) (J.c8 (J.aJ J.ip (J.blt B_isinstance J.aU L2.av (J.af (J.rd S1) (J.af (J.ty B_list L2.bF) J.ae))) (J.blt B_isinstance J.aU L2.av (J.af (J.rd S0) (J.af (J.ty B_list L2.bF) J.ae))) (L2.aH _)))))
 (J.ar (J.aw J.cq))
 J.aF)
 (J.ai (J.aN (J.aJ J.ip (J.blt B_len J.aD L2.aZ (J.af (J.rd S0) J.ae)) (J.blt B_len J.aD L2.aZ (J.af (J.rd S1) J.ae)) (L2.aH _))
 (J.ar (J.aw J.cq))
 J.aF)
 (J.ai (J.gN hh.own hh.calm (J.oM B_zip (J.af (J.rd S0) (J.af (J.rd S1) J.ae))) (J.gC hh.calm (J.fP (J.qR S2 hh.nd) (J.fP (J.qR S3 hh.nd) J.fe)))
 (J.ar (J.aN (J.bf (J.aV (J.cn C__law_alike (J.af (J.rd S2) (J.af (J.rd S3) J.ae)))))
 (J.ar (J.aw J.cq))
 J.aF)))
 (J.ar (J.aw J.cq))))))), ?_⟩
    have ha' : By x y ∨ ∃ e, d = e + 1 ∧ ∃ (q : Bool) (a b : Addr) (xs ys : List V), x = .ref a ∧ y = .ref b ∧ eR q H a xs ∧ eR q H b ys ∧ xs.length = ys.length ∧ ∀ (i : Nat) u v, xs[i]? = some u → ys[i]? = some v → jz e H u v := by
      cases d with
      | zero => exact .inl ha
      | succ e => exact ha.imp id fun h => ⟨e, rfl, h⟩
    rcases ha' with (⟨z, rfl, rfl⟩ | ⟨rfl, rfl⟩ | ⟨i, rfl, rfl⟩) | ⟨e, rfl, q, a, b, xs, ys, rfl, rfl, h1, h2, hl, hall⟩
    · refine ⟨_, rfl, _, _, _, _, rfl, .str z, bo (T := "str") (by decide) (by decide), _, rfl, eB (by decide) (cv ?_)⟩
      refine ⟨_, rfl, _, _, _, _, rfl, .str z, bo (T := "str") (by decide) (by decide), _, rfl, _, _, _, _, rfl, .str z, bo (T := "str") (by decide) (by decide), rfl, _, rfl, eB (decide_eq_true rfl) ⟨_, rfl, _, rfl, rfl, ?_⟩⟩
      rw [decide_eq_true rfl]
      exact k H (aj.refl H)
    · refine ⟨_, rfl, _, _, _, _, rfl, .non, bo (T := "NoneType") (by decide) (by decide), _, rfl, cw (by decide) ⟨_, rfl, rfl, _, rfl, eB (decide_eq_true rfl) ?_⟩⟩
      refine ⟨_, rfl, _, _, _, _, rfl, .non, bo (T := "NoneType") (by decide) (by decide), _, rfl, _, _, _, _, rfl, .non, bo (T := "NoneType") (by decide) (by decide), rfl, _, rfl, eB (decide_eq_true rfl) ⟨_, rfl, _, rfl, rfl, ?_⟩⟩
      rw [decide_eq_true rfl]
      exact k H (aj.refl H)
    · refine ⟨_, rfl, _, _, _, _, rfl, .int i, bo (T := "int") (by decide) (by decide), _, rfl, cw (by decide) ⟨_, rfl, rfl, _, rfl, cw (by rw [decide_eq_true_iff]; intro e; cases e) ?_⟩⟩
      refine ⟨_, rfl, _, _, _, _, rfl, .int i, bo (T := "int") (by decide) (by decide), _, rfl, eB (by decide) ?_⟩
      refine ⟨_, rfl, _, _, _, _, rfl, .int i, bo (T := "int") (by decide) (by decide), _, rfl, eB (by decide) ⟨_, rfl, _, _, _, _, rfl, .int i, bo (T := "int") (by decide) (by decide), _, rfl, _, rfl, eB (by decide) ⟨_, rfl, _, rfl, rfl, ?_⟩⟩⟩
      rw [decide_eq_true rfl]
      exact k H (aj.refl H)
    · refine ⟨_, rfl, _, _, _, _, rfl, h2.ty, bo (iO q) (by decide), _, rfl, cw (by cases q <;> decide) ⟨_, rfl, rfl, _, rfl, cw (by rw [decide_eq_true_iff]; intro e; cases e) ?_⟩⟩
      refine ⟨_, rfl, _, _, _, _, rfl, h2.ty, bo (iO q) (by decide), _, rfl, cw (by cases q <;> decide) ?_⟩
      refine ⟨_, rfl, _, _, _, _, rfl, h2.ty, bo (iO q) (by decide), _, rfl, _, _, _, _, rfl, h1.ty, bo (iO q) (by decide), rfl, _, rfl, cw (by rw [decide_eq_true rfl]; decide) ?_⟩
      refine ⟨_, rfl, _, _, _, _, rfl, h2.ty, bo (iO q) (by decide), _, rfl, _, _, _, _, rfl, h1.ty, bo (iO q) (by decide), rfl, _, rfl, cw (by rw [decide_eq_true rfl]; decide) ?_⟩
      refine ⟨_, rfl, a, xs, rfl, h1.ln, _, rfl, b, ys, rfl, h2.ln, rfl, _, rfl, cw (by rw [hl, decide_eq_true rfl]; decide) ?_⟩
      refine ⟨_, rfl, _, rfl, q, a, b, rfl, ⟨_, h1.sq⟩, ⟨_, h2.sq⟩, wA (K := X.K) (q1 := q) (q2 := q) (a1 := a) (a2 := b) (xs := xs) (ys := ys) hl (fun i σ H2 => ∃ u v, σ = [some (.ref a), some (.ref b), u, v] ∧ aj H H2) ⟨none, none, rfl, aj.refl H⟩ (fun i σ H2 ⟨_, _, _, s⟩ => ⟨(h1.mono s).sq, (h2.mono s).sq⟩) ?_ ?_⟩
      · rintro i u v p σ H2 hu hv hp ⟨_, _, rfl, s⟩
        refine ⟨p, _, rfl, br.of aa, rfl, _, _, rfl, _, _, rfl, rfl, ?_⟩
        exact ⟨_, rfl, _, rfl, u, v, rfl, (hall i u v hu hv).mono (s.trans (aj.upd hp)), fun H3 s3 => ⟨_, rfl, bX ⟨_, _, rfl, (s.trans (aj.upd hp)).trans s3⟩⟩⟩
      · rintro σ H2 ⟨_, _, rfl, s⟩
        exact k H2 s
theorem nq {f : Addr} {fd : FuncData} (D : Df K mg "_law_alike" f9 ["_law_found", "_law_due_here"] f fd) (T : Txt K mg kw C) : ∀ d, Gd P w K mg base d "_law_alike" (uT d)
  | 0 => ⟨f, fd, _, ⟨fun _ _ _ _ h => h.elim, fun _ _ _ _ _ _ _ _ _ _ _ _ _ h => h.elim⟩, D.nm, D.fn.kp, D.bi⟩
  | d + 1 => o5 D T (nq D T d)
end
theorem fm {H : Hp} {d : Nat} {a : Addr} {xs : List V} (h : H a = some (.tup xs)) (k : ∀ x ∈ xs, jz d H x x) : jz (d + 1) H (.ref a) (.ref a) :=
  .inr ⟨false, a, a, xs, xs, rfl, rfl, h, h, rfl, fun i u v hu hv => by
    rw [hu] at hv
    cases hv
    exact k u (List.mem_of_getElem? hu)⟩
theorem bP {H : Hp} {d : Nat} (z : Str) : jz d H (.str z) (.str z) := jz.sc (.inl ⟨z, rfl, rfl⟩)
theorem fX {H : Hp} {d : Nat} (z : Int) : jz d H (.int z) (.int z) := jz.sc (.inr (.inr ⟨z, rfl, rfl⟩))
theorem vN {H : Hp} {d : Nat} : jz d H .non .non := jz.sc (.inr (.inl ⟨rfl, rfl⟩))
theorem qW {ps : List Str} {H : Hp} {v : V} (h : ck ps H v) : jz 2 H v v ∧ ∃ a, v = .ref a := by
  obtain ⟨a, z, h, ta, ws, rfl, ha, _, _, ht, _⟩ := h
  refine ⟨fm ha fun x hx => ?_, a, rfl⟩
  simp only [List.mem_cons, List.not_mem_nil, or_false] at hx
  rcases hx with rfl | rfl | rfl
  · exact bP z
  · exact fX h
  · refine fm ht fun x hx => ?_
    obtain ⟨y, _, rfl⟩ := List.mem_map.mp hx
    exact bP y
theorem uS {ps : List Str} {H : Hp} {v : V} (h : cV ps H v) : jz 2 H v v ∧ ∃ a, v = .ref a := by
  obtain ⟨a, h, p, q, w, rfl, ha, _⟩ := h
  refine ⟨fm ha fun x hx => ?_, a, rfl⟩
  simp only [List.mem_cons, List.not_mem_nil, or_false] at hx
  rcases hx with rfl | rfl | rfl | rfl
  · exact fX h
  · exact bP p
  · exact bP q
  · exact bP w
theorem vJ {ps : List Str} {H : Hp} {v : V} (h : dE ps H v) : jz 2 H v v ∧ ∃ a, v = .ref a := by
  obtain ⟨a, rfl, h⟩ := h
  refine ⟨?_, a, rfl⟩
  rcases h with ⟨p, h, ha, _⟩ | ⟨p, b, ha, _, hb⟩ | ⟨p, h, k, ha, _⟩ | ⟨p, q, ha, _⟩
  · refine fm ha fun x hx => ?_
    simp only [List.mem_cons, List.not_mem_nil, or_false] at hx
    rcases hx with rfl | rfl | rfl
    · exact bP _
    · exact bP p
    · exact fX h
  · refine fm ha fun x hx => ?_
    simp only [List.mem_cons, List.not_mem_nil, or_false] at hx
    rcases hx with rfl | rfl | rfl
    · exact bP _
    · exact bP p
    · rcases hb with rfl | ⟨h, rfl, _⟩
      · exact vN
      · exact fX h
  · refine fm ha fun x hx => ?_
    simp only [List.mem_cons, List.not_mem_nil, or_false] at hx
    rcases hx with rfl | rfl | rfl | rfl
    · exact bP _
    · exact bP p
    · exact fX h
    · exact fX k
  · refine fm ha fun x hx => ?_
    simp only [List.mem_cons, List.not_mem_nil, or_false] at hx
    rcases hx with rfl | rfl | rfl
    · exact bP _
    · exact bP p
    · exact bP q
theorem gh {H : Hp} {d : Nat} {a b : Addr} {xs : List V} (ha : H a = some (.lst xs)) (hb : H b = some (.lst xs)) (k : ∀ x ∈ xs, jz d H x x) : jz (d + 1) H (.ref a) (.ref b) :=
  .inr ⟨true, a, b, xs, xs, rfl, rfl, ha, hb, rfl, fun i u v hu hv => by
    rw [hu] at hv
    cases hv
    exact k u (List.mem_of_getElem? hu)⟩
theorem qL {H : Hp} {r q p s t y p2 s2 t2 y2 : Addr} {ps : List Str} {ss ts ys : List V} (hr : H r = some (.lst [.ref p, .ref s, .ref t, .ref y])) (hq : H q = some (.lst [.ref p2, .ref s2, .ref t2, .ref y2])) (hp : H p = some (.lst (ps.map V.str))) (hs : H s = some (.lst ss)) (ht : H t = some (.lst ts)) (hy : H y = some (.lst ys))
    (hp2 : H p2 = some (.lst (ps.map V.str))) (hs2 : H s2 = some (.lst ss)) (ht2 : H t2 = some (.lst ts)) (hy2 : H y2 = some (.lst ys)) (g : Parts H ps ss ts ys) : jz 4 H (.ref r) (.ref q) := by
  refine .inr ⟨true, r, q, _, _, rfl, rfl, hr, hq, rfl, fun i u v hu hv => ?_⟩
  match i with
  | 0 =>
    cases hu
    cases hv
    refine gh hp hp2 fun x hx => ?_
    obtain ⟨z, _, rfl⟩ := List.mem_map.mp hx
    exact bP z
  | 1 =>
    cases hu
    cases hv
    exact gh hs hs2 fun x hx => (qW (g.sg x hx)).1
  | 2 =>
    cases hu
    cases hv
    exact gh ht ht2 fun x hx => (uS (g.tg x hx)).1
  | 3 =>
    cases hu
    cases hv
    exact gh hy hy2 fun x hx => (vJ (g.yg x hx)).1
  | i + 4 => cases hu
inductive uf  (C : Addr) (M : Addr → Addr → Addr → Addr → Addr) (vs : List V) (H : Hp) (Q : VK) : Prop
  | mk (x p s t y : Addr) (xs : List V) (h0 : vs = [.ref x]) (h1 : (∃ dx, H x = some (.ins C dx (iW p s t y)))) (h2 : H (M p s t y) = some (.lst xs)) (h3 : ∀ l, H l = none → Q (.ref l) (upd H l (.lst xs)))
def cB  (C : Addr) (M : Addr → Addr → Addr → Addr → Addr) : Sp := fun vs H Q _ => uf C M vs H Q
inductive wO  (C : Addr) (vs : List V) (H : Hp) (Q : VK) : Prop
  | mk (x p s t y : Addr) (ps : List Str) (ss ts ys : List V) (h0 : vs = [.ref x]) (h1 : Bk C H x p s t y ps ss ts ys) (h2 : ∀ (r p' s' t' y' : Addr) (H' : Hp), aj H H' → H r = none → H p' = none → H s' = none → H t' = none → H y' = none → r ∉ [p', s', t', y'] → H' r = some (.lst [.ref p', .ref s', .ref t', .ref y']) → H' p' = some (.lst (ps.map V.str)) → H' s' = some (.lst ss) → H' t' = some (.lst ts) → H' y' = some (.lst ys) → Q (.ref r) H')
def lL  (C : Addr) : Sp := fun vs H Q _ => wO C vs H Q
section
variable {P : Program} {w : World} {K : PySem.W.Frag} {mg : Str → Option Value} {base : Heap} {kw C : Addr}
theorem mf : aB ["self"] ["self"] (ao cF) := {}
theorem lz {f : Addr} {fd : FuncData} (F : gJ K "persons" "Book.persons" cF f fd) (me : Meth K C "persons" f) (bi : Binds K fd ["self"] []) (T : Txt K mg kw C) : Md P w K mg base 1 C "persons" (cB C (fun p _ _ _ => p)) := by
  refine J.jx F me bi T.cl mf (fun vs H Q E h => ?_) (fun X H vs Q E hh h => ?_)
  · obtain ⟨x, p, s, t, y, xs, rfl, _⟩ := h
    rfl
  · obtain ⟨x, p, s, t, y, xs, rfl, ⟨dx, hx⟩, hl, k⟩ := h
    have S0 := hh.sl 0 "self"
    have B_list := hh.b T.b_list
    obtain rfl := hh.fK
    refine ⟨_, (J.ar (J.aw (J.fU B_list J.aO L2.bF (J.af (J.fld (J.rd S0)) J.ae)))), ?_⟩
    exact ⟨_, rfl, x, C, dx, _, _, rfl, hx, T.cl, T.nP, nH _ _ _ _, _, _, rfl, .inl (aE.of hl), k⟩
theorem nA : aB ["self"] ["self"] (ao cZ) := {}
theorem m8 {f : Addr} {fd : FuncData} (F : gJ K "sights" "Book.sights" cZ f fd) (me : Meth K C "sights" f) (bi : Binds K fd ["self"] []) (T : Txt K mg kw C) : Md P w K mg base 1 C "sights" (cB C (fun _ s _ _ => s)) := by
  refine J.jx F me bi T.cl nA (fun vs H Q E h => ?_) (fun X H vs Q E hh h => ?_)
  · obtain ⟨x, p, s, t, y, xs, rfl, _⟩ := h
    rfl
  · obtain ⟨x, p, s, t, y, xs, rfl, ⟨dx, hx⟩, hl, k⟩ := h
    have S0 := hh.sl 0 "self"
    have B_list := hh.b T.b_list
    obtain rfl := hh.fK
    refine ⟨_, (J.ar (J.aw (J.fU B_list J.aO L2.bF (J.af (J.fld (J.rd S0)) J.ae)))), ?_⟩
    exact ⟨_, rfl, x, C, dx, _, _, rfl, hx, T.cl, T.nS, mV _ _ _ _, _, _, rfl, .inl (aE.of hl), k⟩
theorem oQ : aB ["self"] ["self"] (ao dB) := {}
theorem oS {f : Addr} {fd : FuncData} (F : gJ K "talks" "Book.talks" dB f fd) (me : Meth K C "talks" f) (bi : Binds K fd ["self"] []) (T : Txt K mg kw C) : Md P w K mg base 1 C "talks" (cB C (fun _ _ t _ => t)) := by
  refine J.jx F me bi T.cl oQ (fun vs H Q E h => ?_) (fun X H vs Q E hh h => ?_)
  · obtain ⟨x, p, s, t, y, xs, rfl, _⟩ := h
    rfl
  · obtain ⟨x, p, s, t, y, xs, rfl, ⟨dx, hx⟩, hl, k⟩ := h
    have S0 := hh.sl 0 "self"
    have B_list := hh.b T.b_list
    obtain rfl := hh.fK
    refine ⟨_, (J.ar (J.aw (J.fU B_list J.aO L2.bF (J.af (J.fld (J.rd S0)) J.ae)))), ?_⟩
    exact ⟨_, rfl, x, C, dx, _, _, rfl, hx, T.cl, T.nT, m9 _ _ _ _, _, _, rfl, .inl (aE.of hl), k⟩
theorem ll : aB ["self"] ["self"] (ao cH) := {}
theorem mI {f : Addr} {fd : FuncData} (F : gJ K "sayings" "Book.sayings" cH f fd) (me : Meth K C "sayings" f) (bi : Binds K fd ["self"] []) (T : Txt K mg kw C) : Md P w K mg base 1 C "sayings" (cB C (fun _ _ _ y => y)) := by
  refine J.jx F me bi T.cl ll (fun vs H Q E h => ?_) (fun X H vs Q E hh h => ?_)
  · obtain ⟨x, p, s, t, y, xs, rfl, _⟩ := h
    rfl
  · obtain ⟨x, p, s, t, y, xs, rfl, ⟨dx, hx⟩, hl, k⟩ := h
    have S0 := hh.sl 0 "self"
    have B_list := hh.b T.b_list
    obtain rfl := hh.fK
    refine ⟨_, (J.ar (J.aw (J.fU B_list J.aO L2.bF (J.af (J.fld (J.rd S0)) J.ae)))), ?_⟩
    exact ⟨_, rfl, x, C, dx, _, _, rfl, hx, T.cl, T.nY, ka _ _ _ _, _, _, rfl, .inl (aE.of hl), k⟩
theorem rP : aB ["_law_book_here"] ["_law_book_here"] (ao jK) := {}
theorem vk {f : Addr} {fd : FuncData} (D : Df K mg "_law_told" jK ["_law_book_here"] f fd) (G_persons : Md P w K mg base 1 C "persons" (cB C fun p _ _ _ => p)) (G_sights : Md P w K mg base 1 C "sights" (cB C fun _ s _ _ => s)) (G_talks : Md P w K mg base 1 C "talks" (cB C fun _ _ t _ => t))
    (G_sayings : Md P w K mg base 1 C "sayings" (cB C fun _ _ _ y => y)) : Gd P w K mg base 2 "_law_told" (lL C) := by
  refine J.a7 D rP (fun vs H Q E h => ?_) (fun X H vs Q E hh h => ?_)
  · obtain ⟨x, p, s, t, y, ps, ss, ts, ys, rfl, _⟩ := h
    rfl
  · obtain ⟨x, p, s, t, y, ps, ss, ts, ys, rfl, bk, k⟩ := h
    have S0 := hh.sl 0 "_law_book_here"
    have M_persons := hh.met G_persons (by decide)
    have M_sayings := hh.met G_sayings (by decide)
    have M_sights := hh.met G_sights (by decide)
    have M_talks := hh.met G_talks (by decide)
    obtain ⟨⟨dx, hx⟩, hp, hs, ht, hy⟩ := bk
    have no : ∀ m : Str, (m = "persons" ∨ m = "sights" ∨ m = "talks" ∨ m = "sayings") → (iW p s t y).lookup m = none := fun m hm => by
      rcases hm with rfl | rfl | rfl | rfl <;> exact iX _ _ _ _ (by decide +kernel) (by decide +kernel) (by decide +kernel) (by decide +kernel)
    refine ⟨_, (J.ar (J.aw (J.bg (J.af (J.wN M_persons (J.rd S0) rfl) (J.af (J.wN M_sights (J.rd S0) rfl) (J.af (J.wN M_talks (J.rd S0) rfl) (J.af (J.wN M_sayings (J.rd S0) rfl) J.ae))))))), ?_⟩
    refine ⟨_, rfl, x, dx, _, rfl, hx, no _ (.inl rfl), x, p, s, t, y, _, rfl, ⟨dx, hx⟩, hp, fun l1 n1 => ?_⟩
    have s1 := aj.upd (o := .lst (ps.map V.str)) n1
    refine ⟨_, rfl, x, dx, _, rfl, s1 _ _ hx, no _ (.inr (.inl rfl)), x, p, s, t, y, _, rfl, ⟨dx, s1 _ _ hx⟩, s1 _ _ hs, fun l2 n2 => ?_⟩
    have s2 := s1.trans (aj.upd (o := .lst ss) n2)
    refine ⟨_, rfl, x, dx, _, rfl, s2 _ _ hx, no _ (.inr (.inr (.inl rfl))), x, p, s, t, y, _, rfl, ⟨dx, s2 _ _ hx⟩, s2 _ _ ht, fun l3 n3 => ?_⟩
    have s3 := s2.trans (aj.upd (o := .lst ts) n3)
    refine ⟨_, rfl, x, dx, _, rfl, s3 _ _ hx, no _ (.inr (.inr (.inr rfl))), x, p, s, t, y, _, rfl, ⟨dx, s3 _ _ hx⟩, s3 _ _ hy, fun l4 n4 => ?_⟩
    have s4 := s3.trans (aj.upd (o := .lst ys) n4)
    refine ⟨by show 4 ≤ sizeLine; decide, fun r nr => ?_⟩
    have u4 : aj _ _ := aj.upd (o := .lst ys) n4
    have u3 : aj _ _ := (aj.upd (o := .lst ts) n3).trans u4
    have u2 : aj _ _ := (aj.upd (o := .lst ss) n2).trans u3
    have u5 : aj _ _ := aj.upd (o := .lst [.ref l1, .ref l2, .ref l3, .ref l4]) nr
    have e1 := u2 _ _ (show upd H l1 (.lst (ps.map V.str)) l1 = _ from aa)
    have e2 := u3 _ _ (show upd (upd H l1 (.lst (ps.map V.str))) l2 (.lst ss) l2 = _ from aa)
    have e3 := u4 _ _ (show upd (upd (upd H l1 (.lst (ps.map V.str))) l2 (.lst ss)) l3 (.lst ts) l3 = _ from aa)
    have e4 : upd (upd (upd (upd H l1 (.lst (ps.map V.str))) l2 (.lst ss)) l3 (.lst ts)) l4 (.lst ys) l4 = some (.lst ys) := aa
    refine k r l1 l2 l3 l4 _ (s4.trans u5) (s4.free nr) n1 (s1.free n2) (s2.free n3) (s3.free n4) ?_ aa (u5 _ _ e1) (u5 _ _ e2) (u5 _ _ e3) (u5 _ _ e4)
    simp only [List.mem_cons, List.not_mem_nil, or_false, not_or]
    exact ⟨(ah e1 nr).symm, (ah e2 nr).symm, (ah e3 nr).symm, (ah e4 nr).symm⟩
end
theorem ya {H : Hp} {v : V} (h : Th H v) (n : dP H v = none) : ∀ k, Dp k H v
  | 0 => h
  | k + 1 => ⟨h, fun xs e => by rw [n] at e; cases e⟩
theorem fg {H : Hp} {a : Addr} {xs : List V} {k : Nat} (h : H a = some (.tup xs)) (d : ∀ x ∈ xs, Dp k H x) : Dp (k + 1) H (.ref a) := ⟨.tup h, fun ys e x hx => by
  rw [bG h] at e
  cases e
  exact d x hx⟩
theorem dJ {H : Hp} (i : Int) (k : Nat) : Dp k H (.int i) := ya (.int i) rfl k
theorem xN {H : Hp} (k : Nat) : Dp k H .non := ya .non rfl k
theorem cC {H : Hp} {z : Str} (l : z.length ≤ sizeLine) (k : Nat) : Dp k H (.str z) := ya (.str z l) rfl k
theorem CV {α : Type} {a x : α} {r : List α} {p : α → Prop} (ha : p a) (hr : ∀ x ∈ r, p x) (m : x ∈ a :: r) : p x := by
  rcases List.mem_cons.mp m with rfl | m
  · exact ha
  · exact hr x m
theorem gU {α : Type} {p : α → Prop} : ∀ x ∈ ([] : List α), p x := fun _ h => by cases h
theorem all1 {α : Type} {a : α} {r : List α} {p : α → Prop} (ha : p a) (hr : ∀ x ∈ r, p x) : ∀ x ∈ a :: r, p x := fun _ m => CV ha hr m
theorem rX {ps : List Str} (h : a6 ps) : ∃ z r, ps = z :: r := by
  cases ps with
  | nil => exact absurd h.lo (by decide)
  | cons z r => exact ⟨z, r, rfl⟩
def Fr (H : Hp) (v : V) : Prop := ∀ b, v = .ref b → H b = none
theorem zb {H : Hp} {v : V} {d : Nat} (h : Th H v) (n : dP H v = none) (ps : List Str) : (Dp d H v ∧ a9 ps H v = false) ∧ (Dp d H v ∧ bK ps H v = false) ∧ (Dp d H v ∧ cK ps H v = false) := by
  refine ⟨⟨ya h n d, ?_⟩, ⟨ya h n d, ?_⟩, ⟨ya h n d, ?_⟩⟩
  · unfold a9; rw [n]
  · unfold bK; rw [n]
  · unfold cK; rw [n]
theorem dU {ps : List Str} {z : Str} (h : z ∈ ps) : cy ps (.str z) = true := decide_eq_true h
theorem aj.over {H H' : Hp} {a : Addr} {o : HO} (n : H a = none) (s : aj H H') : aj H (upd H' a o) := fun b u e => by
  rw [aq (ah e n)]
  exact s _ _ e
theorem uK (ps : List Str) (a : V) : ik ps a a = false := by
  unfold ik
  rw [decide_eq_true rfl, Bool.not_true, Bool.and_false, Bool.and_false]
theorem Al {ps : List Str} {a b : V} (h : cy ps a = false) : ik ps a b = false := by
  unfold ik
  rw [h, Bool.false_and]
theorem pf {ps : List Str} {kd : Str} {a b : V} (h : bB b = false) (n1 : kd ≠ "barred") (n2 : kd ≠ "unheard") : cL ps kd a b = false := by
  unfold cL
  rw [if_neg n1, if_neg n2, h, Bool.and_false]
  exact ite_self _
theorem ph {ps : List Str} {kd : Str} {a b : V} (h : cy ps a = false) : cL ps kd a b = false := by
  unfold cL
  rw [Al h, if_pos h]
  exact ite_self _
theorem b9 {ps : List Str} {H : Hp} {v : V} (hP : a6 ps) (h : ck ps H v) : Dp 2 H v ∧ a9 ps H v = true := by
  obtain ⟨a, z, i, ta, ws, rfl, ha, hz, hi, ht, w1, w6, hw⟩ := h
  have hsz : sizeLine = 16777216 := sizeLine_eq
  have zl := dN (hP.nm z hz)
  refine ⟨fg ha (all1 (cC (by omega) 1) (all1 (dJ i 1) (all1 (fg ht fun x hx => ?_) gU))), ?_⟩
  · obtain ⟨y, hy, rfl⟩ := List.mem_map.mp hx
    have := dN (hw y hy)
    exact cC (by omega) 0
  · unfold a9
    rw [bG ha]
    show (cy ps (.str z) && (bB (.int i) && dZ H (.ref ta))) = true
    rw [dU hz, eN hi]
    unfold dZ
    rw [bG ht]
    show ((decide (1 ≤ (((ws.map V.str).length : Nat) : Int)) && decide ((((ws.map V.str).length : Nat) : Int) ≤ 6)) && (ws.map V.str).all bS) = true
    rw [List.length_map, decide_eq_true (by omega), decide_eq_true (by omega), List.all_eq_true.mpr fun x hx => by
      obtain ⟨y, hy, rfl⟩ := List.mem_map.mp hx
      exact hw y hy]
    rfl
theorem dC {ps : List Str} {H : Hp} {v : V} (hP : a6 ps) (h : cV ps H v) : Dp 1 H v ∧ bK ps H v = true := by
  obtain ⟨a, i, y, z, ww, rfl, ha, hi, hy, hz, ne, hw⟩ := h
  have hsz : sizeLine = 16777216 := sizeLine_eq
  have yl := dN (hP.nm y hy)
  have zl := dN (hP.nm z hz)
  have wl : ww.length ≤ sizeLine := by
    rcases hw with rfl | rfl
    · decide +kernel
    · decide +kernel
  refine ⟨fg ha (all1 (dJ i 0) (all1 (cC (by omega) 0) (all1 (cC (by omega) 0) (all1 (cC wl 0) gU)))), ?_⟩
  unfold bK
  rw [bG ha]
  show (bB (.int i) && (ik ps (.str y) (.str z) && rj (.str ww))) = true
  have e : rj (.str ww) = true := by
    rcases hw with rfl | rfl
    · decide +kernel
    · decide +kernel
  rw [eN hi, e]
  unfold ik
  rw [dU hy, dU hz, decide_eq_false (fun z => ne (by injection z))]
  rfl
theorem kl {ps : List Str} {H : Hp} {v : V} (hP : a6 ps) (h : dE ps H v) : Dp 1 H v := by
  have hsz : sizeLine = 16777216 := sizeLine_eq
  have st : ∀ z ∈ ps, z.length ≤ sizeLine := fun z hz => by
    have := dN (hP.nm z hz)
    omega
  have W : ∀ {z : Str}, z.length ≤ sizeLine → Dp 0 H (.str z) := fun l => cC l 0
  obtain ⟨a, rfl, h⟩ := h
  rcases h with ⟨p, i, ha, hp, _⟩ | ⟨p, b, ha, hp, hb⟩ | ⟨p, i, j, ha, hp, _⟩ | ⟨p, q, ha, hp, hq, _⟩
  · exact fg ha (all1 (W (by decide +kernel)) (all1 (W (st p hp)) (all1 (dJ i 0) gU)))
  · refine fg ha (all1 (W (by decide +kernel)) (all1 (W (st p hp)) (all1 ?_ gU)))
    rcases hb with rfl | ⟨i, rfl, _⟩
    · exact xN 0
    · exact dJ i 0
  · exact fg ha (all1 (W (by decide +kernel)) (all1 (W (st p hp)) (all1 (dJ i 0) (all1 (dJ j 0) gU))))
  · exact fg ha (all1 (W (by decide +kernel)) (all1 (W (st p hp)) (all1 (W (st q hq)) gU)))
theorem eO {f : V → Bool} {m : Int} {H : Hp} {a : Addr} {xs : List V} (h : H a = some (.lst xs)) (l : (xs.length : Int) ≤ m) (g : ∀ x ∈ xs, f x = true) : cQ f m H (.ref a) = true := by
  unfold cQ
  rw [fb h]
  dsimp only
  rw [decide_eq_true l, List.all_eq_true.mpr g]
  rfl
theorem Dg {f : V → Bool} {m : Int} {H : Hp} {a : Addr} {pre post : List V} {v : V} (h : H a = some (.lst (pre ++ v :: post))) (b : f v = false) : cQ f m H (.ref a) = false := by
  unfold cQ
  rw [fb h]
  dsimp only
  have : (pre ++ v :: post).all f = false := by
    rw [List.all_eq_false]
    exact ⟨v, List.mem_append_right _ (.head _), by rw [b]; exact Bool.false_ne_true⟩
  rw [this, Bool.and_false]
theorem AX {f : V → Bool} {m : Int} {H : Hp} {a : Addr} {xs : List V} (h : H a = some (.lst xs)) (b : m < (xs.length : Int)) : cQ f m H (.ref a) = false := by
  unfold cQ
  rw [fb h]
  dsimp only
  rw [decide_eq_false (by omega), Bool.false_and]
def gq (C : Addr) (H : Hp) (ps : List Str) (ss ts ys : List V) (Q : VK) : Prop := ∀ (x' p' s' t' y' : Addr) (H' : Hp), aj H H' → H p' = none → H s' = none → H t' = none → H y' = none → Bk C H' x' p' s' t' y' ps ss ts ys → Q (.ref x') H'
theorem gq.mono {C : Addr} {H H1 : Hp} {ps : List Str} {ss ts ys : List V} {Q : VK} (s : aj H H1) (k : gq C H ps ss ts ys Q) : gq C H1 ps ss ts ys Q := fun x' p' s' t' y' H' sm n1 n2 n3 n4 bk => k x' p' s' t' y' H' (s.trans sm) (s.free n1) (s.free n2) (s.free n3) (s.free n4) bk
theorem lZ (ys : List V) (n : Nat) : (bj ys none (some (n : Int)) ++ bj ys (some ((n : Int) + 1)) none).length ≤ ys.length := by
  unfold bj
  have e := HT.fZ ys.length 0 (n + 1)
  rw [show (((n + 1 : Nat)) : Int) = (n : Int) + 1 by omega] at e
  rw [HT.eG, HT.fZ, e, HT.eG, List.length_append, List.length_take, List.length_take, List.length_drop, List.length_drop]
  omega
def EV : Nat → Str
  | 0 => "persons"
  | 1 => "sights"
  | 2 => "talks"
  | _ => "sayings"
theorem _root_.L2.kz : bootBuiltins "ValueError" = some (.type "ValueError") := by decide +kernel
structure DK (K : PySem.W.Frag) (mg : Str → Option Value) (Kn Ns Nb Nd Nr Ny Sa Tm fI : Addr) : Prop where
  oB : eJ K Nb Kn fI
  hB : mg "NoBook" = some (.ref Nb)
  hK : mg "KnewError" = some (.ref Kn)
  g_NoStory : ∃ u, mg "NoStory" = some u ∧ RelV (.ref Ns) u
  g_KnewError : ∃ u, mg "KnewError" = some u ∧ RelV (.ref Kn) u
  g_NoBook : ∃ u, mg "NoBook" = some u ∧ RelV (.ref Nb) u
  g_NoDeed : ∃ u, mg "NoDeed" = some u ∧ RelV (.ref Nd) u
  g_NoRow : ∃ u, mg "NoRow" = some u ∧ RelV (.ref Nr) u
  g_NoSaying : ∃ u, mg "NoSaying" = some u ∧ RelV (.ref Ny) u
  g_Saw : ∃ u, mg "Saw" = some u ∧ RelV (.ref Sa) u
  g_TooMuch : ∃ u, mg "TooMuch" = some u ∧ RelV (.ref Tm) u
  b_ValueError : mg "ValueError" = none
  k1 : PySem.W.kitOne K (.ref Nb) (.ref Nb) = some true
  k3 : PySem.W.kitOne K (.ref Nb) (.type "ValueError") = some true
  k4 : PySem.W.kitOne K (.ref Nb) (.ref Ns) = some false
  k5 : PySem.W.kitOne K (.ref Nb) (.ref Nd) = some false
  k6 : PySem.W.kitOne K (.ref Nb) (.ref Nr) = some false
  k7 : PySem.W.kitOne K (.ref Nb) (.ref Ny) = some false
  k8 : PySem.W.kitOne K (.ref Nb) (.ref Sa) = some false
  k9 : PySem.W.kitOne K (.ref Nb) (.ref Tm) = some false
inductive FV (C NB : Addr) (vs : List V) (H : Hp) (Q : VK) (E : XK) : Prop
  | ok (h : xR C vs H Q E)
  | no (h : Ac C NB vs H E)
def jM (C NB : Addr) : Sp := fun vs H Q E => FV C NB vs H Q E
theorem CD {ps : List Str} (hP : a6 ps) {H : Hp} : ∀ x ∈ ps.map V.str, Th H x := fun x hx => by
  obtain ⟨z, hz, rfl⟩ := List.mem_map.mp hx
  have := dN (hP.nm z hz)
  have hsz : sizeLine = 16777216 := sizeLine_eq
  exact .str z (by omega)
theorem gW {H : Hp} {p : Addr} {ps : List Str} (hp : H p = some (.lst (ps.map V.str))) (hP : a6 ps) : Th H (.ref p) ∧ ∀ xs, dt H (.ref p) = some xs → ∀ x ∈ xs, Th H x := ⟨.lst hp, fun xs e x hx => by
  rw [fb hp] at e
  cases e
  exact CD hP x hx⟩
theorem eX {H : Hp} {a : Addr} {xs : List V} {d : Nat} (h : H a = some (.lst xs)) (l : xs.length ≤ 200) (g : ∀ x ∈ xs, Dp d H x) : Th H (.ref a) ∧ ∀ ys, dt H (.ref a) = some ys → ys.length ≤ 200 ∧ ∀ x ∈ ys, Dp d H x := ⟨.lst h, fun ys e => by
  rw [fb h] at e
  cases e
  exact ⟨l, g⟩⟩
theorem vG {ps : List Str} {H : Hp} {v : V} (h : dE ps H v) : cK ps H v = true := by
  obtain ⟨a, rfl, h⟩ := h
  unfold cK
  rcases h with ⟨p, i, ha, hp, hi⟩ | ⟨p, b, ha, hp, hb⟩ | ⟨p, i, j, ha, hp, hi, hj, le⟩ | ⟨p, q, ha, hp, hq, ne⟩
  · rw [bG ha]
    show cL ps "knew" (.str p) (.int i) = true
    unfold cL
    rw [if_neg (by decide), dU hp, if_neg (by decide), if_neg (by decide), eN hi]
    decide
  · rw [bG ha]
    show cL ps "unheard" (.str p) b = true
    unfold cL
    rw [if_neg (by decide), dU hp, if_neg (by decide), if_pos rfl]
    rcases hb with rfl | ⟨i, rfl, hi⟩
    · rw [decide_eq_true rfl, Bool.true_or]
    · rw [eN hi, Bool.or_true]
  · rw [bG ha]
    show (decide ((("silent" : Str)) = "silent") && (cy ps (.str p) && kq (.int i) (.int j))) = true
    unfold kq
    rw [dU hp, eN hi, eN hj]
    show (true && (true && (true && (true && decide (i ≤ j))))) = true
    rw [decide_eq_true le]
    rfl
  · rw [bG ha]
    show cL ps "barred" (.str p) (.str q) = true
    unfold cL ik
    rw [if_pos rfl, dU hp, dU hq, decide_eq_false (fun z => ne (by injection z))]
    rfl
section
variable {P : Program} {w : World} {K : PySem.W.Frag} {mg : Str → Option Value} {base : Heap} {kw C NB Kn fI : Addr} {fdI : FuncData}
theorem ve {f : Addr} {fd : FuncData} (F : gJ K "__init__" "Book.__init__" eM f fd) (mk : Mk K C f) (bi : Binds K fd ["self", "persons", "sights", "talks", "sayings"] []) (nm : mg "Book" = some (.ref C)) (T : Txt K mg kw C) (O : eJ K NB Kn fI) (FI : bH P w K mg base fD 1 fI fdI ["self", "part"] (wC K)) (bI : Binds K fdI ["self", "part"] []) (hnb : mg "NoBook" = some (.ref NB))
    (G_are_persons : Gd P w K mg base 2 "are_persons" uD) (G_are_sights : Gd P w K mg base 4 "are_sights" (ir a9 2 24)) (G_are_talks : Gd P w K mg base 5 "are_talks" (ir bK 1 120)) (G_are_sayings : Gd P w K mg base 6 "are_sayings" (ir cK 1 60)) :
    sf P w K mg base 7 "Book" C (jM C NB) := by
  refine J.uJ F mk bi nm rW O FI bI (by decide) hnb rfl (by decide) (fun vs H Q E h => ?_) (fun X Y H vs Q E hh lift liftT rz h => ?_)
  · rcases h with ⟨x, dx, p, a, b, c, ps, ss, ts, ys, rfl, _⟩ | ⟨x, dx, pv, sv, tv, yv, at_, nm, rfl, _⟩
    · rfl
    · rfl
  rcases h with h | h
  · obtain ⟨x, dx, p, a, b, c, ps, ss, ts, ys, rfl, hx, hp, ha, hb, hc, g, k⟩ := h
    have S0 := hh.sl 0 "self"
    have S1 := hh.sl 1 "persons"
    have S2 := hh.sl 2 "sights"
    have S3 := hh.sl 3 "talks"
    have S4 := hh.sl 4 "sayings"
    have B_list := hh.b T.b_list
    have C_are_persons := hh.c G_are_persons
    have C_are_sayings := hh.c G_are_sayings
    have C_are_sights := hh.c G_are_sights
    have C_are_talks := hh.c G_are_talks
    obtain ⟨hP, sl, sg, tl, tg, yl, yg⟩ := id g
    obtain rfl := hh.fK
    refine ⟨_, (J.ai (J.aN (liftT (J.bf (J.aV (J.cn C_are_persons (J.af (J.rd S1) J.ae)))))
 (J.ar (rz (J.af J.aM J.ae) rfl))
 J.aF)
 (J.ai (J.aN (liftT (J.bf (J.aV (J.cn C_are_sights (J.af (J.rd S1) (J.af (J.rd S2) J.ae))))))
 (J.ar (rz (J.af J.aM J.ae) rfl))
 J.aF)
 (J.ai (J.aN (liftT (J.bf (J.aV (J.cn C_are_talks (J.af (J.rd S1) (J.af (J.rd S3) J.ae))))))
 (J.ar (rz (J.af J.aM J.ae) rfl))
 J.aF)
 (J.ai (J.aN (liftT (J.bf (J.aV (J.cn C_are_sayings (J.af (J.rd S1) (J.af (J.rd S4) J.ae))))))
 (J.ar (rz (J.af J.aM J.ae) rfl))
 J.aF)
 (J.ai (lift (J.eh (J.rd S0) (J.fU B_list J.aO L2.bF (J.af (J.rd S1) J.ae))))
 (J.ai (lift (J.eh (J.rd S0) (J.fU B_list J.aO L2.bF (J.af (J.rd S2) J.ae))))
 (J.ai (lift (J.eh (J.rd S0) (J.fU B_list J.aO L2.bF (J.af (J.rd S3) J.ae))))
 (J.ar (lift (J.eh (J.rd S0) (J.fU B_list J.aO L2.bF (J.af (J.rd S4) J.ae)))))))))))), ?_⟩
    refine ⟨_, rfl, .ref p, rfl, (gW hp hP).1, (gW hp hP).2, fun H1 s1 => ⟨_, rfl, ?_⟩⟩
    rw [nR hp hP]
    have e1 := eX (s1 _ _ ha) (by omega) fun v hv => (b9 hP ((sg v hv).mono (Tk.of s1))).1
    refine bX ⟨_, rfl, _, rfl, p, ps, .ref a, rfl, s1 _ _ hp, hP, e1.1, e1.2, fun H2 s2' => ⟨_, rfl, ?_⟩⟩
    rw [eO (s1 _ _ ha) (by omega) fun v hv => (b9 hP ((sg v hv).mono (Tk.of s1))).2]
    have s2 := s1.trans s2'
    have e2 := eX (s2 _ _ hb) (by omega) fun v hv => (dC hP ((tg v hv).mono (Tk.of s2))).1
    refine bX ⟨_, rfl, _, rfl, p, ps, .ref b, rfl, s2 _ _ hp, hP, e2.1, e2.2, fun H3 s3' => ⟨_, rfl, ?_⟩⟩
    rw [eO (s2 _ _ hb) (by omega) fun v hv => (dC hP ((tg v hv).mono (Tk.of s2))).2]
    have s3 := s2.trans s3'
    have e3 := eX (s3 _ _ hc) (by omega) fun v hv => kl hP ((yg v hv).mono (Tk.of s3))
    refine bX ⟨_, rfl, _, rfl, p, ps, .ref c, rfl, s3 _ _ hp, hP, e3.1, e3.2, fun H4 s4' => ⟨_, rfl, ?_⟩⟩
    rw [eO (s3 _ _ hc) (by omega) fun v hv => vG ((yg v hv).mono (Tk.of s3))]
    refine bX ?_
    have s4 := s3.trans s4'
    clear s1 s2' s2 s3' s3 s4'
    refine ⟨_, rfl, p, _, rfl, .inl (aE.of (s4 _ _ hp)), fun p' np => ⟨_, rfl, x, C, dx, [], rfl, (by rw [aq (ah (s4 _ _ hx) np)]; exact s4 _ _ hx), T.cl, T.nP, (by show 0 < 1000; decide), ?_⟩⟩
    have xp : x ≠ p' := ah (s4 _ _ hx) np
    have k1 : ∀ d o, H4 d = some o → d ≠ x → upd (upd H4 p' (.lst (ps.map V.str))) x (.ins C dx (dq "kept_persons" (.ref p') [])) d = some o := fun d o e n => by
      rw [aq n, aq (ah e np)]
      exact e
    have ax : a ≠ x := nI (s4 _ _ ha) (s4 _ _ hx) (by intro z; cases z)
    have bx : b ≠ x := nI (s4 _ _ hb) (s4 _ _ hx) (by intro z; cases z)
    have cx : c ≠ x := nI (s4 _ _ hc) (s4 _ _ hx) (by intro z; cases z)
    refine ⟨_, rfl, a, _, rfl, .inl (aE.of (k1 _ _ (s4 _ _ ha) ax)), fun s' ns => ⟨_, rfl, x, C, dx, _, rfl, (by rw [aq (ah aa ns)]; exact aa), T.cl, T.nS, (by show 1 < 1000; decide), ?_⟩⟩
    have xs : x ≠ s' := ah aa ns
    have ps' : p' ≠ s' := ah (by rw [aq xp.symm]; exact aa) ns
    have ns4 : H4 s' = none := by
      rw [aq xs.symm, aq ps'.symm] at ns
      exact ns
    have k2 : ∀ d o, H4 d = some o → d ≠ x → upd (upd (upd (upd H4 p' (.lst (ps.map V.str))) x (.ins C dx (dq "kept_persons" (.ref p') []))) s' (.lst ss)) x (.ins C dx (dq "kept_sights" (.ref s') (dq "kept_persons" (.ref p') []))) d = some o := fun d o e n => by
      rw [aq n, aq (ah e ns4)]
      exact k1 d o e n
    refine ⟨_, rfl, b, _, rfl, .inl (aE.of (k2 _ _ (s4 _ _ hb) bx)), fun t' nt => ⟨_, rfl, x, C, dx, _, rfl, (by rw [aq (ah aa nt)]; exact aa), T.cl, T.nT, (by show 2 < 1000; decide), ?_⟩⟩
    have xt : x ≠ t' := ah aa nt
    have st' : s' ≠ t' := ah (by rw [aq xs.symm]; exact aa) nt
    have pt' : p' ≠ t' := ah (by rw [aq xp.symm, aq ps', aq xp.symm]; exact aa) nt
    have nt4 : H4 t' = none := by
      rw [aq xt.symm, aq st'.symm, aq xt.symm, aq pt'.symm] at nt
      exact nt
    refine ⟨_, rfl, c, _, rfl, .inl (aE.of (by rw [aq cx, aq (ah (s4 _ _ hc) nt4)]; exact k2 _ _ (s4 _ _ hc) cx)), fun y' ny => ⟨_, rfl, x, C, dx, _, rfl, (by rw [aq (ah aa ny)]; exact aa), T.cl, T.nY, (by show 3 < 1000; decide), ?_⟩⟩
    have xy : x ≠ y' := ah aa ny
    have ty' : t' ≠ y' := ah (by rw [aq xt.symm]; exact aa) ny
    have sy' : s' ≠ y' := ah (by rw [aq xs.symm, aq st', aq xs.symm]; exact aa) ny
    have py' : p' ≠ y' := ah (by rw [aq xp.symm, aq pt', aq xp.symm, aq ps', aq xp.symm]; exact aa) ny
    have ny4 : H4 y' = none := by
      rw [aq xy.symm, aq ty'.symm, aq xy.symm, aq sy'.symm, aq xy.symm, aq py'.symm] at ny
      exact ny
    refine k p' s' t' y' _ (s4.free np) (s4.free ns4) (s4.free nt4) (s4.free ny4) ⟨⟨dx, aa⟩, ?_, ?_, ?_, ?_⟩ fun d o e n => ?_
    · rw [aq xp.symm, aq py', aq xp.symm, aq pt', aq xp.symm, aq ps', aq xp.symm]
      exact aa
    · rw [aq xs.symm, aq sy', aq xs.symm, aq st', aq xs.symm]
      exact aa
    · rw [aq xt.symm, aq ty', aq xt.symm]
      exact aa
    · rw [aq xy.symm]
      exact aa
    · rw [aq n, aq (ah (s4 _ _ e) ny4), aq n, aq (ah (s4 _ _ e) nt4)]
      exact k2 d o (s4 _ _ e) n
  · obtain ⟨x, dx, pv, sv, tv, yv, at_, nm, rfl, hx, k, ⟨tp, tps⟩, b⟩ := h
    have S0 := hh.sl 0 "self"
    have S1 := hh.sl 1 "persons"
    have S2 := hh.sl 2 "sights"
    have S3 := hh.sl 3 "talks"
    have S4 := hh.sl 4 "sayings"
    have B_list := hh.b T.b_list
    have C_are_persons := hh.c G_are_persons
    have C_are_sayings := hh.c G_are_sayings
    have C_are_sights := hh.c G_are_sights
    have C_are_talks := hh.c G_are_talks
    refine ⟨_, (J.ai (J.aN (liftT (J.bf (J.aV (J.cn C_are_persons (J.af (J.rd S1) J.ae)))))
 (J.ar (rz (J.af J.aM J.ae) rfl))
 J.aF)
 (J.ai (J.aN (liftT (J.bf (J.aV (J.cn C_are_sights (J.af (J.rd S1) (J.af (J.rd S2) J.ae))))))
 (J.ar (rz (J.af J.aM J.ae) rfl))
 J.aF)
 (J.ai (J.aN (liftT (J.bf (J.aV (J.cn C_are_talks (J.af (J.rd S1) (J.af (J.rd S3) J.ae))))))
 (J.ar (rz (J.af J.aM J.ae) rfl))
 J.aF)
 (J.ai (J.aN (liftT (J.bf (J.aV (J.cn C_are_sayings (J.af (J.rd S1) (J.af (J.rd S4) J.ae))))))
 (J.ar (rz (J.af J.aM J.ae) rfl))
 J.aF)
 (J.ai (lift (J.eh (J.rd S0) (J.fU B_list J.aO L2.bF (J.af (J.rd S1) J.ae))))
 (J.ai (lift (J.eh (J.rd S0) (J.fU B_list J.aO L2.bF (J.af (J.rd S2) J.ae))))
 (J.ai (lift (J.eh (J.rd S0) (J.fU B_list J.aO L2.bF (J.af (J.rd S3) J.ae))))
 (J.ar (lift (J.eh (J.rd S0) (J.fU B_list J.aO L2.bF (J.af (J.rd S4) J.ae)))))))))))), ?_⟩
    refine ⟨_, rfl, pv, rfl, tp, tps, fun H1 s1 => ⟨_, rfl, ?_⟩⟩
    rcases b with ⟨rfl, rfl, b⟩ | ⟨_, p, ps, rfl, hp, hP, ⟨tS, dS'⟩, b⟩
    · rw [b]
      exact cv ⟨.str "persons", rfl, fun d nd => k d H1 s1 nd⟩
    rw [nR hp hP]
    refine bX ⟨_, rfl, _, rfl, p, ps, sv, rfl, s1 _ _ hp, hP, tS.mono s1, (fun xs hxs => by
      rw [tS.gY s1] at hxs
      exact ⟨(dS' xs hxs).1, fun x hx => ((dS' xs hxs).2 x hx).mono s1⟩), fun H2 s2 => ⟨_, rfl, ?_⟩⟩
    rw [gP tS s1 fun xs hxs x hx => dk ((dS' xs hxs).2 x hx) s1]
    have s12 := s1.trans s2
    rcases b with ⟨rfl, rfl, b⟩ | ⟨_, b0, ⟨tT, dT'⟩, b⟩
    · rw [b]
      exact cv ⟨.str "sights", rfl, fun d nd => k d H2 s12 nd⟩
    rw [b0]
    refine bX ⟨_, rfl, _, rfl, p, ps, tv, rfl, s12 _ _ hp, hP, tT.mono s12, (fun xs hxs => by
      rw [tT.gY s12] at hxs
      exact ⟨(dT' xs hxs).1, fun x hx => ((dT' xs hxs).2 x hx).mono s12⟩), fun H3 s3 => ⟨_, rfl, ?_⟩⟩
    rw [gP tT s12 fun xs hxs x hx => dM ((dT' xs hxs).2 x hx) s12]
    have s13 := s12.trans s3
    rcases b with ⟨rfl, rfl, b⟩ | ⟨_, b1, ⟨tY, dY⟩, rfl, b⟩
    · rw [b]
      exact cv ⟨.str "talks", rfl, fun d nd => k d H3 s13 nd⟩
    rw [b1]
    refine bX ⟨_, rfl, _, rfl, p, ps, yv, rfl, s13 _ _ hp, hP, tY.mono s13, (fun xs hxs => by
      rw [tY.gY s13] at hxs
      exact ⟨(dY xs hxs).1, fun x hx => ((dY xs hxs).2 x hx).mono s13⟩), fun H4 s4 => ⟨_, rfl, ?_⟩⟩
    rw [gP tY s13 fun xs hxs x hx => eK ((dY xs hxs).2 x hx) s13, b]
    exact cv ⟨.str "sayings", rfl, fun d nd => k d H4 (s13.trans s4) nd⟩
end
end K04
namespace K04
open PySem L2
def zz : Str := "zzzzzzzzzzzz"
def Du (us : List Str) : Prop := ∀ z ∈ us, z ≠ zz
def iG (z : Str) : Prop := ∀ c ∈ z.cps.toList, c = 122
theorem iu {a b : Str} (h : iG (a ++ b)) : iG a ∧ iG b := by
  refine ⟨fun c hc => h c ?_, fun c hc => h c ?_⟩
  · rw [fj]
    exact List.mem_append_left _ hc
  · rw [fj]
    exact List.mem_append_right _ hc
theorem kH : ∀ {zs : List Str}, iG (Str.join "" zs) → ∀ z ∈ zs, iG z
  | [], _, z, hz => by cases hz
  | [x], h, z, hz => by
    rw [List.mem_singleton.mp hz]
    exact h
  | x :: y :: r, h, z, hz => by
    have h : iG (x ++ "" ++ Str.join "" (y :: r)) := h
    rcases List.mem_cons.mp hz with rfl | hz
    · exact (iu (iu h).1).1
    · exact kH (iu h).2 z hz
theorem wB : iG zz := by
  unfold iG zz
  decide +kernel
theorem ye : zz.length = 12 := by decide +kernel
theorem pq {z : Str} {k : Nat} {c : Nat} (hk : k ≤ z.length) (h : iG (putIn z k c)) : iG z := fun d hd => by
  refine h d ?_
  rw [eD hk]
  rw [← List.take_append_drop k z.cps.toList] at hd
  rcases List.mem_append.mp hd with hd | hd
  · exact List.mem_append_left _ hd
  · exact List.mem_append_right _ (List.mem_append_right _ hd)
inductive tw  (vs : List V) (H : Hp) (Q : VK) : Prop
  | mk (n : Int) (h0 : vs = [.int n]) (h1 : ∀ (l : Addr) (us : List Str) (H' : Hp), aj H H' → H l = none → H' l = some (.lst (us.map V.str)) → lG us → Du us → Q (.ref l) H')
def mH  : Sp := fun vs H Q _ => tw  vs H Q
inductive tU  (vs : List V) (H : Hp) (Q : VK) : Prop
  | mk (n : Int) (h0 : vs = [.int n]) (h1 : ∀ h : Int, c4 h → Q (.int h) H)
def fY  : Sp := fun vs H Q _ => tU  vs H Q
inductive uX  (vs : List V) (H : Hp) (Q : VK) : Prop
  | mk (n : Int) (l : Addr) (us : List Str) (h0 : vs = [.int n, .ref l]) (h1 : H l = some (.lst (us.map V.str))) (h2 : lG us) (h3 : ∀ (t : Addr) (ws : List Str) (H' : Hp), aj H H' → H' t = some (.tup (ws.map V.str)) → 1 ≤ ws.length → ws.length ≤ 6 → (∀ x ∈ ws, cG x = true) → Q (.ref t) H')
def lE  : Sp := fun vs H Q _ => uX  vs H Q
inductive sU  (vs : List V) (H : Hp) (Q : VK) : Prop
  | mk (n : Int) (l : Addr) (ps : List Str) (h0 : vs = [.int n, .ref l]) (h1 : H l = some (.lst (ps.map V.str))) (h2 : a6 ps) (h3 : 2 ≤ ps.length) (h4 : ∀ (v : V) (H' : Hp), aj H H' → cV ps H' v → Q v H')
def jk  : Sp := fun vs H Q _ => sU  vs H Q
inductive vF  (vs : List V) (H : Hp) (Q : VK) : Prop
  | mk (n : Int) (l : Addr) (ps : List Str) (h0 : vs = [.int n, .ref l]) (h1 : H l = some (.lst (ps.map V.str))) (h2 : a6 ps) (h3 : ∀ (v : V) (H' : Hp), aj H H' → dE ps H' v → Q v H')
def mw  : Sp := fun vs H Q _ => vF  vs H Q
inductive tj  (K : PySem.W.Frag) (vs : List V) (H : Hp) (Q : VK) : Prop
  | mk (a : Addr) (ns : List Int) (h0 : vs = [.ref a, .int 24]) (h1 : aE K H a (ns.map V.int)) (h2 : ns.length ≤ 63) (h3 : ∀ (r p s t y : Addr) (ps : List Str) (ss ts ys : List V) (H' : Hp), aj H H' → H r = none → H p = none → H s = none → H t = none → H y = none → [r, p, s, t, y].Nodup → H' r = some (.lst [.ref p, .ref s, .ref t, .ref y]) → H' p = some (.lst (ps.map V.str)) → H' s = some (.lst ss) → H' t = some (.lst ts) → H' y = some (.lst ys) →     Parts H' ps ss ts ys → ts.length ≤ 60 → ys.length ≤ 60 → Du ps → Q (.ref r) H')
def lT  (K : PySem.W.Frag) : Sp := fun vs H Q _ => tj K vs H Q
section
variable {P : Program} {w : World} {K : PySem.W.Frag} {mg : Str → Option Value} {base : Heap} {kw C : Addr}
theorem pC : aB ["_law_cell", "_law_letters", "_law_number", "_law_many", "_law_stem", "_law_at", "_law_more", "_law_names_here", "_law_k", "_law_name"] ["_law_cell"] (ao gf) := {}
theorem oZ {f : Addr} {fd : FuncData} (D : Df K mg "_law_names" gf ["_law_cell"] f fd) (T : Txt K mg kw C) : Gd P w K mg base 1 "_law_names" mH := by
  refine J.a7 D pC (fun vs H Q E h => ?_) (fun X H vs Q E hh h => ?_)
  · obtain ⟨n, rfl, _⟩ := h
    rfl
  · obtain ⟨n, rfl, k⟩ := h
    have S0 := hh.sl 0 "_law_cell"
    have S1 := hh.sl 1 "_law_letters"
    have S2 := hh.sl 2 "_law_number"
    have S3 := hh.sl 3 "_law_many"
    have S4 := hh.sl 4 "_law_stem"
    have S5 := hh.sl 5 "_law_at"
    have S6 := hh.sl 6 "_law_more"
    have S7 := hh.sl 7 "_law_names_here"
    have S8 := hh.sl 8 "_law_k"
    have S9 := hh.sl 9 "_law_name"
    have B_range := hh.b T.b_range
    have hsz : sizeLine = 16777216 := sizeLine_eq
    refine ⟨_, (J.ai (J.set S1 hh.nd J.aM)
 (J.ai (J.set S2 hh.nd (J.au J.aQ (J.au J.cY (J.au J.bu (J.au J.aQ (J.rd S0) (J.au J.c7 J.ag J.ag)) J.ag) J.ag) J.ag))
 (J.ai (J.set S3 hh.nd (J.au J.aQ (J.rd S2) J.ag))
 (J.ai (J.set S4 hh.nd (J.bm PySem.F.plainAttrs_str PySem.F.slot_str_join PySem.F.type_str_join J.ma J.aM (J.af (J.et (sc := L2.ao gf) (N := ["_law_cell", "_law_letters", "_law_number", "_law_many", "_law_stem", "_law_at", "_law_more", "_law_names_here", "_law_k", "_law_name"]) (is := [1, 2]) (ns := ["_law_letters", "_law_number"]) hh.calm (J.eQ B_range (J.af (J.rd S3) J.ae)) {} (fun _ _ _ _ _ => (J.aK J.jE (J.xS (i := 0) rfl rfl (by decide) (by decide)) (J.au J.aQ (J.au J.bu (J.au J.aS (J.xS (i := 1) rfl rfl (by decide) (by decide)) J.ag) (J.au J.cY (J.au J.cY J.ag (J.vj rfl (by decide) (by decide))) (J.vj rfl (by decide) (by decide)))) J.ag) J.eV)) hh.hsc hh.hN) J.ae)))
 (J.ai (J.set S5 hh.nd (J.au J.aQ (J.au J.aS (J.rd S2) J.ag) (J.au J.bu (J.rd S3) J.ag)))
 (J.ai (J.set S6 hh.nd (J.aK J.jE (J.rd S1) (J.au J.aQ (J.au J.aS (J.rd S2) J.ag) J.ag) J.eV))
 (J.ai (J.set S7 hh.nd (J.bg J.ae))
 (J.ai (J.gN hh.own hh.calm (J.eQ B_range (J.af J.ag J.ae)) (J.qR S8 hh.nd)
 (J.ai (J.set S9 hh.nd (J.au J.dO (J.au J.dO (J.bU J.mn (J.rd S4) J.cM (J.cj (J.rd S5))) (J.aK J.jE (J.rd S1) (J.au J.aQ (J.au J.bu (J.au J.aS (J.rd S2) J.ag) (J.au J.cY J.ag (J.rd S8))) J.ag) J.eV)) (J.bU J.mn (J.rd S4) (J.cj (J.rd S5)) J.cM)))
 (J.ar (J.set S7 hh.nd (J.au J.cm (J.rd S7) (J.bg (J.af (J.rd S9) (J.af (J.au J.dO (J.rd S9) (J.rd S6)) J.ae))))))))
 (J.ar (J.aw (J.rd S7))))))))))), ?_⟩
    refine ⟨_, rfl, _, _, rfl, rfl, ⟨by decide, by decide, by decide⟩, _, _, rfl, rfl, (by show (0 : Int) < 10 ^ Int.toNat 15; decide +kernel), _, _, rfl, rfl, _, _, rfl, rfl, .inr ⟨by decide, by decide⟩, _, _, rfl, rfl, (by show (0 : Int) < 2147483647; decide), ?_⟩
    dsimp only
    generalize (n % 10 ^ Int.toNat 15 + 7) * 48271 % 2147483647 = N
    refine ⟨_, rfl, _, _, rfl, rfl, (by show (0 : Int) < 11; decide), ?_⟩
    have m0 : 0 ≤ N % 11 := Int.emod_nonneg _ (by decide)
    have m1 : N % 11 < 11 := Int.emod_lt_of_pos _ (by decide)
    dsimp only
    generalize N % 11 = M at m0 m1
    have a22 : ∀ x : Int, 0 ≤ x % 22 ∧ x % 22 < 22 := fun x => ⟨Int.emod_nonneg _ (by decide), Int.emod_lt_of_pos _ (by decide)⟩
    refine ⟨rfl, _, rfl, M, rfl, by omega, by omega, nM (lo := 0) (n := M.toNat) (fun v => match v with | .int i => .str ⟨#[dj ((N / 11 + 5 * i * i) % 22)]⟩ | _ => .non) (by omega) (fun i H2 Q' hi sm q' => ?_) (fun D' hD => ?_)⟩
    · refine ⟨_, rfl, _, rfl, _, _, rfl, rfl, ⟨by decide, by decide⟩, _, rfl, _, _, rfl, rfl, .inl ⟨by decide, by decide⟩, _, rfl, _, _, rfl, rfl, .inr ⟨by omega, by omega⟩, _, _, rfl, rfl, _, _, rfl, rfl, (by show (0 : Int) < 22; decide), lets, _, _, rfl, rfl, (by show lets.length ≤ sizeLine; decide +kernel), (eU (a22 _).1 (a22 _).2).1, q'⟩
    · refine ⟨"", D', (List.range M.toNat).map fun (i : Nat) => (⟨#[dj ((N / 11 + 5 * (0 + (i : Int)) * (0 + (i : Int))) % 22)]⟩ : Str), rfl, rfl, aE.of (aa.trans (by rw [List.map_map]; rfl)), ?_, ?_⟩
      · have l1 : ∀ zs : List Str, (∀ z ∈ zs, z.length = 1) → (zs.map (·.length)).sum = zs.length := fun zs => by
          induction zs with
          | nil => intro _; rfl
          | cons z r ih => intro hz; rw [List.map_cons, List.sum_cons, ih fun y hy => hz y (List.mem_cons_of_mem _ hy), hz z (List.mem_cons_self ..), List.length_cons]; omega
        rw [l1 _ (fun z hz => by obtain ⟨i, _, rfl⟩ := List.mem_map.mp hz; rfl), List.length_map, List.length_range]
        have : ("" : Str).length = 0 := by decide +kernel
        rw [this]
        omega
      · generalize hzs : (List.range M.toNat).map (fun (i : Nat) => (⟨#[dj ((N / 11 + 5 * (0 + (i : Int)) * (0 + (i : Int))) % 22)]⟩ : Str)) = zs
        have one : ∀ z ∈ zs, z.length = 1 ∧ fA z := fun z hz => by
          rw [← hzs] at hz
          obtain ⟨i, _, rfl⟩ := List.mem_map.mp hz
          exact ⟨rfl, p8 (eU (a22 _).1 (a22 _).2).2⟩
        have zl : zs.length = M.toNat := by rw [← hzs, List.length_map, List.length_range]
        have sl : (Txt.join "" zs).length = M.toNat := (PySem.W.KT.join_ones zs fun z hz => (one z hz).1).trans zl
        have sL : fA (Txt.join "" zs) := by
          show fA (Builtin.Str.glued "" zs)
          rw [StrLaws.glued_eq_join]
          exact mU "" (fun c hc => by have : c ∈ ([] : List Nat) := hc; cases this) zs fun z hz => (one z hz).2
        have sZ : M.toNat = 10 → ¬ iG (Txt.join "" zs) := fun m10 hz => by
          have hz : iG (Builtin.Str.glued "" zs) := hz
          rw [StrLaws.glued_eq_join] at hz
          have at_ : ∀ i : Nat, i < 10 → dj ((N / 11 + 5 * (0 + (i : Int)) * (0 + (i : Int))) % 22) = 122 := fun i hi => by
            have m : (⟨#[dj ((N / 11 + 5 * (0 + (i : Int)) * (0 + (i : Int))) % 22)]⟩ : Str) ∈ zs := by
              rw [← hzs]
              exact List.mem_map.mpr ⟨i, List.mem_range.mpr (by omega), rfl⟩
            exact kH hz _ m _ (.head _)
          have e := kZ (a22 _).1 (a22 _).2 (a22 _).1 (a22 _).2 ((at_ 0 (by decide)).trans (at_ 1 (by decide)).symm)
          have e : (N / 11 + 5 * (0 + ((0 : Nat) : Int)) * (0 + ((0 : Nat) : Int))) % 22 = (N / 11 + 5 * (0 + ((1 : Nat) : Int)) * (0 + ((1 : Nat) : Int))) % 22 := e
          generalize N / 11 = x at e
          omega
        rw [← sl] at sZ
        generalize Txt.join "" zs = stem at sl sL sZ
        have sz : (upd H D' (.lst (zs.map V.str))) = (upd H D' (.lst (zs.map V.str))) := rfl
        refine ⟨_, rfl, _, _, rfl, rfl, ⟨by decide, by decide⟩, _, rfl, _, _, rfl, rfl, _, _, rfl, rfl, (by omega), ?_⟩
        have t0 : 0 ≤ N / 276 % (M + 1) := Int.emod_nonneg _ (by omega)
        have t1 : N / 276 % (M + 1) < M + 1 := Int.emod_lt_of_pos _ (by omega)
        dsimp only
        generalize N / 276 % (M + 1) = A at t0 t1
        have aA : ((A.toNat : Nat) : Int) = A := Int.toNat_of_nonneg t0
        have aL : A.toNat ≤ stem.length := by omega
        have s10 : stem.length ≤ 10 := by
          clear aA aL t0 t1
          omega
        clear sl t1 m0 m1 zl
        refine ⟨_, rfl, _, rfl, _, _, rfl, rfl, ⟨by decide, by decide⟩, _, _, rfl, rfl, (by show (0 : Int) < 22; decide), lets, _, _, rfl, rfl, (by show lets.length ≤ sizeLine; decide +kernel), (eU (a22 _).1 (a22 _).2).1, ?_⟩
        generalize hmr : dj (N / 13 % 22) = mr
        have mrl : mr ∈ lets.cps.toList := by rw [← hmr]; exact (eU (a22 _).1 (a22 _).2).2
        refine ⟨by show 0 ≤ sizeLine; decide, fun p0 hp0 => ?_⟩
        have sm0 := (aj.upd (o := .lst ((List.range M.toNat).map fun (i : Nat) => V.str ⟨#[dj ((N / 11 + 5 * (0 + (i : Int)) * (0 + (i : Int))) % 22)]⟩)) hD).trans (aj.upd (o := .lst []) hp0)
        have h0n : H p0 = none := (aj.upd (o := .lst ((List.range M.toNat).map fun (i : Nat) => V.str ⟨#[dj ((N / 11 + 5 * (0 + (i : Int)) * (0 + (i : Int))) % 22)]⟩)) hD).free hp0
        let fN : Nat → Str := fun j => putIn stem A (dj ((N / 7 + 3 * (0 + (j : Int))) % 22))
        have fl : ∀ j, (fN j).length = stem.length + 1 := fun j => by
          show (putIn stem A _).length = _
          rw [← aA]
          exact qt aL
        refine ⟨12, rfl, by decide, by decide, kF (lo := 0) (n := 12) (fun i σ H2 => ∃ (l : Addr) (a b : Option V), σ = [some (.int n), some (.str lets), some (.int N), some (.int M), some (.str stem), some (.int A), some (.str ⟨#[mr]⟩), some (.ref l), a, b] ∧ aj H H2 ∧ H l = none ∧ H2 l = some (.lst ((kb fN ⟨#[mr]⟩ i).map V.str)))
          ⟨p0, none, none, rfl, sm0, h0n, aa⟩ ?_ ?_⟩
        · rintro i σ H2 hi ⟨l, a, b, rfl, sm, hln, hl⟩
          refine ⟨_, rfl, _, rfl, _, rfl, stem, rfl, by omega, _, rfl, _, rfl, _, _, rfl, rfl, ⟨by decide, by decide⟩, _, rfl, _, _, rfl, rfl, .inl ⟨by decide, by decide⟩, _, _, rfl, rfl, _, _, rfl, rfl, (by show (0 : Int) < 22; decide), lets, _, _, rfl, rfl, (by show lets.length ≤ sizeLine; decide +kernel), (eU (a22 _).1 (a22 _).2).1, ?_⟩
          have c1 := fO stem none (some A)
          have c2 := fO stem (some A) none
          have o1 : ∀ c : Nat, (⟨#[c]⟩ : Str).length = 1 := fun _ => rfl
          refine ⟨_, _, rfl, rfl, (by rw [o1]; omega), _, rfl, _, rfl, _, rfl, stem, rfl, by omega, _, _, rfl, rfl, (by rw [iH, o1]; omega), ?_⟩
          have hlenN := fl i
          have gl := kj fN ⟨#[mr]⟩ i
          refine ⟨_, rfl, _, rfl, _, rfl, _, rfl, _, _, rfl, rfl, (by rw [show ((jg stem none (some A) ++ (⟨#[dj ((N / 7 + 3 * (0 + (i : Int))) % 22)]⟩ : Str)) ++ jg stem (some A) none).length = stem.length + 1 from hlenN, o1]; omega), by show 2 ≤ sizeLine; decide, fun q hq => ?_⟩
          refine ⟨l, q, _, _, rfl, rfl, aE.of ((aj.upd hq) _ _ hl), aE.of aa, (by rw [List.length_map, gl]; show 2 * i + 2 ≤ _; omega), fun l' hl' => ?_⟩
          refine ⟨l', _, _, rfl, (sm.trans (aj.upd hq)).trans (aj.upd hl'), (sm.trans (aj.upd hq)).free hl', ?_⟩
          rw [aa]
          show some (HO.lst ((kb fN ⟨#[mr]⟩ i).map V.str ++ [V.str (fN i), V.str (fN i ++ ⟨#[mr]⟩)])) = some (HO.lst ((kb fN ⟨#[mr]⟩ i ++ [fN i, fN i ++ ⟨#[mr]⟩]).map V.str))
          rw [List.map_append]
          rfl
        · rintro σ H2 ⟨l, a, b, rfl, sm, hln, hl⟩
          refine ⟨_, rfl, k l _ H2 sm hln hl (uR fN ⟨#[mr]⟩ (stem.length + 1) fl (fun j => ?_) (by omega) (by omega) rfl (p8 mrl) (fun j q hj hq e => ?_)) (fun z hz e => ?_)⟩
          · show fA (putIn stem A _)
            rw [← aA]
            exact rJ aL sL (eU (a22 _).1 (a22 _).2).2
          · have e' : putIn stem A (dj ((N / 7 + 3 * (0 + (j : Int))) % 22)) = putIn stem A (dj ((N / 7 + 3 * (0 + (q : Int))) % 22)) := e
            rw [← aA] at e'
            have e2 := kZ (a22 _).1 (a22 _).2 (a22 _).1 (a22 _).2 (rk aL e')
            omega
          · obtain ⟨j, _, ej⟩ := hV fN ⟨#[mr]⟩ z 12 hz
            have flj := fl j
            have o1 : (⟨#[mr]⟩ : Str).length = 1 := rfl
            have l12 : z.length = 12 := by rw [e]; exact ye
            rcases ej with ej | ej
            · rw [ej] at l12
              omega
            · rw [ej, iH, flj, o1] at l12
              have az : iG (fN j ++ ⟨#[mr]⟩) := by
                rw [← ej, e]
                exact wB
              have az : iG (putIn stem A (dj ((N / 7 + 3 * (0 + (j : Int))) % 22))) := (iu az).1
              rw [← aA] at az
              exact sZ (by omega) (pq aL az)
theorem qo : aB ["_law_number", "_law_kind"] ["_law_number"] (ao jG) := {}
theorem rH {f : Addr} {fd : FuncData} (D : Df K mg "_law_hour" jG ["_law_number"] f fd) : Gd P w K mg base 1 "_law_hour" fY := by
  refine J.a7 D qo (fun vs H Q E h => ?_) (fun X H vs Q E hh h => ?_)
  · obtain ⟨n, rfl, _⟩ := h
    rfl
  · obtain ⟨n, rfl, k⟩ := h
    have S0 := hh.sl 0 "_law_number"
    have S1 := hh.sl 1 "_law_kind"
    have big : (10 : Int) ^ Int.toNat 18 = 1000000000000000000 := by decide +kernel
    have r3 : 0 ≤ n / 8 % 3 ∧ n / 8 % 3 < 3 := ⟨Int.emod_nonneg _ (by decide), Int.emod_lt_of_pos _ (by decide)⟩
    have r12 : 0 ≤ n / 8 % 12 ∧ n / 8 % 12 < 12 := ⟨Int.emod_nonneg _ (by decide), Int.emod_lt_of_pos _ (by decide)⟩
    have rb : 0 ≤ n / 8 % ((10 : Int) ^ Int.toNat 18 + 1) ∧ n / 8 % ((10 : Int) ^ Int.toNat 18 + 1) < (10 : Int) ^ Int.toNat 18 + 1 := ⟨Int.emod_nonneg _ (by decide +kernel), Int.emod_lt_of_pos _ (by decide +kernel)⟩
    refine ⟨_, (J.ai (J.set S1 hh.nd (J.au J.aQ (J.rd S0) J.ag))
 (J.ai (J.aN (J.aJ J.bq (J.rd S1) J.ag (L2.aH _))
 (J.ar (J.aw (J.au J.gu (J.au J.c7 J.ag J.ag) (J.au J.aQ (J.au J.aS (J.rd S0) J.ag) J.ag))))
 J.aF)
 (J.ai (J.aN (J.aJ J.bq (J.rd S1) J.ag (L2.aH _))
 (J.ar (J.aw (J.au J.aQ (J.au J.aS (J.rd S0) J.ag) (J.au J.bu (J.au J.c7 J.ag J.ag) J.ag))))
 J.aF)
 (J.ar (J.aw (J.au J.aQ (J.au J.aS (J.rd S0) J.ag) J.ag)))))), ?_⟩
    refine ⟨_, rfl, _, _, rfl, rfl, (by show (0 : Int) < 8; decide), ?_⟩
    refine ⟨_, rfl, rfl, _, rfl, ba (fun _ => ?_) (fun _ => ?_)⟩
    · exact ⟨_, _, rfl, rfl, ⟨by decide, by decide, by decide⟩, _, rfl, _, _, rfl, rfl, ⟨by decide, by decide⟩, _, _, rfl, rfl, (by show (0 : Int) < 3; decide), _, _, rfl, rfl, k _ ⟨by omega, by omega⟩⟩
    refine ⟨_, rfl, rfl, _, rfl, ba (fun _ => ?_) (fun _ => ?_)⟩
    · exact ⟨_, rfl, _, _, rfl, rfl, ⟨by decide, by decide⟩, _, _, rfl, rfl, ⟨by decide, by decide, by decide⟩, _, _, rfl, rfl, _, _, rfl, rfl, (by show (0 : Int) < 10 ^ Int.toNat 18 + 1; decide +kernel), k _ ⟨rb.1, by omega⟩⟩
    · exact ⟨_, rfl, _, _, rfl, rfl, ⟨by decide, by decide⟩, _, _, rfl, rfl, (by show (0 : Int) < 12; decide), k _ ⟨by omega, by omega⟩⟩
theorem qM : aB ["_law_number", "_law_names_here"] ["_law_number", "_law_names_here"] (ao iA) := {}
theorem rg {f : Addr} {fd : FuncData} (D : Df K mg "_law_tale" iA ["_law_number", "_law_names_here"] f fd) (T : Txt K mg kw C) : Gd P w K mg base 1 "_law_tale" lE := by
  refine J.a7 D qM (fun vs H Q E h => ?_) (fun X H vs Q E hh h => ?_)
  · obtain ⟨n, l, us, rfl, _⟩ := h
    rfl
  · obtain ⟨n, l, us, rfl, hl, hU, k⟩ := h
    have S0 := hh.sl 0 "_law_number"
    have S1 := hh.sl 1 "_law_names_here"
    have B_range := hh.b T.b_range
    have B_tuple := hh.b T.b_tuple
    have r6 : 0 ≤ n % 6 ∧ n % 6 < 6 := ⟨Int.emod_nonneg _ (by decide), Int.emod_lt_of_pos _ (by decide)⟩
    have hsz : sizeLine = 16777216 := sizeLine_eq
    have u24 := hU.len
    have at24 : ∀ x : Int, sH (us.map V.str) (x % 24) = some (.str (us.getD (x % 24).toNat "")) ∧ us.getD (x % 24).toNat "" ∈ us := fun x => by
      have h0 : 0 ≤ x % 24 := Int.emod_nonneg _ (by decide)
      have h1 : x % 24 < 24 := Int.emod_lt_of_pos _ (by decide)
      have hj : (x % 24).toNat < us.length := by omega
      have eg : us.getD (x % 24).toNat "" = us[(x % 24).toNat] := by
        rw [List.getD_eq_getElem?_getD, List.getElem?_eq_getElem hj]
        rfl
      have e : (((x % 24).toNat : Nat) : Int) = x % 24 := Int.toNat_of_nonneg h0
      have := cA (xs := us.map V.str) (j := (x % 24).toNat) (v := V.str us[(x % 24).toNat]) (by rw [List.getElem?_map, List.getElem?_eq_getElem hj]; rfl)
      rw [e] at this
      rw [eg]
      exact ⟨this, List.getElem_mem hj⟩
    refine ⟨_, (J.ar (J.aw (J.fU B_tuple J.eA L2.eP (J.af (J.et (sc := L2.ao iA) (N := ["_law_number", "_law_names_here"]) (is := [0, 1]) (ns := ["_law_number", "_law_names_here"]) hh.calm (J.eQ B_range (J.af (J.au J.bu J.ag (J.au J.aQ (J.rd S0) J.ag)) J.ae)) {} (fun _ _ _ _ _ => (J.aK J.uO (J.xS (i := 1) rfl rfl (by decide) (by decide)) (J.au J.aQ (J.au J.aS (J.xS (i := 0) rfl rfl (by decide) (by decide)) (J.au J.bu (J.au J.cY J.ag (J.vj rfl (by decide) (by decide))) J.ag)) J.ag) J.eV)) hh.hsc hh.hN) J.ae)))), ?_⟩
    refine ⟨_, rfl, _, _, rfl, rfl, (by show (0 : Int) < 6; decide), _, _, rfl, rfl, 1 + n % 6, rfl, by omega, by omega, nM (lo := 0) (n := (1 + n % 6).toNat) (fun v => match v with | .int i => .str (us.getD (n / (3 * i + 7) % 24).toNat "") | _ => .non) (by omega) (fun i H2 Q' hi sm q' => ?_) (fun D' hD => ?_)⟩
    · exact ⟨_, rfl, _, rfl, _, rfl, _, _, rfl, rfl, .inl ⟨by decide, by decide⟩, _, _, rfl, rfl, _, _, rfl, rfl, ⟨by omega, by omega⟩, _, _, rfl, rfl, (by show (0 : Int) < 24; decide), l, _, _, _, rfl, rfl, aE.of (sm _ _ hl), (at24 _).1, q'⟩
    · refine ⟨D', _, rfl, .inl ⟨aE.of aa, fun t ht => ?_⟩⟩
      refine k t ((List.range (1 + n % 6).toNat).map fun (i : Nat) => us.getD (n / (3 * (0 + (i : Int)) + 7) % 24).toNat "") _ ((aj.upd hD).trans (aj.upd ht)) (aa.trans (by rw [List.map_map]; rfl)) ?_ ?_ ?_
      · rw [List.length_map, List.length_range]; omega
      · rw [List.length_map, List.length_range]; omega
      · intro x hx
        obtain ⟨i, _, rfl⟩ := List.mem_map.mp hx
        exact hU.nm _ (at24 _).2
theorem gk {ps : List Str} {i : Int} (h0 : 0 ≤ i) (h1 : i < ps.length) : ∃ z, sH (ps.map V.str) i = some (.str z) ∧ ps[i.toNat]? = some z ∧ z ∈ ps := by
  have hj : i.toNat < ps.length := by omega
  have e : ((i.toNat : Nat) : Int) = i := Int.toNat_of_nonneg h0
  have := cA (xs := ps.map V.str) (j := i.toNat) (v := V.str ps[i.toNat]) (by rw [List.getElem?_map, List.getElem?_eq_getElem hj]; rfl)
  rw [e] at this
  exact ⟨ps[i.toNat], this, List.getElem?_eq_getElem hj, List.getElem_mem hj⟩
theorem pX {ps : List Str} (nd : ps.Nodup) {i j : Int} {y z : Str} (hi : ps[i.toNat]? = some y) (hj : ps[j.toNat]? = some z) (i0 : 0 ≤ i) (j0 : 0 ≤ j) (ne : i ≠ j) : y ≠ z := by
  rintro rfl
  obtain ⟨a, e1⟩ := List.getElem?_eq_some_iff.mp hi
  obtain ⟨b, e2⟩ := List.getElem?_eq_some_iff.mp hj
  have := (List.getElem_inj nd).mp (e1.trans e2.symm)
  omega
theorem qX : aB ["_law_number", "_law_persons", "_law_one", "_law_other"] ["_law_number", "_law_persons"] (ao jS) := {}
theorem rB {f : Addr} {fd : FuncData} (D : Df K mg "_law_talk" jS ["_law_number", "_law_persons"] f fd) (T : Txt K mg kw C) (G__law_hour : Gd P w K mg base 1 "_law_hour" fY) : Gd P w K mg base 2 "_law_talk" jk := by
  refine J.a7 D qX (fun vs H Q E h => ?_) (fun X H vs Q E hh h => ?_)
  · obtain ⟨n, l, ps, rfl, _⟩ := h
    rfl
  · obtain ⟨n, l, ps, rfl, hl, hP, h2, k⟩ := h
    have S0 := hh.sl 0 "_law_number"
    have S1 := hh.sl 1 "_law_persons"
    have S2 := hh.sl 2 "_law_one"
    have S3 := hh.sl 3 "_law_other"
    have B_len := hh.b T.b_len
    have C__law_hour := hh.c G__law_hour
    have pl : (ps.map V.str).length = ps.length := List.length_map ..
    have hi := hP.hi
    refine ⟨_, (J.ai (J.set S2 hh.nd (J.au J.aQ (J.rd S0) (J.blt B_len J.aD L2.aZ (J.af (J.rd S1) J.ae))))
 (J.ai (J.set S3 hh.nd (J.au J.aQ (J.au J.bu (J.au J.bu (J.rd S2) J.ag) (J.au J.aQ (J.au J.aS (J.rd S0) J.ag) (J.au J.gu (J.blt B_len J.aD L2.aZ (J.af (J.rd S1) J.ae)) J.ag))) (J.blt B_len J.aD L2.aZ (J.af (J.rd S1) J.ae))))
 (J.ar (J.aw (J.bh (J.af (J.cn C__law_hour (J.af (J.au J.aS (J.rd S0) J.ag) J.ae)) (J.af (J.aK J.aG (J.rd S1) (J.rd S2) J.bY) (J.af (J.aK J.aG (J.rd S1) (J.rd S3) J.bY) (J.af (J.aK J.aG (J.bg (J.af J.aM (J.af J.aM (J.af J.aM J.ae)))) (J.au J.aQ (J.au J.aS (J.rd S0) J.ag) J.ag) J.eV) J.ae))))))))), ?_⟩
    refine ⟨_, rfl, _, rfl, l, _, rfl, .inl (aE.of hl), _, _, rfl, rfl, (by omega), ?_⟩
    refine ⟨_, rfl, _, _, rfl, rfl, _, rfl, _, _, rfl, rfl, ⟨by decide, by decide⟩, _, rfl, l, _, rfl, .inl (aE.of hl), _, _, rfl, rfl, _, _, rfl, rfl, (by omega), _, _, rfl, rfl, _, rfl, l, _, rfl, .inl (aE.of hl), _, _, rfl, rfl, (by omega), ?_⟩
    dsimp only
    rw [pl]
    have o0 : 0 ≤ n % (ps.length : Int) := Int.emod_nonneg _ (by omega)
    have o1 : n % (ps.length : Int) < ps.length := Int.emod_lt_of_pos _ (by omega)
    have r0 : 0 ≤ n / 24 % ((ps.length : Int) - 1) := Int.emod_nonneg _ (by omega)
    have r1 : n / 24 % ((ps.length : Int) - 1) < (ps.length : Int) - 1 := Int.emod_lt_of_pos _ (by omega)
    generalize hq : (n % (ps.length : Int) + 1 + n / 24 % ((ps.length : Int) - 1)) % (ps.length : Int) = q
    have q0 : 0 ≤ q := by rw [← hq]; exact Int.emod_nonneg _ (by omega)
    have q1 : q < ps.length := by rw [← hq]; exact Int.emod_lt_of_pos _ (by omega)
    have qn : q ≠ n % (ps.length : Int) := by
      rw [← hq]
      have := nJ (n := n % (ps.length : Int)) (L := ps.length) (by omega) r0 r1
      rw [Int.emod_emod] at this
      exact this
    obtain ⟨y, ay, gy, my⟩ := gk o0 o1
    obtain ⟨z, az, gz, mz⟩ := gk q0 q1
    have yz : y ≠ z := pX hP.nd gy gz o0 q0 fun e => qn e.symm
    obtain ⟨wv, hw, hwm⟩ := mT (xs := [V.str "both", V.str "both", V.str "one"]) (i := n / 200 % 3) (Int.emod_nonneg _ (by decide)) (by
      have : n / 200 % 3 < 3 := Int.emod_lt_of_pos _ (by decide)
      show _ < (3 : Int)
      omega)
    have hwy : ∃ wy : Str, wv = .str wy ∧ (wy = "both" ∨ wy = "one") := by
      simp only [List.mem_cons, List.not_mem_nil, or_false] at hwm
      rcases hwm with rfl | rfl | rfl
      · exact ⟨_, rfl, .inl rfl⟩
      · exact ⟨_, rfl, .inl rfl⟩
      · exact ⟨_, rfl, .inr rfl⟩
    obtain ⟨wy, rfl, hwy⟩ := hwy
    refine ⟨_, rfl, _, _, rfl, rfl, ⟨by decide, by decide⟩, n / 600, rfl, fun h hho => ?_⟩
    refine ⟨_, rfl, _, rfl, l, _, _, _, rfl, rfl, aE.of hl, ay, _, rfl, _, rfl, l, _, _, _, rfl, rfl, aE.of hl, az, by show 3 ≤ sizeLine; decide, fun b3 hb3 => ?_⟩
    refine ⟨_, rfl, _, _, rfl, rfl, ⟨by decide, by decide⟩, _, _, rfl, rfl, (by show (0 : Int) < 3; decide), b3, _, _, _, rfl, rfl, aE.of aa, hw, by show 4 ≤ sizeLine; decide, fun t ht => ?_⟩
    exact k (.ref t) _ ((aj.upd hb3).trans (aj.upd ht)) ⟨t, h, y, z, wy, rfl, aa, hho, my, mz, yz, hwy⟩
theorem nQ : aB ["_law_number", "_law_persons", "_law_person", "_law_kind", "_law_hour_here", "_law_end"] ["_law_number", "_law_persons"] (ao gQ) := {}
theorem nE {f : Addr} {fd : FuncData} (D : Df K mg "_law_saying" gQ ["_law_number", "_law_persons"] f fd) (T : Txt K mg kw C) (G__law_hour : Gd P w K mg base 1 "_law_hour" fY) : Gd P w K mg base 2 "_law_saying" mw := by
  refine J.a7 D nQ (fun vs H Q E h => ?_) (fun X H vs Q E hh h => ?_)
  · obtain ⟨n, l, ps, rfl, _⟩ := h
    rfl
  · obtain ⟨n, l, ps, rfl, hl, hP, k⟩ := h
    have S0 := hh.sl 0 "_law_number"
    have S1 := hh.sl 1 "_law_persons"
    have S2 := hh.sl 2 "_law_person"
    have S3 := hh.sl 3 "_law_kind"
    have S4 := hh.sl 4 "_law_hour_here"
    have S5 := hh.sl 5 "_law_end"
    have B_int := hh.b T.b_int
    have B_len := hh.b T.b_len
    have B_max := hh.b T.b_max
    have B_min := hh.b T.b_min
    have C__law_hour := hh.c G__law_hour
    have pl : (ps.map V.str).length = ps.length := List.length_map ..
    have hi := hP.hi
    have lo := hP.lo
    have o0 : 0 ≤ n % (ps.length : Int) := Int.emod_nonneg _ (by omega)
    have o1 : n % (ps.length : Int) < ps.length := Int.emod_lt_of_pos _ (by omega)
    obtain ⟨y, ay, gy, my⟩ := gk o0 o1
    refine ⟨_, (J.ai (J.set S2 hh.nd (J.aK J.aG (J.rd S1) (J.au J.aQ (J.rd S0) (J.blt B_len J.aD L2.aZ (J.af (J.rd S1) J.ae))) J.eV))
 (J.ai (J.set S3 hh.nd (J.au J.aQ (J.au J.aS (J.rd S0) J.ag) J.ag))
 (J.ai (J.set S4 hh.nd (J.cn C__law_hour (J.af (J.au J.aS (J.rd S0) J.ag) J.ae)))
 (J.ai (J.aN (J.aJ J.bq (J.rd S3) J.ag (L2.aH _))
 (J.ar (J.aw (J.bh (J.af J.aM (J.af (J.rd S2) (J.af (J.rd S4) J.ae))))))
 J.aF)
 (J.ai (J.aN (J.aJ J.bq (J.rd S3) J.ag (L2.aH _))
 (J.ar (J.aw (J.bh (J.af J.aM (J.af (J.rd S2) (J.af (J.aK J.aG (J.bg (J.af (J.rd S4) (J.af J.cS J.ae))) (J.fU B_int J.iT L2.lA (J.af (J.bp J.bq (J.au J.aQ (J.au J.aS (J.rd S0) J.ag) J.ag) J.ag (L2.aH _)) J.ae)) J.vf) J.ae))))))
 J.aF)
 (J.ai (J.aN (J.aJ J.bq (J.rd S3) J.ag (L2.aH _))
 (J.ai (J.set S5 hh.nd (J.cn C__law_hour (J.af (J.au J.aS (J.rd S0) J.ag) J.ae)))
 (J.ar (J.aw (J.bh (J.af J.aM (J.af (J.rd S2) (J.af (J.blt B_min (J.iJ hh.calm) L2.zo (J.af (J.rd S4) (J.af (J.rd S5) J.ae))) (J.af (J.blt B_max (J.i3 hh.calm) L2.yW (J.af (J.rd S4) (J.af (J.rd S5) J.ae))) J.ae))))))))
 J.aF)
 (J.ai (J.aN (J.dw (J.fS (J.aJ J.bq (J.rd S3) J.ag (L2.aH _)) (J.dQ (J.aJ J.j3 (J.blt B_len J.aD L2.aZ (J.af (J.rd S1) J.ae)) J.ag (L2.aH _)))))
 (J.ar (J.aw (J.bh (J.af J.aM (J.af (J.rd S2) (J.af (J.aK J.aG (J.rd S1) (J.au J.aQ (J.au J.bu (J.au J.bu (J.rd S0) J.ag) (J.au J.aQ (J.au J.aS (J.rd S0) J.ag) (J.au J.gu (J.blt B_len J.aD L2.aZ (J.af (J.rd S1) J.ae)) J.ag))) (J.blt B_len J.aD L2.aZ (J.af (J.rd S1) J.ae))) J.eV) J.ae))))))
 J.aF)
 (J.ar (J.aw (J.bh (J.af J.aM (J.af (J.rd S2) (J.af (J.au J.aS (J.rd S4) J.ag) J.ae))))))))))))), ?_⟩
    refine ⟨_, rfl, _, rfl, _, rfl, l, _, rfl, .inl (aE.of hl), _, _, rfl, rfl, (by omega), l, _, _, _, rfl, rfl, aE.of hl, (by rw [pl]; exact ay), ?_⟩
    refine ⟨_, rfl, _, _, rfl, rfl, ⟨by decide, by decide⟩, _, _, rfl, rfl, (by show (0 : Int) < 5; decide), ?_⟩
    refine ⟨_, rfl, _, _, rfl, rfl, ⟨by decide, by decide⟩, n / 120, rfl, fun h hho => ?_⟩
    refine ⟨_, rfl, rfl, _, rfl, ba (fun _ => ?_) (fun _ => ?_)⟩
    · refine ⟨_, rfl, _, rfl, by show 3 ≤ sizeLine; decide, fun t ht => k (.ref t) _ (aj.upd ht) ⟨t, rfl, .inl ⟨y, h, aa, my, hho⟩⟩⟩
    refine ⟨_, rfl, rfl, _, rfl, ba (fun _ => ?_) (fun _ => ?_)⟩
    · refine ⟨_, rfl, _, rfl, by show 2 ≤ sizeLine; decide, fun b2 hb2 => ?_⟩
      obtain ⟨bv, hb, hbm⟩ := mT (xs := [V.int h, V.non]) (i := if decide (V.int (n / 7 % 9) = V.int 1) then 1 else 0) (by split <;> decide) (by show _ < (2 : Int); split <;> decide)
      have hbv : bv = .non ∨ ∃ h : Int, bv = .int h ∧ c4 h := by
        simp only [List.mem_cons, List.not_mem_nil, or_false] at hbm
        rcases hbm with rfl | rfl
        · exact .inr ⟨h, rfl, hho⟩
        · exact .inl rfl
      refine ⟨_, rfl, _, _, rfl, rfl, ⟨by decide, by decide⟩, _, _, rfl, rfl, (by show (0 : Int) < 9; decide), rfl, .inr ⟨_, rfl, b2, _, _, _, rfl, rfl, aE.of aa, hb, by show 3 ≤ sizeLine; decide, fun t ht => ?_⟩⟩
      exact k (.ref t) _ ((aj.upd hb2).trans (aj.upd ht)) ⟨t, rfl, .inr (.inl ⟨y, bv, aa, my, hbv⟩)⟩
    refine ⟨_, rfl, rfl, _, rfl, ba (fun _ => ?_) (fun _ => ?_)⟩
    · refine ⟨_, rfl, _, _, rfl, rfl, ⟨by decide, by decide⟩, n / 1000, rfl, fun h2 hho2 => ?_⟩
      refine ⟨_, rfl, _, rfl, _, rfl, _, _, rfl, _, rfl, _, rfl, _, _, rfl, by show 4 ≤ sizeLine; decide, fun t ht => ?_⟩
      refine k (.ref t) _ (aj.upd ht) ⟨t, rfl, .inr (.inr (.inl ⟨y, (if h2 < h then h2 else h), (if h2 > h then h2 else h), aa, my, ?_, ?_, ?_⟩))⟩
      · split
        · exact hho2
        · exact hho
      · split
        · exact hho2
        · exact hho
      · split <;> split <;> omega
    have last : ∀ (σ : St), True := fun _ => True.intro
    refine ⟨_, rfl, rfl, _, rfl, ba (fun _ => ?_) (fun _ => ?_)⟩
    · refine ⟨_, rfl, l, _, rfl, .inl (aE.of hl), _, _, rfl, rfl, _, rfl, ba (fun h2 => ?_) (fun h2 => ?_)⟩
      · have p2 : 2 ≤ ps.length := by
          rw [decide_eq_true_iff, pl] at h2
          omega
        have r0 : 0 ≤ n / 120 % ((ps.length : Int) - 1) := Int.emod_nonneg _ (by omega)
        have r1 : n / 120 % ((ps.length : Int) - 1) < (ps.length : Int) - 1 := Int.emod_lt_of_pos _ (by omega)
        have rn := nJ (n := n) (L := ps.length) (by omega) r0 r1
        generalize hq : (n + 1 + n / 120 % ((ps.length : Int) - 1)) % (ps.length : Int) = q at rn
        have q0 : 0 ≤ q := by rw [← hq]; exact Int.emod_nonneg _ (by omega)
        have q1 : q < ps.length := by rw [← hq]; exact Int.emod_lt_of_pos _ (by omega)
        obtain ⟨z, az, gz, mz⟩ := gk q0 q1
        have yz : y ≠ z := pX hP.nd gy gz o0 q0 fun e => rn e.symm
        refine ⟨_, rfl, _, rfl, _, rfl, _, _, rfl, rfl, _, rfl, _, _, rfl, rfl, ⟨by decide, by decide⟩, _, rfl, l, _, rfl, .inl (aE.of hl), _, _, rfl, rfl, _, _, rfl, rfl, (by omega), _, _, rfl, rfl, _, rfl, l, _, rfl, .inl (aE.of hl), _, _, rfl, rfl, (by omega), l, _, _, _, rfl, rfl, aE.of hl, (by rw [pl, hq]; exact az), by show 3 ≤ sizeLine; decide, fun t ht => ?_⟩
        exact k (.ref t) _ (aj.upd ht) ⟨t, rfl, .inr (.inr (.inr ⟨y, z, aa, my, mz, yz⟩))⟩
      · refine ⟨_, rfl, _, rfl, _, _, rfl, rfl, ⟨by decide, by decide⟩, by show 3 ≤ sizeLine; decide, fun t ht => k (.ref t) _ (aj.upd ht) ⟨t, rfl, .inr (.inl ⟨y, _, aa, my, .inr ⟨_, rfl, ?_⟩⟩)⟩⟩
        have := hho.1
        have := hho.2
        exact ⟨by omega, by omega⟩
    · refine ⟨_, rfl, _, rfl, _, _, rfl, rfl, ⟨by decide, by decide⟩, by show 3 ≤ sizeLine; decide, fun t ht => k (.ref t) _ (aj.upd ht) ⟨t, rfl, .inr (.inl ⟨y, _, aa, my, .inr ⟨_, rfl, ?_⟩⟩)⟩⟩
      have := hho.1
      have := hho.2
      exact ⟨by omega, by omega⟩
theorem qH : aB ["_law_script", "_law_most", "_law_cells", "_law_names_here", "_law_persons", "_law_sights", "_law_talks", "_law_sayings", "_law_k", "_law_cell", "_law_number", "_law_kind", "_law_person"] ["_law_script", "_law_most"] (ao jU) := {}
theorem um (us : List Str) {k : Int} (h0 : 0 ≤ k) (h1 : k ≤ us.length) : ∃ vs : List Str, bj (us.map V.str) (some k) none = vs.map V.str ∧ vs.Sublist us ∧ vs.length = us.length - k.toNat := by
  refine ⟨_, kQ .., (List.take_sublist _ _).trans (List.drop_sublist _ _), ?_⟩
  have e : HT.eS us.length 0 (some k) = k.toNat := by
    show (if k < 0 then (k + (us.length : Int)).toNat else min k.toNat us.length) = _
    rw [if_neg (Int.not_lt.mpr h0)]
    exact Nat.min_eq_left (Int.toNat_le.mpr h1)
  rw [List.length_take, List.length_drop, HT.eG, e]
  exact Nat.min_self _
theorem uG (us : List Str) {k : Int} (h0 : 0 ≤ k) : ∃ vs : List Str, bj (us.map V.str) none (some k) = vs.map V.str ∧ vs.Sublist us ∧ vs.length = min k.toNat us.length := by
  refine ⟨_, kQ .., (List.take_sublist _ _).trans (List.drop_sublist _ _), ?_⟩
  have e : HT.eS us.length us.length (some k) = min k.toNat us.length := by
    show (if k < 0 then (k + (us.length : Int)).toNat else min k.toNat us.length) = _
    rw [if_neg (Int.not_lt.mpr h0)]
  rw [List.length_take, List.length_drop, HT.eG, e]
  exact Nat.min_eq_left (Nat.min_le_right _ _)
theorem qw {u l p : Nat} {c1 c2 : Int} (u24 : u = 24) (a : 0 ≤ c2 ∧ c2 < 5) (b : 0 ≤ c1 ∧ c1 < 24) (l1 : l = u - c2.toNat) (lp : p = min (1 + c1).toNat l) : 1 ≤ p ∧ p ≤ 24 := by
  rw [lp, l1, u24]
  refine ⟨Nat.le_min.mpr ⟨by omega, by omega⟩, Nat.le_trans (Nat.min_le_left _ _) (by omega)⟩
inductive wV (a cl nl p S Tt Y : Addr) (H5 : Hp) (ps : List Str) (n i : Nat) (σ : St) (H' : Hp) : Prop
  | mk (ss ts ys : List V) (e1 e2 e3 e4 e5 : Option V) (e : σ = [some (.ref a), some (.int 24), some (.ref cl), some (.ref nl), some (.ref p), some (.ref S), some (.ref Tt), some (.ref Y), e1, e2, e3, e4, e5])
      (hs : H' S = some (.lst ss)) (ht : H' Tt = some (.lst ts)) (hy : H' Y = some (.lst ys)) (kp : ∀ b o, H5 b = some o → b ≠ S → b ≠ Tt → b ≠ Y → H' b = some o)
      (ls : ss.length ≤ 24) (lt : ts.length ≤ i) (ly : ys.length ≤ i) (li : i ≤ n) (gs : ∀ v ∈ ss, ck ps H' v) (gt : ∀ v ∈ ts, cV ps H' v) (gy : ∀ v ∈ ys, dE ps H' v)
theorem both {G A : Prop} (g : G) (f : G → A) : A := f g
theorem qq {f : Addr} {fd : FuncData} (D : Df K mg "_law_book" jU ["_law_script", "_law_most"] f fd) (T : Txt K mg kw C) (G__law_hour : Gd P w K mg base 1 "_law_hour" fY) (G__law_names : Gd P w K mg base 1 "_law_names" mH) (G__law_tale : Gd P w K mg base 1 "_law_tale" lE)
    (G__law_talk : Gd P w K mg base 2 "_law_talk" jk) (G__law_saying : Gd P w K mg base 2 "_law_saying" mw) : Gd P w K mg base 3 "_law_book" (lT K) := by
  refine J.a7 D qH (fun vs H Q E h => ?_) (fun X H vs Q E hh h => ?_)
  · obtain ⟨a, ns, rfl, _⟩ := h
    rfl
  · obtain ⟨a, ns, rfl, hS, hlen, k⟩ := h
    have S0 := hh.sl 0 "_law_script"
    have S1 := hh.sl 1 "_law_most"
    have S2 := hh.sl 2 "_law_cells"
    have S3 := hh.sl 3 "_law_names_here"
    have S4 := hh.sl 4 "_law_persons"
    have S5 := hh.sl 5 "_law_sights"
    have S6 := hh.sl 6 "_law_talks"
    have S7 := hh.sl 7 "_law_sayings"
    have S8 := hh.sl 8 "_law_k"
    have S9 := hh.sl 9 "_law_cell"
    have S10 := hh.sl 10 "_law_number"
    have S11 := hh.sl 11 "_law_kind"
    have S12 := hh.sl 12 "_law_person"
    have B_enumerate := hh.b T.b_enumerate
    have B_len := hh.b T.b_len
    have C__law_hour := hh.c G__law_hour
    have C__law_names := hh.c G__law_names
    have C__law_saying := hh.c G__law_saying
    have C__law_tale := hh.c G__law_tale
    have C__law_talk := hh.c G__law_talk
    obtain rfl := hh.fK
    have hsz : sizeLine = 16777216 := sizeLine_eq
    refine ⟨_, (J.ai (J.set S2 hh.nd (J.au J.cm (J.rd S0) (J.bg (J.af J.ag (J.af J.ag (J.af J.ag J.ae))))))
 (J.ai (J.set S3 hh.nd (J.cn C__law_names (J.af (J.aK J.aG (J.rd S2) J.ag J.aP) J.ae)))
 (J.ai (J.set S4 hh.nd (J.bU J.de (J.bU J.de (J.rd S3) (J.cj (J.au J.aQ (J.aK J.aG (J.rd S2) J.ag J.aP) J.ag)) J.cM) J.cM (J.cj (J.au J.bu J.ag (J.au J.aQ (J.aK J.aG (J.rd S2) J.ag J.aP) (J.rd S1))))))
 (J.ai (J.set S5 hh.nd (J.bg J.ae))
 (J.ai (J.set S6 hh.nd (J.bg J.ae))
 (J.ai (J.set S7 hh.nd (J.bg J.ae))
 (J.ai (J.gN hh.own hh.calm (J.jA B_enumerate (J.af (J.bU J.de (J.rd S0) (J.cj J.ag) (J.cj J.ag)) J.ae)) (J.gC hh.calm (J.fP (J.qR S8 hh.nd) (J.fP (J.qR S9 hh.nd) J.fe)))
 (J.ai (J.set S10 hh.nd (J.au J.aQ (J.au J.cY (J.au J.bu (J.au J.aQ (J.rd S9) (J.au J.c7 J.ag J.ag)) (J.au J.cY (J.au J.cY J.ag (J.rd S8)) (J.rd S8))) J.ag) (J.au J.bu (J.au J.c7 J.ag J.ag) J.ag)))
 (J.ai (J.set S11 hh.nd (J.au J.aQ (J.rd S10) J.ag))
 (J.ar (J.aN (J.dw (J.fS (J.aJ J.j5 (J.rd S11) J.ag (L2.aH _)) (J.dQ (J.aJ J.j5 (J.blt B_len J.aD L2.aZ (J.af (J.rd S5) J.ae)) J.ag (L2.aH _)))))
 (J.ai (J.set S12 hh.nd (J.aK J.aG (J.rd S4) (J.au J.aQ (J.au J.aS (J.rd S10) J.ag) (J.blt B_len J.aD L2.aZ (J.af (J.rd S4) J.ae))) J.eV))
 (J.ar (J.kM (J.bm PySem.F.plainAttrs_list PySem.F.slot_list_append PySem.F.type_list_append J.cD (J.rd S5) (J.af (J.bh (J.af (J.rd S12) (J.af (J.cn C__law_hour (J.af (J.au J.aS (J.rd S10) J.ag) J.ae)) (J.af (J.cn C__law_tale (J.af (J.au J.aQ (J.au J.aS (J.rd S10) J.ag) (J.au J.c7 J.ag J.ag)) (J.af (J.rd S3) J.ae))) J.ae)))) J.ae)))))
 (J.ar (J.aN (J.dw (J.fS (J.aJ J.j5 (J.rd S11) J.ag (L2.aH _)) (J.dQ (J.aJ J.j3 (J.blt B_len J.aD L2.aZ (J.af (J.rd S4) J.ae)) J.ag (L2.aH _)))))
 (J.ar (J.kM (J.bm PySem.F.plainAttrs_list PySem.F.slot_list_append PySem.F.type_list_append J.cD (J.rd S6) (J.af (J.cn C__law_talk (J.af (J.au J.aS (J.rd S10) J.ag) (J.af (J.rd S4) J.ae))) J.ae))))
 (J.ar (J.kM (J.bm PySem.F.plainAttrs_list PySem.F.slot_list_append PySem.F.type_list_append J.cD (J.rd S7) (J.af (J.cn C__law_saying (J.af (J.au J.aS (J.rd S10) J.ag) (J.af (J.rd S4) J.ae))) J.ae)))))))))))
 (J.ar (J.aw (J.bg (J.af (J.rd S4) (J.af (J.rd S5) (J.af (J.rd S6) (J.af (J.rd S7) J.ae)))))))))))))), ?_⟩
    refine ⟨_, rfl, by show 3 ≤ sizeLine; decide, fun z3 hz3 => ?_⟩
    refine ⟨a, z3, _, _, rfl, rfl, (aj.upd hz3).seq hS, aE.of aa, (by rw [List.length_map]; show ns.length + 3 ≤ _; omega), fun cl hcl => ?_⟩
    have sc := (aj.upd (o := .lst [V.int 0, V.int 0, V.int 0]) hz3).trans (aj.upd (o := .lst (ns.map V.int ++ [V.int 0, V.int 0, V.int 0])) hcl)
    have hcells : upd (upd H z3 (.lst [V.int 0, V.int 0, V.int 0])) cl (.lst (ns.map V.int ++ [V.int 0, V.int 0, V.int 0])) cl = some (.lst (ns.map V.int ++ [V.int 0, V.int 0, V.int 0])) := aa
    generalize upd (upd H z3 (.lst [V.int 0, V.int 0, V.int 0])) cl (.lst (ns.map V.int ++ [V.int 0, V.int 0, V.int 0])) = H1 at sc hcells
    have cellAt : ∀ i : Nat, i < 3 → ∃ c : Int, sH (ns.map V.int ++ [V.int 0, V.int 0, V.int 0]) (i : Int) = some (.int c) := fun i hi => by
      obtain ⟨v, hv, hm⟩ := mT (xs := ns.map V.int ++ [V.int 0, V.int 0, V.int 0]) (i := (i : Int)) (by omega) (by rw [List.length_append]; show _ < (((ns.map V.int).length + 3 : Nat) : Int); omega)
      rw [List.mem_append] at hm
      rcases hm with hm | hm
      · obtain ⟨c, _, rfl⟩ := List.mem_map.mp hm
        exact ⟨c, hv⟩
      · simp only [List.mem_cons, List.not_mem_nil, or_false] at hm
        rcases hm with rfl | rfl | rfl <;> exact ⟨0, hv⟩
    obtain ⟨c0, hc0⟩ := cellAt 0 (by decide)
    obtain ⟨c1, hc1⟩ := cellAt 1 (by decide)
    obtain ⟨c2, hc2⟩ := cellAt 2 (by decide)
    refine ⟨_, rfl, cl, _, _, _, rfl, rfl, aE.of hcells, hc0, c0, rfl, fun nl us H2 s12 nln hnl hU hZ => ?_⟩
    have u24 := hU.len
    have k5 : 0 ≤ c2 % 5 ∧ c2 % 5 < 5 := ⟨Int.emod_nonneg _ (by decide), Int.emod_lt_of_pos _ (by decide)⟩
    have k24 : 0 ≤ c1 % 24 ∧ c1 % 24 < 24 := ⟨Int.emod_nonneg _ (by decide), Int.emod_lt_of_pos _ (by decide)⟩
    obtain ⟨us1, e1, sub1, l1⟩ := um us (k := c2 % 5) k5.1 (by omega)
    obtain ⟨ps, e2, sub2, lp⟩ := uG us1 (k := 1 + c1 % 24) (by omega)
    refine ⟨_, rfl, _, rfl, cl, _, _, _, rfl, rfl, aE.of (s12 _ _ hcells), hc2, _, _, rfl, rfl, (by show (0 : Int) < 5; decide), _, rfl, nl, _, rfl, aE.of hnl, ?_⟩
    rw [show bj (us.map V.str) (some (c2 % 5)) none = us1.map V.str from e1]
    refine fun p1 hp1 => ?_
    refine ⟨_, rfl, cl, _, _, _, rfl, rfl, aE.of ((aj.upd hp1) _ _ (s12 _ _ hcells)), hc1, _, rfl, _, _, rfl, rfl, (by show (0 : Int) < 24; decide), _, _, rfl, rfl, _, rfl, p1, _, rfl, aE.of aa, ?_⟩
    rw [show bj (us1.map V.str) none (some (1 + c1 % 24)) = ps.map V.str from e2]
    refine fun p hp => ?_
    have subp := sub2.trans sub1
    have pln := qw u24 k5 k24 l1 lp
    have hP : a6 ps := ⟨pln.1, pln.2, hU.nd.sublist subp, fun z hz => hU.nm z (subp.mem hz)⟩
    have pZ : Du ps := fun z hz => hZ z (subp.mem hz)
    clear k5 k24 l1 lp u24 e1 e2 sub1 sub2 subp
    have hpp : upd (upd H2 p1 (.lst (us1.map V.str))) p (.lst (ps.map V.str)) p = some (.lst (ps.map V.str)) := aa
    have s23 := (aj.upd (o := .lst (us1.map V.str)) hp1).trans (aj.upd (o := .lst (ps.map V.str)) hp)
    have pnn : H2 p = none := (aj.upd (o := .lst (us1.map V.str)) hp1).free hp
    generalize upd (upd H2 p1 (.lst (us1.map V.str))) p (.lst (ps.map V.str)) = H3 at hpp s23
    have s03 := (sc.trans s12).trans s23
    have pn : H p = none := (sc.trans s12).free pnn
    refine ⟨by show 0 ≤ sizeLine; decide, fun S hSn => ⟨by show 0 ≤ sizeLine; decide, fun Tt hTn => ⟨by show 0 ≤ sizeLine; decide, fun Y hYn => ?_⟩⟩⟩
    have sS := aj.upd (o := .lst []) hSn
    have sT := aj.upd (o := .lst []) hTn
    have sY := aj.upd (o := .lst []) hYn
    have nST : S ≠ Tt := ah aa hTn
    have nSY : S ≠ Y := ah (sT _ _ aa) hYn
    have nTY : Tt ≠ Y := ah aa hYn
    have npS : p ≠ S := ah hpp hSn
    have npT : p ≠ Tt := ah (sS _ _ hpp) hTn
    have npY : p ≠ Y := ah (sT _ _ (sS _ _ hpp)) hYn
    have hnS : H S = none := s03.free hSn
    have hnT : H Tt = none := (s03.trans sS).free hTn
    have hnY : H Y = none := ((s03.trans sS).trans sT).free hYn
    have hS4 : upd (upd (upd H3 S (.lst [])) Tt (.lst [])) Y (.lst []) S = some (.lst []) := sY _ _ (sT _ _ aa)
    have hT4 : upd (upd (upd H3 S (.lst [])) Tt (.lst [])) Y (.lst []) Tt = some (.lst []) := sY _ _ aa
    have hY4 : upd (upd (upd H3 S (.lst [])) Tt (.lst [])) Y (.lst []) Y = some (.lst []) := aa
    have s34 := (sS.trans sT).trans sY
    generalize upd (upd (upd H3 S (.lst [])) Tt (.lst [])) Y (.lst []) = H4 at hS4 hT4 hY4 s34
    have s04 := s03.trans s34
    have hp4 := s34 _ _ hpp
    have hn4 := s34 _ _ (s23 _ _ hnl)
    have nnS : nl ≠ S := ah (s23 _ _ hnl) hSn
    have nnT : nl ≠ Tt := ah (sS _ _ (s23 _ _ hnl)) hTn
    have nnY : nl ≠ Y := ah (sT _ _ (sS _ _ (s23 _ _ hnl))) hYn
    refine ⟨_, rfl, _, rfl, _, rfl, a, _, rfl, s04.seq hS, fun sl hsl => ?_⟩
    have slen : (bj (ns.map V.int) (some 3) (some 63)).length ≤ 60 := by
      unfold bj
      rw [List.length_take, List.length_drop, List.length_map]
      have e1 : HT.eS ns.length 0 (some 3) = min 3 ns.length := HT.fZ ns.length 0 3
      have e2 : HT.eS ns.length ns.length (some 63) = min 63 ns.length := HT.fZ ns.length ns.length 63
      rw [e1, e2]
      refine Nat.le_trans (Nat.min_le_left _ _) ?_
      rw [Nat.min_eq_right hlen]
      rcases Nat.le_total 3 ns.length with h3 | h3
      · rw [Nat.min_eq_left h3]
        exact Nat.sub_le_of_le_add hlen
      · rw [Nat.min_eq_right h3, Nat.sub_self]
        exact Nat.zero_le _
    have sints : ∀ v ∈ bj (ns.map V.int) (some 3) (some 63), ∃ c : Int, v = .int c := fun v hv => by
      obtain ⟨c, _, rfl⟩ := List.mem_map.mp (List.mem_of_mem_drop (List.mem_of_mem_take hv))
      exact ⟨c, rfl⟩
    have hsl5 : upd H4 sl (.lst (bj (ns.map V.int) (some 3) (some 63))) sl = some (.lst (bj (ns.map V.int) (some 3) (some 63))) := aa
    have s45 := aj.upd (o := .lst (bj (ns.map V.int) (some 3) (some 63))) hsl
    have nlS : sl ≠ S := (ah hS4 hsl).symm
    have nlT : sl ≠ Tt := (ah hT4 hsl).symm
    have nlY : sl ≠ Y := (ah hY4 hsl).symm
    generalize upd H4 sl (.lst (bj (ns.map V.int) (some 3) (some 63))) = H5 at hsl5 s45
    generalize bj (ns.map V.int) (some 3) (some 63) = cs at slen sints hsl5
    have s05 := s04.trans s45
    refine ⟨sl, rfl, ⟨_, aE.of hsl5⟩, m7 (K := X.K) (a := sl) (xs := cs) (wV a cl nl p S Tt Y H5 ps cs.length)
      ⟨[], [], [], none, none, none, none, none, rfl, s45 _ _ hS4, s45 _ _ hT4, s45 _ _ hY4, fun b o e _ _ _ => e, by decide, by decide, by decide, Nat.zero_le _, (fun v hv => by cases hv), (fun v hv => by cases hv), (fun v hv => by cases hv)⟩
      (by rintro i σ H' ⟨_, _, _, _, _, _, _, _, _, _, _, _, kp, _⟩; exact aE.of (kp _ _ hsl5 nlS nlT nlY)) ?_ ?_⟩
    · rintro i x q σ H6 hx hq ⟨ss, ts, ys, e1, e2, e3, e4, e5, rfl, hs6, ht6, hy6, kp, ls, lt, ly, li, gs, gt, gy⟩
      obtain ⟨c, rfl⟩ := sints x (List.mem_of_getElem? hx)
      have hi : i < cs.length := (List.getElem?_eq_some_iff.mp hx).1
      refine ⟨q, _, rfl, br.of aa, rfl, _, _, rfl, _, _, rfl, rfl, ?_⟩
      have s6 := aj.upd (o := .tup [.int i, .int c]) hq
      have hs7 := s6 _ _ hs6
      have ht7 := s6 _ _ ht6
      have hy7 := s6 _ _ hy6
      have kp7 : ∀ b o, H5 b = some o → b ≠ S → b ≠ Tt → b ≠ Y → upd H6 q (.tup [.int i, .int c]) b = some o := fun b o e n1 n2 n3 => s6 _ _ (kp b o e n1 n2 n3)
      have gs7 : ∀ v ∈ ss, ck ps (upd H6 q (.tup [.int i, .int c])) v := fun v hv => (gs v hv).mono (Tk.of s6)
      have gt7 : ∀ v ∈ ts, cV ps (upd H6 q (.tup [.int i, .int c])) v := fun v hv => (gt v hv).mono (Tk.of s6)
      have gy7 : ∀ v ∈ ys, dE ps (upd H6 q (.tup [.int i, .int c])) v := fun v hv => (gy v hv).mono (Tk.of s6)
      generalize upd H6 q (.tup [.int i, .int c]) = H7 at hs7 ht7 hy7 kp7 gs7 gt7 gy7
      have hp7 := kp7 _ _ (s45 _ _ hp4) npS npT npY
      have hn7 := kp7 _ _ (s45 _ _ hn4) nnS nnT nnY
      refine ⟨_, rfl, _, _, rfl, rfl, ⟨by decide, by decide, by decide⟩, _, _, rfl, rfl, (by show (0 : Int) < 10 ^ Int.toNat 40; decide +kernel), _, rfl, _, _, rfl, rfl, .inl ⟨by decide, by decide⟩, _, rfl, _, _, rfl, rfl, .inr ⟨by omega, by omega⟩, _, _, rfl, rfl, _, _, rfl, rfl, .inr ⟨by decide, by decide⟩, _, _, rfl, rfl, ⟨by decide, by decide, by decide⟩, _, _, rfl, rfl, _, _, rfl, rfl, (by show (0 : Int) < 10 ^ Int.toNat 41 + 7; decide +kernel), ?_⟩
      dsimp only
      generalize (c % 10 ^ Int.toNat 40 + 31 * (i : Int) * (i : Int)) * 48271 % (10 ^ Int.toNat 41 + 7) = N
      refine ⟨_, rfl, _, _, rfl, rfl, (by show (0 : Int) < 8; decide), ?_⟩
      have pl : (ps.map V.str).length = ps.length := List.length_map ..
      have plo := hP.lo
      refine both ?_ fun other => ⟨_, rfl, _, _, rfl, rfl, _, rfl, ba (fun _ => ⟨_, rfl, S, _, rfl, .inl (aE.of hs7), _, _, rfl, rfl, _, rfl, ba (fun h24 => ?_) (fun _ => other)⟩) (fun _ => other)⟩
      · refine both ?_ fun other => ⟨_, rfl, _, _, rfl, rfl, _, rfl, ba (fun _ => ⟨_, rfl, p, _, rfl, .inl (aE.of hp7), _, _, rfl, rfl, _, rfl, ba (fun h1 => ?_) (fun _ => other)⟩) (fun _ => other)⟩
        · refine ⟨_, rfl, .inl ⟨rfl, _, aE.of hy7⟩, _, rfl, _, _, rfl, rfl, ⟨by decide, by decide⟩, _, rfl, N / 8, p, ps, rfl, hp7, hP, fun v H8 s8 hv8 => ?_⟩
          refine ⟨Y, ys, v, rfl, rfl, s8 _ _ hy7, by omega, ?_⟩
          have tk := (Tk.of s8).trans (Tk.upd (s8 _ _ hy7) (ys := ys ++ [v]))
          refine ⟨ss, ts, ys ++ [v], _, _, _, _, _, rfl, (by rw [aq nSY]; exact s8 _ _ hs7), (by rw [aq nTY]; exact s8 _ _ ht7), aa, fun b o e n1 n2 n3 => (by rw [aq n3]; exact s8 _ _ (kp7 b o e n1 n2 n3)), ls, by omega, (by rw [List.length_append]; show ys.length + 1 ≤ i + 1; omega), by omega, fun v hv => (gs7 v hv).mono tk, fun v hv => (gt7 v hv).mono tk, fun u hu => ?_⟩
          rw [List.mem_append, List.mem_singleton] at hu
          rcases hu with hu | rfl
          · exact (gy7 u hu).mono tk
          · exact hv8.mono (Tk.upd (s8 _ _ hy7))
        · have p2 : 2 ≤ ps.length := by
            rw [decide_eq_true_iff, pl] at h1
            omega
          refine ⟨_, rfl, .inl ⟨rfl, _, aE.of ht7⟩, _, rfl, _, _, rfl, rfl, ⟨by decide, by decide⟩, _, rfl, N / 8, p, ps, rfl, hp7, hP, p2, fun v H8 s8 hv8 => ?_⟩
          refine ⟨Tt, ts, v, rfl, rfl, s8 _ _ ht7, by omega, ?_⟩
          have tk := (Tk.of s8).trans (Tk.upd (s8 _ _ ht7) (ys := ts ++ [v]))
          refine ⟨ss, ts ++ [v], ys, _, _, _, _, _, rfl, (by rw [aq nST]; exact s8 _ _ hs7), aa, (by rw [aq nTY.symm]; exact s8 _ _ hy7), fun b o e n1 n2 n3 => (by rw [aq n2]; exact s8 _ _ (kp7 b o e n1 n2 n3)), ls, (by rw [List.length_append]; show ts.length + 1 ≤ i + 1; omega), by omega, by omega, fun v hv => (gs7 v hv).mono tk, fun u hu => ?_, fun v hv => (gy7 v hv).mono tk⟩
          rw [List.mem_append, List.mem_singleton] at hu
          rcases hu with hu | rfl
          · exact (gt7 u hu).mono tk
          · exact hv8.mono (Tk.upd (s8 _ _ ht7))
      · have s24 : ss.length < 24 := by
          rw [decide_eq_true_iff] at h24
          omega
        have o0 : 0 ≤ N / 8 % (ps.length : Int) := Int.emod_nonneg _ (by omega)
        have o1 : N / 8 % (ps.length : Int) < ps.length := Int.emod_lt_of_pos _ (by omega)
        obtain ⟨y, ay, gy', my⟩ := gk o0 o1
        refine ⟨_, rfl, _, rfl, _, _, rfl, rfl, ⟨by decide, by decide⟩, _, rfl, p, _, rfl, .inl (aE.of hp7), _, _, rfl, rfl, (by omega), p, _, _, _, rfl, rfl, aE.of hp7, (by rw [pl]; exact ay), ?_⟩
        refine ⟨_, rfl, .inl ⟨rfl, _, aE.of hs7⟩, _, rfl, _, rfl, _, _, rfl, rfl, ⟨by decide, by decide⟩, N / 200, rfl, fun h hho => ?_⟩
        refine ⟨_, rfl, _, _, rfl, rfl, ⟨by decide, by decide⟩, _, _, rfl, rfl, ⟨by decide, by decide, by decide⟩, _, _, rfl, rfl, (by show (0 : Int) < 10 ^ Int.toNat 9; decide +kernel), _, rfl, _, nl, us, rfl, hn7, hU, fun tl ws H8 s8 htl w1 w6 hw => ?_⟩
        refine ⟨by show 3 ≤ sizeLine; decide, fun tp htp => ?_⟩
        have s9 := s8.trans (aj.upd (o := .tup [.str y, .int h, .ref tl]) htp)
        refine ⟨S, ss, .ref tp, rfl, rfl, s9 _ _ hs7, by omega, ?_⟩
        have tk := (Tk.of s9).trans (Tk.upd (s9 _ _ hs7) (ys := ss ++ [.ref tp]))
        refine ⟨ss ++ [.ref tp], ts, ys, _, _, _, _, _, rfl, aa, (by rw [aq nST.symm]; exact s9 _ _ ht7), (by rw [aq nSY.symm]; exact s9 _ _ hy7), fun b o e n1 n2 n3 => (by rw [aq n1]; exact s9 _ _ (kp7 b o e n1 n2 n3)), (by rw [List.length_append]; show ss.length + 1 ≤ 24; omega), by omega, by omega, by omega, fun v hv => ?_, fun v hv => (gt7 v hv).mono tk, fun v hv => (gy7 v hv).mono tk⟩
        rw [List.mem_append, List.mem_singleton] at hv
        rcases hv with hv | rfl
        · exact (gs7 v hv).mono tk
        · have n1 : tp ≠ S := (ah (s8 _ _ hs7) htp).symm
          have n2 : tl ≠ S := nI htl (s8 _ _ hs7) (by intro z; cases z)
          exact ⟨tp, y, h, tl, ws, rfl, (by rw [aq n1]; exact aa), my, hho, (by rw [aq n2]; exact (aj.upd htp) _ _ htl), w1, w6, hw⟩
    · rintro σ H6 ⟨ss, ts, ys, e1, e2, e3, e4, e5, rfl, hs6, ht6, hy6, kp, ls, lt, ly, li, gs, gt, gy⟩
      refine ⟨_, rfl, _, rfl, _, rfl, _, rfl, by show 4 ≤ sizeLine; decide, fun r hr => ?_⟩
      have s6 := aj.upd (o := .lst [.ref p, .ref S, .ref Tt, .ref Y]) hr
      have hp6 := kp _ _ (s45 _ _ hp4) npS npT npY
      have s06 : aj H H6 := fun b o e => kp b o (s05 _ _ e) (ah e hnS) (ah e hnT) (ah e hnY)
      have rp : r ≠ p := (ah hp6 hr).symm
      have rS : r ≠ S := (ah hs6 hr).symm
      have rT : r ≠ Tt := (ah ht6 hr).symm
      have rY : r ≠ Y := (ah hy6 hr).symm
      refine k r p S Tt Y ps ss ts ys _ (s06.trans s6) (s06.free hr) pn hnS hnT hnY ?_ aa (s6 _ _ hp6) (s6 _ _ hs6) (s6 _ _ ht6) (s6 _ _ hy6) ⟨hP, ls, fun v hv => (gs v hv).mono (Tk.of s6), by omega, fun v hv => (gt v hv).mono (Tk.of s6), by omega, fun v hv => (gy v hv).mono (Tk.of s6)⟩ (by omega) (by omega) pZ
      simp only [List.nodup_cons, List.mem_cons, List.not_mem_nil, or_false, not_or, List.nodup_nil, and_true, not_false_eq_true]
      exact ⟨⟨rp, rS, rT, rY⟩, ⟨npS, npT, npY⟩, ⟨nST, nSY⟩, nTY⟩
end
end K04
namespace K04
open PySem L2
inductive yn (good bad : Prop) (m : Nat) (xs : List V) (v : V) (r : Option (List V)) : Prop
  | ok (g : good) (l : xs.length < m) (e : r = some (xs ++ [v]))
  | no (b : bad ∨ xs.length = m) (e : r = none)
def wL (NB : Addr) (H : Hp) (nm : Str) (E : XK) : Prop := ∀ d H', aj H H' → H' d = none → E (.ref NB) (some d) (upd H' d (.xd [("part", .str nm)]))
theorem iP {f : V → Bool} {m : Nat} {H : Hp} {a : Addr} {xs : List V} {v : V} (h : H a = some (.lst (xs ++ [v]))) (b : f v = false ∨ xs.length = m) : cQ f (m : Int) H (.ref a) = false := by
  rcases b with b | b
  · exact Dg (post := []) h b
  · exact AX h (by rw [List.length_append, b]; show (m : Int) < ((m + 1 : Nat) : Int); omega)
inductive Di (C NB : Addr) (vs : List V) (H : Hp) (Q : VK) (E : XK) : Prop
  | mk (x p s t y : Addr) (ps : List Str) (ss ts ys : List V) (v : V) (r : Option (List V)) (e : vs = [.ref x, v]) (bk : Bk C H x p s t y ps ss ts ys) (g : Parts H ps ss ts ys) (a : yn (ck ps H v) (a9 ps H v = false) 24 ss v r) (d : Dp 2 H v)
      (k : ∀ ss', r = some ss' → gq C H ps ss' ts ys Q) (kE : r = none → wL NB H "sights" E)
def tP (C NB : Addr) : Sp := fun vs H Q E => Di C NB vs H Q E
section
variable {P : Program} {w : World} {K : PySem.W.Frag} {mg : Str → Option Value} {base : Heap} {kw C NB : Addr}
theorem je : aB ["self", "one"] ["self", "one"] (ao bM) := {}
theorem kA {f : Addr} {fd : FuncData} (F : gJ K "with_sight" "Book.with_sight" bM f fd) (me : Meth K C "with_sight" f) (bi : Binds K fd ["self", "one"] []) (T : Txt K mg kw C) (G_Book : sf P w K mg base 7 "Book" C (jM C NB)) : oo P w K mg base 9 C "with_sight" (tP C NB) := by
  refine J.iw F me bi T.cl je (fun vs H Q E h => ?_) (fun X Y H vs Q E fr h => ?_)
  · obtain ⟨x, p, s, t, y, ps, ss, ts, ys, v, r, rfl, _⟩ := h
    rfl
  · obtain ⟨x, p, s, t, y, ps, ss, ts, ys, v, r, rfl, bk, g, a, d, k, kE⟩ := h
    have hh := fr.here
    have S0 := hh.sl 0 "self"
    have S1 := hh.sl 1 "one"
    obtain rfl := hh.fK
    have hsz : sizeLine = 16777216 := sizeLine_eq
    obtain ⟨⟨dx, hx⟩, hp, hs, ht, hy⟩ := id bk
    have sl := g.sl
    have tl := g.tl
    have yl := g.yl
    refine ⟨_, (J.ar (fr.rmk G_Book (J.af (J.fld (J.rd S0)) (J.af (J.au J.cm (J.fld (J.rd S0)) (J.bg (J.af (J.rd S1) J.ae))) (J.af (J.fld (J.rd S0)) (J.af (J.fld (J.rd S0)) J.ae)))) rfl (by first | decide | exact Nat.le_refl _) (by decide) rfl rfl)), ?_⟩
    refine ⟨_, rfl, x, C, dx, _, _, rfl, hx, T.cl, T.nP, nH _ _ _ _, _, rfl, x, C, dx, _, _, rfl, hx, T.cl, T.nS, mV _ _ _ _, _, rfl, by show 1 ≤ sizeLine; decide, fun o1 ho1 => ?_⟩
    have s1 := aj.upd (o := .lst [v]) ho1
    refine ⟨s, o1, _, _, rfl, rfl, aE.of (s1 _ _ hs), aE.of aa, by show ss.length + 1 ≤ _; omega, fun n1 hn1 => ?_⟩
    have s2 := s1.trans (aj.upd (o := .lst (ss ++ [v])) hn1)
    have hn2 : upd (upd H o1 (.lst [v])) n1 (.lst (ss ++ [v])) n1 = some (.lst (ss ++ [v])) := aa
    generalize upd (upd H o1 (.lst [v])) n1 (.lst (ss ++ [v])) = H2 at s2 hn2
    refine ⟨_, rfl, x, C, dx, _, _, rfl, s2 _ _ hx, T.cl, T.nT, m9 _ _ _ _, _, rfl, x, C, dx, _, _, rfl, s2 _ _ hx, T.cl, T.nY, ka _ _ _ _, fun x' dx' nx nd nex => ?_⟩
    have s3' : aj H2 (upd (upd H2 dx' (.own x')) x' (.ins C dx' [])) := fun b o e => by
      rw [aq (ah e nx), aq (ah e nd)]
      exact e
    have s3 := s2.trans s3'
    have hn3 := s3' _ _ hn2
    have hx3 : upd (upd H2 dx' (.own x')) x' (.ins C dx' []) x' = some (.ins C dx' []) := aa
    have xf : H x' = none := s2.free nx
    generalize upd (upd H2 dx' (.own x')) x' (.ins C dx' []) = H3 at s3 hn3 hx3
    have g3 := g.mono (Tk.of s3)
    rcases a with ⟨gv, l, rfl⟩ | ⟨b, rfl⟩
    · refine .ok ⟨x', dx', p, n1, t, y, ps, (ss ++ [v]), ts, ys, rfl, hx3, s3 _ _ hp, hn3, s3 _ _ ht, s3 _ _ hy, ⟨g3.ok, by rw [List.length_append]; exact l, (fun z hz => (List.mem_append.mp hz).elim (g3.sg z) fun q => by rw [List.mem_singleton.mp q]; exact gv.mono (Tk.of s3)), g3.tl, g3.tg, g3.yl, g3.yg⟩, fun p' s' t' y' H' m1 m2 m3 m4 bk' kp => ⟨rfl, ?_⟩⟩
      exact k _ rfl x' p' s' t' y' H' (fun b o e => kp b o (s3 _ _ e) (ah e xf)) (s3.free m1) (s3.free m2) (s3.free m3) (s3.free m4) bk'
    · have bv := b.imp (fun q => (dk d s3).trans q) id
      refine .no ⟨x', dx', .ref p, .ref n1, .ref t, .ref y, 1, "sights", rfl, hx3, fun d' H' s' nd' => kE rfl d' H' (s3.trans s') nd', gW (s3 _ _ hp) g.ok, ?_⟩
      have gl : ∀ x ∈ ss ++ [v], Dp 2 H3 x := fun z hz => by
        rcases List.mem_append.mp hz with hz | hz
        · exact (b9 g3.ok (g3.sg z hz)).1
        · rw [List.mem_singleton.mp hz]
          exact d.mono s3
      have en := eX hn3 (by rw [List.length_append]; show ss.length + 1 ≤ 200; omega) gl
      exact .inr ⟨by omega, p, ps, rfl, s3 _ _ hp, g.ok, en, .inl ⟨rfl, rfl, iP (m := 24) hn3 bv⟩⟩
end
inductive C3 (C NB : Addr) (vs : List V) (H : Hp) (Q : VK) (E : XK) : Prop
  | mk (x p s t y : Addr) (ps : List Str) (ss ts ys : List V) (v : V) (r : Option (List V)) (e : vs = [.ref x, v]) (bk : Bk C H x p s t y ps ss ts ys) (g : Parts H ps ss ts ys) (a : yn (cV ps H v) (bK ps H v = false) 120 ts v r) (d : Dp 1 H v)
      (k : ∀ ts', r = some ts' → gq C H ps ss ts' ys Q) (kE : r = none → wL NB H "talks" E)
def uM (C NB : Addr) : Sp := fun vs H Q E => C3 C NB vs H Q E
section
variable {P : Program} {w : World} {K : PySem.W.Frag} {mg : Str → Option Value} {base : Heap} {kw C NB : Addr}
theorem jP : aB ["self", "one"] ["self", "one"] (ao bV) := {}
theorem lV {f : Addr} {fd : FuncData} (F : gJ K "with_talk" "Book.with_talk" bV f fd) (me : Meth K C "with_talk" f) (bi : Binds K fd ["self", "one"] []) (T : Txt K mg kw C) (G_Book : sf P w K mg base 7 "Book" C (jM C NB)) : oo P w K mg base 9 C "with_talk" (uM C NB) := by
  refine J.iw F me bi T.cl jP (fun vs H Q E h => ?_) (fun X Y H vs Q E fr h => ?_)
  · obtain ⟨x, p, s, t, y, ps, ss, ts, ys, v, r, rfl, _⟩ := h
    rfl
  · obtain ⟨x, p, s, t, y, ps, ss, ts, ys, v, r, rfl, bk, g, a, d, k, kE⟩ := h
    have hh := fr.here
    have S0 := hh.sl 0 "self"
    have S1 := hh.sl 1 "one"
    obtain rfl := hh.fK
    have hsz : sizeLine = 16777216 := sizeLine_eq
    obtain ⟨⟨dx, hx⟩, hp, hs, ht, hy⟩ := id bk
    have sl := g.sl
    have tl := g.tl
    have yl := g.yl
    refine ⟨_, (J.ar (fr.rmk G_Book (J.af (J.fld (J.rd S0)) (J.af (J.fld (J.rd S0)) (J.af (J.au J.cm (J.fld (J.rd S0)) (J.bg (J.af (J.rd S1) J.ae))) (J.af (J.fld (J.rd S0)) J.ae)))) rfl (by first | decide | exact Nat.le_refl _) (by decide) rfl rfl)), ?_⟩
    refine ⟨_, rfl, x, C, dx, _, _, rfl, hx, T.cl, T.nP, nH _ _ _ _, _, rfl, x, C, dx, _, _, rfl, hx, T.cl, T.nS, mV _ _ _ _, _, rfl, x, C, dx, _, _, rfl, hx, T.cl, T.nT, m9 _ _ _ _, _, rfl, by show 1 ≤ sizeLine; decide, fun o1 ho1 => ?_⟩
    have s1 := aj.upd (o := .lst [v]) ho1
    refine ⟨t, o1, _, _, rfl, rfl, aE.of (s1 _ _ ht), aE.of aa, by show ts.length + 1 ≤ _; omega, fun n1 hn1 => ?_⟩
    have s2 := s1.trans (aj.upd (o := .lst (ts ++ [v])) hn1)
    have hn2 : upd (upd H o1 (.lst [v])) n1 (.lst (ts ++ [v])) n1 = some (.lst (ts ++ [v])) := aa
    generalize upd (upd H o1 (.lst [v])) n1 (.lst (ts ++ [v])) = H2 at s2 hn2
    refine ⟨_, rfl, x, C, dx, _, _, rfl, s2 _ _ hx, T.cl, T.nY, ka _ _ _ _, fun x' dx' nx nd nex => ?_⟩
    have s3' : aj H2 (upd (upd H2 dx' (.own x')) x' (.ins C dx' [])) := fun b o e => by
      rw [aq (ah e nx), aq (ah e nd)]
      exact e
    have s3 := s2.trans s3'
    have hn3 := s3' _ _ hn2
    have hx3 : upd (upd H2 dx' (.own x')) x' (.ins C dx' []) x' = some (.ins C dx' []) := aa
    have xf : H x' = none := s2.free nx
    generalize upd (upd H2 dx' (.own x')) x' (.ins C dx' []) = H3 at s3 hn3 hx3
    have g3 := g.mono (Tk.of s3)
    rcases a with ⟨gv, l, rfl⟩ | ⟨b, rfl⟩
    · refine .ok ⟨x', dx', p, s, n1, y, ps, ss, (ts ++ [v]), ys, rfl, hx3, s3 _ _ hp, s3 _ _ hs, hn3, s3 _ _ hy, ⟨g3.ok, g3.sl, g3.sg, by rw [List.length_append]; exact l, (fun z hz => (List.mem_append.mp hz).elim (g3.tg z) fun q => by rw [List.mem_singleton.mp q]; exact gv.mono (Tk.of s3)), g3.yl, g3.yg⟩, fun p' s' t' y' H' m1 m2 m3 m4 bk' kp => ⟨rfl, ?_⟩⟩
      exact k _ rfl x' p' s' t' y' H' (fun b o e => kp b o (s3 _ _ e) (ah e xf)) (s3.free m1) (s3.free m2) (s3.free m3) (s3.free m4) bk'
    · have bv := b.imp (fun q => (dM d s3).trans q) id
      refine .no ⟨x', dx', .ref p, .ref s, .ref n1, .ref y, 2, "talks", rfl, hx3, fun d' H' s' nd' => kE rfl d' H' (s3.trans s') nd', gW (s3 _ _ hp) g.ok, ?_⟩
      have gl : ∀ x ∈ ts ++ [v], Dp 1 H3 x := fun z hz => by
        rcases List.mem_append.mp hz with hz | hz
        · exact (dC g3.ok (g3.tg z hz)).1
        · rw [List.mem_singleton.mp hz]
          exact d.mono s3
      have en := eX hn3 (by rw [List.length_append]; show ts.length + 1 ≤ 200; omega) gl
      exact .inr ⟨by omega, p, ps, rfl, s3 _ _ hp, g.ok, eX (s3 _ _ hs) (by omega) fun z hz => (b9 g3.ok (g3.sg z hz)).1, .inr ⟨by omega, eO (s3 _ _ hs) (by omega) fun z hz => (b9 g3.ok (g3.sg z hz)).2, en, .inl ⟨rfl, rfl, iP (m := 120) hn3 bv⟩⟩⟩
end
inductive CK (C NB : Addr) (vs : List V) (H : Hp) (Q : VK) (E : XK) : Prop
  | mk (x p s t y : Addr) (ps : List Str) (ss ts ys : List V) (v : V) (r : Option (List V)) (e : vs = [.ref x, v]) (bk : Bk C H x p s t y ps ss ts ys) (g : Parts H ps ss ts ys) (a : yn (dE ps H v) (cK ps H v = false) 60 ys v r) (d : Dp 1 H v)
      (k : ∀ ys', r = some ys' → gq C H ps ss ts ys' Q) (kE : r = none → wL NB H "sayings" E)
def u0 (C NB : Addr) : Sp := fun vs H Q E => CK C NB vs H Q E
section
variable {P : Program} {w : World} {K : PySem.W.Frag} {mg : Str → Option Value} {base : Heap} {kw C NB : Addr}
theorem i4 : aB ["self", "one"] ["self", "one"] (ao bC) := {}
theorem jZ {f : Addr} {fd : FuncData} (F : gJ K "with_saying" "Book.with_saying" bC f fd) (me : Meth K C "with_saying" f) (bi : Binds K fd ["self", "one"] []) (T : Txt K mg kw C) (G_Book : sf P w K mg base 7 "Book" C (jM C NB)) : oo P w K mg base 9 C "with_saying" (u0 C NB) := by
  refine J.iw F me bi T.cl i4 (fun vs H Q E h => ?_) (fun X Y H vs Q E fr h => ?_)
  · obtain ⟨x, p, s, t, y, ps, ss, ts, ys, v, r, rfl, _⟩ := h
    rfl
  · obtain ⟨x, p, s, t, y, ps, ss, ts, ys, v, r, rfl, bk, g, a, d, k, kE⟩ := h
    have hh := fr.here
    have S0 := hh.sl 0 "self"
    have S1 := hh.sl 1 "one"
    obtain rfl := hh.fK
    have hsz : sizeLine = 16777216 := sizeLine_eq
    obtain ⟨⟨dx, hx⟩, hp, hs, ht, hy⟩ := id bk
    have sl := g.sl
    have tl := g.tl
    have yl := g.yl
    refine ⟨_, (J.ar (fr.rmk G_Book (J.af (J.fld (J.rd S0)) (J.af (J.fld (J.rd S0)) (J.af (J.fld (J.rd S0)) (J.af (J.au J.cm (J.fld (J.rd S0)) (J.bg (J.af (J.rd S1) J.ae))) J.ae)))) rfl (by first | decide | exact Nat.le_refl _) (by decide) rfl rfl)), ?_⟩
    refine ⟨_, rfl, x, C, dx, _, _, rfl, hx, T.cl, T.nP, nH _ _ _ _, _, rfl, x, C, dx, _, _, rfl, hx, T.cl, T.nS, mV _ _ _ _, _, rfl, x, C, dx, _, _, rfl, hx, T.cl, T.nT, m9 _ _ _ _, _, rfl, x, C, dx, _, _, rfl, hx, T.cl, T.nY, ka _ _ _ _, _, rfl, by show 1 ≤ sizeLine; decide, fun o1 ho1 => ?_⟩
    have s1 := aj.upd (o := .lst [v]) ho1
    refine ⟨y, o1, _, _, rfl, rfl, aE.of (s1 _ _ hy), aE.of aa, by show ys.length + 1 ≤ _; omega, fun n1 hn1 => ?_⟩
    have s2 := s1.trans (aj.upd (o := .lst (ys ++ [v])) hn1)
    have hn2 : upd (upd H o1 (.lst [v])) n1 (.lst (ys ++ [v])) n1 = some (.lst (ys ++ [v])) := aa
    generalize upd (upd H o1 (.lst [v])) n1 (.lst (ys ++ [v])) = H2 at s2 hn2
    refine fun x' dx' nx nd nex => ?_
    have s3' : aj H2 (upd (upd H2 dx' (.own x')) x' (.ins C dx' [])) := fun b o e => by
      rw [aq (ah e nx), aq (ah e nd)]
      exact e
    have s3 := s2.trans s3'
    have hn3 := s3' _ _ hn2
    have hx3 : upd (upd H2 dx' (.own x')) x' (.ins C dx' []) x' = some (.ins C dx' []) := aa
    have xf : H x' = none := s2.free nx
    generalize upd (upd H2 dx' (.own x')) x' (.ins C dx' []) = H3 at s3 hn3 hx3
    have g3 := g.mono (Tk.of s3)
    rcases a with ⟨gv, l, rfl⟩ | ⟨b, rfl⟩
    · refine .ok ⟨x', dx', p, s, t, n1, ps, ss, ts, (ys ++ [v]), rfl, hx3, s3 _ _ hp, s3 _ _ hs, s3 _ _ ht, hn3, ⟨g3.ok, g3.sl, g3.sg, g3.tl, g3.tg, by rw [List.length_append]; exact l, (fun z hz => (List.mem_append.mp hz).elim (g3.yg z) fun q => by rw [List.mem_singleton.mp q]; exact gv.mono (Tk.of s3))⟩, fun p' s' t' y' H' m1 m2 m3 m4 bk' kp => ⟨rfl, ?_⟩⟩
      exact k _ rfl x' p' s' t' y' H' (fun b o e => kp b o (s3 _ _ e) (ah e xf)) (s3.free m1) (s3.free m2) (s3.free m3) (s3.free m4) bk'
    · have bv := b.imp (fun q => (eK d s3).trans q) id
      refine .no ⟨x', dx', .ref p, .ref s, .ref t, .ref n1, 3, "sayings", rfl, hx3, fun d' H' s' nd' => kE rfl d' H' (s3.trans s') nd', gW (s3 _ _ hp) g.ok, ?_⟩
      have gl : ∀ x ∈ ys ++ [v], Dp 1 H3 x := fun z hz => by
        rcases List.mem_append.mp hz with hz | hz
        · exact kl g3.ok (g3.yg z hz)
        · rw [List.mem_singleton.mp hz]
          exact d.mono s3
      have en := eX hn3 (by rw [List.length_append]; show ys.length + 1 ≤ 200; omega) gl
      exact .inr ⟨by omega, p, ps, rfl, s3 _ _ hp, g.ok, eX (s3 _ _ hs) (by omega) fun z hz => (b9 g3.ok (g3.sg z hz)).1, .inr ⟨by omega, eO (s3 _ _ hs) (by omega) fun z hz => (b9 g3.ok (g3.sg z hz)).2, eX (s3 _ _ ht) (by omega) fun z hz => (dC g3.ok (g3.tg z hz)).1, .inr ⟨by omega, eO (s3 _ _ ht) (by omega) fun z hz => (dC g3.ok (g3.tg z hz)).2, en, rfl, iP (m := 60) hn3 bv⟩⟩⟩
end
def zN (n : Nat) : V → Bool
  | .int i => decide (0 ≤ i) && decide (i < n)
  | _ => false
theorem vt {H : Hp} {v : V} (h : Th H v) : (knd H v == "int") = true → ∃ i, v = .int i := fun q => by
  cases h with
  | int i => exact ⟨i, rfl⟩
  | lst h => rw [lN h] at q; exact absurd q (by decide)
  | tup h => rw [mB h] at q; exact absurd q (by decide)
  | dct h => rw [mj h] at q; exact absurd q (by decide)
  | non => exact absurd (show (("NoneType" : String) == "int") = true from q) (by decide)
  | bl b => exact absurd (show (("bool" : String) == "int") = true from q) (by decide)
  | str z l => exact absurd (show (("str" : String) == "int") = true from q) (by decide)
theorem v9 {C NB : Addr} {H : Hp} {p a b c : Addr} {ps : List Str} {ss ts ys : List V} {Q : VK} {E : XK} (hp : H p = some (.lst (ps.map V.str))) (ha : H a = some (.lst ss)) (hb : H b = some (.lst ts)) (hc : H c = some (.lst ys)) (g : Parts H ps ss ts ys) (k : gq C H ps ss ts ys Q) :
    ∀ x dx, H x = none → H dx = none → dx ≠ x → jM C NB (.ref x :: ([.ref p, .ref a, .ref b, .ref c] ++ [])) (upd (upd H dx (.own x)) x (.ins C dx [])) (fun v H2 => v = .non ∧ Q (.ref x) H2) E := by
  intro x dx nx nd nex
  have s3 : aj H (upd (upd H dx (.own x)) x (.ins C dx [])) := fun b o e => by
    rw [aq (ah e nx), aq (ah e nd)]
    exact e
  refine .ok ⟨x, dx, p, a, b, c, ps, ss, ts, ys, rfl, aa, s3 _ _ hp, s3 _ _ ha, s3 _ _ hb, s3 _ _ hc, g.mono (Tk.of s3), fun p' s' t' y' H' n1 n2 n3 n4 bk kp => ⟨rfl, ?_⟩⟩
  exact k x p' s' t' y' H' (fun b o e => kp b o (s3 _ _ e) (ah e nx)) (s3.free n1) (s3.free n2) (s3.free n3) (s3.free n4) bk
inductive EZ (C Ny : Addr) (vs : List V) (H : Hp) (Q : VK) (E : XK) : Prop
  | mk (x p s t y : Addr) (ps : List Str) (ss ts ys : List V) (v : V) (e : vs = [.ref x, v]) (bk : Bk C H x p s t y ps ss ts ys) (g : Parts H ps ss ts ys) (th : Th H v)
      (k : ∀ n : Nat, v = .int n → n < ys.length → gq C H ps ss ts (bj ys none (some (n : Int)) ++ bj ys (some ((n : Int) + 1)) none) Q) (kE : zN ys.length v = false → ∀ H', aj H H' → E (.ref Ny) none H')
def xD (C Ny : Addr) : Sp := fun vs H Q E => EZ C Ny vs H Q E
section
variable {P : Program} {w : World} {K : PySem.W.Frag} {mg : Str → Option Value} {base : Heap} {kw C NB Ny Kn : Addr}
theorem gp : aB ["self", "number", "others"] ["self", "number"] (ao bc) := {}
theorem Ax {f : Addr} {fd : FuncData} (F : gJ K "without_saying" "Book.without_saying" bc f fd) (me : Meth K C "without_saying" f) (bi : Binds K fd ["self", "number"] []) (T : Txt K mg kw C) (O_NoSaying : dy K Ny (.ref Kn :: dF)) (h_NoSaying : mg "NoSaying" = some (.ref Ny)) (G_Book : sf P w K mg base 7 "Book" C (jM C NB)) (G_is_whole : Gd P w K mg base 1 "is_whole" (jm K)) : oo P w K mg base 9 C "without_saying" (xD C Ny) := by
  refine J.iw F me bi T.cl gp (fun vs H Q E h => ?_) (fun X Y H vs Q E fr h => ?_)
  · obtain ⟨x, p, s, t, y, ps, ss, ts, ys, v, rfl, _⟩ := h
    rfl
  · obtain ⟨x, p, s, t, y, ps, ss, ts, ys, v, rfl, bk, g, th, k, kE⟩ := h
    have hh := fr.here
    have S0 := hh.sl 0 "self"
    have S1 := hh.sl 1 "number"
    have S2 := hh.sl 2 "others"
    have B_len := hh.b T.b_len
    have C_is_whole := hh.c G_is_whole
    have hK := hh.fK
    have hsz : sizeLine = 16777216 := sizeLine_eq
    obtain ⟨⟨dx, hx⟩, hp, hs, ht, hy⟩ := id bk
    have gl := g.yl
    refine ⟨_, (J.ai (J.aN (fr.jt (J.dw (J.dW (J.bf (J.aV (J.cn C_is_whole (J.af (J.rd S1) J.ae)))) (J.c8 (J.bf (J.fB J.fL J.j5 J.ag (J.rd S1) (J.blt B_len J.aD L2.aZ (J.af (J.fld (J.rd S0)) J.ae)) L2.j8))))))
 (J.ar (fr.rz O_NoSaying h_NoSaying rfl (by decide) (J.af J.aM J.ae) rfl))
 J.aF)
 (J.ai (fr.js (J.set S2 hh.nd (J.au J.cm (J.bU J.de (J.fld (J.rd S0)) J.cM (J.cj (J.rd S1))) (J.bU J.de (J.fld (J.rd S0)) (J.cj (J.au J.bu (J.rd S1) J.ag)) J.cM))))
 (J.ar (fr.rmk G_Book (J.af (J.fld (J.rd S0)) (J.af (J.fld (J.rd S0)) (J.af (J.fld (J.rd S0)) (J.af (J.rd S2) J.ae)))) rfl (by first | decide | exact Nat.le_refl _) (by decide) rfl rfl)))), ?_⟩
    subst hK
    refine ⟨_, rfl, v, knd H v, rfl, th.ty, th.kn.1, _, rfl, ba (fun h1 => ?_) (fun h1 => ?_)⟩
    · refine ⟨by show 1 ≤ sizeLine; decide, kE ?_ H (aj.refl _)⟩
      cases v with
      | int i => exact absurd h1 (by show ¬ (!(("int" : String) == "int")) = true; decide)
      | _ => rfl
    obtain ⟨i, rfl⟩ := vt th (by simpa using h1)
    refine ⟨_, rfl, _, _, rfl, rfl, _, rfl, ba (fun h2 => ?_) (fun h2 => ?_)⟩
    · have i0 : 0 ≤ i := of_decide_eq_true h2
      refine ⟨_, rfl, x, C, dx, _, _, rfl, hx, T.cl, T.nY, ka _ _ _ _, y, _, rfl, .inl (aE.of hy), _, _, rfl, rfl, _, rfl, ?_⟩
      dsimp only
      by_cases h3 : i < ((ys.length : Nat) : Int)
      · obtain ⟨n, rfl⟩ := Int.eq_ofNat_of_zero_le i0
        rw [decide_eq_true h3]
        refine bX ?_
        have hn : n < ys.length := by omega
        have cl := lZ ys n
        have g3 : Parts H ps ss ts (bj ys none (some (n : Int)) ++ bj ys (some ((n : Int) + 1)) none) := ⟨g.ok, g.sl, g.sg, g.tl, g.tg, by omega, fun v hv => g.yg v ((List.mem_append.mp hv).elim (fun z => List.mem_of_mem_drop (List.mem_of_mem_take z)) fun z => List.mem_of_mem_drop (List.mem_of_mem_take z))⟩
        refine ⟨_, rfl, x, C, dx, _, _, rfl, hx, T.cl, T.nY, ka _ _ _ _, _, rfl, _, rfl, y, _, rfl, aE.of hy, fun c1 hc1 => ?_⟩
        have s1 := aj.upd (o := .lst (bj ys none (some (n : Int)))) hc1
        refine ⟨_, rfl, x, C, dx, _, _, rfl, s1 _ _ hx, T.cl, T.nY, ka _ _ _ _, _, rfl, _, _, rfl, rfl, _, rfl, y, _, rfl, aE.of (s1 _ _ hy), fun c2 hc2 => ?_⟩
        have s2' := aj.upd (o := .lst (bj ys (some ((n : Int) + 1)) none)) hc2
        have s2 := s1.trans s2'
        have e1 := s2' _ _ (show upd H c1 (.lst (bj ys none (some (n : Int)))) c1 = _ from aa)
        refine ⟨c1, c2, _, _, rfl, rfl, aE.of e1, aE.of aa, by rw [List.length_append] at cl; omega, fun c3 hc3 => ?_⟩
        have s3 := s2.trans (aj.upd (o := .lst (bj ys none (some (n : Int)) ++ bj ys (some ((n : Int) + 1)) none)) hc3)
        refine ⟨_, rfl, x, C, dx, _, _, rfl, s3 _ _ hx, T.cl, T.nP, nH _ _ _ _, _, rfl, x, C, dx, _, _, rfl, s3 _ _ hx, T.cl, T.nS, mV _ _ _ _, _, rfl, x, C, dx, _, _, rfl, s3 _ _ hx, T.cl, T.nT, m9 _ _ _ _, _, rfl, ?_⟩
        exact v9 (s3 _ _ hp) (s3 _ _ hs) (s3 _ _ ht) aa (g3.mono (Tk.of s3)) ((k n rfl hn).mono s3)
      · rw [decide_eq_false h3]
        refine cv ⟨by show 1 ≤ sizeLine; decide, kE ?_ H (aj.refl _)⟩
        show (decide (0 ≤ i) && decide (i < ((ys.length : Nat) : Int))) = false
        rw [decide_eq_false h3, Bool.and_false]
    · refine ⟨_, rfl, cv ⟨by show 1 ≤ sizeLine; decide, kE ?_ H (aj.refl _)⟩⟩
      show (decide (0 ≤ i) && decide (i < ((ys.length : Nat) : Int))) = false
      rw [show decide (0 ≤ i) = false from eq_false_of_ne_true h2, Bool.false_and]
end
theorem ne_int {i j : Int} (h : i ≠ j) : ¬ decide (V.int i = V.int j) = true := fun q => h (by injection of_decide_eq_true q)
theorem eq_int (i : Int) : decide (V.int i = V.int i) = true := decide_eq_true rfl
theorem Dp.dn {H : Hp} {v : V} (h : Dp 2 H v) : Dp 1 H v := ⟨h.1, fun xs e x hx => (h.2 xs e x hx).1⟩
inductive Ask (H : Hp) (ps : List Str) (ys : List V) (at_ : Int) (v : V) (gd : Bool) : Prop
  | wo (n : Nat) (ea : at_ = 0) (ev : v = .int n) (l : n < ys.length) (eg : gd = true)
  | woB (ea : at_ = 0) (th : Th H v) (b : zN ys.length v = false) (eg : gd = false)
  | si (ea : at_ = 1) (d : Dp 2 H v) (g : gd = true → ck ps H v) (b : gd = false → a9 ps H v = false)
  | ta (ea : at_ = 2) (d : Dp 1 H v) (g : gd = true → cV ps H v) (b : gd = false → bK ps H v = false)
  | sa (ea : at_ = 3) (d : Dp 1 H v) (g : gd = true → dE ps H v) (b : gd = false → cK ps H v = false)
theorem Ask.mono {H H' : Hp} {ps : List Str} {ys : List V} {at_ : Int} {v : V} {gd : Bool} (s : aj H H') (h : Ask H ps ys at_ v gd) : Ask H' ps ys at_ v gd := by
  cases h with
  | wo n ea ev l eg => exact .wo n ea ev l eg
  | woB ea th b eg => exact .woB ea (th.mono s) b eg
  | si ea d g b => exact .si ea (d.mono s) (fun e => (g e).mono (Tk.of s)) fun e => (dk d s).trans (b e)
  | ta ea d g b => exact .ta ea (d.mono s) (fun e => (g e).mono (Tk.of s)) fun e => (dM d s).trans (b e)
  | sa ea d g b => exact .sa ea (d.mono s) (fun e => (g e).mono (Tk.of s)) fun e => (eK d s).trans (b e)
def Bp (ys : List V) : V → List V
  | .int n => bj ys none (some n) ++ bj ys (some (n + 1)) none
  | _ => ys
def fJ (ss ts ys : List V) (at_ : Int) (v : V) (gd : Bool) : Option (List V × List V × List V) :=
  if gd = false then none else if at_ = 0 then some (ss, ts, Bp ys v) else if at_ = 1 then (if ss.length = 24 then none else some (ss ++ [v], ts, ys)) else if at_ = 2 then (if ts.length = 120 then none else some (ss, ts ++ [v], ys)) else if ys.length = 60 then none else some (ss, ts, ys ++ [v])
def l0 (at_ : Int) : Str := if at_ = 0 then "no saying" else if at_ = 1 then "sights" else if at_ = 2 then "talks" else "sayings"
section
variable {ss ts ys : List V} {v : V} {gd : Bool}
theorem gG (l : ss.length < 24) : fJ ss ts ys 1 v true = some (ss ++ [v], ts, ys) := by
  show (if ss.length = 24 then none else some (ss ++ [v], ts, ys)) = _
  rw [if_neg (by omega)]
theorem ic (l : ss.length = 24) : fJ ss ts ys 1 v true = none := by
  show (if ss.length = 24 then none else some (ss ++ [v], ts, ys)) = _
  rw [if_pos l]
theorem gR (l : ts.length < 120) : fJ ss ts ys 2 v true = some (ss, ts ++ [v], ys) := by
  show (if ts.length = 120 then none else some (ss, ts ++ [v], ys)) = _
  rw [if_neg (by omega)]
theorem iD (l : ts.length = 120) : fJ ss ts ys 2 v true = none := by
  show (if ts.length = 120 then none else some (ss, ts ++ [v], ys)) = _
  rw [if_pos l]
theorem gD (l : ys.length < 60) : fJ ss ts ys 3 v true = some (ss, ts, ys ++ [v]) := by
  show (if ys.length = 60 then none else some (ss, ts, ys ++ [v])) = _
  rw [if_neg (by omega)]
theorem iF (l : ys.length = 60) : fJ ss ts ys 3 v true = none := by
  show (if ys.length = 60 then none else some (ss, ts, ys ++ [v])) = _
  rw [if_pos l]
end
theorem mE {α : Type} {p : α → Prop} {xs : List α} {v : α} (h : ∀ x ∈ xs, p x) (hv : p v) : ∀ x ∈ xs ++ [v], p x := fun x hx => by
  rcases List.mem_append.mp hx with hx | hx
  · exact h x hx
  · rw [List.mem_singleton.mp hx]
    exact hv
theorem len_app {α : Type} {xs : List α} {v : α} {m : Nat} (h : xs.length < m) : (xs ++ [v]).length ≤ m := by
  rw [List.length_append]
  exact h
theorem Ask.parts {H : Hp} {ps : List Str} {ss ts ys : List V} {at_ : Int} {v : V} {gd : Bool} (h : Ask H ps ys at_ v gd) (g : Parts H ps ss ts ys) {ss' ts' ys' : List V} (e : fJ ss ts ys at_ v gd = some (ss', ts', ys')) : Parts H ps ss' ts' ys' := by
  have sl := g.sl
  have tl := g.tl
  have yl := g.yl
  cases h with
  | wo n ea ev l eg =>
    subst ea ev eg
    cases e
    have cl := lZ ys n
    exact ⟨g.ok, g.sl, g.sg, g.tl, g.tg, Nat.le_trans cl yl, fun v hv => g.yg v ((List.mem_append.mp hv).elim (fun z => List.mem_of_mem_drop (List.mem_of_mem_take z)) fun z => List.mem_of_mem_drop (List.mem_of_mem_take z))⟩
  | woB ea th b eg =>
    subst eg
    cases e
  | si ea d gv b =>
    subst ea
    cases gd with
    | false => cases e
    | true =>
      by_cases l : ss.length = 24
      · rw [ic l] at e
        cases e
      · rw [gG (by omega)] at e
        cases e
        exact ⟨g.ok, len_app (by omega), mE g.sg (gv rfl), g.tl, g.tg, g.yl, g.yg⟩
  | ta ea d gv b =>
    subst ea
    cases gd with
    | false => cases e
    | true =>
      by_cases l : ts.length = 120
      · rw [iD l] at e
        cases e
      · rw [gR (by omega)] at e
        cases e
        exact ⟨g.ok, g.sl, g.sg, len_app (by omega), mE g.tg (gv rfl), g.yl, g.yg⟩
  | sa ea d gv b =>
    subst ea
    cases gd with
    | false => cases e
    | true =>
      by_cases l : ys.length = 60
      · rw [iF l] at e
        cases e
      · rw [gD (by omega)] at e
        cases e
        exact ⟨g.ok, g.sl, g.sg, g.tl, g.tg, len_app (by omega), mE g.yg (gv rfl)⟩
inductive E8 (C NB Ny : Addr) (vs : List V) (H : Hp) (Q : VK) (E : XK) : Prop
  | mk (x p s t y : Addr) (ps : List Str) (ss ts ys : List V) (at_ : Int) (v : V) (gd : Bool) (e : vs = [.ref x, .int at_, v]) (bk : Bk C H x p s t y ps ss ts ys) (g : Parts H ps ss ts ys) (a : Ask H ps ys at_ v gd)
      (k : ∀ ss' ts' ys', fJ ss ts ys at_ v gd = some (ss', ts', ys') → gq C H ps ss' ts' ys' Q) (kE : fJ ss ts ys at_ v gd = none → at_ ≠ 0 → wL NB H (l0 at_) E) (kN : fJ ss ts ys at_ v gd = none → at_ = 0 → ∀ H', aj H H' → E (.ref Ny) none H')
def tD (C NB Ny : Addr) : Sp := fun vs H Q E => E8 C NB Ny vs H Q E
section
variable {P : Program} {w : World} {K : PySem.W.Frag} {mg : Str → Option Value} {base : Heap} {kw C NB Ny Kn : Addr}
theorem oH : aB ["_law_book_here", "_law_at", "_law_thing"] ["_law_book_here", "_law_at", "_law_thing"] (ao iV) := {}
theorem sX {f : Addr} {fd : FuncData} (D : Df K mg "_law_asked" iV ["_law_book_here", "_law_at", "_law_thing"] f fd) (G_without_saying : oo P w K mg base 9 C "without_saying" (xD C Ny)) (G_with_sight : oo P w K mg base 9 C "with_sight" (tP C NB)) (G_with_talk : oo P w K mg base 9 C "with_talk" (uM C NB)) (G_with_saying : oo P w K mg base 9 C "with_saying" (u0 C NB)) : xo P w K mg base 10 "_law_asked" (tD C NB Ny) := by
  refine J.vp D oH (fun vs H Q E h => ?_) (fun X Y H vs Q E fr h => ?_)
  · obtain ⟨x, p, s, t, y, ps, ss, ts, ys, at_, v, gd, rfl, _⟩ := h
    rfl
  · obtain ⟨x, p, s, t, y, ps, ss, ts, ys, at_, v, gd, rfl, bk, g, a, k, kE, kN⟩ := h
    have hh := fr.here
    have S0 := hh.sl 0 "_law_book_here"
    have S1 := hh.sl 1 "_law_at"
    have S2 := hh.sl 2 "_law_thing"
    obtain ⟨⟨dx, hx⟩, _⟩ := id bk
    have sl := g.sl
    have tl := g.tl
    have yl := g.yl
    refine ⟨_, (J.ai (J.aN (fr.jt (J.aJ J.bq (J.rd S1) J.ag (L2.aH _)))
 (J.ar (fr.rmt G_without_saying (J.rd S0) (J.af (J.rd S2) J.ae) (by first | decide | exact Nat.le_refl _) (fun _ => rfl) rfl rfl))
 J.aF)
 (J.ai (J.aN (fr.jt (J.aJ J.bq (J.rd S1) J.ag (L2.aH _)))
 (J.ar (fr.rmt G_with_sight (J.rd S0) (J.af (J.rd S2) J.ae) (by first | decide | exact Nat.le_refl _) (fun _ => rfl) rfl rfl))
 J.aF)
 (J.ai (J.aN (fr.jt (J.aJ J.bq (J.rd S1) J.ag (L2.aH _)))
 (J.ar (fr.rmt G_with_talk (J.rd S0) (J.af (J.rd S2) J.ae) (by first | decide | exact Nat.le_refl _) (fun _ => rfl) rfl rfl))
 J.aF)
 (J.ar (fr.rmt G_with_saying (J.rd S0) (J.af (J.rd S2) J.ae) (by first | decide | exact Nat.le_refl _) (fun _ => rfl) rfl rfl))))), ?_⟩
    cases a with
    | wo n ea ev l eg =>
      subst ea ev eg
      refine ⟨_, rfl, rfl, _, rfl, eB (eq_int 0) ⟨_, rfl, x, dx, _, rfl, hx, iX _ _ _ _ (by decide +kernel) (by decide +kernel) (by decide +kernel) (by decide +kernel), _, rfl, ?_⟩⟩
      exact ⟨x, p, s, t, y, ps, ss, ts, ys, .int n, rfl, bk, g, .int n, (fun m e _ => by
        injection e with e
        rw [← e]
        exact k _ _ _ rfl), (fun b => by
        have : (decide ((0 : Int) ≤ (n : Int)) && decide ((n : Int) < ((ys.length : Nat) : Int))) = false := b
        rw [decide_eq_true (by omega), decide_eq_true (by omega)] at this
        cases this)⟩
    | woB ea th b eg =>
      subst ea eg
      refine ⟨_, rfl, rfl, _, rfl, eB (eq_int 0) ⟨_, rfl, x, dx, _, rfl, hx, iX _ _ _ _ (by decide +kernel) (by decide +kernel) (by decide +kernel) (by decide +kernel), _, rfl, ?_⟩⟩
      exact ⟨x, p, s, t, y, ps, ss, ts, ys, v, rfl, bk, g, th, (fun m e l => by
        subst e
        have : (decide ((0 : Int) ≤ (m : Int)) && decide ((m : Int) < ((ys.length : Nat) : Int))) = false := b
        rw [decide_eq_true (by omega), decide_eq_true (by omega)] at this
        cases this), fun _ => kN rfl rfl⟩
    | si ea d gv b =>
      subst ea
      refine ⟨_, rfl, rfl, _, rfl, cw (ne_int (by decide)) ⟨_, rfl, rfl, _, rfl, eB (eq_int 1) ⟨_, rfl, x, dx, _, rfl, hx, iX _ _ _ _ (by decide +kernel) (by decide +kernel) (by decide +kernel) (by decide +kernel), _, rfl, ?_⟩⟩⟩
      cases gd with
      | false => exact ⟨x, p, s, t, y, ps, ss, ts, ys, v, none, rfl, bk, g, .no (.inl (b rfl)) rfl, d, (fun _ e => by cases e), fun _ => kE rfl (by decide)⟩
      | true =>
        by_cases l : ss.length = 24
        · exact ⟨x, p, s, t, y, ps, ss, ts, ys, v, none, rfl, bk, g, .no (.inr l) rfl, d, (fun _ e => by cases e), fun _ => kE (ic l) (by decide)⟩
        · exact ⟨x, p, s, t, y, ps, ss, ts, ys, v, some (ss ++ [v]), rfl, bk, g, .ok (gv rfl) (by omega) rfl, d, (fun z e => by cases e; exact k _ _ _ (gG (by omega))), fun e => by cases e⟩
    | ta ea d gv b =>
      subst ea
      refine ⟨_, rfl, rfl, _, rfl, cw (ne_int (by decide)) ⟨_, rfl, rfl, _, rfl, cw (ne_int (by decide)) ⟨_, rfl, rfl, _, rfl, eB (eq_int 2) ⟨_, rfl, x, dx, _, rfl, hx, iX _ _ _ _ (by decide +kernel) (by decide +kernel) (by decide +kernel) (by decide +kernel), _, rfl, ?_⟩⟩⟩⟩
      cases gd with
      | false => exact ⟨x, p, s, t, y, ps, ss, ts, ys, v, none, rfl, bk, g, .no (.inl (b rfl)) rfl, d, (fun _ e => by cases e), fun _ => kE rfl (by decide)⟩
      | true =>
        by_cases l : ts.length = 120
        · exact ⟨x, p, s, t, y, ps, ss, ts, ys, v, none, rfl, bk, g, .no (.inr l) rfl, d, (fun _ e => by cases e), fun _ => kE (iD l) (by decide)⟩
        · exact ⟨x, p, s, t, y, ps, ss, ts, ys, v, some (ts ++ [v]), rfl, bk, g, .ok (gv rfl) (by omega) rfl, d, (fun z e => by cases e; exact k _ _ _ (gR (by omega))), fun e => by cases e⟩
    | sa ea d gv b =>
      subst ea
      refine ⟨_, rfl, rfl, _, rfl, cw (ne_int (by decide)) ⟨_, rfl, rfl, _, rfl, cw (ne_int (by decide)) ⟨_, rfl, rfl, _, rfl, cw (ne_int (by decide)) ⟨_, rfl, x, dx, _, rfl, hx, iX _ _ _ _ (by decide +kernel) (by decide +kernel) (by decide +kernel) (by decide +kernel), _, rfl, ?_⟩⟩⟩⟩
      cases gd with
      | false => exact ⟨x, p, s, t, y, ps, ss, ts, ys, v, none, rfl, bk, g, .no (.inl (b rfl)) rfl, d, (fun _ e => by cases e), fun _ => kE rfl (by decide)⟩
      | true =>
        by_cases l : ys.length = 60
        · exact ⟨x, p, s, t, y, ps, ss, ts, ys, v, none, rfl, bk, g, .no (.inr l) rfl, d, (fun _ e => by cases e), fun _ => kE (iF l) (by decide)⟩
        · exact ⟨x, p, s, t, y, ps, ss, ts, ys, v, some (ys ++ [v]), rfl, bk, g, .ok (gv rfl) (by omega) rfl, d, (fun z e => by cases e; exact k _ _ _ (gD (by omega))), fun e => by cases e⟩
end
structure DU (K : PySem.W.Frag) (mg : Str → Option Value) (Kn Ns Nb Nd Nr Ny Sa Tm fI : Addr) : Prop extends DK K mg Kn Ns Nb Nd Nr Ny Sa Tm fI where
  oY : dy K Ny (.ref Kn :: dF)
  oK : dy K Kn dF
  y1 : PySem.W.kitOne K (.ref Ny) (.ref Nb) = some false
  y3 : PySem.W.kitOne K (.ref Ny) (.type "ValueError") = some true
  y4 : PySem.W.kitOne K (.ref Ny) (.ref Ns) = some false
  y5 : PySem.W.kitOne K (.ref Ny) (.ref Nd) = some false
  y6 : PySem.W.kitOne K (.ref Ny) (.ref Nr) = some false
  y7 : PySem.W.kitOne K (.ref Ny) (.ref Ny) = some true
  y8 : PySem.W.kitOne K (.ref Ny) (.ref Sa) = some false
  y9 : PySem.W.kitOne K (.ref Ny) (.ref Tm) = some false
inductive EJ (C : Addr) (vs : List V) (H : Hp) (Q : VK) : Prop
  | mk (x p s t y : Addr) (ps : List Str) (ss ts ys : List V) (at_ : Int) (v : V) (gd : Bool) (e : vs = [.ref x, .int at_, v]) (bk : Bk C H x p s t y ps ss ts ys) (g : Parts H ps ss ts ys) (a : Ask H ps ys at_ v gd)
      (k : ∀ ss' ts' ys', fJ ss ts ys at_ v gd = some (ss', ts', ys') → gq C H ps ss' ts' ys' Q) (kE : fJ ss ts ys at_ v gd = none → ∀ H', aj H H' → Q (.str (l0 at_)) H')
def vh (C : Addr) : Sp := fun vs H Q _ => EJ C vs H Q
section
variable {P : Program} {w : World} {K : PySem.W.Frag} {mg : Str → Option Value} {base : Heap} {kw C Kn Ns Nb Nd Nr Ny Sa Tm fI : Addr}
theorem ra : aB ["_law_book_here", "_law_at", "_law_thing", "e", "_law_some"] ["_law_book_here", "_law_at", "_law_thing"] (ao jO) := {}
theorem wI {f : Addr} {fd : FuncData} (D : Df K mg "_law_done" jO ["_law_book_here", "_law_at", "_law_thing"] f fd) (T : Txt K mg kw C) (CL : DU K mg Kn Ns Nb Nd Nr Ny Sa Tm fI) (G__law_asked : xo P w K mg base 10 "_law_asked" (tD C Nb Ny)) : Gd P w K mg base 11 "_law_done" (vh C) := by
  refine J.wu D ra (fun vs H Q E h => ?_) (fun X H vs Q E hh stk pal ptl h => ?_)
  · obtain ⟨x, p, s, t, y, ps, ss, ts, ys, at_, v, gd, rfl, _⟩ := h
    rfl
  · obtain ⟨x, p, s, t, y, ps, ss, ts, ys, at_, v, gd, rfl, bk, g, a, k, kE⟩ := h
    have hK := CL.hK
    have S0 := hh.sl 0 "_law_book_here"
    have S1 := hh.sl 1 "_law_at"
    have S2 := hh.sl 2 "_law_thing"
    have S3 := hh.sl 3 "e"
    have S4 := hh.sl 4 "_law_some"
    have B_ValueError : Bt X "ValueError" := hh.bt CL.b_ValueError rfl (by decide) (by decide)
    have B_isinstance := hh.b T.b_isinstance
    have gh_NoBook : ∀ {p : Pos} (e : Value), J.JE (X.mk' e) (.Name "NoBook" p) (L2.tC (.ref Nb)) := fun e => J.jC hh CL.g_NoBook rfl (by decide) e
    have gh_NoDeed : ∀ {p : Pos} (e : Value), J.JE (X.mk' e) (.Name "NoDeed" p) (L2.tC (.ref Nd)) := fun e => J.jC hh CL.g_NoDeed rfl (by decide) e
    have gh_NoRow : ∀ {p : Pos} (e : Value), J.JE (X.mk' e) (.Name "NoRow" p) (L2.tC (.ref Nr)) := fun e => J.jC hh CL.g_NoRow rfl (by decide) e
    have gh_NoSaying : ∀ {p : Pos} (e : Value), J.JE (X.mk' e) (.Name "NoSaying" p) (L2.tC (.ref Ny)) := fun e => J.jC hh CL.g_NoSaying rfl (by decide) e
    have gh_NoStory : ∀ {p : Pos} (e : Value), J.JE (X.mk' e) (.Name "NoStory" p) (L2.tC (.ref Ns)) := fun e => J.jC hh CL.g_NoStory rfl (by decide) e
    have gh_Saw : ∀ {p : Pos} (e : Value), J.JE (X.mk' e) (.Name "Saw" p) (L2.tC (.ref Sa)) := fun e => J.jC hh CL.g_Saw rfl (by decide) e
    have gh_TooMuch : ∀ {p : Pos} (e : Value), J.JE (X.mk' e) (.Name "TooMuch" p) (L2.tC (.ref Tm)) := fun e => J.jC hh CL.g_TooMuch rfl (by decide) e
    obtain rfl := hh.fK
    refine ⟨_, (J.ar (J.Dq hh stk (J.AZ hh G__law_asked (pal (J.af (J.rd S0) (J.af (J.rd S1) (J.af (J.rd S2) J.ae)))) rfl (by first | decide | exact Nat.le_refl _) (by decide)) (fun e => (J.ai (J.set (S4.mk' e) hh.nd (J.bg (J.af (J.blt (B_isinstance.mk' e) J.bZ L2.av (J.af (J.rd (S3.mk' e)) (J.af (gh_NoStory e) J.ae))) (J.af (J.blt (B_isinstance.mk' e) J.bZ L2.av (J.af (J.rd (S3.mk' e)) (J.af (gh_Saw e) J.ae))) (J.af (J.blt (B_isinstance.mk' e) J.bZ L2.av (J.af (J.rd (S3.mk' e)) (J.af (gh_TooMuch e) J.ae))) (J.af (J.blt (B_isinstance.mk' e) J.bZ L2.av (J.af (J.rd (S3.mk' e)) (J.af (gh_NoRow e) J.ae))) J.ae))))))
 (J.ai (J.set (S4.mk' e) hh.nd (J.au J.cm (J.rd (S4.mk' e)) (J.bg (J.af (J.blt (B_isinstance.mk' e) J.bZ L2.av (J.af (J.rd (S3.mk' e)) (J.af (gh_NoDeed e) J.ae))) (J.af (J.jN (J.blt (B_isinstance.mk' e) J.bZ L2.av (J.af (J.rd (S3.mk' e)) (J.af (J.ty (B_ValueError.mk' e) L2.kz) J.ae)))) J.ae)))))
 (J.ai (J.aN (J.dw (J.dW (J.aJ J.eH J.cq (J.rd (S4.mk' e)) J.i8) (J.c8 (J.aJ J.bq (J.blt (B_isinstance.mk' e) J.bZ L2.av (J.af (J.rd (S3.mk' e)) (J.af (gh_NoBook e) J.ae))) (J.blt (B_isinstance.mk' e) J.bZ L2.av (J.af (J.rd (S3.mk' e)) (J.af (gh_NoSaying e) J.ae))) (L2.aH _)))))
 (J.ar (J.aw J.aM))
 J.aF)
 (J.ai (J.aN (J.aV (J.blt (B_isinstance.mk' e) J.bZ L2.av (J.af (J.rd (S3.mk' e)) (J.af (gh_NoSaying e) J.ae))))
 (J.ar (J.aw J.aM))
 J.aF)
 (J.ar (J.aw (J.xg (J.rd (S3.mk' e)))))))))) hK S3 rfl rfl (by decide))), ?_⟩
    refine ⟨_, rfl, _, rfl, _, rfl, x, p, s, t, y, ps, ss, ts, ys, at_, v, gd, rfl, bk, g, a, k, fun hr n0 d H3 s3 nd => ?_, fun hr e0 H4 S4 => ?_⟩
    · have s4 := aj.upd (o := .xd [("part", .str (l0 at_))]) nd
      have hd : upd H3 d (.xd [("part", .str (l0 at_))]) d = some (.xd [("part", .str (l0 at_))]) := aa
      have S4 := s3.trans s4
      generalize upd H3 d (.xd [("part", .str (l0 at_))]) = H4 at s4 hd S4
      refine ja.own CL.oB fun ea nea => ?_
      have s5 := aj.upd (o := (.ext (qj ea Nb d))) nea
      have he : upd H4 ea (.ext (qj ea Nb d)) ea = some (.ext (qj ea Nb d)) := aa
      have S5 := S4.trans s5
      have hd5 := s5 _ _ hd
      generalize upd H4 ea (.ext (qj ea Nb d)) = H5 at s5 he S5 hd5
      have I : ∀ {D : Addr} {b : Bool} {Q' : VK} {H' : Hp}, aj H5 H' → PySem.W.kitOne X.K (.ref Nb) (.ref D) = some b → Q' (.bl b) H' → qx X.K [.ref ea, .ref D] H' Q' := fun s' kt q => .inl (.own ea Nb Kn fI d _ _ rfl (s' _ _ he) CL.oB kt q)
      have It : ∀ {n : String} {b : Bool} {Q' : VK} {H' : Hp}, aj H5 H' → PySem.W.kitOne X.K (.ref Nb) (.type n) = some b → Q' (.bl b) H' → qx X.K [.ref ea, .ty n] H' Q' := fun s' kt q => .inl (.ty ea Nb Kn fI d _ _ rfl (s' _ _ he) CL.oB kt q)
      refine ⟨_, rfl, I (aj.refl _) CL.k4 ⟨_, rfl, I (aj.refl _) CL.k8 ⟨_, rfl, I (aj.refl _) CL.k9 ⟨_, rfl, I (aj.refl _) CL.k6 ⟨by show 4 ≤ sizeLine; decide, fun l6 n6 => ?_⟩⟩⟩⟩⟩
      have s6 := aj.upd (o := .lst [.bl false, .bl false, .bl false, .bl false]) n6
      have h6 : upd H5 l6 (.lst [.bl false, .bl false, .bl false, .bl false]) l6 = some (.lst [.bl false, .bl false, .bl false, .bl false]) := aa
      generalize upd H5 l6 (.lst [.bl false, .bl false, .bl false, .bl false]) = H6 at s6 h6
      refine ⟨_, rfl, _, rfl, I s6 CL.k5 ⟨_, rfl, It s6 CL.k3 ⟨_, rfl, by show 2 ≤ sizeLine; decide, fun l7 n7 => ?_⟩⟩⟩
      have s7 := aj.upd (o := .lst [.bl false, .bl (!true)]) n7
      have h7 : upd H6 l7 (.lst [.bl false, .bl (!true)]) l7 = some (.lst [.bl false, .bl (!true)]) := aa
      generalize upd H6 l7 (.lst [.bl false, .bl (!true)]) = H7 at s7 h7
      refine ⟨l6, l7, _, _, rfl, rfl, aE.of (s7 _ _ h6), aE.of h7, by show 4 + 2 ≤ sizeLine; decide, fun l8 n8 => ?_⟩
      have s8 := aj.upd (o := .lst ([.bl false, .bl false, .bl false, .bl false] ++ [.bl false, .bl (!true)])) n8
      have h8 : upd H7 l8 (.lst ([.bl false, .bl false, .bl false, .bl false] ++ [.bl false, .bl (!true)])) l8 = some (.lst ([.bl false, .bl false, .bl false, .bl false] ++ [.bl false, .bl (!true)])) := aa
      generalize upd H7 l8 (.lst ([.bl false, .bl false, .bl false, .bl false] ++ [.bl false, .bl (!true)])) = H8 at s8 h8
      have S8 := (s6.trans s7).trans s8
      refine ⟨_, rfl, l8, _, rfl, .inl (aE.of h8), rfl, by decide +kernel, _, rfl, cw (by decide +kernel) ?_⟩
      refine ⟨_, rfl, I S8 CL.k1 ⟨_, rfl, I S8 CL.k7 ⟨rfl, _, rfl, cw (by decide +kernel) ?_⟩⟩⟩
      refine ⟨_, rfl, I S8 CL.k7 ⟨_, rfl, bX ?_⟩⟩
      exact ⟨_, rfl, ea, Nb, Kn, fI, d, _, rfl, S8 _ _ he, S8 _ _ hd5, CL.oB, kE hr _ (S5.trans S8)⟩
    · refine ja.pl CL.oY CL.oK fun ea nea => ?_
      have s5 := aj.upd (o := (.ext (sr ea Ny))) nea
      have he : upd H4 ea (.ext (sr ea Ny)) ea = some (.ext (sr ea Ny)) := aa
      have S5 := S4.trans s5
      generalize upd H4 ea (.ext (sr ea Ny)) = H5 at s5 he S5
      have I : ∀ {D : Addr} {b : Bool} {Q' : VK} {H' : Hp}, aj H5 H' → PySem.W.kitOne X.K (.ref Ny) (.ref D) = some b → Q' (.bl b) H' → qx X.K [.ref ea, .ref D] H' Q' := fun s' kt q => .inr (.own ea Ny Kn _ _ rfl (s' _ _ he) CL.oY CL.oK kt q)
      have It : ∀ {n : String} {b : Bool} {Q' : VK} {H' : Hp}, aj H5 H' → PySem.W.kitOne X.K (.ref Ny) (.type n) = some b → Q' (.bl b) H' → qx X.K [.ref ea, .ty n] H' Q' := fun s' kt q => .inr (.ty ea Ny Kn _ _ rfl (s' _ _ he) CL.oY CL.oK kt q)
      refine ⟨_, rfl, I (aj.refl _) CL.y4 ⟨_, rfl, I (aj.refl _) CL.y8 ⟨_, rfl, I (aj.refl _) CL.y9 ⟨_, rfl, I (aj.refl _) CL.y6 ⟨by show 4 ≤ sizeLine; decide, fun l6 n6 => ?_⟩⟩⟩⟩⟩
      have s6 := aj.upd (o := .lst [.bl false, .bl false, .bl false, .bl false]) n6
      have h6 : upd H5 l6 (.lst [.bl false, .bl false, .bl false, .bl false]) l6 = some (.lst [.bl false, .bl false, .bl false, .bl false]) := aa
      generalize upd H5 l6 (.lst [.bl false, .bl false, .bl false, .bl false]) = H6 at s6 h6
      refine ⟨_, rfl, _, rfl, I s6 CL.y5 ⟨_, rfl, It s6 CL.y3 ⟨_, rfl, by show 2 ≤ sizeLine; decide, fun l7 n7 => ?_⟩⟩⟩
      have s7 := aj.upd (o := .lst [.bl false, .bl (!true)]) n7
      have h7 : upd H6 l7 (.lst [.bl false, .bl (!true)]) l7 = some (.lst [.bl false, .bl (!true)]) := aa
      generalize upd H6 l7 (.lst [.bl false, .bl (!true)]) = H7 at s7 h7
      refine ⟨l6, l7, _, _, rfl, rfl, aE.of (s7 _ _ h6), aE.of h7, by show 4 + 2 ≤ sizeLine; decide, fun l8 n8 => ?_⟩
      have s8 := aj.upd (o := .lst ([.bl false, .bl false, .bl false, .bl false] ++ [.bl false, .bl (!true)])) n8
      have h8 : upd H7 l8 (.lst ([.bl false, .bl false, .bl false, .bl false] ++ [.bl false, .bl (!true)])) l8 = some (.lst ([.bl false, .bl false, .bl false, .bl false] ++ [.bl false, .bl (!true)])) := aa
      generalize upd H7 l8 (.lst ([.bl false, .bl false, .bl false, .bl false] ++ [.bl false, .bl (!true)])) = H8 at s8 h8
      have S8 := (s6.trans s7).trans s8
      refine ⟨_, rfl, l8, _, rfl, .inl (aE.of h8), rfl, by decide +kernel, _, rfl, cw (by decide +kernel) ?_⟩
      refine ⟨_, rfl, I S8 CL.y1 ⟨_, rfl, I S8 CL.y7 ⟨rfl, _, rfl, cw (by decide +kernel) ?_⟩⟩⟩
      refine ⟨_, rfl, I S8 CL.y7 ⟨_, rfl, cv ?_⟩⟩
      have := kE hr _ (S5.trans S8)
      subst e0
      exact this
end
inductive Aw (at_ : Int) (ps : List Str) (H : Hp) (v : V) : Prop
  | non (ea : at_ = 2) (e : v = .non)
  | si (ea : at_ = 1) (h : ck ps H v)
  | ta (ea : at_ = 2) (h : cV ps H v)
  | sa (ea : at_ = 3) (h : dE ps H v)
inductive CO (vs : List V) (H : Hp) (Q : VK) : Prop
  | mk (at_ n : Int) (p : Addr) (ps : List Str) (e : vs = [.int at_, .int n, .ref p]) (hp : H p = some (.lst (ps.map V.str))) (hP : a6 ps) (ha : at_ = 1 ∨ at_ = 2 ∨ at_ = 3) (k : ∀ (v : V) (H' : Hp), aj H H' → Aw at_ ps H' v → Q v H')
def pI : Sp := fun vs H Q _ => CO vs H Q
structure lH (ps : List Str) (H : Hp) (v : V) : Prop where
  d : Dp 2 H v
  s : a9 ps H v = false
  t : bK ps H v = false
  y : cK ps H v = false
inductive Dc (vs : List V) (H : Hp) (Q : VK) : Prop
  | mk (at_ : V) (p : Addr) (i : Int) (ps : List Str) (e : vs = [at_, .int i, .ref p]) (hp : H p = some (.lst (ps.map V.str))) (hP : a6 ps) (k : ∀ (v : V) (H' : Hp), aj H H' → lH ps H' v → Q v H')
def ui : Sp := fun vs H Q _ => Dc vs H Q
theorem mq {ps : List Str} {H : Hp} {v : V} (h : Th H v) (n : dP H v = none) : lH ps H v :=
  have q := zb (d := 2) h n ps
  ⟨ya h n 2, q.1.2, q.2.1.2, q.2.2.2⟩
theorem iE {ps : List Str} {H : Hp} {a : Addr} {xs : List V} (h : H a = some (.tup xs)) (d : ∀ x ∈ xs, Dp 1 H x) (s : a9 ps H (.ref a) = false) (t : bK ps H (.ref a) = false) (y : cK ps H (.ref a) = false) : lH ps H (.ref a) := ⟨fg h d, s, t, y⟩
theorem DO {ps : List Str} {H : Hp} {a : Addr} {x y z : V} (h : H a = some (.tup [x, y, z])) (b : (cy ps x && (bB y && dZ H z)) = false) : a9 ps H (.ref a) = false := by unfold a9; rw [bG h]; exact b
theorem C2 {ps : List Str} {H : Hp} {a : Addr} {xs : List V} (h : H a = some (.tup xs)) (n : xs.length ≠ 3) : a9 ps H (.ref a) = false := by
  unfold a9
  rw [bG h]
  match xs, n with
  | [], _ => rfl
  | [_], _ => rfl
  | [_, _], _ => rfl
  | [_, _, _], n => exact absurd rfl n
  | _ :: _ :: _ :: _ :: _, _ => rfl
theorem Cy {ps : List Str} {H : Hp} {a : Addr} {xs : List V} (h : H a = some (.tup xs)) (n : xs.length ≠ 4) : bK ps H (.ref a) = false := by
  unfold bK
  rw [bG h]
  match xs, n with
  | [], _ => rfl
  | [_], _ => rfl
  | [_, _], _ => rfl
  | [_, _, _], _ => rfl
  | [_, _, _, _], n => exact absurd rfl n
  | _ :: _ :: _ :: _ :: _ :: _, _ => rfl
theorem D8 {ps : List Str} {H : Hp} {t : Addr} {h a b w : V} (ht : H t = some (.tup [h, a, b, w])) (f : (bB h && (ik ps a b && rj w)) = false) : bK ps H (.ref t) = false := by unfold bK; rw [bG ht]; exact f
theorem Ec {ps : List Str} {H : Hp} {t : Addr} {kd : Str} {a b : V} (ht : H t = some (.tup [.str kd, a, b])) (f : cL ps kd a b = false) : cK ps H (.ref t) = false := by unfold cK; rw [bG ht]; exact f
theorem FR {ps : List Str} {H : Hp} {t : Addr} {kd : Str} {a b c : V} (ht : H t = some (.tup [.str kd, a, b, c])) (f : (decide (kd = "silent") && (cy ps a && kq b c)) = false) : cK ps H (.ref t) = false := by unfold cK; rw [bG ht]; exact f
section
variable {P : Program} {w : World} {K : PySem.W.Frag} {mg : Str → Option Value} {base : Heap} {kw C : Addr}
theorem qm : aB ["_law_at", "_law_number", "_law_persons"] ["_law_at", "_law_number", "_law_persons"] (ao ki) := {}
theorem vv {f : Addr} {fd : FuncData} (D : Df K mg "_law_good" ki ["_law_at", "_law_number", "_law_persons"] f fd) (T : Txt K mg kw C) (G__law_hour : Gd P w K mg base 1 "_law_hour" fY) (G__law_talk : Gd P w K mg base 2 "_law_talk" jk) (G__law_saying : Gd P w K mg base 2 "_law_saying" mw) : Gd P w K mg base 3 "_law_good" pI := by
  refine J.a7 D qm (fun vs H Q E h => ?_) (fun X H vs Q E hh h => ?_)
  · obtain ⟨at_, n, p, ps, rfl, _⟩ := h
    rfl
  · obtain ⟨at_, n, p, ps, rfl, hp, hP, ha, k⟩ := h
    have S0 := hh.sl 0 "_law_at"
    have S1 := hh.sl 1 "_law_number"
    have S2 := hh.sl 2 "_law_persons"
    have B_len := hh.b T.b_len
    have C__law_hour := hh.c G__law_hour
    have C__law_saying := hh.c G__law_saying
    have C__law_talk := hh.c G__law_talk
    have pl : (ps.map V.str).length = ps.length := List.length_map ..
    have lo := hP.lo
    refine ⟨_, (J.ai (J.aN (J.aJ J.bq (J.rd S0) J.ag (L2.aH _))
 (J.ar (J.aw (J.bh (J.af (J.aK J.aG (J.rd S2) (J.au J.aQ (J.rd S1) (J.blt B_len J.aD L2.aZ (J.af (J.rd S2) J.ae))) J.eV) (J.af (J.cn C__law_hour (J.af (J.au J.aS (J.rd S1) J.ag) J.ae)) (J.af (J.bh (J.af J.aM (J.af J.aM J.ae))) J.ae))))))
 J.aF)
 (J.ai (J.aN (J.dw (J.fS (J.aJ J.bq (J.rd S0) J.ag (L2.aH _)) (J.dQ (J.aJ J.j3 (J.blt B_len J.aD L2.aZ (J.af (J.rd S2) J.ae)) J.ag (L2.aH _)))))
 (J.ar (J.aw (J.cn C__law_talk (J.af (J.rd S1) (J.af (J.rd S2) J.ae)))))
 J.aF)
 (J.ai (J.aN (J.aJ J.bq (J.rd S0) J.ag (L2.aH _))
 (J.ar (J.aw J.cS))
 J.aF)
 (J.ar (J.aw (J.cn C__law_saying (J.af (J.rd S1) (J.af (J.rd S2) J.ae)))))))), ?_⟩
    rcases ha with rfl | rfl | rfl
    · have o0 : 0 ≤ n % (ps.length : Int) := Int.emod_nonneg _ (by omega)
      have o1 : n % (ps.length : Int) < ps.length := Int.emod_lt_of_pos _ (by omega)
      obtain ⟨y, ay, gy, my⟩ := gk o0 o1
      refine ⟨_, rfl, rfl, _, rfl, eB (eq_int 1) ⟨_, rfl, _, rfl, _, rfl, p, _, rfl, .inl (aE.of hp), _, _, rfl, rfl, (by omega), p, _, _, _, rfl, rfl, aE.of hp, (by rw [pl]; exact ay), _, rfl, _, _, rfl, rfl, ⟨by decide, by decide⟩, n / 30, rfl, fun h hho => ?_⟩⟩
      refine ⟨by show 2 ≤ sizeLine; decide, fun t1 n1 => ⟨by show 3 ≤ sizeLine; decide, fun t2 n2 => ?_⟩⟩
      exact k (.ref t2) _ ((aj.upd n1).trans (aj.upd n2)) (.si rfl ⟨t2, y, h, t1, ["b", "bc"], rfl, aa, my, hho, aj.upd n2 _ _ aa, by decide, by decide, by decide +kernel⟩)
    · refine ⟨_, rfl, rfl, _, rfl, cw (ne_int (by decide)) ⟨_, rfl, rfl, _, rfl, eB (eq_int 2) ⟨_, rfl, p, _, rfl, .inl (aE.of hp), _, _, rfl, rfl, _, rfl, ba (fun h2 => ?_) (fun h2 => ?_)⟩⟩⟩
      · have p2 : 2 ≤ ps.length := by
          rw [decide_eq_true_iff, pl] at h2
          omega
        exact ⟨_, rfl, _, rfl, n, p, ps, rfl, hp, hP, p2, fun v H' s' h => k v H' s' (.ta rfl h)⟩
      · refine ⟨_, rfl, rfl, _, rfl, eB (eq_int 2) ?_⟩
        exact k .non H (aj.refl _) (.non rfl rfl)
    · refine ⟨_, rfl, rfl, _, rfl, cw (ne_int (by decide)) ⟨_, rfl, rfl, _, rfl, cw (ne_int (by decide)) (bX ⟨_, rfl, rfl, _, rfl, cw (ne_int (by decide)) ?_⟩)⟩⟩
      exact ⟨_, rfl, _, rfl, n, p, ps, rfl, hp, hP, fun v H' s' h => k v H' s' (.sa rfl h)⟩
theorem uo : aB ["_law_at", "_law_number", "_law_persons", "_law_some"] ["_law_at", "_law_number", "_law_persons"] (ao md) := {}
theorem xT {f : Addr} {fd : FuncData} (D : Df K mg "_law_odd" md ["_law_at", "_law_number", "_law_persons"] f fd) : Gd P w K mg base 1 "_law_odd" ui := by
  refine J.a7 D uo (fun vs H Q E h => ?_) (fun X H vs Q E hh h => ?_)
  · obtain ⟨at_, p, i, ps, rfl, _⟩ := h
    rfl
  · obtain ⟨at_, p, i, ps, rfl, hp, hP, k⟩ := h
    have S0 := hh.sl 0 "_law_at"
    have S1 := hh.sl 1 "_law_number"
    have S2 := hh.sl 2 "_law_persons"
    have S3 := hh.sl 3 "_law_some"
    have hsz : sizeLine = 16777216 := sizeLine_eq
    refine ⟨_, (J.ai (J.set S3 hh.nd (J.bg (J.af J.cS (J.af (J.bh J.ae) (J.af (J.aK J.aG (J.rd S2) J.ag J.aP) (J.af (J.bh (J.af (J.aK J.aG (J.rd S2) J.ag J.aP) (J.af (J.pS J.mK J.ag) (J.af (J.bh (J.af J.aM J.ae)) J.ae)))) (J.af (J.bh (J.af J.ag (J.af (J.aK J.aG (J.rd S2) J.ag J.aP) (J.af (J.aK J.aG (J.rd S2) J.ag J.aP) (J.af J.aM J.ae))))) J.ae)))))))
 (J.ai (J.set S3 hh.nd (J.au J.cm (J.rd S3) (J.bg (J.af (J.bh (J.af J.aM (J.af (J.aK J.aG (J.rd S2) J.ag J.aP) (J.af (J.au J.bu (J.au J.c7 J.ag J.ag) J.ag) J.ae)))) (J.af (J.bh (J.af J.aM (J.af (J.aK J.aG (J.rd S2) J.ag J.aP) (J.af J.ag (J.af J.ag J.ae))))) (J.af (J.bg (J.af (J.aK J.aG (J.rd S2) J.ag J.aP) (J.af J.ag (J.af (J.bh (J.af J.aM J.ae)) J.ae)))) (J.af J.lX J.ae)))))))
 (J.ar (J.aw (J.aK J.aG (J.rd S3) (J.au J.aQ (J.rd S1) J.ag) J.eV))))), ?_⟩
    obtain ⟨z0, r0, rfl⟩ := rX hP
    have zl := dN (hP.nm z0 (.head _))
    have zl1 : z0.length ≤ sizeLine := by omega
    refine ⟨by show 0 ≤ sizeLine; decide, fun t1 n1 => ?_⟩
    have s1 := aj.upd (o := .tup []) n1
    have h1 : upd H t1 (.tup []) t1 = some (.tup []) := aa
    generalize upd H t1 (.tup []) = H1 at s1 h1
    have S1 := s1
    refine ⟨_, rfl, p, _, _, _, rfl, rfl, aE.of (S1 _ _ hp), (cA (j := 0) rfl), _, rfl, p, _, _, _, rfl, rfl, aE.of (S1 _ _ hp), (cA (j := 0) rfl), _, rfl, by show 1 ≤ sizeLine; decide, fun t2 n2 => ?_⟩
    have s2 := aj.upd (o := .tup [.str "b"]) n2
    have h2 : upd H1 t2 (.tup [.str "b"]) t2 = some (.tup [.str "b"]) := aa
    generalize upd H1 t2 (.tup [.str "b"]) = H2 at s2 h2
    have S2 := S1.trans s2
    refine ⟨by show 3 ≤ sizeLine; decide, fun t3 n3 => ?_⟩
    have s3 := aj.upd (o := .tup [.str z0, .int (-1), .ref t2]) n3
    have h3 : upd H2 t3 (.tup [.str z0, .int (-1), .ref t2]) t3 = some (.tup [.str z0, .int (-1), .ref t2]) := aa
    generalize upd H2 t3 (.tup [.str z0, .int (-1), .ref t2]) = H3 at s3 h3
    have S3 := S2.trans s3
    refine ⟨_, rfl, p, _, _, _, rfl, rfl, aE.of (S3 _ _ hp), (cA (j := 0) rfl), _, rfl, p, _, _, _, rfl, rfl, aE.of (S3 _ _ hp), (cA (j := 0) rfl), by show 4 ≤ sizeLine; decide, fun t4 n4 => ?_⟩
    have s4 := aj.upd (o := .tup [.int 5, .str z0, .str z0, .str "one"]) n4
    have h4 : upd H3 t4 (.tup [.int 5, .str z0, .str z0, .str "one"]) t4 = some (.tup [.int 5, .str z0, .str z0, .str "one"]) := aa
    generalize upd H3 t4 (.tup [.int 5, .str z0, .str z0, .str "one"]) = H4 at s4 h4
    have S4 := S3.trans s4
    refine ⟨by show 5 ≤ sizeLine; decide, fun l5 n5 => ?_⟩
    have s5 := aj.upd (o := .lst [.non, .ref t1, .str z0, .ref t3, .ref t4]) n5
    have h5 : upd H4 l5 (.lst [.non, .ref t1, .str z0, .ref t3, .ref t4]) l5 = some (.lst [.non, .ref t1, .str z0, .ref t3, .ref t4]) := aa
    generalize upd H4 l5 (.lst [.non, .ref t1, .str z0, .ref t3, .ref t4]) = H5 at s5 h5
    have S5 := S4.trans s5
    refine ⟨_, rfl, _, rfl, p, _, _, _, rfl, rfl, aE.of (S5 _ _ hp), (cA (j := 0) rfl), _, _, rfl, rfl, ⟨by decide, by decide, by decide⟩, _, _, rfl, rfl, by show 3 ≤ sizeLine; decide, fun t6 n6 => ?_⟩
    have s6 := aj.upd (o := .tup [.str "knew", .str z0, .int ((10 ^ Int.toNat 18) + 1)]) n6
    have h6 : upd H5 t6 (.tup [.str "knew", .str z0, .int ((10 ^ Int.toNat 18) + 1)]) t6 = some (.tup [.str "knew", .str z0, .int ((10 ^ Int.toNat 18) + 1)]) := aa
    generalize upd H5 t6 (.tup [.str "knew", .str z0, .int ((10 ^ Int.toNat 18) + 1)]) = H6 at s6 h6
    have S6 := S5.trans s6
    refine ⟨_, rfl, p, _, _, _, rfl, rfl, aE.of (S6 _ _ hp), (cA (j := 0) rfl), by show 4 ≤ sizeLine; decide, fun t7 n7 => ?_⟩
    have s7 := aj.upd (o := .tup [.str "silent", .str z0, .int 2, .int 1]) n7
    have h7 : upd H6 t7 (.tup [.str "silent", .str z0, .int 2, .int 1]) t7 = some (.tup [.str "silent", .str z0, .int 2, .int 1]) := aa
    generalize upd H6 t7 (.tup [.str "silent", .str z0, .int 2, .int 1]) = H7 at s7 h7
    have S7 := S6.trans s7
    refine ⟨_, rfl, p, _, _, _, rfl, rfl, aE.of (S7 _ _ hp), (cA (j := 0) rfl), by show 1 ≤ sizeLine; decide, fun t8 n8 => ?_⟩
    have s8 := aj.upd (o := .tup [.str "b"]) n8
    have h8 : upd H7 t8 (.tup [.str "b"]) t8 = some (.tup [.str "b"]) := aa
    generalize upd H7 t8 (.tup [.str "b"]) = H8 at s8 h8
    have S8 := S7.trans s8
    refine ⟨by show 3 ≤ sizeLine; decide, fun l9 n9 => ?_⟩
    have s9 := aj.upd (o := .lst [.str z0, .int 5, .ref t8]) n9
    have h9 : upd H8 l9 (.lst [.str z0, .int 5, .ref t8]) l9 = some (.lst [.str z0, .int 5, .ref t8]) := aa
    generalize upd H8 l9 (.lst [.str z0, .int 5, .ref t8]) = H9 at s9 h9
    have S9 := S8.trans s9
    refine fun d10 n10 => ?_
    have s10 := aj.upd (o := .dK []) n10
    have h10 : upd H9 d10 (.dK []) d10 = some (.dK []) := aa
    generalize upd H9 d10 (.dK []) = H10 at s10 h10
    have S10 := S9.trans s10
    refine ⟨by show 4 ≤ sizeLine; decide, fun l11 n11 => ?_⟩
    have s11 := aj.upd (o := .lst [.ref t6, .ref t7, .ref l9, .ref d10]) n11
    have h11 : upd H10 l11 (.lst [.ref t6, .ref t7, .ref l9, .ref d10]) l11 = some (.lst [.ref t6, .ref t7, .ref l9, .ref d10]) := aa
    generalize upd H10 l11 (.lst [.ref t6, .ref t7, .ref l9, .ref d10]) = H11 at s11 h11
    have S11 := S10.trans s11
    refine ⟨l5, l11, _, _, rfl, rfl, aE.of (s11 _ _ (s10 _ _ (s9 _ _ (s8 _ _ (s7 _ _ (s6 _ _ h5)))))), aE.of h11, by show 5 + 4 ≤ sizeLine; decide, fun l12 n12 => ?_⟩
    have s12 := aj.upd (o := .lst ([.non, .ref t1, .str z0, .ref t3, .ref t4] ++ [.ref t6, .ref t7, .ref l9, .ref d10])) n12
    have h12 : upd H11 l12 (.lst ([.non, .ref t1, .str z0, .ref t3, .ref t4] ++ [.ref t6, .ref t7, .ref l9, .ref d10])) l12 = some (.lst ([.non, .ref t1, .str z0, .ref t3, .ref t4] ++ [.ref t6, .ref t7, .ref l9, .ref d10])) := aa
    generalize upd H11 l12 (.lst ([.non, .ref t1, .str z0, .ref t3, .ref t4] ++ [.ref t6, .ref t7, .ref l9, .ref d10])) = H12 at s12 h12
    have S12 := S11.trans s12
    have g1 := (s12 _ _ (s11 _ _ (s10 _ _ (s9 _ _ (s8 _ _ (s7 _ _ (s6 _ _ (s5 _ _ (s4 _ _ (s3 _ _ (s2 _ _ h1)))))))))))
    have g2 := (s12 _ _ (s11 _ _ (s10 _ _ (s9 _ _ (s8 _ _ (s7 _ _ (s6 _ _ (s5 _ _ (s4 _ _ (s3 _ _ h2))))))))))
    have g3 := (s12 _ _ (s11 _ _ (s10 _ _ (s9 _ _ (s8 _ _ (s7 _ _ (s6 _ _ (s5 _ _ (s4 _ _ h3)))))))))
    have g4 := (s12 _ _ (s11 _ _ (s10 _ _ (s9 _ _ (s8 _ _ (s7 _ _ (s6 _ _ (s5 _ _ h4))))))))
    have g5 := (s12 _ _ (s11 _ _ (s10 _ _ (s9 _ _ (s8 _ _ (s7 _ _ (s6 _ _ h5)))))))
    have g6 := (s12 _ _ (s11 _ _ (s10 _ _ (s9 _ _ (s8 _ _ (s7 _ _ h6))))))
    have g7 := (s12 _ _ (s11 _ _ (s10 _ _ (s9 _ _ (s8 _ _ h7)))))
    have g8 := (s12 _ _ (s11 _ _ (s10 _ _ (s9 _ _ h8))))
    have g9 := (s12 _ _ (s11 _ _ (s10 _ _ h9)))
    have g10 := (s12 _ _ (s11 _ _ h10))
    have g11 := (s12 _ _ h11)
    have g12 := h12
    obtain ⟨v, hv, hm⟩ := mT (xs := ([.non, .ref t1, .str z0, .ref t3, .ref t4, .ref t6, .ref t7, .ref l9, .ref d10] : List V)) (i := i % 9) (Int.emod_nonneg _ (by decide)) (show i % 9 < ((9 : Nat) : Int) from Int.emod_lt_of_pos _ (by decide))
    refine ⟨_, rfl, _, rfl, _, _, rfl, rfl, (by show (0 : Int) < 9; decide), l12, _, _, _, rfl, rfl, aE.of h12, hv, ?_⟩
    have od : lH (z0 :: r0) H12 v := ((all1 (mq .non rfl) (all1 (iE g1 gU (C2 g1 (by decide)) (Cy g1 (by decide)) (by unfold cK; rw [bG g1])) (all1 (mq (.str z0 zl1) rfl) (all1 (iE g3 (all1 (cC zl1 1) (all1 (dJ _ 1) (all1 (fg g2 (all1 (cC (by decide +kernel) 0) gU)) gU))) (DO g3 (by rw [show bB (.int (-1)) = false from (by decide +kernel), Bool.false_and, Bool.and_false])) (Cy g3 (show (3 : Nat) ≠ 4 by decide)) (Ec g3 (ph rfl))) (all1 (iE g4 (all1 (dJ _ 1) (all1 (cC zl1 1) (all1 (cC zl1 1) (all1 (cC (by decide +kernel) 1) gU)))) (C2 g4 (show (4 : Nat) ≠ 3 by decide)) (D8 g4 (by rw [uK, Bool.false_and, Bool.and_false])) (by unfold cK; rw [bG g4])) (all1 (iE g6 (all1 (cC (by decide +kernel) 1) (all1 (cC zl1 1) (all1 (dJ _ 1) gU))) (DO g6 (by rw [show bB (.str z0) = false from rfl, Bool.false_and, Bool.and_false])) (Cy g6 (show (3 : Nat) ≠ 4 by decide)) (Ec g6 (pf (by decide +kernel) (by decide +kernel) (by decide +kernel)))) (all1 (iE g7 (all1 (cC (by decide +kernel) 1) (all1 (cC zl1 1) (all1 (dJ _ 1) (all1 (dJ _ 1) gU)))) (C2 g7 (show (4 : Nat) ≠ 3 by decide)) (D8 g7 (by rw [show bB (.str "silent") = false from rfl, Bool.false_and])) (FR g7 (by rw [show kq (.int 2) (.int 1) = false from (by decide +kernel), Bool.and_false, Bool.and_false]))) (all1 (mq (.lst g9) (jr g9 fun ys e => by cases e)) (all1 (mq (.dct g10) (jr g10 fun ys e => by cases e)) gU))))))))) : ∀ x ∈ _, lH (z0 :: r0) H12 x) v hm
    exact k v _ S12 od
end
inductive qp (H : Hp) (q : Addr) (ps : List Str) (ss ts ys : List V) : Prop
  | mk (p s t y : Addr) (hq : H q = some (.lst [.ref p, .ref s, .ref t, .ref y])) (hp : H p = some (.lst (ps.map V.str))) (hs : H s = some (.lst ss)) (ht : H t = some (.lst ts)) (hy : H y = some (.lst ys))
theorem qp.mono {H H' : Hp} {q : Addr} {ps : List Str} {ss ts ys : List V} (s : aj H H') (h : qp H q ps ss ts ys) : qp H' q ps ss ts ys := by
  obtain ⟨a, b, c, d, hq, h1, h2, h3, h4⟩ := h
  exact ⟨a, b, c, d, s _ _ hq, s _ _ h1, s _ _ h2, s _ _ h3, s _ _ h4⟩
inductive EY (vs : List V) (H : Hp) (Q : VK) : Prop
  | mk (q : Addr) (ps : List Str) (ss ts ys : List V) (at_ : Int) (v : V) (gd : Bool) (e : vs = [.ref q, .int at_, v, .bl gd]) (pl : qp H q ps ss ts ys) (g : Parts H ps ss ts ys) (a : Ask H ps ys at_ v gd)
      (kN : fJ ss ts ys at_ v gd = none → ∀ H', aj H H' → Q (.str (l0 at_)) H') (k : ∀ ss' ts' ys', fJ ss ts ys at_ v gd = some (ss', ts', ys') → ∀ q' H', aj H H' → qp H' q' ps ss' ts' ys' → Q (.ref q') H')
def yO : Sp := fun vs H Q _ => EY vs H Q
structure BS (H : Hp) (cs : List (List V)) (D : Addr) (i : Nat) (zs : List V) (H2 : Hp) : Prop where
  hD : H D = none
  s : aj H H2
  hz : H2 D = some (.lst zs)
  zl : zs.length = i
  hc : ∀ (j : Nat) (v : V) (c : List V), zs[j]? = some v → cs[j]? = some c → ∃ b, v = .ref b ∧ H b = none ∧ b ≠ D ∧ H2 b = some (.lst c)
  nd : zs.Nodup
theorem BS.step {H : Hp} {cs : List (List V)} {D l : Addr} {i : Nat} {zs : List V} {H2 : Hp} {c : List V} (h : BS H cs D i zs H2) (hi : cs[i]? = some c) (nl : H2 l = none) : BS H cs D (i + 1) (zs ++ [.ref l]) (upd (upd H2 l (.lst c)) D (.lst (zs ++ [.ref l]))) := by
  obtain ⟨hD, sm, hz, zl, hc, nd⟩ := h
  have lD : l ≠ D := (ah hz nl).symm
  have il : i < cs.length := (List.getElem?_eq_some_iff.mp hi).1
  refine ⟨hD, fun b' o e => ?_, aa, by rw [List.length_append, zl]; rfl, fun j v' c' hv' hc' => ?_, ?_⟩
  · rw [aq (ah e hD)]
    exact (aj.upd nl) _ _ (sm _ _ e)
  · by_cases hj : j < zs.length
    · rw [List.getElem?_append_left hj] at hv'
      obtain ⟨b', rfl, n', nD, hb'⟩ := hc j v' c' hv' hc'
      exact ⟨b', rfl, n', nD, by rw [aq nD]; exact (aj.upd nl) _ _ hb'⟩
    · rw [List.getElem?_append_right (by omega)] at hv'
      cases hjj : j - zs.length with
      | succ m =>
        rw [hjj] at hv'
        cases hv'
      | zero =>
        rw [hjj] at hv'
        cases hv'
        have ej : j = i := by omega
        subst ej
        rw [hi] at hc'
        cases hc'
        exact ⟨l, rfl, sm.free nl, lD, by rw [aq lD]; exact aa⟩
  · refine List.nodup_append.mpr ⟨nd, List.nodup_cons.mpr ⟨by simp, List.nodup_nil⟩, fun a ha b hb => ?_⟩
    rw [List.mem_singleton.mp hb]
    obtain ⟨j, hj, e⟩ := List.getElem_of_mem ha
    have e' : zs[j]? = some a := by rw [List.getElem?_eq_getElem hj, e]
    obtain ⟨b', rfl, _, _, hb'⟩ := hc j a _ e' (List.getElem?_eq_getElem (by omega))
    intro z
    cases z
    rw [nl] at hb'
    cases hb'
section
variable {P : Program} {w : World} {K : PySem.W.Frag} {mg : Str → Option Value} {base : Heap} {kw C : Addr}
theorem sD : aB ["_law_parts", "_law_at", "_law_thing", "_law_good_here", "_law_longer"] ["_law_parts", "_law_at", "_law_thing", "_law_good_here"] (ao jv) := {}
theorem yp {f : Addr} {fd : FuncData} (D : Df K mg "_law_due" jv ["_law_parts", "_law_at", "_law_thing", "_law_good_here"] f fd) (T : Txt K mg kw C) : Gd P w K mg base 1 "_law_due" yO := by
  refine J.a7 D sD (fun vs H Q E h => ?_) (fun X H vs Q E hh h => ?_)
  · obtain ⟨q, ps, ss, ts, ys, at_, v, gd, rfl, _⟩ := h
    rfl
  · obtain ⟨q, ps, ss, ts, ys, at_, v, gd, rfl, ⟨p, s, t, y, hq, hp, hs, ht, hy⟩, g, a, kN, k⟩ := h
    have S0 := hh.sl 0 "_law_parts"
    have S1 := hh.sl 1 "_law_at"
    have S2 := hh.sl 2 "_law_thing"
    have S3 := hh.sl 3 "_law_good_here"
    have S4 := hh.sl 4 "_law_longer"
    have B_len := hh.b T.b_len
    have BI_list : Bs X "list" := hh.FP T.b_list (by decide) (by decide)
    have hsz : sizeLine = 16777216 := sizeLine_eq
    have sl := g.sl
    have tl := g.tl
    have yl := g.yl
    obtain rfl := hh.fK
    refine ⟨_, (J.ai (J.AR (sc := L2.ao jv) (N := ["_law_parts", "_law_at", "_law_thing", "_law_good_here", "_law_longer"]) (is := []) (ns := []) S4 hh.nd hh.calm (J.eW (J.rd S0)) {} (fun _ _ _ _ _ => (J.fU (BI_list.lc rfl) J.ky L2.bF (J.af (J.vj rfl (by decide) (by decide)) J.ae))) hh.hsc hh.hN (by decide +kernel))
 (J.ai (J.aN (J.aJ J.bq (J.rd S1) J.ag (L2.aH _))
 (J.ai (J.aN (J.bf (J.ju (J.rd S3)))
 (J.ar (J.aw J.aM))
 J.aF)
 (J.ai (J.asg (J.au J.cm (J.bU J.de (J.aK J.aG (J.rd S0) J.ag J.aP) J.cM (J.cj (J.rd S2))) (J.bU J.de (J.aK J.aG (J.rd S0) J.ag J.aP) (J.cj (J.au J.bu (J.rd S2) J.ag)) J.cM)) (J.lM (J.rd S4) J.ag J.set_list))
 (J.ar (J.aw (J.rd S4)))))
 J.aF)
 (J.ai (J.aN (J.dw (J.dW (J.bf (J.ju (J.rd S3))) (J.c8 (J.aJ J.bq (J.blt B_len J.aD L2.aZ (J.af (J.aK J.aG (J.rd S0) (J.rd S1) J.bY) J.ae)) (J.aK J.aG (J.bg (J.af J.ag (J.af J.ag (J.af J.ag (J.af J.ag J.ae))))) (J.rd S1) J.bY) (L2.aH _)))))
 (J.ar (J.aw (J.aK J.aG (J.bg (J.af J.aM (J.af J.aM (J.af J.aM (J.af J.aM J.ae))))) (J.rd S1) J.bY)))
 J.aF)
 (J.ai (J.kM (J.bm PySem.F.plainAttrs_list PySem.F.slot_list_append PySem.F.type_list_append J.cD (J.aK J.aG (J.rd S4) (J.rd S1) J.bY) (J.af (J.rd S2) J.ae)))
 (J.ar (J.aw (J.rd S4))))))), ?_⟩
    have hcont : ∀ (j : Nat) (v : V), [V.ref p, V.ref s, V.ref t, V.ref y][j]? = some v → ∃ b c, v = .ref b ∧ [ps.map V.str, ss, ts, ys][j]? = some c ∧ H b = some (.lst c) := fun j v hv => by
      match j with
      | 0 => cases hv; exact ⟨p, _, rfl, rfl, hp⟩
      | 1 => cases hv; exact ⟨s, _, rfl, rfl, hs⟩
      | 2 => cases hv; exact ⟨t, _, rfl, rfl, ht⟩
      | 3 => cases hv; exact ⟨y, _, rfl, rfl, hy⟩
      | j + 4 => cases hv
    refine ⟨_, rfl, q, rfl, ⟨_, aE.of hq⟩, sI (n := 4) (BS H [ps.map V.str, ss, ts, ys]) (by omega)
      (fun D hD => ⟨hD, aj.upd hD, aa, rfl, (fun j v c hv => by cases hv), List.nodup_nil⟩) (fun D i zs H2 h => ⟨h.hz, h.zl⟩) (fun D i zs H2 h hi => ?_) (fun D zs H2 h => ⟨_, aE.of (h.s _ _ hq), Nat.le_refl 4⟩) ?_ ?_⟩
    · have : i < [V.ref p, V.ref s, V.ref t, V.ref y].length := hi
      exact ⟨_, _, aE.of (h.s _ _ hq), List.getElem?_eq_getElem this⟩
    · rintro D i zs H2 v H3 Q' h hi ⟨rfl, hy'⟩ q'
      have hv := hy' _ (aE.of (h.s _ _ hq))
      obtain ⟨b, c, rfl, ec, hb⟩ := hcont i v hv
      exact ⟨_, rfl, b, c, rfl, .inl (aE.of (h.s _ _ hb)), fun l nl => q' _ _ ((aj.upd nl) _ _ h.hz) (h.step ec nl)⟩
    · rintro L zs H2 hL ⟨_, s2, hz, zl, hc, nd⟩
      obtain ⟨v1, v2, v3, v4, rfl⟩ : ∃ v1 v2 v3 v4, zs = [v1, v2, v3, v4] := by
        match zs, zl with
        | [v1, v2, v3, v4], _ => exact ⟨v1, v2, v3, v4, rfl⟩
      obtain ⟨h1, rfl, m1, d1, e1⟩ := hc 0 v1 _ rfl rfl
      obtain ⟨h2, rfl, m2, d2, e2⟩ := hc 1 v2 _ rfl rfl
      obtain ⟨h3, rfl, m3, d3, e3⟩ := hc 2 v3 _ rfl rfl
      obtain ⟨h4, rfl, m4, d4, e4⟩ := hc 3 v4 _ rfl rfl
      clear hc zl
      have nds : (h1 ≠ h2 ∧ h1 ≠ h3 ∧ h1 ≠ h4) ∧ (h2 ≠ h3 ∧ h2 ≠ h4) ∧ h3 ≠ h4 := by
        simp only [List.nodup_cons, List.mem_cons, List.not_mem_nil, or_false, not_or, V.ref.injEq] at nd
        exact ⟨nd.1, nd.2.1, nd.2.2.1⟩
      obtain ⟨⟨n12, n13, n14⟩, ⟨n23, n24⟩, n34⟩ := nds
      clear nd
      cases a with
      | wo n ea ev l eg =>
        subst ea ev eg
        refine ⟨_, rfl, rfl, _, rfl, eB (eq_int 0) ⟨_, rfl, _, rfl, bX ?_⟩⟩
        refine ⟨_, rfl, q, _, _, _, rfl, rfl, aE.of (s2 _ _ hq), rfl, _, rfl, _, rfl, y, _, rfl, aE.of (s2 _ _ hy), fun c1 k1 => ?_⟩
        have s3 := aj.upd (o := .lst (bj ys none (some (n : Int)))) k1
        have f3 : upd H2 c1 (.lst (bj ys none (some (n : Int)))) c1 = _ := aa
        generalize upd H2 c1 (.lst (bj ys none (some (n : Int)))) = H3 at s3 f3
        refine ⟨_, rfl, q, _, _, _, rfl, rfl, aE.of (s3 _ _ (s2 _ _ hq)), rfl, _, rfl, _, _, rfl, rfl, _, rfl, y, _, rfl, aE.of (s3 _ _ (s2 _ _ hy)), fun c2 k2 => ?_⟩
        have s4 := aj.upd (o := .lst (bj ys (some ((n : Int) + 1)) none)) k2
        have f4 : upd H3 c2 (.lst (bj ys (some ((n : Int) + 1)) none)) c2 = _ := aa
        generalize upd H3 c2 (.lst (bj ys (some ((n : Int) + 1)) none)) = H4 at s4 f4
        have cl := lZ ys n
        refine ⟨c1, c2, _, _, rfl, rfl, aE.of (s4 _ _ f3), aE.of f4, by rw [List.length_append] at cl; omega, fun c3 k3 => ?_⟩
        have s5 := aj.upd (o := .lst (bj ys none (some (n : Int)) ++ bj ys (some ((n : Int) + 1)) none)) k3
        have f5 : upd H4 c3 (.lst (bj ys none (some (n : Int)) ++ bj ys (some ((n : Int) + 1)) none)) c3 = _ := aa
        have S4 := s3.trans s4
        have Lc : L ≠ c3 := ah (S4 _ _ hz) k3
        generalize upd H4 c3 (.lst (bj ys none (some (n : Int)) ++ bj ys (some ((n : Int) + 1)) none)) = H5 at s5 f5
        have S5 := S4.trans s5
        refine ⟨_, rfl, L, _, _, 3, rfl, rfl, S5 _ _ hz, (show ur 4 3 = some 3 by decide), _, rfl, ?_⟩
        exact k _ _ _ rfl L _ (aj.over hL (s2.trans S5)) ⟨h1, h2, h3, c3, aa, (aq d1).trans (S5 _ _ e1), (aq d2).trans (S5 _ _ e2), (aq d3).trans (S5 _ _ e3), (aq Lc.symm).trans f5⟩
      | woB ea th b eg =>
        subst ea eg
        exact ⟨_, rfl, rfl, _, rfl, eB (eq_int 0) ⟨_, rfl, _, rfl, cv (kN rfl H2 s2)⟩⟩
      | si ea d gv b =>
        subst ea
        have told : ∀ H3, aj H2 H3 → fJ ss ts ys 1 v gd = none → ∀ lb, H3 lb = none → Q (.str "sights") (upd H3 lb (.lst [.str "persons", .str "sights", .str "talks", .str "sayings"])) := fun H3 s3 hr lb nb => kN hr _ ((s2.trans s3).trans (aj.upd nb))
        refine ⟨_, rfl, rfl, _, rfl, cw (ne_int (by decide)) ?_⟩
        cases gd with
        | false =>
          refine ⟨_, rfl, _, rfl, cv (cv ⟨by show 4 ≤ sizeLine; decide, fun lb nb => ?_⟩)⟩
          exact ⟨_, rfl, lb, _, _, _, rfl, rfl, aE.of aa, rfl, told H2 (aj.refl _) rfl lb nb⟩
        | true =>
          refine ⟨_, rfl, _, rfl, bX ⟨_, rfl, _, rfl, q, _, _, _, rfl, rfl, aE.of (s2 _ _ hq), rfl, s, _, rfl, .inl (aE.of (s2 _ _ hs)), by show 4 ≤ sizeLine; decide, fun la na => ?_⟩⟩
          have s3 := aj.upd (o := .lst [.int 24, .int 24, .int 120, .int 60]) na
          have f3 : upd H2 la (.lst [.int 24, .int 24, .int 120, .int 60]) la = _ := aa
          generalize upd H2 la (.lst [.int 24, .int 24, .int 120, .int 60]) = H3 at s3 f3
          refine ⟨_, rfl, la, _, _, _, rfl, rfl, aE.of f3, rfl, rfl, _, rfl, ba (fun he => ?_) (fun he => ?_)⟩
          · have l : ss.length = 24 := by
              have := of_decide_eq_true he
              injection this with z
              omega
            refine ⟨by show 4 ≤ sizeLine; decide, fun lb nb => ?_⟩
            exact ⟨_, rfl, lb, _, _, _, rfl, rfl, aE.of aa, rfl, told H3 s3 (ic l) lb nb⟩
          · have l : ss.length ≠ 24 := fun z => he (decide_eq_true (by rw [z]; rfl))
            refine ⟨_, rfl, _, rfl, L, _, _, _, rfl, rfl, aE.of (s3 _ _ hz), rfl, .inl ⟨rfl, _, aE.of (s3 _ _ e2)⟩, _, rfl, h2, _, _, rfl, rfl, s3 _ _ e2, by omega, _, rfl, ?_⟩
            exact k _ _ _ (gG (by omega)) L _ (aj.over m2 (s2.trans s3)) ⟨h1, h2, h3, h4, (aq d2.symm).trans (s3 _ _ hz), (aq n12).trans (s3 _ _ e1), aa, (aq n23.symm).trans (s3 _ _ e3), (aq n24.symm).trans (s3 _ _ e4)⟩
      | ta ea d gv b =>
        subst ea
        have told : ∀ H3, aj H2 H3 → fJ ss ts ys 2 v gd = none → ∀ lb, H3 lb = none → Q (.str "talks") (upd H3 lb (.lst [.str "persons", .str "sights", .str "talks", .str "sayings"])) := fun H3 s3 hr lb nb => kN hr _ ((s2.trans s3).trans (aj.upd nb))
        refine ⟨_, rfl, rfl, _, rfl, cw (ne_int (by decide)) ?_⟩
        cases gd with
        | false =>
          refine ⟨_, rfl, _, rfl, cv (cv ⟨by show 4 ≤ sizeLine; decide, fun lb nb => ?_⟩)⟩
          exact ⟨_, rfl, lb, _, _, _, rfl, rfl, aE.of aa, rfl, told H2 (aj.refl _) rfl lb nb⟩
        | true =>
          refine ⟨_, rfl, _, rfl, bX ⟨_, rfl, _, rfl, q, _, _, _, rfl, rfl, aE.of (s2 _ _ hq), rfl, t, _, rfl, .inl (aE.of (s2 _ _ ht)), by show 4 ≤ sizeLine; decide, fun la na => ?_⟩⟩
          have s3 := aj.upd (o := .lst [.int 24, .int 24, .int 120, .int 60]) na
          have f3 : upd H2 la (.lst [.int 24, .int 24, .int 120, .int 60]) la = _ := aa
          generalize upd H2 la (.lst [.int 24, .int 24, .int 120, .int 60]) = H3 at s3 f3
          refine ⟨_, rfl, la, _, _, _, rfl, rfl, aE.of f3, rfl, rfl, _, rfl, ba (fun he => ?_) (fun he => ?_)⟩
          · have l : ts.length = 120 := by
              have := of_decide_eq_true he
              injection this with z
              omega
            refine ⟨by show 4 ≤ sizeLine; decide, fun lb nb => ?_⟩
            exact ⟨_, rfl, lb, _, _, _, rfl, rfl, aE.of aa, rfl, told H3 s3 (iD l) lb nb⟩
          · have l : ts.length ≠ 120 := fun z => he (decide_eq_true (by rw [z]; rfl))
            refine ⟨_, rfl, _, rfl, L, _, _, _, rfl, rfl, aE.of (s3 _ _ hz), rfl, .inl ⟨rfl, _, aE.of (s3 _ _ e3)⟩, _, rfl, h3, _, _, rfl, rfl, s3 _ _ e3, by omega, _, rfl, ?_⟩
            exact k _ _ _ (gR (by omega)) L _ (aj.over m3 (s2.trans s3)) ⟨h1, h2, h3, h4, (aq d3.symm).trans (s3 _ _ hz), (aq n13).trans (s3 _ _ e1), (aq n23).trans (s3 _ _ e2), aa, (aq n34.symm).trans (s3 _ _ e4)⟩
      | sa ea d gv b =>
        subst ea
        have told : ∀ H3, aj H2 H3 → fJ ss ts ys 3 v gd = none → ∀ lb, H3 lb = none → Q (.str "sayings") (upd H3 lb (.lst [.str "persons", .str "sights", .str "talks", .str "sayings"])) := fun H3 s3 hr lb nb => kN hr _ ((s2.trans s3).trans (aj.upd nb))
        refine ⟨_, rfl, rfl, _, rfl, cw (ne_int (by decide)) ?_⟩
        cases gd with
        | false =>
          refine ⟨_, rfl, _, rfl, cv (cv ⟨by show 4 ≤ sizeLine; decide, fun lb nb => ?_⟩)⟩
          exact ⟨_, rfl, lb, _, _, _, rfl, rfl, aE.of aa, rfl, told H2 (aj.refl _) rfl lb nb⟩
        | true =>
          refine ⟨_, rfl, _, rfl, bX ⟨_, rfl, _, rfl, q, _, _, _, rfl, rfl, aE.of (s2 _ _ hq), rfl, y, _, rfl, .inl (aE.of (s2 _ _ hy)), by show 4 ≤ sizeLine; decide, fun la na => ?_⟩⟩
          have s3 := aj.upd (o := .lst [.int 24, .int 24, .int 120, .int 60]) na
          have f3 : upd H2 la (.lst [.int 24, .int 24, .int 120, .int 60]) la = _ := aa
          generalize upd H2 la (.lst [.int 24, .int 24, .int 120, .int 60]) = H3 at s3 f3
          refine ⟨_, rfl, la, _, _, _, rfl, rfl, aE.of f3, rfl, rfl, _, rfl, ba (fun he => ?_) (fun he => ?_)⟩
          · have l : ys.length = 60 := by
              have := of_decide_eq_true he
              injection this with z
              omega
            refine ⟨by show 4 ≤ sizeLine; decide, fun lb nb => ?_⟩
            exact ⟨_, rfl, lb, _, _, _, rfl, rfl, aE.of aa, rfl, told H3 s3 (iF l) lb nb⟩
          · have l : ys.length ≠ 60 := fun z => he (decide_eq_true (by rw [z]; rfl))
            refine ⟨_, rfl, _, rfl, L, _, _, _, rfl, rfl, aE.of (s3 _ _ hz), rfl, .inl ⟨rfl, _, aE.of (s3 _ _ e4)⟩, _, rfl, h4, _, _, rfl, rfl, s3 _ _ e4, by omega, _, rfl, ?_⟩
            exact k _ _ _ (gD (by omega)) L _ (aj.over m4 (s2.trans s3)) ⟨h1, h2, h3, h4, (aq d4.symm).trans (s3 _ _ hz), (aq n14).trans (s3 _ _ e1), (aq n24).trans (s3 _ _ e2), (aq n34).trans (s3 _ _ e3), aa⟩
end
structure Bc (K : PySem.W.Frag) (C : Addr) : Prop where
  ha : PySem.W.findIn K (.ref C) "__class__" = some (some (.builtin "object.__class__"))
  hn : PySem.W.specialIn K (.builtin "object.__class__") "__get__" = some (some (.builtin "getset_descriptor.__get__"))
  htk : PySem.W.takesIn K (.builtin "object.__class__") = some true
  hm : PySem.W.mroIn K C (.type "object") = some true
  ks : PySem.W.kitOne K (.ref C) (.type "str") = some false
theorem tu (at_ : Int) : (l0 at_).length ≤ sizeLine := by
  unfold l0
  split
  · decide +kernel
  · split
    · decide +kernel
    · split
      · decide +kernel
      · decide +kernel
inductive EK (C : Addr) (vs : List V) (H : Hp) (Q : VK) : Prop
  | mk (x p s t y q : Addr) (ps : List Str) (ss ts ys : List V) (at_ : Int) (v : V) (gd : Bool) (e : vs = [.ref x, .ref q, .int at_, v, .bl gd]) (bk : Bk C H x p s t y ps ss ts ys) (pl : qp H q ps ss ts ys) (g : Parts H ps ss ts ys) (a : Ask H ps ys at_ v gd)
      (k : ∀ (tp x' p' s' t' y' q' : Addr) (ss' ts' ys' : List V) (H' : Hp), aj H H' → H' tp = some (.tup [.ref x', .ref q']) → Bk C H' x' p' s' t' y' ps ss' ts' ys' → qp H' q' ps ss' ts' ys' → Parts H' ps ss' ts' ys' → Q (.ref tp) H')
def yb (C : Addr) : Sp := fun vs H Q _ => EK C vs H Q
theorem lB {H : Hp} {r q p s t y : Addr} {ps : List Str} {ss ts ys : List V} (hr : H r = some (.lst [.ref p, .ref s, .ref t, .ref y])) (hp : H p = some (.lst (ps.map V.str))) (hs : H s = some (.lst ss)) (ht : H t = some (.lst ts)) (hy : H y = some (.lst ys)) (pl : qp H q ps ss ts ys) (g : Parts H ps ss ts ys) : jz 4 H (.ref r) (.ref q) := by
  obtain ⟨p2, s2, t2, y2, hq, hp2, hs2, ht2, hy2⟩ := pl
  exact qL hr hq hp hs ht hy hp2 hs2 ht2 hy2 g
section
variable {P : Program} {w : World} {K : PySem.W.Frag} {mg : Str → Option Value} {base : Heap} {kw C : Addr}
theorem rQ : aB ["_law_book_here", "_law_parts", "_law_at", "_law_thing", "_law_good_here", "_law_due_here", "_law_found"] ["_law_book_here", "_law_parts", "_law_at", "_law_thing", "_law_good_here"] (ao jR) := {}
theorem wt {f : Addr} {fd : FuncData} (D : Df K mg "_law_step" jR ["_law_book_here", "_law_parts", "_law_at", "_law_thing", "_law_good_here"] f fd) (T : Txt K mg kw C) (B : Bc K C) (G__law_due : Gd P w K mg base 1 "_law_due" yO) (G__law_done : Gd P w K mg base 11 "_law_done" (vh C)) (G__law_told : Gd P w K mg base 2 "_law_told" (lL C)) (G__law_alike : Gd P w K mg base 5 "_law_alike" (uT 5)) : Gd P w K mg base 12 "_law_step" (yb C) := by
  refine J.a7 D rQ (fun vs H Q E h => ?_) (fun X H vs Q E hh h => ?_)
  · obtain ⟨x, p, s, t, y, q, ps, ss, ts, ys, at_, v, gd, rfl, _⟩ := h
    rfl
  · obtain ⟨x, p, s, t, y, q, ps, ss, ts, ys, at_, v, gd, rfl, bk, pl, g, a, k⟩ := h
    have S0 := hh.sl 0 "_law_book_here"
    have S1 := hh.sl 1 "_law_parts"
    have S2 := hh.sl 2 "_law_at"
    have S3 := hh.sl 3 "_law_thing"
    have S4 := hh.sl 4 "_law_good_here"
    have S5 := hh.sl 5 "_law_due_here"
    have S6 := hh.sl 6 "_law_found"
    have B_isinstance := hh.b T.b_isinstance
    have B_str := hh.b T.b_str
    have C__law_alike := hh.c G__law_alike
    have C__law_done := hh.c G__law_done
    have C__law_due := hh.c G__law_due
    have C__law_told := hh.c G__law_told
    obtain rfl := hh.fK
    refine ⟨_, (J.ai (J.set S5 hh.nd (J.cn C__law_due (J.af (J.rd S1) (J.af (J.rd S2) (J.af (J.rd S3) (J.af (J.rd S4) J.ae))))))
 (J.ai (J.set S6 hh.nd (J.cn C__law_done (J.af (J.rd S0) (J.af (J.rd S2) (J.af (J.rd S3) J.ae)))))
 (J.ai (J.aN (J.bf (J.aV (J.cn C__law_alike (J.af (J.cn C__law_told (J.af (J.rd S0) J.ae)) (J.af (J.rd S1) J.ae)))))
 (J.ar (J.aw J.cS))
 J.aF)
 (J.ai (J.aN (J.aV (J.blt B_isinstance J.aU L2.av (J.af (J.rd S5) (J.af (J.ty B_str L2.fE) J.ae))))
 (J.ai (J.aN (J.aJ J.ip (J.rd S6) (J.rd S5) (L2.aH _))
 (J.ar (J.aw J.cS))
 J.aF)
 (J.ar (J.aw (J.bh (J.af (J.rd S0) (J.af (J.rd S1) J.ae))))))
 J.aF)
 (J.ai (J.aN (J.dw (J.dW (J.aV (J.blt B_isinstance J.aU L2.av (J.af (J.rd S6) (J.af (J.ty B_str L2.fE) J.ae)))) (J.c8 (J.bf (J.aV (J.cn C__law_alike (J.af (J.cn C__law_told (J.af (J.rd S6) J.ae)) (J.af (J.rd S5) J.ae))))))))
 (J.ar (J.aw J.cS))
 J.aF)
 (J.ar (J.aw (J.bh (J.af (J.rd S6) (J.af (J.rd S5) J.ae)))))))))), ?_⟩
    refine ⟨_, rfl, _, rfl, _, rfl, _, rfl, q, ps, ss, ts, ys, at_, v, gd, rfl, pl, g, a, fun hr H1 s1 => ?_, fun ss' ts' ys' hr q' H1 s1 pl1 => ?_⟩
    · refine ⟨_, rfl, _, rfl, _, rfl, x, p, s, t, y, ps, ss, ts, ys, at_, v, gd, rfl, bk.mono s1, g.mono (Tk.of s1), a.mono s1, (fun _ _ _ e => by rw [hr] at e; cases e), fun _ H2 s2 => ?_⟩
      have S2 := s1.trans s2
      refine ⟨_, rfl, x, p, s, t, y, ps, ss, ts, ys, rfl, bk.mono S2, fun r3 p3 s3' t3 y3 H3 s3 _ _ _ _ _ _ hr3 hp3 hs3 ht3 hy3 => ?_⟩
      have S3 := S2.trans s3
      refine ⟨_, rfl, _, _, rfl, lB hr3 hp3 hs3 ht3 hy3 (pl.mono S3) (g.mono (Tk.of S3)), fun H4 s4 => ⟨_, rfl, bX ?_⟩⟩
      have S4 := S3.trans s4
      refine ⟨_, rfl, jo (Th.str _ (tu at_)) ⟨_, rfl, cv ⟨_, rfl, _, rfl, rfl, _, rfl, eI rfl ⟨_, rfl, _, rfl, by show 2 ≤ sizeLine; decide, fun tp ntp => ?_⟩⟩⟩⟩
      have S5 := S4.trans (aj.upd (o := .tup [.ref x, .ref q]) ntp)
      exact k tp x p s t y q ss ts ys _ S5 aa (bk.mono S5) (pl.mono S5) (g.mono (Tk.of S5))
    · have g1 := (a.parts g hr).mono (Tk.of s1)
      refine ⟨_, rfl, _, rfl, _, rfl, x, p, s, t, y, ps, ss, ts, ys, at_, v, gd, rfl, bk.mono s1, g.mono (Tk.of s1), a.mono s1, (fun _ _ _ e => ?_), fun e => by rw [hr] at e; cases e⟩
      rw [hr] at e
      cases e
      intro x1 p1 s1' t1 y1 H2 s2 _ _ _ _ bk2
      have S2 := s1.trans s2
      refine ⟨_, rfl, x, p, s, t, y, ps, ss, ts, ys, rfl, bk.mono S2, fun r3 p3 s3' t3 y3 H3 s3 _ _ _ _ _ _ hr3 hp3 hs3 ht3 hy3 => ?_⟩
      have S3 := S2.trans s3
      refine ⟨_, rfl, _, _, rfl, lB hr3 hp3 hs3 ht3 hy3 (pl.mono S3) (g.mono (Tk.of S3)), fun H4 s4 => ⟨_, rfl, bX ?_⟩⟩
      have S4 := S3.trans s4
      have pl4 := pl1.mono (s2.trans (s3.trans s4))
      have bk4 := bk2.mono (s3.trans s4)
      have g4 := g1.mono (Tk.of (s2.trans (s3.trans s4)))
      have thq : Th H4 (.ref q') := by
        obtain ⟨_, _, _, _, hq4, _⟩ := id pl4
        exact .lst hq4
      obtain ⟨⟨dx4, hx4⟩, _⟩ := id bk4
      refine ⟨_, rfl, jo thq ⟨_, rfl, bX ⟨_, rfl, ⟨_, _, _, _, rfl, .ins hx4 T.cl B.ha B.hn B.htk B.hm, B.ks, ?_⟩⟩⟩⟩
      refine ⟨_, rfl, bX ⟨_, rfl, x1, p1, s1', t1, y1, ps, _, _, _, rfl, bk4, fun r5 p5 s5' t5 y5 H5 s5 _ _ _ _ _ _ hr5 hp5 hs5 ht5 hy5 => ?_⟩⟩
      refine ⟨_, rfl, _, _, rfl, lB hr5 hp5 hs5 ht5 hy5 (pl4.mono s5) (g4.mono (Tk.of s5)), fun H6 s6 => ⟨_, rfl, bX ?_⟩⟩
      refine ⟨_, rfl, _, rfl, by show 2 ≤ sizeLine; decide, fun tp ntp => ?_⟩
      have s7 := (s5.trans s6).trans (aj.upd (o := .tup [.ref x1, .ref q']) ntp)
      exact k tp x1 p1 s1' t1 y1 q' _ _ _ _ (S4.trans s7) aa (bk4.mono s7) (pl4.mono s7) (g4.mono (Tk.of s7))
end
theorem dg {at_ : Int} {ps : List Str} {ys : List V} {H : Hp} {v : V} (hP : a6 ps) (h : Aw at_ ps H v) (n : v ≠ .non) : Ask H ps ys at_ v true := by
  cases h with
  | non ea e => exact absurd e n
  | si ea h => exact .si ea (b9 hP h).1 (fun _ => h) fun e => by cases e
  | ta ea h => exact .ta ea (dC hP h).1 (fun _ => h) fun e => by cases e
  | sa ea h => exact .sa ea (kl hP h) (fun _ => h) fun e => by cases e
theorem vR {at_ : Int} {ps : List Str} {ys : List V} {H : Hp} {v : V} (h : lH ps H v) (ha : at_ = 1 ∨ at_ = 2 ∨ at_ = 3) : Ask H ps ys at_ v false := by
  rcases ha with ha | ha | ha
  · exact .si ha h.d (fun e => by cases e) fun _ => h.s
  · exact .ta ha h.d.dn (fun e => by cases e) fun _ => h.t
  · exact .sa ha h.d.dn (fun e => by cases e) fun _ => h.y
theorem lH.mono {ps : List Str} {H H' : Hp} {v : V} (s : aj H H') (h : lH ps H v) : lH ps H' v := ⟨h.d.mono s, (dk h.d s).trans h.s, (dM h.d.dn s).trans h.t, (eK h.d.dn s).trans h.y⟩
theorem uE {n : Nat} {i : Int} (h : (n : Int) ≤ i) : zN n (.int i) = false := by
  show (decide (0 ≤ i) && decide (i < (n : Int))) = false
  rw [show decide (i < (n : Int)) = false from decide_eq_false (by omega), Bool.and_false]
inductive FG (vs : List V) (H : Hp) (Q : VK) : Prop
  | mk (q : Addr) (n : Int) (ps : List Str) (ss ts ys : List V) (e : vs = [.ref q, .int n]) (pl : qp H q ps ss ts ys) (g : Parts H ps ss ts ys) (k : ∀ (tp : Addr) (at_ : Int) (v : V) (gd : Bool) (H' : Hp), aj H H' → H' tp = some (.tup [.int at_, v, .bl gd]) → Ask H' ps ys at_ v gd → Q (.ref tp) H')
def yi : Sp := fun vs H Q _ => FG vs H Q
section
variable {P : Program} {w : World} {K : PySem.W.Frag} {mg : Str → Option Value} {base : Heap} {kw C : Addr}
theorem qE : aB ["_law_parts", "_law_number", "_law_at", "_law_good_here", "_law_many", "_law_thing"] ["_law_parts", "_law_number"] (ao j9) := {}
theorem wq {f : Addr} {fd : FuncData} (D : Df K mg "_law_deed" j9 ["_law_parts", "_law_number"] f fd) (T : Txt K mg kw C) (G__law_good : Gd P w K mg base 3 "_law_good" pI) (G__law_odd : Gd P w K mg base 1 "_law_odd" ui) : Gd P w K mg base 4 "_law_deed" yi := by
  refine J.a7 D qE (fun vs H Q E h => ?_) (fun X H vs Q E hh h => ?_)
  · obtain ⟨q, n, ps, ss, ts, ys, rfl, _⟩ := h
    rfl
  · obtain ⟨q, n, ps, ss, ts, ys, rfl, pl, g, k⟩ := h
    have S0 := hh.sl 0 "_law_parts"
    have S1 := hh.sl 1 "_law_number"
    have S2 := hh.sl 2 "_law_at"
    have S3 := hh.sl 3 "_law_good_here"
    have S4 := hh.sl 4 "_law_many"
    have S5 := hh.sl 5 "_law_thing"
    have B_len := hh.b T.b_len
    have C__law_good := hh.c G__law_good
    have C__law_odd := hh.c G__law_odd
    have hsz : sizeLine = 16777216 := sizeLine_eq
    have yl := g.yl
    refine ⟨_, (J.ai (J.set S2 hh.nd (J.au J.aQ (J.rd S1) J.ag))
 (J.ai (J.set S3 hh.nd (J.bp J.j3 (J.au J.aQ (J.au J.aS (J.rd S1) J.ag) J.ag) J.ag (L2.aH _)))
 (J.ai (J.aN (J.aJ J.bq (J.rd S2) J.ag (L2.aH _))
 (J.ai (J.set S4 hh.nd (J.blt B_len J.aD L2.aZ (J.af (J.aK J.aG (J.rd S0) J.ag J.aP) J.ae)))
 (J.ai (J.aN (J.dw (J.fS (J.ju (J.rd S3)) (J.dQ (J.aJ J.j3 (J.rd S4) J.ag (L2.aH _)))))
 (J.ar (J.aw (J.bh (J.af J.ag (J.af (J.au J.aQ (J.au J.aS (J.rd S1) J.ag) (J.rd S4)) (J.af J.cq J.ae))))))
 J.aF)
 (J.ar (J.aw (J.bh (J.af J.ag (J.af (J.aK J.aG (J.bg (J.af (J.rd S4) (J.af (J.pS J.mK J.ag) (J.af J.cq (J.af J.cS (J.af J.aM (J.af (J.bh (J.af J.ag J.ae)) (J.af (J.au J.bu (J.rd S4) (J.au J.c7 J.ag J.ag)) J.ae)))))))) (J.au J.aQ (J.au J.aS (J.rd S1) J.ag) J.ag) J.eV) (J.af J.cq J.ae))))))))
 J.aF)
 (J.ai (J.set S5 hh.nd (J.cn C__law_good (J.af (J.rd S2) (J.af (J.au J.aS (J.rd S1) J.ag) (J.af (J.aK J.aG (J.rd S0) J.ag J.aP) J.ae)))))
 (J.ai (J.aN (J.dw (J.fS (J.ju (J.rd S3)) (J.dQ (J.aJ J.jj (J.rd S5) J.cS (L2.aH _)))))
 (J.ar (J.aw (J.bh (J.af (J.rd S2) (J.af (J.rd S5) (J.af J.cq J.ae))))))
 J.aF)
 (J.ar (J.aw (J.bh (J.af (J.rd S2) (J.af (J.cn C__law_odd (J.af (J.rd S2) (J.af (J.au J.aS (J.rd S1) J.ag) (J.af (J.aK J.aG (J.rd S0) J.ag J.aP) J.ae)))) (J.af J.cq J.ae))))))))))), ?_⟩
    obtain ⟨p, s, t, y, hq, hp, hs, ht, hy⟩ := id pl
    refine ⟨_, rfl, _, _, rfl, rfl, (by show (0 : Int) < 4; decide), ?_⟩
    refine ⟨_, rfl, _, _, rfl, rfl, ⟨by decide, by decide⟩, _, _, rfl, rfl, (by show (0 : Int) < 5; decide), _, _, rfl, rfl, ?_⟩
    dsimp only
    have a4 : n % 4 = 0 ∨ n % 4 = 1 ∨ n % 4 = 2 ∨ n % 4 = 3 := by omega
    generalize n % 4 = A at a4
    generalize decide (n / 4 % 5 > 0) = gd
    by_cases A0 : A = 0
    · subst A0
      refine ⟨_, rfl, rfl, _, rfl, eB (eq_int 0) ⟨_, rfl, q, _, _, _, rfl, rfl, aE.of hq, rfl, y, _, rfl, .inl (aE.of hy), ?_⟩⟩
      refine both ?_ fun other => ⟨_, rfl, _, rfl, ba (fun hg => ⟨_, rfl, _, _, rfl, rfl, _, rfl, ba (fun hm => ?_) (fun _ => other)⟩) (fun _ => bX other)⟩
      · refine ⟨_, rfl, _, rfl, by show 1 ≤ sizeLine; decide, fun t1 n1 => ?_⟩
        have s1 := aj.upd (o := .tup [.int 0]) n1
        have h1 : upd H t1 (.tup [.int 0]) t1 = some (.tup [.int 0]) := aa
        generalize upd H t1 (.tup [.int 0]) = H1 at s1 h1
        refine ⟨_, rfl, _, _, rfl, rfl, ⟨by decide, by decide, by decide⟩, _, _, rfl, rfl, by show 7 ≤ sizeLine; decide, fun l2 n2 => ?_⟩
        have s2 := aj.upd (o := .lst [.int (ys.length : Nat), .int (-1), .bl true, .non, .str "0", .ref t1, .int ((ys.length : Nat) + 10 ^ Int.toNat 20)]) n2
        have h2 : upd H1 l2 (.lst [.int (ys.length : Nat), .int (-1), .bl true, .non, .str "0", .ref t1, .int ((ys.length : Nat) + 10 ^ Int.toNat 20)]) l2 = some (.lst [.int (ys.length : Nat), .int (-1), .bl true, .non, .str "0", .ref t1, .int ((ys.length : Nat) + 10 ^ Int.toNat 20)]) := aa
        generalize upd H1 l2 (.lst [.int (ys.length : Nat), .int (-1), .bl true, .non, .str "0", .ref t1, .int ((ys.length : Nat) + 10 ^ Int.toNat 20)]) = H2 at s2 h2
        have t2 := s2 _ _ h1
        obtain ⟨v, hv, hm⟩ := mT (xs := ([.int (ys.length : Nat), .int (-1), .bl true, .non, .str "0", .ref t1, .int ((ys.length : Nat) + 10 ^ Int.toNat 20)] : List V)) (i := n / 20 % 7) (Int.emod_nonneg _ (by decide)) (show n / 20 % 7 < ((7 : Nat) : Int) from Int.emod_lt_of_pos _ (by decide))
        refine ⟨_, rfl, _, _, rfl, rfl, ⟨by decide, by decide⟩, _, _, rfl, rfl, (by show (0 : Int) < 7; decide), l2, _, _, _, rfl, rfl, aE.of h2, hv, by show 3 ≤ sizeLine; decide, fun tp ntp => ?_⟩
        have S3 := (s1.trans s2).trans (aj.upd (o := .tup [.int 0, v, .bl false]) ntp)
        have p20 : (0 : Int) < 10 ^ Int.toNat 20 := by decide +kernel
        have big : ((ys.length : Nat) : Int) ≤ ((ys.length : Nat) : Int) + 10 ^ Int.toNat 20 := Int.le_add_of_nonneg_right (Int.le_of_lt p20)
        obtain ⟨th, ib⟩ : Th H2 v ∧ zN ys.length v = false := (all1 ⟨.int _, uE (Int.le_refl _)⟩ (all1 ⟨.int _, rfl⟩ (all1 ⟨.bl _, rfl⟩ (all1 ⟨.non, rfl⟩ (all1 ⟨.str _ (by decide +kernel), rfl⟩ (all1 ⟨.tup t2, rfl⟩ (all1 ⟨.int _, uE big⟩ gU)))))) : ∀ x ∈ _, Th H2 x ∧ zN ys.length x = false) v hm
        exact k tp 0 v false _ S3 aa (.woB rfl (th.mono (aj.upd ntp)) ib rfl)
      · have y0 : 0 < ys.length := by
          have := of_decide_eq_true hm
          omega
        have m0 : 0 ≤ n / 20 % (ys.length : Int) := Int.emod_nonneg _ (by omega)
        have m1 : n / 20 % (ys.length : Int) < ys.length := Int.emod_lt_of_pos _ (by omega)
        refine ⟨_, rfl, _, _, rfl, rfl, ⟨by decide, by decide⟩, _, rfl, _, _, rfl, rfl, (by omega), ?_⟩
        dsimp only
        generalize n / 20 % (ys.length : Int) = M at m0 m1
        obtain ⟨m, rfl⟩ := Int.eq_ofNat_of_zero_le m0
        exact ⟨by show 3 ≤ sizeLine; decide, fun tp ntp => k tp 0 _ true _ (aj.upd ntp) aa (.wo m rfl rfl (by omega) rfl)⟩
    have ha : A = 1 ∨ A = 2 ∨ A = 3 := a4.elim (fun z => absurd z A0) id
    refine ⟨_, rfl, rfl, _, rfl, cw (ne_int A0) ⟨_, rfl, _, rfl, _, _, rfl, rfl, ⟨by decide, by decide⟩, _, rfl, q, _, _, _, rfl, rfl, aE.of hq, rfl, A, n / 20, p, ps, rfl, hp, g.ok, ha, fun v H1 s1 gt => ?_⟩⟩
    refine both ?_ fun other => ⟨_, rfl, _, rfl, ba (fun hg => ⟨_, rfl, rfl, _, rfl, ba (fun hn => ?_) (fun _ => other)⟩) (fun _ => bX other)⟩
    · refine ⟨_, rfl, _, rfl, _, rfl, _, _, rfl, rfl, ⟨by decide, by decide⟩, _, rfl, q, _, _, _, rfl, rfl, aE.of (s1 _ _ hq), rfl, .int A, p, n / 20, ps, rfl, s1 _ _ hp, g.ok, fun u H2 s2 od => ⟨by show 3 ≤ sizeLine; decide, fun tp ntp => ?_⟩⟩
      exact k tp A u false _ ((s1.trans s2).trans (aj.upd ntp)) aa (vR (od.mono (aj.upd ntp)) ha)
    · have nv : v ≠ .non := fun e => by
        rw [e] at hn
        exact absurd hn (by decide)
      refine ⟨_, rfl, _, rfl, by show 3 ≤ sizeLine; decide, fun tp ntp => ?_⟩
      exact k tp A v true _ (s1.trans (aj.upd ntp)) aa ((dg g.ok gt nv).mono (aj.upd ntp))
end
theorem _root_.J.iY {X : Cx} {tg a b : Expr} {p pos : Pos} {t : TA} (B : L2.Bt X "range") (ha : J.JA X [a, b] t) (h1 : L2.notStar a = true := by rfl) (h2 : L2.notStar b = true := by rfl) : J.JI X tg (.Call (.Name "range" p) [a, b] [] pos) (L2.xl t) := ⟨L2.iY B.gl B.nm ha.out (by rw [L2.aR h1, L2.aR h2]; rfl) (by rw [L2.aR h2]; rfl)⟩
theorem lC (v : V) (k : Nat) : (List.replicate k [v]).flatten.length = k := by
  rw [len_rep]
  exact Nat.mul_one k
theorem vY {v z : V} {k : Nat} (h : z ∈ (List.replicate k [v]).flatten) : z = v := by
  obtain ⟨l, hl, hz⟩ := List.mem_flatten.mp h
  rw [(List.mem_replicate.mp hl).2] at hz
  exact List.mem_singleton.mp hz
theorem mP {p : V → Prop} {xs : List V} {v : V} {k : Nat} (h : ∀ x ∈ xs, p x) (hv : p v) : ∀ x ∈ xs ++ (List.replicate k [v]).flatten, p x := fun x hx => by
  rcases List.mem_append.mp hx with hx | hx
  · exact h x hx
  · rw [vY hx]
    exact hv
theorem hJ {C NB : Addr} {H : Hp} {x dx p a b c : Addr} {ps : List Str} {ss ts ys : List V} {Q0 : VK} {E : XK} (hp : H p = some (.lst (ps.map V.str))) (ha : H a = some (.lst ss)) (hb : H b = some (.lst ts)) (hc : H c = some (.lst ys)) (g : Parts H ps ss ts ys) (nx : H x = none) (nd : H dx = none) (k : ∀ (p' s' t' y' : Addr) (H' : Hp), aj H H' → Bk C H' x p' s' t' y' ps ss ts ys → Q0 .non H') :
    jM C NB (.ref x :: ([.ref p, .ref a, .ref b, .ref c] ++ [])) (upd (upd H dx (.own x)) x (.ins C dx [])) Q0 E := by
  have s3 : aj H (upd (upd H dx (.own x)) x (.ins C dx [])) := fun b o e => by
    rw [aq (ah e nx), aq (ah e nd)]
    exact e
  refine .ok ⟨x, dx, p, a, b, c, ps, ss, ts, ys, rfl, aa, s3 _ _ hp, s3 _ _ ha, s3 _ _ hb, s3 _ _ hc, g.mono (Tk.of s3), fun p' s' t' y' H' n1 n2 n3 n4 bk kp => ?_⟩
  exact k p' s' t' y' H' (fun b o e => kp b o (s3 _ _ e) (ah e nx)) bk
inductive Fv (vs : List V) (H : Hp) (Q : VK) : Prop
  | mk (q : Addr) (ps : List Str) (ss ts ys : List V) (e : vs = [.ref q]) (pl : qp H q ps ss ts ys) (g : Parts H ps ss ts ys) (k : ∀ H', Q (.bl true) H')
def yj : Sp := fun vs H Q _ => Fv vs H Q
inductive E6 (q : Addr) (H0 : Hp) (σ : St) (H : Hp) : Prop
  | mk (e1 e2 e3 e4 e5 : Option V) (e : σ = [some (.ref q), e1, e2, e3, e4, e5]) (s : aj H0 H)
section
variable {P : Program} {w : World} {K : PySem.W.Frag} {mg : Str → Option Value} {base : Heap} {kw C Nb Ny : Addr}
theorem mZ : aB ["_law_parts", "_law_at", "_law_thing", "_law_most", "_law_full", "_law_book_here"] ["_law_parts"] (ao gB) := {}
theorem qY {f : Addr} {fd : FuncData} (D : Df K mg "_law_filled" gB ["_law_parts"] f fd) (T : Txt K mg kw C) (G__law_good : Gd P w K mg base 3 "_law_good" pI) (G_Book : Kd P w K mg base 7 "Book" C (fun vs H Q _ => jM C Nb vs H Q E0)) (G__law_asked : Gd P w K mg base 10 "_law_asked" (fun vs H Q _ => tD C Nb Ny vs H Q E0)) (G__law_done : Gd P w K mg base 11 "_law_done" (vh C)) (G__law_told : Gd P w K mg base 2 "_law_told" (lL C)) : Gd P w K mg base 12 "_law_filled" yj := by
  refine J.a7 D mZ (fun vs H Q E h => ?_) (fun X H vs Q E hh h => ?_)
  · obtain ⟨q, ps, ss, ts, ys, rfl, _⟩ := h
    rfl
  · obtain ⟨q, ps, ss, ts, ys, rfl, pl, g, k⟩ := h
    have S0 := hh.sl 0 "_law_parts"
    have S1 := hh.sl 1 "_law_at"
    have S2 := hh.sl 2 "_law_thing"
    have S3 := hh.sl 3 "_law_most"
    have S4 := hh.sl 4 "_law_full"
    have S5 := hh.sl 5 "_law_book_here"
    have B_len := hh.b T.b_len
    have B_list := hh.b T.b_list
    have B_range := hh.b T.b_range
    have C__law_asked := hh.c G__law_asked
    have C__law_done := hh.c G__law_done
    have C__law_good := hh.c G__law_good
    have C__law_told := hh.c G__law_told
    have K_Book := hh.zS G_Book rfl (by decide) (by decide)
    have hsz : sizeLine = 16777216 := sizeLine_eq
    have sl := g.sl
    have tl := g.tl
    have yl := g.yl
    have hP := g.ok
    obtain rfl := hh.fK
    refine ⟨_, (J.ai (J.gN hh.own hh.calm (J.iY B_range (J.af J.ag (J.af J.ag J.ae))) (J.qR S1 hh.nd)
 (J.ai (J.set S2 hh.nd (J.cn C__law_good (J.af (J.rd S1) (J.af (J.au J.bu J.ag (J.rd S1)) (J.af (J.aK J.aG (J.rd S0) J.ag J.aP) J.ae)))))
 (J.ai (J.set S3 hh.nd (J.aK J.aG (J.bg (J.af J.ag (J.af J.ag (J.af J.ag (J.af J.ag J.ae))))) (J.rd S1) J.bY))
 (J.ar (J.aN (J.aJ J.jj (J.rd S2) J.cS (L2.aH _))
 (J.ai (J.set S4 hh.nd (J.fU B_list J.aO L2.bF (J.af (J.rd S0) J.ae)))
 (J.ai (J.asg (J.au J.cm (J.aK J.aG (J.rd S0) (J.rd S1) J.bY) (J.au J.pj (J.bg (J.af (J.rd S2) J.ae)) (J.au J.gu (J.au J.gu (J.rd S3) J.ag) (J.blt B_len J.aD L2.aZ (J.af (J.aK J.aG (J.rd S0) (J.rd S1) J.bY) J.ae))))) (J.lM (J.rd S4) (J.rd S1) J.set_list))
 (J.ai (J.set S5 hh.nd (J.zS K_Book (J.af (J.aK J.aG (J.rd S4) J.ag J.aP) (J.af (J.aK J.aG (J.rd S4) J.ag J.aP) (J.af (J.aK J.aG (J.rd S4) J.ag J.aP) (J.af (J.aK J.aG (J.rd S4) J.ag J.aP) J.ae))))))
 (J.ai (J.aN (J.aJ J.j5 (J.blt B_len J.aD L2.aZ (J.af (J.aK J.aG (J.rd S4) (J.rd S1) J.bY) J.ae)) (J.rd S3) (L2.aH _))
 (J.ar (J.set S5 hh.nd (J.cn C__law_asked (J.af (J.rd S5) (J.af (J.rd S1) (J.af (J.rd S2) J.ae))))))
 J.aF)
 (J.ar (J.aN (J.dw (J.dW (J.aJ J.ip (J.blt B_len J.aD L2.aZ (J.af (J.aK J.aG (J.cn C__law_told (J.af (J.rd S5) J.ae)) (J.rd S1) J.bY) J.ae)) (J.rd S3) (L2.aH _)) (J.c8 (J.aJ J.ip (J.cn C__law_done (J.af (J.rd S5) (J.af (J.rd S1) (J.af (J.rd S2) J.ae)))) (J.aK J.aG (J.bg (J.af J.aM (J.af J.aM (J.af J.aM (J.af J.aM J.ae))))) (J.rd S1) J.bY) (L2.aH _)))))
 (J.ar (J.aw J.cq))
 J.aF))))))
 J.aF)))))
 (J.ar (J.aw J.cq))), ?_⟩
    obtain ⟨p, s, t, y, hq, hp, hs, ht, hy⟩ := id pl
    refine ⟨1, 4, rfl, ⟨by decide, by decide, by decide, by decide⟩, kF (lo := 1) (n := ((4 : Int) - 1).toNat) (fun _ => E6 q H) ⟨none, none, none, none, none, rfl, aj.refl _⟩ ?_ (fun σ H' _ => k H')⟩
    rintro i σ H1 hi ⟨e1, e2, e3, e4, e5, rfl, s1⟩
    have hi3 : i = 0 ∨ i = 1 ∨ i = 2 := by
      have : i < 3 := hi
      omega
    rcases hi3 with rfl | rfl | rfl
    · have ei : (1 : Int) + ((0 : Nat) : Int) = 1 := by decide
      rw [ei]
      refine ⟨_, rfl, _, rfl, _, _, rfl, rfl, _, rfl, q, _, _, _, rfl, rfl, aE.of (s1 _ _ hq), rfl, 1, _, p, ps, rfl, s1 _ _ hp, hP, .inl rfl, fun v H2 s2 gt => ?_⟩
      have S2 := s1.trans s2
      refine ⟨by show 4 ≤ sizeLine; decide, fun la na => ?_⟩
      have s3 := aj.upd (o := .lst [.int 0, .int 24, .int 120, .int 60]) na
      have f3 : upd H2 la (.lst [.int 0, .int 24, .int 120, .int 60]) la = _ := aa
      generalize upd H2 la (.lst [.int 0, .int 24, .int 120, .int 60]) = H3 at s3 f3
      have S3 := S2.trans s3
      refine ⟨_, rfl, la, _, _, _, rfl, rfl, aE.of f3, rfl, _, rfl, rfl, _, rfl, ba (fun hn => ?_) (fun hn => ⟨_, _, _, _, _, rfl, S3⟩)⟩
      have nv : v ≠ .non := fun e => by
        rw [e] at hn
        exact absurd hn (by decide)
      have gv : ck ps H2 v := by
        cases gt with
        | non ea e => exact absurd e nv
        | si ea h => exact h
        | ta ea h => exact absurd ea (by decide)
        | sa ea h => exact absurd ea (by decide)
      refine ⟨_, rfl, q, _, rfl, .inl (aE.of (S3 _ _ hq)), fun L nL => ?_⟩
      have s4 := aj.upd (o := .lst [.ref p, .ref s, .ref t, .ref y]) nL
      have f4 : upd H3 L (.lst [.ref p, .ref s, .ref t, .ref y]) L = _ := aa
      generalize upd H3 L (.lst [.ref p, .ref s, .ref t, .ref y]) = H4 at s4 f4
      have S4 := S3.trans s4
      refine ⟨_, rfl, _, rfl, q, _, _, _, rfl, rfl, aE.of (S4 _ _ hq), rfl, _, rfl, by show 1 ≤ sizeLine; decide, fun lt nt => ?_⟩
      have s5 := aj.upd (o := .lst [v]) nt
      have f5 : upd H4 lt (.lst [v]) lt = _ := aa
      generalize upd H4 lt (.lst [v]) = H5 at s5 f5
      have S5 := S4.trans s5
      refine ⟨_, rfl, _, _, rfl, rfl, _, rfl, _, rfl, q, _, _, _, rfl, rfl, aE.of (S5 _ _ hq), rfl, s, _, rfl, .inl (aE.of (S5 _ _ hs)), _, _, rfl, rfl, lt, _, _, rfl, rfl, f5, by omega, by omega, by show 1 * _ ≤ _; omega, fun lr nr => ?_⟩
      have rl := lC v ((24 : Int) - 1 - (ss.length : Int)).toNat
      have s6 := aj.upd (o := .lst (List.replicate (((24 : Int) - 1 - (ss.length : Int)).toNat) [v]).flatten) nr
      have f6 : upd H5 lr (.lst (List.replicate (((24 : Int) - 1 - (ss.length : Int)).toNat) [v]).flatten) lr = some (.lst (List.replicate (((24 : Int) - 1 - (ss.length : Int)).toNat) [v]).flatten) := aa
      generalize upd H5 lr (.lst (List.replicate (((24 : Int) - 1 - (ss.length : Int)).toNat) [v]).flatten) = H6 at s6 f6
      have S6 := S5.trans s6
      refine ⟨s, lr, _, _, rfl, rfl, aE.of (S6 _ _ hs), aE.of f6, by omega, fun lc nc => ?_⟩
      have s7 := aj.upd (o := .lst (ss ++ (List.replicate (((24 : Int) - 1 - (ss.length : Int)).toNat) [v]).flatten)) nc
      have f7 : upd H6 lc (.lst (ss ++ (List.replicate (((24 : Int) - 1 - (ss.length : Int)).toNat) [v]).flatten)) lc = some (.lst (ss ++ (List.replicate (((24 : Int) - 1 - (ss.length : Int)).toNat) [v]).flatten)) := aa
      have Lc : L ≠ lc := ah (s6 _ _ (s5 _ _ f4)) nc
      generalize upd H6 lc (.lst (ss ++ (List.replicate (((24 : Int) - 1 - (ss.length : Int)).toNat) [v]).flatten)) = H7 at s7 f7
      have S7 := S6.trans s7
      have nL1 : H1 L = none := (s2.trans s3).free nL
      have r7 := s5.trans (s6.trans s7)
      refine ⟨_, rfl, _, rfl, L, _, _, 1, rfl, rfl, r7 _ _ f4, (show ur 4 1 = some 1 by decide), ?_⟩
      have S9 : aj H (upd H7 L (.lst ([V.ref p, .ref s, .ref t, .ref y].set 1 (.ref lc)))) := aj.over (s1.free nL1) S7
      have hL9 : upd H7 L (.lst ([V.ref p, .ref s, .ref t, .ref y].set 1 (.ref lc))) L = some (.lst [V.ref p, V.ref lc, V.ref t, V.ref y]) := aa
      have hlc9 : upd H7 L (.lst ([V.ref p, .ref s, .ref t, .ref y].set 1 (.ref lc))) lc = _ := (aq Lc.symm).trans f7
      have S29 : aj H2 (upd H7 L (.lst ([V.ref p, .ref s, .ref t, .ref y].set 1 (.ref lc)))) := aj.over (s3.free nL) (s3.trans (s4.trans r7))
      generalize upd H7 L (.lst ([V.ref p, .ref s, .ref t, .ref y].set 1 (.ref lc))) = H9 at S9 hL9 hlc9 S29
      have hp9 := S9 _ _ hp
      have hs9 := S9 _ _ hs
      have ht9 := S9 _ _ ht
      have hy9 := S9 _ _ hy
      have g0 := g.mono (Tk.of S9)
      have gv9 := gv.mono (Tk.of S29)
      have gt9 : Aw 1 ps H9 v := .si rfl gv9
      have g9 : Parts H9 ps (ss ++ (List.replicate (((24 : Int) - 1 - (ss.length : Int)).toNat) [v]).flatten) ts ys := ⟨hP, (by rw [List.length_append, rl]; omega), mP g0.sg gv9, g0.tl, g0.tg, g0.yl, g0.yg⟩
      refine ⟨_, rfl, L, _, _, _, rfl, rfl, aE.of hL9, rfl, _, rfl, L, _, _, _, rfl, rfl, aE.of hL9, rfl, _, rfl, L, _, _, _, rfl, rfl, aE.of hL9, rfl, _, rfl, L, _, _, _, rfl, rfl, aE.of hL9, rfl, fun xF dxF nxF ndF neF => hJ hp9 hlc9 ht9 hy9 g9 nxF ndF fun pF sF tF yF HF sF' bkF => ⟨rfl, ?_⟩⟩
      have SF := S9.trans sF'
      have gF := g9.mono (Tk.of sF')
      refine ⟨_, rfl, _, rfl, L, _, _, _, rfl, rfl, aE.of (sF' _ _ hL9), rfl, lc, _, rfl, .inl (aE.of (sF' _ _ hlc9)), _, rfl, _, _, rfl, rfl, _, rfl, ba (fun hl => ?_) (fun hl => ?_)⟩
      · have l9 : (ss ++ (List.replicate (((24 : Int) - 1 - (ss.length : Int)).toNat) [v]).flatten).length < 24 := by
          have := of_decide_eq_true hl
          omega
        have ask9 := (dg (ys := ys) hP gt9 nv).mono sF'
        have gA := ask9.parts gF (gG l9)
        refine ⟨_, rfl, _, rfl, _, rfl, xF, pF, sF, tF, yF, ps, (ss ++ (List.replicate (((24 : Int) - 1 - (ss.length : Int)).toNat) [v]).flatten), ts, ys, 1, v, true, rfl, bkF, gF, ask9, (fun _ _ _ e => ?_), (fun e => by rw [gG l9] at e; cases e), fun e => by rw [gG l9] at e; cases e⟩
        rw [gG l9] at e
        cases e
        clear bkF
        have SF0 := SF
        intro xF pF sF tF yF HB sA _ _ _ _ bkA
        have SF := SF0.trans sA
        have gA := gA.mono (Tk.of sA)
        have lF : ((ss ++ (List.replicate (((24 : Int) - 1 - (ss.length : Int)).toNat) [v]).flatten) ++ [v]).length = 24 := by
          rw [List.length_append, List.length_append, rl]
          rw [List.length_append, rl] at l9
          show ss.length + _ + 1 = 24
          omega
        have askF := ((dg (ys := ys) hP gt9 nv).mono sF').mono sA
        refine ⟨_, rfl, xF, pF, sF, tF, yF, ps, ((ss ++ (List.replicate (((24 : Int) - 1 - (ss.length : Int)).toNat) [v]).flatten) ++ [v]), ts, ys, rfl, bkA, fun rG pG sG tG yG HG sG' _ _ _ _ _ _ hrG hpG hsG htG hyG => ?_⟩
        refine ⟨_, rfl, rG, _, _, _, rfl, rfl, aE.of hrG, rfl, sG, _, rfl, .inl (aE.of hsG), _, rfl, rfl, _, rfl, eI (by rw [lF]; rfl) ?_⟩
        refine ⟨_, rfl, _, rfl, _, rfl, xF, pF, sF, tF, yF, ps, ((ss ++ (List.replicate (((24 : Int) - 1 - (ss.length : Int)).toNat) [v]).flatten) ++ [v]), ts, ys, 1, v, true, rfl, bkA.mono sG', gA.mono (Tk.of sG'), askF.mono sG', (fun _ _ _ e => by rw [ic lF] at e; cases e), fun _ HK sK => ⟨by show 4 ≤ sizeLine; decide, fun lb nb => ?_⟩⟩
        refine ⟨_, rfl, lb, _, _, _, rfl, rfl, aE.of aa, rfl, rfl, _, rfl, eI rfl ?_⟩
        exact ⟨_, _, _, _, _, rfl, ((SF.trans sG').trans sK).trans (aj.upd nb)⟩
      · have l9 : (ss ++ (List.replicate (((24 : Int) - 1 - (ss.length : Int)).toNat) [v]).flatten).length = 24 := by
          have : ¬ (((ss ++ (List.replicate (((24 : Int) - 1 - (ss.length : Int)).toNat) [v]).flatten).length : Nat) : Int) < 24 := fun z => hl (decide_eq_true z)
          have : (ss ++ (List.replicate (((24 : Int) - 1 - (ss.length : Int)).toNat) [v]).flatten).length ≤ 24 := by
            rw [List.length_append, rl]
            omega
          omega
        have askF := (dg (ys := ys) hP gt9 nv).mono sF'
        refine ⟨_, rfl, xF, pF, sF, tF, yF, ps, (ss ++ (List.replicate (((24 : Int) - 1 - (ss.length : Int)).toNat) [v]).flatten), ts, ys, rfl, bkF, fun rG pG sG tG yG HG sG' _ _ _ _ _ _ hrG hpG hsG htG hyG => ?_⟩
        refine ⟨_, rfl, rG, _, _, _, rfl, rfl, aE.of hrG, rfl, sG, _, rfl, .inl (aE.of hsG), _, rfl, rfl, _, rfl, eI (by rw [l9]; rfl) ?_⟩
        refine ⟨_, rfl, _, rfl, _, rfl, xF, pF, sF, tF, yF, ps, (ss ++ (List.replicate (((24 : Int) - 1 - (ss.length : Int)).toNat) [v]).flatten), ts, ys, 1, v, true, rfl, bkF.mono sG', gF.mono (Tk.of sG'), askF.mono sG', (fun _ _ _ e => by rw [ic l9] at e; cases e), fun _ HK sK => ⟨by show 4 ≤ sizeLine; decide, fun lb nb => ?_⟩⟩
        refine ⟨_, rfl, lb, _, _, _, rfl, rfl, aE.of aa, rfl, rfl, _, rfl, eI rfl ?_⟩
        exact ⟨_, _, _, _, _, rfl, ((SF.trans sG').trans sK).trans (aj.upd nb)⟩
    · have ei : (1 : Int) + ((1 : Nat) : Int) = 2 := by decide
      rw [ei]
      refine ⟨_, rfl, _, rfl, _, _, rfl, rfl, _, rfl, q, _, _, _, rfl, rfl, aE.of (s1 _ _ hq), rfl, 2, _, p, ps, rfl, s1 _ _ hp, hP, .inr (.inl rfl), fun v H2 s2 gt => ?_⟩
      have S2 := s1.trans s2
      refine ⟨by show 4 ≤ sizeLine; decide, fun la na => ?_⟩
      have s3 := aj.upd (o := .lst [.int 0, .int 24, .int 120, .int 60]) na
      have f3 : upd H2 la (.lst [.int 0, .int 24, .int 120, .int 60]) la = _ := aa
      generalize upd H2 la (.lst [.int 0, .int 24, .int 120, .int 60]) = H3 at s3 f3
      have S3 := S2.trans s3
      refine ⟨_, rfl, la, _, _, _, rfl, rfl, aE.of f3, rfl, _, rfl, rfl, _, rfl, ba (fun hn => ?_) (fun hn => ⟨_, _, _, _, _, rfl, S3⟩)⟩
      have nv : v ≠ .non := fun e => by
        rw [e] at hn
        exact absurd hn (by decide)
      have gv : cV ps H2 v := by
        cases gt with
        | non ea e => exact absurd e nv
        | si ea h => exact absurd ea (by decide)
        | ta ea h => exact h
        | sa ea h => exact absurd ea (by decide)
      refine ⟨_, rfl, q, _, rfl, .inl (aE.of (S3 _ _ hq)), fun L nL => ?_⟩
      have s4 := aj.upd (o := .lst [.ref p, .ref s, .ref t, .ref y]) nL
      have f4 : upd H3 L (.lst [.ref p, .ref s, .ref t, .ref y]) L = _ := aa
      generalize upd H3 L (.lst [.ref p, .ref s, .ref t, .ref y]) = H4 at s4 f4
      have S4 := S3.trans s4
      refine ⟨_, rfl, _, rfl, q, _, _, _, rfl, rfl, aE.of (S4 _ _ hq), rfl, _, rfl, by show 1 ≤ sizeLine; decide, fun lt nt => ?_⟩
      have s5 := aj.upd (o := .lst [v]) nt
      have f5 : upd H4 lt (.lst [v]) lt = _ := aa
      generalize upd H4 lt (.lst [v]) = H5 at s5 f5
      have S5 := S4.trans s5
      refine ⟨_, rfl, _, _, rfl, rfl, _, rfl, _, rfl, q, _, _, _, rfl, rfl, aE.of (S5 _ _ hq), rfl, t, _, rfl, .inl (aE.of (S5 _ _ ht)), _, _, rfl, rfl, lt, _, _, rfl, rfl, f5, by omega, by omega, by show 1 * _ ≤ _; omega, fun lr nr => ?_⟩
      have rl := lC v ((120 : Int) - 1 - (ts.length : Int)).toNat
      have s6 := aj.upd (o := .lst (List.replicate (((120 : Int) - 1 - (ts.length : Int)).toNat) [v]).flatten) nr
      have f6 : upd H5 lr (.lst (List.replicate (((120 : Int) - 1 - (ts.length : Int)).toNat) [v]).flatten) lr = some (.lst (List.replicate (((120 : Int) - 1 - (ts.length : Int)).toNat) [v]).flatten) := aa
      generalize upd H5 lr (.lst (List.replicate (((120 : Int) - 1 - (ts.length : Int)).toNat) [v]).flatten) = H6 at s6 f6
      have S6 := S5.trans s6
      refine ⟨t, lr, _, _, rfl, rfl, aE.of (S6 _ _ ht), aE.of f6, by omega, fun lc nc => ?_⟩
      have s7 := aj.upd (o := .lst (ts ++ (List.replicate (((120 : Int) - 1 - (ts.length : Int)).toNat) [v]).flatten)) nc
      have f7 : upd H6 lc (.lst (ts ++ (List.replicate (((120 : Int) - 1 - (ts.length : Int)).toNat) [v]).flatten)) lc = some (.lst (ts ++ (List.replicate (((120 : Int) - 1 - (ts.length : Int)).toNat) [v]).flatten)) := aa
      have Lc : L ≠ lc := ah (s6 _ _ (s5 _ _ f4)) nc
      generalize upd H6 lc (.lst (ts ++ (List.replicate (((120 : Int) - 1 - (ts.length : Int)).toNat) [v]).flatten)) = H7 at s7 f7
      have S7 := S6.trans s7
      have nL1 : H1 L = none := (s2.trans s3).free nL
      have r7 := s5.trans (s6.trans s7)
      refine ⟨_, rfl, _, rfl, L, _, _, 2, rfl, rfl, r7 _ _ f4, (show ur 4 2 = some 2 by decide), ?_⟩
      have S9 : aj H (upd H7 L (.lst ([V.ref p, .ref s, .ref t, .ref y].set 2 (.ref lc)))) := aj.over (s1.free nL1) S7
      have hL9 : upd H7 L (.lst ([V.ref p, .ref s, .ref t, .ref y].set 2 (.ref lc))) L = some (.lst [V.ref p, V.ref s, V.ref lc, V.ref y]) := aa
      have hlc9 : upd H7 L (.lst ([V.ref p, .ref s, .ref t, .ref y].set 2 (.ref lc))) lc = _ := (aq Lc.symm).trans f7
      have S29 : aj H2 (upd H7 L (.lst ([V.ref p, .ref s, .ref t, .ref y].set 2 (.ref lc)))) := aj.over (s3.free nL) (s3.trans (s4.trans r7))
      generalize upd H7 L (.lst ([V.ref p, .ref s, .ref t, .ref y].set 2 (.ref lc))) = H9 at S9 hL9 hlc9 S29
      have hp9 := S9 _ _ hp
      have hs9 := S9 _ _ hs
      have ht9 := S9 _ _ ht
      have hy9 := S9 _ _ hy
      have g0 := g.mono (Tk.of S9)
      have gv9 := gv.mono (Tk.of S29)
      have gt9 : Aw 2 ps H9 v := .ta rfl gv9
      have g9 : Parts H9 ps ss (ts ++ (List.replicate (((120 : Int) - 1 - (ts.length : Int)).toNat) [v]).flatten) ys := ⟨hP, g0.sl, g0.sg, (by rw [List.length_append, rl]; omega), mP g0.tg gv9, g0.yl, g0.yg⟩
      refine ⟨_, rfl, L, _, _, _, rfl, rfl, aE.of hL9, rfl, _, rfl, L, _, _, _, rfl, rfl, aE.of hL9, rfl, _, rfl, L, _, _, _, rfl, rfl, aE.of hL9, rfl, _, rfl, L, _, _, _, rfl, rfl, aE.of hL9, rfl, fun xF dxF nxF ndF neF => hJ hp9 hs9 hlc9 hy9 g9 nxF ndF fun pF sF tF yF HF sF' bkF => ⟨rfl, ?_⟩⟩
      have SF := S9.trans sF'
      have gF := g9.mono (Tk.of sF')
      refine ⟨_, rfl, _, rfl, L, _, _, _, rfl, rfl, aE.of (sF' _ _ hL9), rfl, lc, _, rfl, .inl (aE.of (sF' _ _ hlc9)), _, rfl, _, _, rfl, rfl, _, rfl, ba (fun hl => ?_) (fun hl => ?_)⟩
      · have l9 : (ts ++ (List.replicate (((120 : Int) - 1 - (ts.length : Int)).toNat) [v]).flatten).length < 120 := by
          have := of_decide_eq_true hl
          omega
        have ask9 := (dg (ys := ys) hP gt9 nv).mono sF'
        have gA := ask9.parts gF (gR l9)
        refine ⟨_, rfl, _, rfl, _, rfl, xF, pF, sF, tF, yF, ps, ss, (ts ++ (List.replicate (((120 : Int) - 1 - (ts.length : Int)).toNat) [v]).flatten), ys, 2, v, true, rfl, bkF, gF, ask9, (fun _ _ _ e => ?_), (fun e => by rw [gR l9] at e; cases e), fun e => by rw [gR l9] at e; cases e⟩
        rw [gR l9] at e
        cases e
        clear bkF
        have SF0 := SF
        intro xF pF sF tF yF HB sA _ _ _ _ bkA
        have SF := SF0.trans sA
        have gA := gA.mono (Tk.of sA)
        have lF : ((ts ++ (List.replicate (((120 : Int) - 1 - (ts.length : Int)).toNat) [v]).flatten) ++ [v]).length = 120 := by
          rw [List.length_append, List.length_append, rl]
          rw [List.length_append, rl] at l9
          show ts.length + _ + 1 = 120
          omega
        have askF := ((dg (ys := ys) hP gt9 nv).mono sF').mono sA
        refine ⟨_, rfl, xF, pF, sF, tF, yF, ps, ss, ((ts ++ (List.replicate (((120 : Int) - 1 - (ts.length : Int)).toNat) [v]).flatten) ++ [v]), ys, rfl, bkA, fun rG pG sG tG yG HG sG' _ _ _ _ _ _ hrG hpG hsG htG hyG => ?_⟩
        refine ⟨_, rfl, rG, _, _, _, rfl, rfl, aE.of hrG, rfl, tG, _, rfl, .inl (aE.of htG), _, rfl, rfl, _, rfl, eI (by rw [lF]; rfl) ?_⟩
        refine ⟨_, rfl, _, rfl, _, rfl, xF, pF, sF, tF, yF, ps, ss, ((ts ++ (List.replicate (((120 : Int) - 1 - (ts.length : Int)).toNat) [v]).flatten) ++ [v]), ys, 2, v, true, rfl, bkA.mono sG', gA.mono (Tk.of sG'), askF.mono sG', (fun _ _ _ e => by rw [iD lF] at e; cases e), fun _ HK sK => ⟨by show 4 ≤ sizeLine; decide, fun lb nb => ?_⟩⟩
        refine ⟨_, rfl, lb, _, _, _, rfl, rfl, aE.of aa, rfl, rfl, _, rfl, eI rfl ?_⟩
        exact ⟨_, _, _, _, _, rfl, ((SF.trans sG').trans sK).trans (aj.upd nb)⟩
      · have l9 : (ts ++ (List.replicate (((120 : Int) - 1 - (ts.length : Int)).toNat) [v]).flatten).length = 120 := by
          have : ¬ (((ts ++ (List.replicate (((120 : Int) - 1 - (ts.length : Int)).toNat) [v]).flatten).length : Nat) : Int) < 120 := fun z => hl (decide_eq_true z)
          have : (ts ++ (List.replicate (((120 : Int) - 1 - (ts.length : Int)).toNat) [v]).flatten).length ≤ 120 := by
            rw [List.length_append, rl]
            omega
          omega
        have askF := (dg (ys := ys) hP gt9 nv).mono sF'
        refine ⟨_, rfl, xF, pF, sF, tF, yF, ps, ss, (ts ++ (List.replicate (((120 : Int) - 1 - (ts.length : Int)).toNat) [v]).flatten), ys, rfl, bkF, fun rG pG sG tG yG HG sG' _ _ _ _ _ _ hrG hpG hsG htG hyG => ?_⟩
        refine ⟨_, rfl, rG, _, _, _, rfl, rfl, aE.of hrG, rfl, tG, _, rfl, .inl (aE.of htG), _, rfl, rfl, _, rfl, eI (by rw [l9]; rfl) ?_⟩
        refine ⟨_, rfl, _, rfl, _, rfl, xF, pF, sF, tF, yF, ps, ss, (ts ++ (List.replicate (((120 : Int) - 1 - (ts.length : Int)).toNat) [v]).flatten), ys, 2, v, true, rfl, bkF.mono sG', gF.mono (Tk.of sG'), askF.mono sG', (fun _ _ _ e => by rw [iD l9] at e; cases e), fun _ HK sK => ⟨by show 4 ≤ sizeLine; decide, fun lb nb => ?_⟩⟩
        refine ⟨_, rfl, lb, _, _, _, rfl, rfl, aE.of aa, rfl, rfl, _, rfl, eI rfl ?_⟩
        exact ⟨_, _, _, _, _, rfl, ((SF.trans sG').trans sK).trans (aj.upd nb)⟩
    · have ei : (1 : Int) + ((2 : Nat) : Int) = 3 := by decide
      rw [ei]
      refine ⟨_, rfl, _, rfl, _, _, rfl, rfl, _, rfl, q, _, _, _, rfl, rfl, aE.of (s1 _ _ hq), rfl, 3, _, p, ps, rfl, s1 _ _ hp, hP, .inr (.inr rfl), fun v H2 s2 gt => ?_⟩
      have S2 := s1.trans s2
      refine ⟨by show 4 ≤ sizeLine; decide, fun la na => ?_⟩
      have s3 := aj.upd (o := .lst [.int 0, .int 24, .int 120, .int 60]) na
      have f3 : upd H2 la (.lst [.int 0, .int 24, .int 120, .int 60]) la = _ := aa
      generalize upd H2 la (.lst [.int 0, .int 24, .int 120, .int 60]) = H3 at s3 f3
      have S3 := S2.trans s3
      refine ⟨_, rfl, la, _, _, _, rfl, rfl, aE.of f3, rfl, _, rfl, rfl, _, rfl, ba (fun hn => ?_) (fun hn => ⟨_, _, _, _, _, rfl, S3⟩)⟩
      have nv : v ≠ .non := fun e => by
        rw [e] at hn
        exact absurd hn (by decide)
      have gv : dE ps H2 v := by
        cases gt with
        | non ea e => exact absurd e nv
        | si ea h => exact absurd ea (by decide)
        | ta ea h => exact absurd ea (by decide)
        | sa ea h => exact h
      refine ⟨_, rfl, q, _, rfl, .inl (aE.of (S3 _ _ hq)), fun L nL => ?_⟩
      have s4 := aj.upd (o := .lst [.ref p, .ref s, .ref t, .ref y]) nL
      have f4 : upd H3 L (.lst [.ref p, .ref s, .ref t, .ref y]) L = _ := aa
      generalize upd H3 L (.lst [.ref p, .ref s, .ref t, .ref y]) = H4 at s4 f4
      have S4 := S3.trans s4
      refine ⟨_, rfl, _, rfl, q, _, _, _, rfl, rfl, aE.of (S4 _ _ hq), rfl, _, rfl, by show 1 ≤ sizeLine; decide, fun lt nt => ?_⟩
      have s5 := aj.upd (o := .lst [v]) nt
      have f5 : upd H4 lt (.lst [v]) lt = _ := aa
      generalize upd H4 lt (.lst [v]) = H5 at s5 f5
      have S5 := S4.trans s5
      refine ⟨_, rfl, _, _, rfl, rfl, _, rfl, _, rfl, q, _, _, _, rfl, rfl, aE.of (S5 _ _ hq), rfl, y, _, rfl, .inl (aE.of (S5 _ _ hy)), _, _, rfl, rfl, lt, _, _, rfl, rfl, f5, by omega, by omega, by show 1 * _ ≤ _; omega, fun lr nr => ?_⟩
      have rl := lC v ((60 : Int) - 1 - (ys.length : Int)).toNat
      have s6 := aj.upd (o := .lst (List.replicate (((60 : Int) - 1 - (ys.length : Int)).toNat) [v]).flatten) nr
      have f6 : upd H5 lr (.lst (List.replicate (((60 : Int) - 1 - (ys.length : Int)).toNat) [v]).flatten) lr = some (.lst (List.replicate (((60 : Int) - 1 - (ys.length : Int)).toNat) [v]).flatten) := aa
      generalize upd H5 lr (.lst (List.replicate (((60 : Int) - 1 - (ys.length : Int)).toNat) [v]).flatten) = H6 at s6 f6
      have S6 := S5.trans s6
      refine ⟨y, lr, _, _, rfl, rfl, aE.of (S6 _ _ hy), aE.of f6, by omega, fun lc nc => ?_⟩
      have s7 := aj.upd (o := .lst (ys ++ (List.replicate (((60 : Int) - 1 - (ys.length : Int)).toNat) [v]).flatten)) nc
      have f7 : upd H6 lc (.lst (ys ++ (List.replicate (((60 : Int) - 1 - (ys.length : Int)).toNat) [v]).flatten)) lc = some (.lst (ys ++ (List.replicate (((60 : Int) - 1 - (ys.length : Int)).toNat) [v]).flatten)) := aa
      have Lc : L ≠ lc := ah (s6 _ _ (s5 _ _ f4)) nc
      generalize upd H6 lc (.lst (ys ++ (List.replicate (((60 : Int) - 1 - (ys.length : Int)).toNat) [v]).flatten)) = H7 at s7 f7
      have S7 := S6.trans s7
      have nL1 : H1 L = none := (s2.trans s3).free nL
      have r7 := s5.trans (s6.trans s7)
      refine ⟨_, rfl, _, rfl, L, _, _, 3, rfl, rfl, r7 _ _ f4, (show ur 4 3 = some 3 by decide), ?_⟩
      have S9 : aj H (upd H7 L (.lst ([V.ref p, .ref s, .ref t, .ref y].set 3 (.ref lc)))) := aj.over (s1.free nL1) S7
      have hL9 : upd H7 L (.lst ([V.ref p, .ref s, .ref t, .ref y].set 3 (.ref lc))) L = some (.lst [V.ref p, V.ref s, V.ref t, V.ref lc]) := aa
      have hlc9 : upd H7 L (.lst ([V.ref p, .ref s, .ref t, .ref y].set 3 (.ref lc))) lc = _ := (aq Lc.symm).trans f7
      have S29 : aj H2 (upd H7 L (.lst ([V.ref p, .ref s, .ref t, .ref y].set 3 (.ref lc)))) := aj.over (s3.free nL) (s3.trans (s4.trans r7))
      generalize upd H7 L (.lst ([V.ref p, .ref s, .ref t, .ref y].set 3 (.ref lc))) = H9 at S9 hL9 hlc9 S29
      have hp9 := S9 _ _ hp
      have hs9 := S9 _ _ hs
      have ht9 := S9 _ _ ht
      have hy9 := S9 _ _ hy
      have g0 := g.mono (Tk.of S9)
      have gv9 := gv.mono (Tk.of S29)
      have gt9 : Aw 3 ps H9 v := .sa rfl gv9
      have g9 : Parts H9 ps ss ts (ys ++ (List.replicate (((60 : Int) - 1 - (ys.length : Int)).toNat) [v]).flatten) := ⟨hP, g0.sl, g0.sg, g0.tl, g0.tg, (by rw [List.length_append, rl]; omega), mP g0.yg gv9⟩
      refine ⟨_, rfl, L, _, _, _, rfl, rfl, aE.of hL9, rfl, _, rfl, L, _, _, _, rfl, rfl, aE.of hL9, rfl, _, rfl, L, _, _, _, rfl, rfl, aE.of hL9, rfl, _, rfl, L, _, _, _, rfl, rfl, aE.of hL9, rfl, fun xF dxF nxF ndF neF => hJ hp9 hs9 ht9 hlc9 g9 nxF ndF fun pF sF tF yF HF sF' bkF => ⟨rfl, ?_⟩⟩
      have SF := S9.trans sF'
      have gF := g9.mono (Tk.of sF')
      refine ⟨_, rfl, _, rfl, L, _, _, _, rfl, rfl, aE.of (sF' _ _ hL9), rfl, lc, _, rfl, .inl (aE.of (sF' _ _ hlc9)), _, rfl, _, _, rfl, rfl, _, rfl, ba (fun hl => ?_) (fun hl => ?_)⟩
      · have l9 : (ys ++ (List.replicate (((60 : Int) - 1 - (ys.length : Int)).toNat) [v]).flatten).length < 60 := by
          have := of_decide_eq_true hl
          omega
        have ask9 := (dg (ys := (ys ++ (List.replicate (((60 : Int) - 1 - (ys.length : Int)).toNat) [v]).flatten)) hP gt9 nv).mono sF'
        have gA := ask9.parts gF (gD l9)
        refine ⟨_, rfl, _, rfl, _, rfl, xF, pF, sF, tF, yF, ps, ss, ts, (ys ++ (List.replicate (((60 : Int) - 1 - (ys.length : Int)).toNat) [v]).flatten), 3, v, true, rfl, bkF, gF, ask9, (fun _ _ _ e => ?_), (fun e => by rw [gD l9] at e; cases e), fun e => by rw [gD l9] at e; cases e⟩
        rw [gD l9] at e
        cases e
        clear bkF
        have SF0 := SF
        intro xF pF sF tF yF HB sA _ _ _ _ bkA
        have SF := SF0.trans sA
        have gA := gA.mono (Tk.of sA)
        have lF : ((ys ++ (List.replicate (((60 : Int) - 1 - (ys.length : Int)).toNat) [v]).flatten) ++ [v]).length = 60 := by
          rw [List.length_append, List.length_append, rl]
          rw [List.length_append, rl] at l9
          show ys.length + _ + 1 = 60
          omega
        have askF := ((dg (ys := ((ys ++ (List.replicate (((60 : Int) - 1 - (ys.length : Int)).toNat) [v]).flatten) ++ [v])) hP gt9 nv).mono sF').mono sA
        refine ⟨_, rfl, xF, pF, sF, tF, yF, ps, ss, ts, ((ys ++ (List.replicate (((60 : Int) - 1 - (ys.length : Int)).toNat) [v]).flatten) ++ [v]), rfl, bkA, fun rG pG sG tG yG HG sG' _ _ _ _ _ _ hrG hpG hsG htG hyG => ?_⟩
        refine ⟨_, rfl, rG, _, _, _, rfl, rfl, aE.of hrG, rfl, yG, _, rfl, .inl (aE.of hyG), _, rfl, rfl, _, rfl, eI (by rw [lF]; rfl) ?_⟩
        refine ⟨_, rfl, _, rfl, _, rfl, xF, pF, sF, tF, yF, ps, ss, ts, ((ys ++ (List.replicate (((60 : Int) - 1 - (ys.length : Int)).toNat) [v]).flatten) ++ [v]), 3, v, true, rfl, bkA.mono sG', gA.mono (Tk.of sG'), askF.mono sG', (fun _ _ _ e => by rw [iF lF] at e; cases e), fun _ HK sK => ⟨by show 4 ≤ sizeLine; decide, fun lb nb => ?_⟩⟩
        refine ⟨_, rfl, lb, _, _, _, rfl, rfl, aE.of aa, rfl, rfl, _, rfl, eI rfl ?_⟩
        exact ⟨_, _, _, _, _, rfl, ((SF.trans sG').trans sK).trans (aj.upd nb)⟩
      · have l9 : (ys ++ (List.replicate (((60 : Int) - 1 - (ys.length : Int)).toNat) [v]).flatten).length = 60 := by
          have : ¬ (((ys ++ (List.replicate (((60 : Int) - 1 - (ys.length : Int)).toNat) [v]).flatten).length : Nat) : Int) < 60 := fun z => hl (decide_eq_true z)
          have : (ys ++ (List.replicate (((60 : Int) - 1 - (ys.length : Int)).toNat) [v]).flatten).length ≤ 60 := by
            rw [List.length_append, rl]
            omega
          omega
        have askF := (dg (ys := (ys ++ (List.replicate (((60 : Int) - 1 - (ys.length : Int)).toNat) [v]).flatten)) hP gt9 nv).mono sF'
        refine ⟨_, rfl, xF, pF, sF, tF, yF, ps, ss, ts, (ys ++ (List.replicate (((60 : Int) - 1 - (ys.length : Int)).toNat) [v]).flatten), rfl, bkF, fun rG pG sG tG yG HG sG' _ _ _ _ _ _ hrG hpG hsG htG hyG => ?_⟩
        refine ⟨_, rfl, rG, _, _, _, rfl, rfl, aE.of hrG, rfl, yG, _, rfl, .inl (aE.of hyG), _, rfl, rfl, _, rfl, eI (by rw [l9]; rfl) ?_⟩
        refine ⟨_, rfl, _, rfl, _, rfl, xF, pF, sF, tF, yF, ps, ss, ts, (ys ++ (List.replicate (((60 : Int) - 1 - (ys.length : Int)).toNat) [v]).flatten), 3, v, true, rfl, bkF.mono sG', gF.mono (Tk.of sG'), askF.mono sG', (fun _ _ _ e => by rw [iF l9] at e; cases e), fun _ HK sK => ⟨by show 4 ≤ sizeLine; decide, fun lb nb => ?_⟩⟩
        refine ⟨_, rfl, lb, _, _, _, rfl, rfl, aE.of aa, rfl, rfl, _, rfl, eI rfl ?_⟩
        exact ⟨_, _, _, _, _, rfl, ((SF.trans sG').trans sK).trans (aj.upd nb)⟩
end
theorem vQ {K : PySem.W.Frag} {Nb Kn fI : Addr} (q : ownIn K Nb (.ref Kn :: uq) (some fI) = true) (q2 : ownIn K Kn uq none = true) (t : PySem.W.tailIn K uq (.ref Kn :: uq) = true) (fn : PySem.W.isFn K (.ref fI) = true) : eJ K Nb Kn fI := by
  refine ⟨?_, ?_, t, fn⟩
  · unfold ownIn at q
    split at q
    · rename_i dd cd sl ho
      split at q
      · rename_i C' bm' k0 k1 k2 k3 n k5 hm hs
        simp only [Bool.and_eq_true, beq_iff_eq, Bool.not_eq_true'] at q
        obtain ⟨⟨⟨⟨⟨⟨⟨rfl, rfl⟩, hdel⟩, hdc⟩, rfl⟩, hok⟩, hni⟩, hi⟩ := q
        obtain ⟨nm, bs, mro, ns, qn, hd, sn, sub, ab, col, del⟩ := cd
        dsimp only at hm hdel hok hni hdc hi
        subst hm hdel hdc
        have hsl : sl = #[k0, k1, k2, k3, some (.builtin "ValueError.__new__"), k5] := by
          obtain ⟨l⟩ := sl
          simp only at hs
          rw [hs]
        subst hsl
        exact ⟨nm, qn, ns, bs, sn, sub, ab, col, dd, k0, k1, k2, k3, k5, ho, hok, hi, fun x hx => beq_iff_eq.mp (List.all_eq_true.mp hni x hx)⟩
      · cases q
    · cases q
  · unfold ownIn at q2
    split at q2
    · rename_i dd cd sl ho
      split at q2
      · rename_i C' bm' k0 k1 k2 k3 n k5 hm hs
        simp only [Bool.and_eq_true, beq_iff_eq, Bool.not_eq_true'] at q2
        obtain ⟨⟨⟨⟨⟨⟨⟨rfl, rfl⟩, hdel⟩, hdc⟩, rfl⟩, hok⟩, hni⟩, hi⟩ := q2
        obtain ⟨nm, bs, mro, ns, qn, hd, sn, sub, ab, col, del⟩ := cd
        dsimp only at hm hdel hok hni hdc hi
        subst hm hdel hdc
        have hsl : sl = #[k0, k1, k2, k3, some (.builtin "ValueError.__new__"), k5] := by
          obtain ⟨l⟩ := sl
          simp only at hs
          rw [hs]
        subst hsl
        exact ⟨nm, qn, ns, bs, true, sn, sub, ab, col, dd, k0, k1, k2, k3, k5, _, ho, hok, fun x hx => beq_iff_eq.mp (List.all_eq_true.mp hni x hx)⟩
      · cases q2
    · cases q2
theorem qc {K : PySem.W.Frag} {C : Addr} {bm : List Value} (q : mL K C bm = true) : dy K C bm := by
  unfold mL at q
  split at q
  · rename_i dd cd sl ho
    split at q
    · rename_i C' bm' k0 k1 k2 k3 n k5 hm hs
      simp only [Bool.and_eq_true, beq_iff_eq, Bool.not_eq_true'] at q
      obtain ⟨⟨⟨⟨⟨⟨rfl, rfl⟩, hdel⟩, rfl⟩, hok⟩, hni⟩, ht⟩ := q
      obtain ⟨nm, bs, mro, ns, qn, hd, sn, sub, ab, col, del⟩ := cd
      dsimp only at hm hdel hok hni
      subst hm hdel
      have hsl : sl = #[k0, k1, k2, k3, some (.builtin "ValueError.__new__"), k5] := by
        obtain ⟨l⟩ := sl
        simp only at hs
        rw [hs]
      subst hsl
      exact ⟨nm, qn, ns, bs, hd, sn, sub, ab, col, dd, k0, k1, k2, k3, k5, ho, hok, (fun x hx => beq_iff_eq.mp (List.all_eq_true.mp hni x hx)), ht⟩
    · cases q
  · cases q
inductive zm  (K : PySem.W.Frag) (vs : List V) (H : Hp) (Q : VK) : Prop
  | mk (a : Addr) (ns : List Int) (h0 : vs = [.ref a]) (h1 : aE K H a (ns.map V.int)) (h2 : ns.length ≤ 63) (h3 : ∀ H', Q (.bl true) H')
def pE  (K : PySem.W.Frag) : Sp := fun vs H Q _ => zm K vs H Q
inductive EC (C a : Addr) (H0 : Hp) (σ : St) (H : Hp) : Prop
  | mk (x p s t y q : Addr) (ps : List Str) (ss ts ys : List V) (e3 e4 e5 e6 e7 e8 e9 : Option V) (e : σ = [some (.ref a), some (.ref q), some (.ref x), e3, e4, e5, e6, e7, e8, e9]) (sm : aj H0 H) (bk : Bk C H x p s t y ps ss ts ys) (pl : qp H q ps ss ts ys) (g : Parts H ps ss ts ys)
section
variable {P : Program} {w : World} {K : PySem.W.Frag} {mg : Str → Option Value} {base : Heap} {kw C Nb : Addr}
theorem zt : aB ["_law_script", "_law_parts", "_law_book_here", "_law_k", "_law_cell", "_law_number", "_law_at", "_law_thing", "_law_good_here", "_law_found"] ["_law_script"] (ao ke) := {}
theorem xI {f : Addr} {fd : FuncData} (F : gJ K "law" "law" ke f fd) (T : Txt K mg kw C) (G__law_book : Gd P w K mg base 3 "_law_book" (lT K)) (G_Book : Kd P w K mg base 7 "Book" C (fun vs H Q _ => jM C Nb vs H Q E0)) (G__law_deed : Gd P w K mg base 4 "_law_deed" yi) (G__law_step : Gd P w K mg base 12 "_law_step" (yb C)) (G__law_filled : Gd P w K mg base 12 "_law_filled" yj) : bH P w K mg base fD 13 f fd ["_law_script"] (pE K) := by
  refine J.jw F zt (fun vs H Q E h => ?_) (fun X H vs Q E hh h => ?_)
  · obtain ⟨a, ns, rfl, _⟩ := h
    rfl
  · obtain ⟨a, ns, rfl, hS, hlen, k⟩ := h
    have S0 := hh.sl 0 "_law_script"
    have S1 := hh.sl 1 "_law_parts"
    have S2 := hh.sl 2 "_law_book_here"
    have S3 := hh.sl 3 "_law_k"
    have S4 := hh.sl 4 "_law_cell"
    have S5 := hh.sl 5 "_law_number"
    have S6 := hh.sl 6 "_law_at"
    have S7 := hh.sl 7 "_law_thing"
    have S8 := hh.sl 8 "_law_good_here"
    have S9 := hh.sl 9 "_law_found"
    have B_enumerate := hh.b T.b_enumerate
    have B_len := hh.b T.b_len
    have C__law_book := hh.c G__law_book
    have C__law_deed := hh.c G__law_deed
    have C__law_filled := hh.c G__law_filled
    have C__law_step := hh.c G__law_step
    have K_Book := hh.zS G_Book rfl (by decide) (by decide)
    obtain rfl := hh.fK
    have hsz : sizeLine = 16777216 := sizeLine_eq
    refine ⟨_, (J.ai (J.set S1 hh.nd (J.cn C__law_book (J.af (J.rd S0) (J.af J.ag J.ae))))
 (J.ai (J.set S2 hh.nd (J.zS K_Book (J.af (J.aK J.aG (J.rd S1) J.ag J.aP) (J.af (J.aK J.aG (J.rd S1) J.ag J.aP) (J.af (J.aK J.aG (J.rd S1) J.ag J.aP) (J.af (J.aK J.aG (J.rd S1) J.ag J.aP) J.ae))))))
 (J.ai (J.gN hh.own hh.calm (J.jA B_enumerate (J.af (J.au J.cm (J.bU J.de (J.rd S0) J.cM (J.cj J.ag)) (J.bg (J.af (J.blt B_len J.aD L2.aZ (J.af (J.rd S0) J.ae)) J.ae))) J.ae)) (J.gC hh.calm (J.fP (J.qR S3 hh.nd) (J.fP (J.qR S4 hh.nd) J.fe)))
 (J.ai (J.set S5 hh.nd (J.au J.aQ (J.au J.cY (J.au J.bu (J.au J.aQ (J.rd S4) (J.au J.c7 J.ag J.ag)) (J.au J.cY (J.au J.cY J.ag (J.rd S3)) (J.rd S3))) J.ag) (J.au J.bu (J.au J.c7 J.ag J.ag) J.ag)))
 (J.ai (J.asg (J.cn C__law_deed (J.af (J.rd S1) (J.af (J.rd S5) J.ae))) (J.gC hh.calm (J.fP (J.qR S6 hh.nd) (J.fP (J.qR S7 hh.nd) (J.fP (J.qR S8 hh.nd) J.fe)))))
 (J.ai (J.set S9 hh.nd (J.cn C__law_step (J.af (J.rd S2) (J.af (J.rd S1) (J.af (J.rd S6) (J.af (J.rd S7) (J.af (J.rd S8) J.ae)))))))
 (J.ai (J.aN (J.aJ J.kh (J.rd S9) J.cS (L2.aH _))
 (J.ar (J.aw J.cq))
 J.aF)
 (J.ar (J.asg (J.rd S9) (J.gC hh.calm (J.fP (J.qR S2 hh.nd) (J.fP (J.qR S1 hh.nd) J.fe))))))))))
 (J.ar (J.aw (J.cn C__law_filled (J.af (J.rd S1) J.ae))))))), ?_⟩
    refine ⟨_, rfl, a, ns, rfl, hS, hlen, fun r p s t y ps ss ts ys H0 s0 nr np ns' nt ny nd hr hp hs ht hy g t60 y60 nz => ?_⟩
    refine ⟨_, rfl, r, _, _, _, rfl, rfl, aE.of hr, rfl, _, rfl, r, _, _, _, rfl, rfl, aE.of hr, rfl, _, rfl, r, _, _, _, rfl, rfl, aE.of hr, rfl, _, rfl, r, _, _, _, rfl, rfl, aE.of hr, rfl, fun x dxF nxF ndF neF => hJ hp hs ht hy g nxF ndF fun p' s' t' y' H1 s1 bk => ⟨rfl, ?_⟩⟩
    have hS1 := s1.seq (s0.seq hS)
    refine ⟨_, rfl, _, rfl, a, _, rfl, hS1, fun c1 n1 => ?_⟩
    have clen : (bj (ns.map V.int) none (some 20)).length ≤ 63 := Nat.le_trans (jd _ _ _) (by rw [List.length_map]; exact hlen)
    have sints : ∀ v ∈ bj (ns.map V.int) none (some 20), ∃ c : Int, v = .int c := fun v hv => by
      obtain ⟨c, _, rfl⟩ := List.mem_map.mp (List.mem_of_mem_drop (List.mem_of_mem_take hv))
      exact ⟨c, rfl⟩
    have s2 := aj.upd (o := .lst (bj (ns.map V.int) none (some 20))) n1
    have h2 : upd H1 c1 (.lst (bj (ns.map V.int) none (some 20))) c1 = some (.lst (bj (ns.map V.int) none (some 20))) := aa
    generalize upd H1 c1 (.lst (bj (ns.map V.int) none (some 20))) = H2 at s2 h2
    generalize bj (ns.map V.int) none (some 20) = cs at clen sints h2
    refine ⟨_, rfl, a, _, rfl, .inl (s2.seq hS1), by show 1 ≤ sizeLine; decide, fun l2 n2 => ?_⟩
    have s3 := aj.upd (o := .lst [.int ((ns.map V.int).length : Nat)]) n2
    have h3 : upd H2 l2 (.lst [.int ((ns.map V.int).length : Nat)]) l2 = some (.lst [.int ((ns.map V.int).length : Nat)]) := aa
    generalize upd H2 l2 (.lst [.int ((ns.map V.int).length : Nat)]) = H3 at s3 h3
    generalize (((ns.map V.int).length : Nat) : Int) = lc at h3
    refine ⟨c1, l2, _, _, rfl, rfl, aE.of (s3 _ _ h2), aE.of h3, by show cs.length + 1 ≤ sizeLine; omega, fun l4 n4 => ?_⟩
    have s4 := aj.upd (o := .lst (cs ++ [.int lc])) n4
    have h4 : upd H3 l4 (.lst (cs ++ [.int lc])) l4 = some (.lst (cs ++ [.int lc])) := aa
    generalize upd H3 l4 (.lst (cs ++ [.int lc])) = H4 at s4 h4
    have S4 := (s2.trans s3).trans s4
    have aint : ∀ v ∈ cs ++ [V.int lc], ∃ c : Int, v = .int c := fun v hv => by
      rcases List.mem_append.mp hv with hv | hv
      · exact sints v hv
      · exact ⟨lc, List.mem_singleton.mp hv⟩
    have pl4 : qp H4 r ps ss ts ys := qp.mono (s1.trans S4) ⟨p, s, t, y, hr, hp, hs, ht, hy⟩
    have g4 := g.mono (Tk.of (s1.trans S4))
    refine ⟨l4, rfl, ⟨_, aE.of h4⟩, m7 (K := X.K) (a := l4) (xs := cs ++ [.int lc]) (fun _ => EC C a H4) ⟨x, p', s', t', y', r, ps, ss, ts, ys, none, none, none, none, none, none, none, rfl, aj.refl _, bk.mono S4, pl4, g4⟩ (by rintro i σ H' ⟨_, _, _, _, _, _, _, _, _, _, _, _, _, _, _, _, _, _, s', _⟩; exact aE.of (s' _ _ h4)) ?_ ?_⟩
    · clear pl4 g4 bk
      rintro i v0 q0 σ H5 hx hq0 ⟨x, p, s, t, y, q, ps, ss, ts, ys, e3, e4, e5, e6, e7, e8, e9, rfl, s5, bk, pl, g⟩
      obtain ⟨c, rfl⟩ := aint v0 (List.mem_of_getElem? hx)
      have hi : i < (cs ++ [V.int lc]).length := (List.getElem?_eq_some_iff.mp hx).1
      have hi64 : i < 64 := by
        rw [List.length_append] at hi
        have : [V.int lc].length = 1 := rfl
        omega
      refine ⟨q0, _, rfl, br.of aa, rfl, _, _, rfl, _, _, rfl, rfl, ?_⟩
      have s6 := aj.upd (o := .tup [.int i, .int c]) hq0
      generalize upd H5 q0 (.tup [.int i, .int c]) = H6 at s6
      have S6' := s5.trans s6
      refine ⟨_, rfl, _, _, rfl, rfl, ⟨by decide, by decide, by decide⟩, _, _, rfl, rfl, (by show (0 : Int) < 10 ^ Int.toNat 30; decide +kernel), _, rfl, _, _, rfl, rfl, .inl ⟨by decide, by decide⟩, _, rfl, _, _, rfl, rfl, .inr ⟨by omega, by omega⟩, _, _, rfl, rfl, _, _, rfl, rfl, .inr ⟨by decide, by decide⟩, _, _, rfl, rfl, ⟨by decide, by decide, by decide⟩, _, _, rfl, rfl, _, _, rfl, rfl, (by show (0 : Int) < 10 ^ Int.toNat 31 + 33; decide +kernel), ?_⟩
      dsimp only
      generalize (c % 10 ^ Int.toNat 30 + 17 * (i : Int) * (i : Int)) * 69621 % (10 ^ Int.toNat 31 + 33) = N
      refine ⟨_, rfl, _, rfl, q, N, ps, ss, ts, ys, rfl, pl.mono s6, g.mono (Tk.of s6), fun tp at_ v gd H7 s7 htp ak => ?_⟩
      refine ⟨tp, _, rfl, br.of htp, rfl, _, _, rfl, _, _, rfl, _, _, rfl, rfl, ?_⟩
      have s67 := s6.trans s7
      refine ⟨_, rfl, _, rfl, _, rfl, _, rfl, _, rfl, x, p, s, t, y, q, ps, ss, ts, ys, at_, v, gd, rfl, bk.mono s67, pl.mono s67, g.mono (Tk.of s67), ak, fun tq x2 p2 s2' t2 y2 q2 ss2 ts2 ys2 H8 s8 htq bk2 pl2 g2 => ?_⟩
      refine ⟨_, rfl, rfl, _, rfl, cw (fun h => by have := of_decide_eq_true h; cases this) ?_⟩
      refine ⟨_, rfl, tq, _, rfl, br.of htq, rfl, _, _, rfl, _, _, rfl, rfl, ?_⟩
      exact ⟨x2, p2, s2', t2, y2, q2, ps, ss2, ts2, ys2, _, _, _, _, _, _, _, rfl, s5.trans (s67.trans s8), bk2, pl2, g2⟩
    · rintro σ H5 ⟨x, p, s, t, y, q, ps, ss, ts, ys, e3, e4, e5, e6, e7, e8, e9, rfl, s5, bk, pl, g⟩
      exact ⟨_, rfl, q, ps, ss, ts, ys, rfl, pl, g, k⟩
end
end K04
namespace K04
open PySem L2
theorem len0 (us : List Value) (h : us.length = 0) : us = [] := List.eq_nil_of_length_eq_zero h
theorem qT {n : Nat} (us : List Value) (h : us.length = n + 1) : ∃ a r, us = a :: r ∧ r.length = n := by
  cases us with
  | nil => cases h
  | cons a r => exact ⟨a, r, rfl, Nat.succ.inj h⟩
theorem qQ (us : List Value) (h : us.length = 1) : ∃ a, us = [a] := by
  obtain ⟨a, r, rfl, h'⟩ := qT us h
  exact ⟨a, by rw [len0 r h']⟩
theorem pB (us : List Value) (h : us.length = 2) : ∃ a b, us = [a, b] := by
  obtain ⟨a, r, rfl, h'⟩ := qT us h
  obtain ⟨b, rfl⟩ := qQ r h'
  exact ⟨a, b, rfl⟩
theorem Ab (us : List Value) (h : us.length = 3) : ∃ a b c, us = [a, b, c] := by
  obtain ⟨a, r, rfl, h'⟩ := qT us h
  obtain ⟨b, c, rfl⟩ := pB r h'
  exact ⟨a, b, c, rfl⟩
theorem AY (us : List Value) (h : us.length = 4) : ∃ a b c d, us = [a, b, c, d] := by
  obtain ⟨a, r, rfl, h'⟩ := qT us h
  obtain ⟨b, c, d, rfl⟩ := Ab r h'
  exact ⟨a, b, c, d, rfl⟩
theorem xA (us : List Value) (h : us.length = 5) : ∃ a b c d e, us = [a, b, c, d, e] := by
  obtain ⟨a, r, rfl, h'⟩ := qT us h
  obtain ⟨b, c, d, e, rfl⟩ := AY r h'
  exact ⟨a, b, c, d, e, rfl⟩
theorem FZ (us : List Value) (h : us.length = 6) : ∃ a b c d e f, us = [a, b, c, d, e, f] := by
  obtain ⟨a, r, rfl, h'⟩ := qT us h
  obtain ⟨b, c, d, e, f, rfl⟩ := xA r h'
  exact ⟨a, b, c, d, e, f, rfl⟩
theorem FF.d {K : PySem.W.Frag} {h : Heap} {mg : Str → Option Value} {x : Str} {st : Stmt} (F : FF K x st) (X : K.In h) (G : h.Ns mainGlobals mg) (ps : List Str) (hb : ∀ (kV doc pm : Value) (an : Option Addr) (cdv ct : Value) (us : List Value), us.length = ps.length → bindArgs (PySem.W.fnOf x x (bD st) (aX st) (ao st) .none kV doc pm an cdv ct) ⟨us, []⟩ = pure (ps.zip us) := by intro _ _ _ _ _ _ us hl; first | (obtain ⟨_, rfl⟩ := qQ us hl; rfl) | (obtain ⟨_, _, rfl⟩ := pB us hl; rfl) | (obtain ⟨_, _, _, rfl⟩ := Ab us hl; rfl) | (obtain ⟨_, _, _, _, rfl⟩ := AY us hl; rfl) | (obtain ⟨_, _, _, _, _, rfl⟩ := xA us hl; rfl)) : ∃ f fd, Df K mg x st ps f fd := by
  obtain ⟨a, l, c, k⟩ := F
  have F1 := du (st := st) l c k
  exact ⟨_, _, F1, PySem.W.mg_of X G a, F1.binds hb⟩
theorem iC : ∀ {zs : List Str} {us : List Value}, strsOf us = zs.map some → Vals (zs.map V.str) us
  | [], [], _ => .nil
  | [], _ :: _, h => by cases h
  | _ :: _, [], h => by cases h
  | z :: zs, u :: us, h => by
    have h1 : oneOf u :: strsOf us = some z :: zs.map some := h
    injection h1 with e1 e2
    refine .cons ?_ (iC e2)
    cases u with
    | str x t =>
      cases e1
      exact ⟨t, rfl⟩
    | _ => cases e1
theorem all_mk {l : PySem.W.OpenLaw} {w : World} {K : PySem.W.Frag} {h : Heap} {mg : Str → Option Value} {fa : Addr} (X : K.In h) (G : h.Ns mainGlobals mg) (hfa : mg "law" = some (.ref fa)) (FX : Facts K) :
    ∃ fd : FuncData, (∀ (s : Shared) (v : Value), BindsTo s fd ⟨[v], []⟩ [("_law_script", v)]) ∧ ∀ base : Heap, K.In base → base.Ns mainGlobals mg → bH l.prog w K mg base fD 13 fa fd ["_law_script"] (pE K) := by
  obtain @⟨kw, C, Kn, Ns, Nb, Nd, Nr, Ny, Sa, Tm, fI, f36, f37, f38, f39, f40, f41, f42, f43, f44, odw, od36, an36, od37, an37, od38, an38, od39, an39, od40, an40, od41, an41, od42, an42, od43, an43, od44, an44, slw, sl36, sl37, sl38, sl39, sl40, sl41, sl42, sl43, sl44, oc36, kV36, dc36, pm36, cd36, ct36, oc37, kV37, dc37, pm37, cd37, ct37, oc38, kV38, dc38, pm38, cd38, ct38, oc39, kV39, dc39, pm39, cd39, ct39, oc40, kV40, dc40, pm40, cd40, ct40, oc41, kV41, dc41, pm41, cd41, ct41, oc42, kV42, dc42, pm42, cd42, ct42, oc43, kV43, dc43, pm43, cd43, ct43, oc44, kV44, dc44, pm44, cd44, ct44, its, nW, tk1, tk2, tk3, tk4, tk5, aW, lW, vW, h1, h2, h3, h4, h5, h6, h7, h8, h9, h10, h11, h12, h13, h14, h15, h16, h17, h18, h19, h20, h21, h22, h23, h24, h25, h26, h27, h28, h29, h30, h31, h32, h33, h34, h35, aC, pg, hd, po, sa, mk, kc, nP, nS, nT, nY, x1, x2, x3, x4, x5, x6, x7, x8, x9, yI, x10, x11, x12, x13, x14, x15, x16, x17, x18, x19, x20, x21, x22, x23, x24, x25, x26, x27, x28, x29, x30, x31, x32, x33, x34, x35, x36, a36, i36, l36, c36, k36, a37, i37, l37, c37, k37, a38, i38, l38, c38, k38, a39, i39, l39, c39, k39, a40, i40, l40, c40, k40, a41, i41, l41, c41, k41, a42, i42, l42, c42, k42, a43, i43, l43, c43, k43, a44, i44, l44, c44, k44, z1, z2, z3, z4, z5, z6, z7, z8, z9, z10, z11, z12, z13, z14, z15, z16, z17, z18, z19, g1, g2, g3, g4, g5⟩ := FX
  have vW := iC (zs := kept) vW
  obtain @⟨f35, oc35, kV35, dc35, pm35, cd35, ct35, od35, an35, sl35, a35, l35, c35, k35⟩ := h35
  have e := hfa.symm.trans (PySem.W.mg_of X G a35)
  cases e
  have hsz : its.size ≤ sizeLine := by
    have e := vW.length
    have e2 : (kept.map V.str).length = 12 := by decide +kernel
    rw [e2, Array.length_toList] at e
    have : sizeLine = 16777216 := sizeLine_eq
    omega
  have T : Txt K mg kw C := ⟨PySem.W.mg_none_of X G z1, PySem.W.mg_none_of X G z2, PySem.W.mg_none_of X G z3, PySem.W.mg_none_of X G z4, PySem.W.mg_none_of X G z5, PySem.W.mg_none_of X G z6, PySem.W.mg_none_of X G z7, PySem.W.mg_none_of X G z8, PySem.W.mg_none_of X G z9, PySem.W.mg_none_of X G z10, PySem.W.mg_none_of X G z11, PySem.W.mg_none_of X G z12, PySem.W.mg_none_of X G z13, PySem.W.mg_none_of X G z14, PySem.W.mg_none_of X G z15, PySem.W.mg_none_of X G z16, PySem.W.mg_none_of X G z17, PySem.W.mg_none_of X G z18, PySem.W.mg_none_of X G z19, PySem.W.mg_of X G aW, ⟨_, its, nW, lW, rfl, rfl, hsz, vW⟩, ⟨_, PySem.W.mg_of X G g1, ⟨_, rfl⟩⟩, ⟨_, PySem.W.mg_of X G g2, ⟨_, rfl⟩⟩, ⟨_, PySem.W.mg_of X G g3, ⟨_, rfl⟩⟩, ⟨_, PySem.W.mg_of X G g4, ⟨_, rfl⟩⟩, ⟨_, PySem.W.mg_of X G g5, ⟨_, rfl⟩⟩, ⟨pg, hd, po, sa⟩, nP, nS, nT, nY⟩
  have F35 := du (st := ke) l35 c35 k35
  have F36 := du (st := eM) l36 c36 k36
  have F37 := du (st := cF) l37 c37 k37
  have F38 := du (st := cZ) l38 c38 k38
  have F39 := du (st := dB) l39 c39 k39
  have F40 := du (st := cH) l40 c40 k40
  have F41 := du (st := bM) l41 c41 k41
  have F42 := du (st := bV) l42 c42 k42
  have F43 := du (st := bC) l43 c43 k43
  have F44 := du (st := bc) l44 c44 k44
  obtain ⟨_, _, D_is_whole⟩ := h1.d X G ["thing"]
  obtain ⟨_, _, D_is_hour⟩ := h2.d X G ["thing"]
  obtain ⟨_, _, D_is_name⟩ := h3.d X G ["thing"]
  obtain ⟨_, _, D_is_list_up_to⟩ := h4.d X G ["thing", "most"]
  obtain ⟨_, _, D_is_tuple_of⟩ := h5.d X G ["thing", "length"]
  obtain ⟨_, _, D_is_person⟩ := h6.d X G ["persons", "thing"]
  obtain ⟨_, _, D_are_unlike_persons⟩ := h7.d X G ["persons", "one", "other"]
  obtain ⟨_, _, D_is_tale⟩ := h8.d X G ["thing"]
  obtain ⟨_, _, D_is_sight⟩ := h9.d X G ["persons", "thing"]
  obtain ⟨_, _, D_is_way⟩ := h10.d X G ["thing"]
  obtain ⟨_, _, D_is_talk⟩ := h11.d X G ["persons", "thing"]
  obtain ⟨_, _, D_is_span⟩ := h12.d X G ["begin", "end"]
  obtain ⟨_, _, D_is_short_saying⟩ := h13.d X G ["persons", "kind", "person", "behind"]
  obtain ⟨_, _, D_is_saying⟩ := h14.d X G ["persons", "thing"]
  obtain ⟨_, _, D_are_persons⟩ := h15.d X G ["thing"]
  obtain ⟨_, _, D_are_sights⟩ := h16.d X G ["persons", "thing"]
  obtain ⟨_, _, D_are_talks⟩ := h17.d X G ["persons", "thing"]
  obtain ⟨_, _, D_are_sayings⟩ := h18.d X G ["persons", "thing"]
  obtain ⟨_, _, D_l_names⟩ := h19.d X G ["_law_cell"]
  obtain ⟨_, _, D_l_hour⟩ := h20.d X G ["_law_number"]
  obtain ⟨_, _, D_l_tale⟩ := h21.d X G ["_law_number", "_law_names_here"]
  obtain ⟨_, _, D_l_talk⟩ := h22.d X G ["_law_number", "_law_persons"]
  obtain ⟨_, _, D_l_saying⟩ := h23.d X G ["_law_number", "_law_persons"]
  obtain ⟨_, _, D_l_book⟩ := h24.d X G ["_law_script", "_law_most"]
  obtain ⟨_, _, D_l_alike⟩ := h25.d X G ["_law_found", "_law_due_here"]
  obtain ⟨_, _, D_l_told⟩ := h26.d X G ["_law_book_here"]
  obtain ⟨_, _, D_l_good⟩ := h27.d X G ["_law_at", "_law_number", "_law_persons"]
  obtain ⟨_, _, D_l_odd⟩ := h28.d X G ["_law_at", "_law_number", "_law_persons"]
  obtain ⟨_, _, D_l_asked⟩ := h29.d X G ["_law_book_here", "_law_at", "_law_thing"]
  obtain ⟨_, _, D_l_done⟩ := h30.d X G ["_law_book_here", "_law_at", "_law_thing"]
  obtain ⟨_, _, D_l_due⟩ := h31.d X G ["_law_parts", "_law_at", "_law_thing", "_law_good_here"]
  obtain ⟨_, _, D_l_step⟩ := h32.d X G ["_law_book_here", "_law_parts", "_law_at", "_law_thing", "_law_good_here"]
  obtain ⟨_, _, D_l_deed⟩ := h33.d X G ["_law_parts", "_law_number"]
  obtain ⟨_, _, D_l_filled⟩ := h34.d X G ["_law_parts"]
  have b_m_init := F36.binds (ps := ["self", "persons", "sights", "talks", "sayings"]) fun _ _ _ _ _ _ us hl => by
    obtain ⟨_, _, _, _, _, rfl⟩ := xA us hl
    rfl
  have F_m_init := F36
  have mk_m_init : Mk K C f36 := ⟨mk, a36, i36, kc⟩
  have b_m_persons := F37.binds (ps := ["self"]) fun _ _ _ _ _ _ us hl => by
    obtain ⟨_, rfl⟩ := qQ us hl
    rfl
  have F_m_persons := F37
  have me_m_persons : Meth K C "persons" f37 := ⟨a37, i37, k37⟩
  have b_m_sights := F38.binds (ps := ["self"]) fun _ _ _ _ _ _ us hl => by
    obtain ⟨_, rfl⟩ := qQ us hl
    rfl
  have F_m_sights := F38
  have me_m_sights : Meth K C "sights" f38 := ⟨a38, i38, k38⟩
  have b_m_talks := F39.binds (ps := ["self"]) fun _ _ _ _ _ _ us hl => by
    obtain ⟨_, rfl⟩ := qQ us hl
    rfl
  have F_m_talks := F39
  have me_m_talks : Meth K C "talks" f39 := ⟨a39, i39, k39⟩
  have b_m_sayings := F40.binds (ps := ["self"]) fun _ _ _ _ _ _ us hl => by
    obtain ⟨_, rfl⟩ := qQ us hl
    rfl
  have F_m_sayings := F40
  have me_m_sayings : Meth K C "sayings" f40 := ⟨a40, i40, k40⟩
  have b_m_with_sight := F41.binds (ps := ["self", "one"]) fun _ _ _ _ _ _ us hl => by
    obtain ⟨_, _, rfl⟩ := pB us hl
    rfl
  have F_m_with_sight := F41
  have me_m_with_sight : Meth K C "with_sight" f41 := ⟨a41, i41, k41⟩
  have b_m_with_talk := F42.binds (ps := ["self", "one"]) fun _ _ _ _ _ _ us hl => by
    obtain ⟨_, _, rfl⟩ := pB us hl
    rfl
  have F_m_with_talk := F42
  have me_m_with_talk : Meth K C "with_talk" f42 := ⟨a42, i42, k42⟩
  have b_m_with_saying := F43.binds (ps := ["self", "one"]) fun _ _ _ _ _ _ us hl => by
    obtain ⟨_, _, rfl⟩ := pB us hl
    rfl
  have F_m_with_saying := F43
  have me_m_with_saying : Meth K C "with_saying" f43 := ⟨a43, i43, k43⟩
  have b_m_without_saying := F44.binds (ps := ["self", "number"]) fun _ _ _ _ _ _ us hl => by
    obtain ⟨_, _, rfl⟩ := pB us hl
    rfl
  have F_m_without_saying := F44
  have me_m_without_saying : Meth K C "without_saying" f44 := ⟨a44, i44, k44⟩
  have nmB := PySem.W.mg_of X G aC
  have CN : DK K mg Kn Ns Nb Nd Nr Ny Sa Tm fI := ⟨vQ x10 x11 x12 x13, PySem.W.mg_of X G x3, PySem.W.mg_of X G x1, ⟨_, PySem.W.mg_of X G x2, rfl⟩, ⟨_, PySem.W.mg_of X G x1, rfl⟩, ⟨_, PySem.W.mg_of X G x3, rfl⟩, ⟨_, PySem.W.mg_of X G x4, rfl⟩, ⟨_, PySem.W.mg_of X G x5, rfl⟩, ⟨_, PySem.W.mg_of X G x6, rfl⟩, ⟨_, PySem.W.mg_of X G x7, rfl⟩, ⟨_, PySem.W.mg_of X G x8, rfl⟩, PySem.W.mg_none_of X G x9, x14, x15, x16, x17, x18, x19, x20, x21⟩
  have CL : DU K mg Kn Ns Nb Nd Nr Ny Sa Tm fI := ⟨CN, qc x22, qc x23, x24, x25, x26, x27, x28, x29, x30, x31⟩
  have IB : Bc K C := ⟨x32, x33, x34, x35, x36⟩
  have hNy := PySem.W.mg_of X G x6
  obtain @⟨ocI, kVI, dcI, pmI, cdI, ctI, odI, anI, slI, aI, lI, cI, kI⟩ := yI
  have FI := du (st := eL) lI cI kI
  have bI := FI.binds (ps := ["self", "part"]) fun _ _ _ _ _ _ us hl => by
    obtain ⟨_, _, rfl⟩ := pB us hl
    rfl
  refine ⟨PySem.W.fnOf "law" "law" (bD ke) (aX ke) (ao ke) .none kV35 dc35 pm35 an35 cd35 ct35, fun s v => .of_eq rfl, fun base _ _ => ?_⟩
  have G1 : Gd l.prog w K mg base 2 "is_hour" (iK K) := ⟨_, _, _, vC D_is_hour.fn D_is_whole T, D_is_hour.nm, D_is_hour.fn.kp, D_is_hour.bi⟩
  have G2 : Gd l.prog w K mg base 1 "is_name" (jX K) := ⟨_, _, _, vI D_is_name.fn T, D_is_name.nm, D_is_name.fn.kp, D_is_name.bi⟩
  have G20 : Gd l.prog w K mg base 1 "_law_hour" fY := rH D_l_hour
  have G21 : Gd l.prog w K mg base 1 "_law_names" mH := oZ D_l_names T
  have G22 : Gd l.prog w K mg base 1 "_law_tale" lE := rg D_l_tale T
  have G23 : Gd l.prog w K mg base 2 "_law_talk" jk := rB D_l_talk T G20
  have G24 : Gd l.prog w K mg base 2 "_law_saying" mw := nE D_l_saying T G20
  have G25 : Gd l.prog w K mg base 3 "_law_book" (lT K) := qq D_l_book T G20 G21 G22 G23 G24
  have G0 : Gd l.prog w K mg base 1 "is_whole" (jm K) := ⟨_, _, _, nZ D_is_whole.fn T, D_is_whole.nm, D_is_whole.fn.kp, D_is_whole.bi⟩
  have B3 : Gd l.prog w K mg base 1 "is_list_up_to" kG := yR D_is_list_up_to T
  have B4 : Gd l.prog w K mg base 1 "is_tuple_of" pR := zi D_is_tuple_of T
  have B5 : Gd l.prog w K mg base 2 "is_person" kK := yL D_is_person G2
  have B6 : Gd l.prog w K mg base 3 "are_unlike_persons" pO := yD D_are_unlike_persons B5
  have B7 : Gd l.prog w K mg base 2 "is_tale" uU := yU D_is_tale T G2
  have B8 : Gd l.prog w K mg base 3 "is_sight" sJ := zp D_is_sight B4 B5 G1 B7
  have B9 : Gd l.prog w K mg base 1 "is_way" tV := yy D_is_way T
  have B10 : Gd l.prog w K mg base 4 "is_talk" sW := xO D_is_talk B4 B6 G1 B9
  have B11 : Gd l.prog w K mg base 3 "is_span" sO := xY D_is_span G1
  have B12 : Gd l.prog w K mg base 4 "is_short_saying" tH := xG D_is_short_saying B6 B5 G1
  have B13 : Gd l.prog w K mg base 5 "is_saying" tL := yc D_is_saying T B5 B11 B12
  have B14 : Gd l.prog w K mg base 2 "are_persons" uD := xX D_are_persons T B3 G2
  have B15 : Gd l.prog w K mg base 4 "are_sights" (ir a9 2 24) := lj D_are_sights T B3 B8
  have B16 : Gd l.prog w K mg base 5 "are_talks" (ir bK 1 120) := nu D_are_talks T B3 B10
  have B17 : Gd l.prog w K mg base 6 "are_sayings" (ir cK 1 60) := kx D_are_sayings T B3 B13
  have BB : sf l.prog w K mg base 7 "Book" C (jM C Nb) := ve F_m_init mk_m_init b_m_init nmB T CL.oB (AS FI) bI CL.hB B14 B15 B16 B17
  have BC : Kd l.prog w K mg base 7 "Book" C (fun vs H Q _ => jM C Nb vs H Q E0) := J.vm BB
  have M1 : Md l.prog w K mg base 1 C "persons" (cB C fun p _ _ _ => p) := lz F_m_persons me_m_persons b_m_persons T
  have M2 : Md l.prog w K mg base 1 C "sights" (cB C fun _ s _ _ => s) := m8 F_m_sights me_m_sights b_m_sights T
  have M3 : Md l.prog w K mg base 1 C "talks" (cB C fun _ _ t _ => t) := oS F_m_talks me_m_talks b_m_talks T
  have M4 : Md l.prog w K mg base 1 C "sayings" (cB C fun _ _ _ y => y) := mI F_m_sayings me_m_sayings b_m_sayings T
  have A1 : Gd l.prog w K mg base 2 "_law_told" (lL C) := vk D_l_told M1 M2 M3 M4
  have A2 : Gd l.prog w K mg base 5 "_law_alike" (uT 5) := nq D_l_alike T 5
  have W1 : oo l.prog w K mg base 9 C "with_sight" (tP C Nb) := kA F_m_with_sight me_m_with_sight b_m_with_sight T BB
  have W2 : oo l.prog w K mg base 9 C "with_talk" (uM C Nb) := lV F_m_with_talk me_m_with_talk b_m_with_talk T BB
  have W3 : oo l.prog w K mg base 9 C "with_saying" (u0 C Nb) := jZ F_m_with_saying me_m_with_saying b_m_with_saying T BB
  have W4 : oo l.prog w K mg base 9 C "without_saying" (xD C Ny) := Ax F_m_without_saying me_m_without_saying b_m_without_saying T CL.oY hNy BB G0
  have A3 : xo l.prog w K mg base 10 "_law_asked" (tD C Nb Ny) := sX D_l_asked W4 W1 W2 W3
  have A4 : Gd l.prog w K mg base 10 "_law_asked" (fun vs H Q _ => tD C Nb Ny vs H Q E0) := J.sR A3
  have A5 : Gd l.prog w K mg base 11 "_law_done" (vh C) := wI D_l_done T CL A3
  have A6 : Gd l.prog w K mg base 3 "_law_good" pI := vv D_l_good T G20 G23 G24
  have A7 : Gd l.prog w K mg base 1 "_law_odd" ui := xT D_l_odd
  have A8 : Gd l.prog w K mg base 1 "_law_due" yO := yp D_l_due T
  have A9 : Gd l.prog w K mg base 12 "_law_step" (yb C) := wt D_l_step T IB A8 A5 A1 A2
  have A10 : Gd l.prog w K mg base 4 "_law_deed" yi := wq D_l_deed T A6 A7
  have A11 : Gd l.prog w K mg base 12 "_law_filled" yj := qY D_l_filled T A6 BC A4 A5 A1
  exact xI F35 T G25 BC A10 A9 A11
theorem walk {l : PySem.W.OpenLaw} {q : Program} {loose : List Str} {XP : (Str → Option Value) → Heap → Prop} {YP : World → Heap → Prop} {d : DefRec} {K : Params → PySem.W.Frag} (hn : l.most = some 63) (hdf : d.params.defaults = [])
    (hY : ∀ (w : World) (h : Heap), YP w h → (K w.params).In h)
    (F : ∀ (w : World) (mg : Str → Option Value) (fa : Addr) (h : Heap), (K w.params).In h → h.Ns mainGlobals mg → mg d.name = some (.ref fa) →
      ∃ fd : FuncData, (∀ (s : Shared) (u : Value), BindsTo s fd ⟨[u], []⟩ [("_law_script", u)]) ∧ ∀ base : Heap, (K w.params).In base → base.Ns mainGlobals mg → bH l.prog w (K w.params) mg base fD 13 fa fd ["_law_script"] (pE (K w.params))) :
    PySem.W.WalkO q loose XP YP l.row.toRowW d [] (fun f vs => PySem.call f vs) :=
  L2.wm (n := 63) (k := 13) (x := "_law_script") (CX := fun _ => fD) (sp := fun w => pE (K w.params)) hn (by decide) hdf ⟨rfl, by decide, by decide⟩ hY F (fun _ _ a ns hl _ hS => ⟨a, ns, rfl, hS, hl, fun _ => rfl⟩) fun _ _ _ _ _ z => z
end K04
open PySem PySem.W PyProof.Rows
theorem PySem.Challenge.cw_knewby_k04_one_more_holds : PySem.Challenge.rw_knewby_k04_one_more.Holds :=
  K04.closing fun hdn hdf hY hF => K04.walk (l := PySem.Challenge.rw_knewby_k04_one_more) rfl hdf hY fun w mg fa h KX G hmg => K04.all_mk KX G (by rw [← hdn]; exact hmg) (hF w mg fa h KX G hmg)
