import PyProof.Rows.All
import Wide.All
import OpenK.KLine
import OpenK.KWalk
import KE.KNestM
import KE.KDictList
import KE.KDictSum
import KE.KIsAll
import Wide.FinOn
import Lean
import PyProof.EqAt
import PyProof.EqKinds
import PyProof.TupleCall
import PyProof.NeKinds
import PyProof.ListRange
import PyProof.Rows.SortStr
import KE.KRevIter
import KE.KDictOf
import PyProof.AttrMissSeq
import PyProof.Rows.SortRunsK
import PyProof.Rows.SortShellK
import PyProof.Rows.CallKwBuiltin
import KE.KSortTup
import KE.KxText
import PyProof.EqKinds
import PyProof.DictWalks
import KE.KSortedL
import KE.KSortedM
import KE.KSorted
import PySem.Challenge.RW_knewby_k15_unfitted
set_option Elab.async false
set_option linter.all false
set_option maxRecDepth 100000
set_option maxHeartbeats 4000000
namespace L2
open PySem PySem.Spec PyProof.Rows
/-- the j-th statement of a class's body -/
def inClass (s : Stmt) (j : Nat) : Stmt := match s with
  | .ClassDef _ _ _ body _ _ _ _ _ _ _ => body.getD j (.Pass ⟨0, 0, 0, 0⟩)
  | _ => .Pass ⟨0, 0, 0, 0⟩
def defArgs (s : Stmt) : Arguments := match s with
  | .FunctionDef _ a _ _ _ _ _ _ _ _ => a
  | _ => { posonlyargs := [], args := [], vararg := none, kwonlyargs := [], kw_defaults := [], kwarg := none, defaults := [] }
def defBody (s : Stmt) : List Stmt := match s with
  | .FunctionDef _ _ b _ _ _ _ _ _ _ => b
  | _ => []
def defScope (s : Stmt) : Scope := match s with
  | .FunctionDef _ _ _ _ _ _ sc _ _ _ => sc
  | _ => { kind := .function, names := [], isGenerator := false, isCoroutine := false }

end L2
/-! ### the top's run over a tree of objects -/
namespace TR
open PySem PySem.W
def runT (stp : SharedT → Thread → Option (SharedT × Thread)) (ok : Thread → Bool) : Nat → SharedT → Thread → Option SharedT
  | 0, _, _ => none
  | n + 1, s, t => match through t with
    | true => some s
    | false => match ok t with
      | false => none
      | true => match stp s t with
        | some (s', t') => runT stp ok n s' t'
        | none => none
theorem runT_of {tb : String → Option Builtin} {p : Program} {w : World} {n₀ : Nat} {ann : Option Value} : ∀ {n : Nat} {s s' : SharedT} {t : Thread}, runT (stepT (denote tb) p w) (stepOk n₀ ann) n s t = some s' → topRun tb p w n₀ ann n s.abs t = some s'.abs
  | 0, _, _, _, h => by cases h
  | n + 1, s, s', t, h => by
    unfold runT at h
    unfold topRun
    cases he : through t with
    | true => rw [he] at h; cases h; rfl
    | false =>
      rw [he] at h
      cases hk : stepOk n₀ ann t with
      | false => rw [hk] at h; cases h
      | true =>
        rw [hk] at h
        cases hs : stepT (denote tb) p w s t with
        | none => rw [hs] at h; cases h
        | some r =>
          obtain ⟨s₂, t₂⟩ := r
          rw [hs] at h
          rw [stepT_spec hs]
          exact runT_of h
def grow : List Obj → BT → Nat → Option BT
  | [], t, _ => some t
  | o :: r, t, n => match ((t.ins n o).get n).isSome with
    | true => grow r (t.ins n o) (n + 1)
    | false => none
theorem grow_abs {life : Life} : ∀ {l : List Obj} {t t' : BT} {n : Nat}, grow l t n = some t' → absHeap t' (n + l.length) life = l.foldl (fun h o => h.push o) (absHeap t n life)
  | [], _, _, _, h => by cases h; rfl
  | o :: r, t, t', n, h => by
    unfold grow at h
    cases g : ((t.ins n o).get n).isSome with
    | false => rw [g] at h; cases h
    | true =>
      rw [g] at h
      have ih := grow_abs (life := life) h
      rw [absHeap_ins g] at ih
      rw [List.length_cons, List.foldl_cons, ← ih]
      congr 1
      omega
theorem push_all (life : Life) : ∀ (l m : List Obj), l.foldl (fun (h : Heap) o => h.push o) ⟨m.toArray, life⟩ = ⟨(m ++ l).toArray, life⟩
  | [], m => by rw [List.append_nil]; rfl
  | o :: r, m => by
    have : (⟨m.toArray, life⟩ : Heap).push o = ⟨(m ++ [o]).toArray, life⟩ := by
      show (⟨m.toArray.push o, life⟩ : Heap) = _
      rw [List.push_toArray]
    rw [List.foldl_cons, this, push_all life r, List.append_assoc]
    rfl
def ofS (s : Shared) (t : BT) : SharedT := ⟨t, s.heap.objs.size, s.heap.life, s.gens, s.drawn, s.toks, s.os⟩
theorem ofS_abs {s : Shared} {t : BT} (h : grow s.heap.objs.toList .nil 0 = some t) : (ofS s t).abs = s := by
  have := grow_abs (life := s.heap.life) h
  rw [Nat.zero_add, show absHeap .nil 0 s.heap.life = ⟨([] : List Obj).toArray, s.heap.life⟩ from rfl, push_all, List.nil_append, Array.length_toList] at this
  obtain ⟨⟨objs, life⟩, gens, drawn, toks, os⟩ := s
  show (⟨absHeap t objs.size life, gens, drawn, toks, os⟩ : Shared) = _
  rw [this]
def runL {α : Type} (p : Program) (w : World) (N : Nat) (look : Shared → Shared → α) : Option α := (fencedOpening treeTable p w N).bind fun s₀ => (grow s₀.heap.objs.toList .nil 0).bind fun t => match s₀.heap.isNs mainGlobals && s₀.gens.size == 0 with
  | true => (runT (stepT (denote treeTable) p w) (stepOk s₀.heap.objs.size (s₀.heap.nsMap mainGlobals "__annotations__")) N (ofS s₀ t) (topStub p)).bind fun s₁ => some (look s₀ s₁.abs)
  | false => none
theorem runL_of {α : Type} {p : Program} {w : World} {N : Nat} {look : Shared → Shared → α} {a : α} (h : runL p w N look = some a) : ∃ s₀ s₁, fencedOpening treeTable p w N = some s₀ ∧ (s₀.heap.isNs mainGlobals && s₀.gens.size == 0) = true ∧ topRun treeTable p w s₀.heap.objs.size (s₀.heap.nsMap mainGlobals "__annotations__") N s₀ (topStub p) = some s₁ ∧ look s₀ s₁ = a := by
  unfold runL at h
  obtain ⟨s₀, e0, h⟩ := Option.bind_eq_some_iff.mp h
  obtain ⟨t, eg, h⟩ := Option.bind_eq_some_iff.mp h
  refine ⟨s₀, ?_⟩
  cases c : (s₀.heap.isNs mainGlobals && s₀.gens.size == 0) with
  | false => rw [c] at h; cases h
  | true =>
    rw [c] at h
    obtain ⟨s₁, er, h⟩ := Option.bind_eq_some_iff.mp h
    have r := runT_of er
    rw [ofS_abs eg] at r
    exact ⟨s₁.abs, e0, rfl, r, Option.some.inj h⟩
/-- the looks one by one: each has the memory for itself -/
theorem left3 {p q : Program} {loose : List Str} {Xt : Shared → Bool} {α : Type} {Yf : Shared → α} {Ya : World → α} {N : Nat}
    (hA : ∀ w, runL p w N (fun s₀ s₁ => staticsOk (importedModules p.main.body) s₀.heap s₁.heap && namesBound p s₁.heap && gensDone s₁ && laidKept s₀.heap s₁.heap) = some true)
    (hB : ∀ w, runL p w N (fun _ s₁ => openSeen q loose (importedModules p.main.body) Xt true s₁) = some (openGood q loose))
    (hC : ∀ w, runL p w N (fun _ s₁ => Yf s₁) = some (Ya w)) : LeftO p q loose Xt Yf Ya N := fun w => by
  obtain ⟨s₀, s₁, e0, c, r, hA⟩ := runL_of (hA w)
  obtain ⟨s₀', s₁', e0', _, r', hB⟩ := runL_of (hB w)
  rw [e0] at e0'
  cases e0'
  rw [r] at r'
  cases r'
  obtain ⟨s₀', s₁', e0', _, r', hC⟩ := runL_of (hC w)
  rw [e0] at e0'
  cases e0'
  rw [r] at r'
  cases r'
  unfold openEnds
  rw [e0]
  show (topFrom treeTable p w N s₀).map _ = _
  unfold topFrom
  rw [c]
  dsimp only
  rw [r]
  simp only [Option.bind_some]
  rw [hA]
  show some (openSeen q loose (importedModules p.main.body) Xt true s₁, Yf s₁) = _
  rw [hB, hC]
end TR

section
namespace K15
open PySem L2
def top (i : Nat) : Stmt := PySem.Challenge.pw_knewby_k15_unfitted.main.body.getD i (.Pass ⟨0, 0, 0, 0⟩)
abbrev s_hours_in : Stmt := top 2
abbrev s_fits_knew : Stmt := top 3
abbrev s_fits_unheard : Stmt := top 4
abbrev s_fits_silent : Stmt := top 5
abbrev s_fits_barred : Stmt := top 6
abbrev s_fits : Stmt := top 7
abbrev s_unfitted : Stmt := top 8
abbrev s_is_whole : Stmt := top 14
abbrev s_is_hour : Stmt := top 15
abbrev s_is_name : Stmt := top 16
abbrev s_is_list_up_to : Stmt := top 23
abbrev s_is_tuple_of : Stmt := top 24
abbrev s_is_person : Stmt := top 25
abbrev s_are_unlike_persons : Stmt := top 26
abbrev s_is_tale : Stmt := top 27
abbrev s_is_sight : Stmt := top 28
abbrev s_is_way : Stmt := top 29
abbrev s_is_talk : Stmt := top 30
abbrev s_is_span : Stmt := top 31
abbrev s_is_short_saying : Stmt := top 32
abbrev s_is_saying : Stmt := top 33
abbrev s_are_persons : Stmt := top 34
abbrev s_are_sights : Stmt := top 35
abbrev s_are_talks : Stmt := top 36
abbrev s_are_sayings : Stmt := top 37
abbrev s_m_init : Stmt := inClass (top 38) 0
abbrev s_m_persons : Stmt := inClass (top 38) 1
abbrev s_m_sights : Stmt := inClass (top 38) 2
abbrev s_m_talks : Stmt := inClass (top 38) 3
abbrev s_m_sayings : Stmt := inClass (top 38) 4
abbrev s_m_with_sight : Stmt := inClass (top 38) 5
abbrev s_m_with_talk : Stmt := inClass (top 38) 6
abbrev s_m_with_saying : Stmt := inClass (top 38) 7
abbrev s_m_without_saying : Stmt := inClass (top 38) 8
abbrev s_m_tellings : Stmt := inClass (top 38) 9
abbrev s_l_names : Stmt := top 40
abbrev s_l_hour : Stmt := top 41
abbrev s_l_tale : Stmt := top 42
abbrev s_l_talk : Stmt := top 43
abbrev s_l_saying : Stmt := top 44
abbrev s_l_book : Stmt := top 45
abbrev s_l_alike : Stmt := top 46
abbrev s_l_mix : Stmt := top 47
abbrev s_l_events : Stmt := top 48
abbrev s_l_story : Stmt := top 49
abbrev s_l_fits : Stmt := top 50
abbrev s_l_right : Stmt := top 51
abbrev s_law : Stmt := top 52
def oneOf : Value → Option Str
  | .str x _ => some x
  | _ => none
def strsOf (l : List Value) : List (Option Str) := l.map oneOf
def keptOf : List (Option Str) := [some "person", some "talk", some "saw", some "knew", some "heard", some "told", some "not", some "nobody", some "never", some "by", some "from", some "to"]
inductive FF (K : PySem.W.Frag) (x : Str) (st : Stmt) : Prop
  | mk {f : Addr} {oc kV dc pm cd ct : Value} {od an : Option Addr} {sl : Array (Option Value)} (a : PySem.W.nsIn K mainGlobals x = some (some (.ref f))) (l : K.lookup f = some ⟨oc, od, .func (PySem.W.fnOf x x (defArgs st) (defBody st) (defScope st) .none kV dc pm an cd ct), sl⟩) (c : PySem.W.codeIn K cd x = true) (k : PySem.W.keepIn K (.ref f) = true)
/-- what the top has written -/
inductive Facts (K : PySem.W.Frag) : Prop
  | mk {kw C f39 f40 : Addr}
    {odw od39 an39 od40 an40 : Option Addr} {slw sl39 sl40 : Array (Option Value)} {oc39 kV39 dc39 pm39 cd39 ct39 oc40 kV40 dc40 pm40 cd40 ct40 : Value} {its : Array Value} {nW : Nat} {tk1 tk2 tk3 tk4 tk5 : Tok}
    (aW : PySem.W.nsIn K mainGlobals "KEPT_WORDS" = some (some (.ref kw))) (lW : K.lookup kw = some ⟨.type "tuple", odw, .seq its nW, slw⟩) (vW : strsOf its.toList = keptOf)
 (h1 : FF K "is_whole" s_is_whole) (h2 : FF K "is_hour" s_is_hour) (h3 : FF K "is_name" s_is_name) (h4 : FF K "is_list_up_to" s_is_list_up_to) (h5 : FF K "is_tuple_of" s_is_tuple_of) (h6 : FF K "is_person" s_is_person) (h7 : FF K "are_unlike_persons" s_are_unlike_persons) (h8 : FF K "is_tale" s_is_tale) (h9 : FF K "is_sight" s_is_sight) (h10 : FF K "is_way" s_is_way) (h11 : FF K "is_talk" s_is_talk) (h12 : FF K "is_span" s_is_span) (h13 : FF K "is_short_saying" s_is_short_saying) (h14 : FF K "is_saying" s_is_saying) (h15 : FF K "are_persons" s_are_persons) (h16 : FF K "are_sights" s_are_sights) (h17 : FF K "are_talks" s_are_talks) (h18 : FF K "are_sayings" s_are_sayings) (h19 : FF K "_law_names" s_l_names) (h20 : FF K "_law_hour" s_l_hour) (h21 : FF K "_law_tale" s_l_tale) (h22 : FF K "_law_talk" s_l_talk) (h23 : FF K "_law_saying" s_l_saying) (h24 : FF K "_law_book" s_l_book) (h25 : FF K "hours_in" s_hours_in) (h26 : FF K "fits_knew" s_fits_knew) (h27 : FF K "fits_unheard" s_fits_unheard) (h28 : FF K "fits_silent" s_fits_silent) (h29 : FF K "fits_barred" s_fits_barred) (h30 : FF K "fits" s_fits) (h31 : FF K "unfitted" s_unfitted) (h32 : FF K "_law_alike" s_l_alike) (h33 : FF K "_law_mix" s_l_mix) (h34 : FF K "_law_events" s_l_events) (h35 : FF K "_law_story" s_l_story) (h36 : FF K "_law_fits" s_l_fits) (h37 : FF K "_law_right" s_l_right) (h38 : FF K "law" s_law)
    (aC : PySem.W.nsIn K mainGlobals "Book" = some (some (.ref C))) (pg : PySem.W.plainGet K C Str.empty = true) (hd : PySem.W.hasDictIn K C = true) (po : PySem.W.plainOver K C = true) (sa : PySem.W.findIn K (.ref C) "__setattr__" = some (some (.builtin "object.__setattr__"))) (mk : PySem.W.makesIn K C = true) (kc : PySem.W.keepIn K (.ref C) = true)
    (nP : PySem.W.findIn K (.ref C) "kept_persons" = some none) (nS : PySem.W.findIn K (.ref C) "kept_sights" = some none) (nT : PySem.W.findIn K (.ref C) "kept_talks" = some none) (nY : PySem.W.findIn K (.ref C) "kept_sayings" = some none)
    (a39 : PySem.W.findIn K (.ref C) "__init__" = some (some (.ref f39))) (i39 : PySem.W.isFn K (.ref f39) = true) (l39 : K.lookup f39 = some ⟨oc39, od39, .func (PySem.W.fnOf "__init__" "Book.__init__" (defArgs s_m_init) (defBody s_m_init) (defScope s_m_init) .none kV39 dc39 pm39 an39 cd39 ct39), sl39⟩) (c39 : PySem.W.codeIn K cd39 "Book.__init__" = true) (k39 : PySem.W.keepIn K (.ref f39) = true)
    (a40 : PySem.W.findIn K (.ref C) "sayings" = some (some (.ref f40))) (i40 : PySem.W.isFn K (.ref f40) = true) (l40 : K.lookup f40 = some ⟨oc40, od40, .func (PySem.W.fnOf "sayings" "Book.sayings" (defArgs s_m_sayings) (defBody s_m_sayings) (defScope s_m_sayings) .none kV40 dc40 pm40 an40 cd40 ct40), sl40⟩) (c40 : PySem.W.codeIn K cd40 "Book.sayings" = true) (k40 : PySem.W.keepIn K (.ref f40) = true)
    (z1 : PySem.W.nsIn K mainGlobals "isinstance" = some none) (z2 : PySem.W.nsIn K mainGlobals "int" = some none) (z3 : PySem.W.nsIn K mainGlobals "bool" = some none) (z4 : PySem.W.nsIn K mainGlobals "str" = some none) (z5 : PySem.W.nsIn K mainGlobals "len" = some none) (z6 : PySem.W.nsIn K mainGlobals "all" = some none) (z7 : PySem.W.nsIn K mainGlobals "range" = some none) (z8 : PySem.W.nsIn K mainGlobals "list" = some none) (z9 : PySem.W.nsIn K mainGlobals "tuple" = some none) (z10 : PySem.W.nsIn K mainGlobals "set" = some none) (z11 : PySem.W.nsIn K mainGlobals "zip" = some none) (z12 : PySem.W.nsIn K mainGlobals "enumerate" = some none) (z13 : PySem.W.nsIn K mainGlobals "min" = some none) (z14 : PySem.W.nsIn K mainGlobals "max" = some none) (z15 : PySem.W.nsIn K mainGlobals "any" = some none) (z16 : PySem.W.nsIn K mainGlobals "sorted" = some none) (z17 : PySem.W.nsIn K mainGlobals "dict" = some none) (z18 : PySem.W.nsIn K mainGlobals "sum" = some none) (z19 : PySem.W.nsIn K mainGlobals "reversed" = some none)
    (g1 : PySem.W.nsIn K mainGlobals "MOST_PERSONS" = some (some (.int 24 tk1))) (g2 : PySem.W.nsIn K mainGlobals "MOST_SIGHTS" = some (some (.int 24 tk2))) (g3 : PySem.W.nsIn K mainGlobals "MOST_TALKS" = some (some (.int 120 tk3))) (g4 : PySem.W.nsIn K mainGlobals "MOST_SAYINGS" = some (some (.int 60 tk4))) (g5 : PySem.W.nsIn K mainGlobals "MOST_WORDS" = some (some (.int 6 tk5))) : Facts K
open PySem.W in
/-- the text's lines that bind a name of its own -/
def vw : Program := view PySem.Challenge.rw_knewby_k15_unfitted.row.toRowW.prog [0, 2, 3, 4, 5, 6, 7, 8, 10, 11, 13, 14, 15, 16, 18, 19, 20, 21, 22, 23, 24, 25, 26, 27, 28, 29, 30, 31, 32, 33, 34, 35, 36, 37, 38, 40, 41, 42, 43, 44, 45, 46, 47, 48, 49, 50, 51, 52]
end K15
open PySem PySem.W PyProof.Rows
set_option maxRecDepth 100000 in
theorem K15.runA (w : World) : TR.runL (OpenRow.toRowW PySem.Challenge.rw_knewby_k15_unfitted.row).prog w 20000 (fun s₀ s₁ => staticsOk (importedModules (OpenRow.toRowW PySem.Challenge.rw_knewby_k15_unfitted.row).prog.main.body) s₀.heap s₁.heap && namesBound (OpenRow.toRowW PySem.Challenge.rw_knewby_k15_unfitted.row).prog s₁.heap && gensDone s₁ && laidKept s₀.heap s₁.heap) = some true := by
  delta TR.runL PySem.W.fencedOpening; (try rw [PySem.W.Fast.te10274390034422433532]); (try rw [PySem.W.Fast.te4187177175401517315]); (try rw [PySem.W.Fast.te1435165496053646825]); (try rw [PySem.W.Fast.te14289696077712309145]); (try rw [PySem.W.Fast.te11892475500146522536]); (try rw [PySem.W.Fast.te10156331382660048174]); (try rw [PySem.W.Fast.te6613529449190102663]); (try rw [PySem.W.Fast.te14364793385576792824]); (try rw [PySem.W.Fast.te5923862056798008813]); kernel_rfl
set_option maxRecDepth 100000 in
theorem K15.runB (w : World) : TR.runL (OpenRow.toRowW PySem.Challenge.rw_knewby_k15_unfitted.row).prog w 20000 (fun _ s₁ => openSeen K15.vw [] (importedModules (OpenRow.toRowW PySem.Challenge.rw_knewby_k15_unfitted.row).prog.main.body) (fun s => xlAt K15.vw [] s && recOk (RowW.records (OpenRow.toRowW PySem.Challenge.rw_knewby_k15_unfitted.row)) s) true s₁) = some (openGood K15.vw []) := by
  delta TR.runL PySem.W.fencedOpening; (try rw [PySem.W.Fast.te10274390034422433532]); (try rw [PySem.W.Fast.te4187177175401517315]); (try rw [PySem.W.Fast.te1435165496053646825]); (try rw [PySem.W.Fast.te14289696077712309145]); (try rw [PySem.W.Fast.te11892475500146522536]); (try rw [PySem.W.Fast.te10156331382660048174]); (try rw [PySem.W.Fast.te6613529449190102663]); (try rw [PySem.W.Fast.te14364793385576792824]); (try rw [PySem.W.Fast.te5923862056798008813]); kernel_rfl
/- the top's run at once, by the kernel: the whole head is then some MB (in pieces it grows by the square of the names) -/
local macro_rules
  | `(tactic| o_head $H) => `(tactic| (
    refine holds_open (N := 20000) (q := K15.vw) (loose := [])
      (Xt := fun s => xlAt K15.vw [] s && recOk (RowW.records (OpenRow.toRowW PySem.Challenge.rw_knewby_k15_unfitted.row)) s)
      (XP := XL K15.vw []) (YP := Hook.says $H) (Ya := Hook.val $H) (Yf := Hook.obs $H)
      ?hl (Hook.of $H) (Hook.keeps $H)
      (fun s e => xl_of s (Bool.and_eq_true_iff.mp e).1) XL.keeps
      (by rfl) (by rfl) (by rfl)
      (fun s e => recFacts_of (Bool.and_eq_true_iff.mp e).2)
      (by rfl) (by first | assumption | decide +kernel) (by decide +kernel)
      ⟨rfl, rfl, rfl, rfl, rfl, by decide +kernel⟩ ?hw ?hc
    (case hl => (refine TR.left3 K15.runA K15.runB fun w => ?_; delta TR.runL PySem.W.fencedOpening; (try rw [PySem.W.Fast.te10274390034422433532]); (try rw [PySem.W.Fast.te4187177175401517315]); (try rw [PySem.W.Fast.te1435165496053646825]); (try rw [PySem.W.Fast.te14289696077712309145]); (try rw [PySem.W.Fast.te11892475500146522536]); (try rw [PySem.W.Fast.te10156331382660048174]); (try rw [PySem.W.Fast.te6613529449190102663]); (try rw [PySem.W.Fast.te14364793385576792824]); (try rw [PySem.W.Fast.te5923862056798008813]); kernel_rfl))))
set_option maxRecDepth 100000 in
set_option maxHeartbeats 0 in
theorem K15.closing (HW : ∀ {q : Program} {loose : List Str} {XP : (Str → Option Value) → Heap → Prop} {YP : World → Heap → Prop} {d : DefRec} {K : Params → PySem.W.Frag}, d.name = "law" → d.params.defaults = [] → (∀ (w : World) (h : Heap), YP w h → (K w.params).In h) →
    (∀ (w : World) (mg : Str → Option Value) (fa : Addr) (h : Heap), (K w.params).In h → h.Ns mainGlobals mg → mg d.name = some (.ref fa) → K15.Facts (K w.params)) → PySem.W.WalkO q loose XP YP PySem.Challenge.rw_knewby_k15_unfitted.row.toRowW d [] (fun f vs => PySem.call f vs)) : PySem.Challenge.rw_knewby_k15_unfitted.Holds := by
  w_on; o_law; k_head; (case hw => w_witness2)
  k_fill
  refine HW rfl rfl (fun w h Y => PySem.W.kIn_of Y) ?F
  case F =>
    intro w mg fa h KX G hmg
    refine' K15.Facts.mk ?aW ?lW ?vW ?h1 ?h2 ?h3 ?h4 ?h5 ?h6 ?h7 ?h8 ?h9 ?h10 ?h11 ?h12 ?h13 ?h14 ?h15 ?h16 ?h17 ?h18 ?h19 ?h20 ?h21 ?h22 ?h23 ?h24 ?h25 ?h26 ?h27 ?h28 ?h29 ?h30 ?h31 ?h32 ?h33 ?h34 ?h35 ?h36 ?h37 ?h38 ?aC ?pg ?hd ?po ?sa ?mk ?kc ?nP ?nS ?nT ?nY ?a39 ?i39 ?l39 ?c39 ?k39 ?a40 ?i40 ?l40 ?c40 ?k40 ?z1 ?z2 ?z3 ?z4 ?z5 ?z6 ?z7 ?z8 ?z9 ?z10 ?z11 ?z12 ?z13 ?z14 ?z15 ?z16 ?z17 ?z18 ?z19 ?g1 ?g2 ?g3 ?g4 ?g5
    (case aW => k_is)
    (case lW => k_is)
    (case aC => k_is)
    (case pg => k_is)
    (case hd => k_is)
    (case po => k_is)
    (case sa => k_is)
    (case mk => k_is)
    (case kc => k_is)
    (case nP => k_is)
    (case nS => k_is)
    (case nT => k_is)
    (case nY => k_is)
    (case a39 => k_is)
    (case i39 => k_is)
    (case l39 => k_is)
    (case c39 => k_is)
    (case k39 => k_is)
    (case a40 => k_is)
    (case i40 => k_is)
    (case l40 => k_is)
    (case c40 => k_is)
    (case k40 => k_is)
    (case z1 => k_is)
    (case z2 => k_is)
    (case z3 => k_is)
    (case z4 => k_is)
    (case z5 => k_is)
    (case z6 => k_is)
    (case z7 => k_is)
    (case z8 => k_is)
    (case z9 => k_is)
    (case z10 => k_is)
    (case z11 => k_is)
    (case z12 => k_is)
    (case z13 => k_is)
    (case z14 => k_is)
    (case z15 => k_is)
    (case z16 => k_is)
    (case z17 => k_is)
    (case z18 => k_is)
    (case z19 => k_is)
    (case g1 => k_is)
    (case g2 => k_is)
    (case g3 => k_is)
    (case g4 => k_is)
    (case g5 => k_is)
    (case vW => rfl)
    all_goals (apply K15.FF.mk <;> k_is)


end
/-! THE HAND LAYER, for ints, bools, texts, own classes, LISTS and tuples (index, slices, in, append, pop ..), calls, loops. Paste it whole ahead of your own text; what your proof does not reach may be deleted. -/
namespace L2
open PySem PySem.Spec PyProof.Rows

/-- a key: an int or a str -/
abbrev Key := Sum Int Str
def keyIs : Key → Value → Bool
  | .inl k, v => Value.isInt k v
  | .inr x, v => Value.isStrOf x v
def keyH (w : World) : Key → Int
  | .inl k => hashInt k
  | .inr x => hashStr w x
theorem keyIs_shape : ∀ {k : Key} {v : Value}, keyIs k v = true → (∃ i t, k = Sum.inl i ∧ v = Value.int i t) ∨ (∃ x t, k = Sum.inr x ∧ v = Value.str x t)
  | .inl i, v, h => by
    obtain ⟨t, e⟩ := Value.isInt_shape (k := i) (v := v) h
    exact .inl ⟨i, t, rfl, e⟩
  | .inr x, v, h => by
    obtain ⟨t, e⟩ := Value.isStrOf_shape (x := x) (v := v) h
    exact .inr ⟨x, t, rfl, e⟩
theorem keyIs_int (i : Int) (t : Tok) : keyIs (.inl i) (.int i t) = true := by simp [keyIs, Value.isInt]
theorem keyIs_str (x : Str) (t : Tok) : keyIs (.inr x) (.str x t) = true := by simp [keyIs, Value.isStrOf]
theorem key_ll (a b : Int) : decide ((Sum.inl a : Key) = Sum.inl b) = (a == b) := by
  by_cases e : a = b
  · subst e; simp
  · have h : ¬ (Sum.inl a : Key) = Sum.inl b := fun q => e (Sum.inl.inj q)
    rw [decide_eq_false h]
    exact (beq_eq_false_iff_ne.mpr e).symm
theorem key_rr (a b : Str) : decide ((Sum.inr a : Key) = Sum.inr b) = decide (a = b) := by
  by_cases e : a = b
  · subst e; simp
  · have h : ¬ (Sum.inr a : Key) = Sum.inr b := fun q => e (Sum.inr.inj q)
    rw [decide_eq_false h, decide_eq_false e]
theorem key_lr (a : Int) (b : Str) : decide ((Sum.inl a : Key) = Sum.inr b) = false := decide_eq_false (fun q => nomatch q)
theorem key_rl (a : Str) (b : Int) : decide ((Sum.inr a : Key) = Sum.inl b) = false := decide_eq_false (fun q => nomatch q)

def mixKind (prog : Program) (w : World) : PySem.KeyKind prog w Key where
  is := keyIs
  hash := keyH w
  inj := fun v a b ha hb => by
    rcases keyIs_shape ha with ⟨i, t, rfl, rfl⟩ | ⟨x, t, rfl, rfl⟩
    · rcases keyIs_shape hb with ⟨j, u, rfl, e⟩ | ⟨y, u, rfl, e⟩
      · injection e with e1 _; rw [e1]
      · exact nomatch e
    · rcases keyIs_shape hb with ⟨j, u, rfl, e⟩ | ⟨y, u, rfl, e⟩
      · exact nomatch e
      · injection e with e1 _; rw [e1]
  byValue := fun k v h => by
    rcases keyIs_shape h with ⟨i, t, rfl, rfl⟩ | ⟨x, t, rfl, rfl⟩ <;> rfl
  pyHash := fun hv h => by
    rcases keyIs_shape hv with ⟨i, t, rfl, rfl⟩ | ⟨x, t, rfl, rfl⟩
    · exact wpAny_pyHash_int h
    · exact wpAny_pyHash_str h
  eqBool := fun hu hv h => by
    rcases keyIs_shape hu with ⟨i, t, rfl, rfl⟩ | ⟨x, t, rfl, rfl⟩
    · rcases keyIs_shape hv with ⟨j, u, rfl, rfl⟩ | ⟨y, u, rfl, rfl⟩
      · rw [key_ll] at h; exact wpAny_eqBool_int h
      · rw [key_lr] at h; exact SeqAt.EqAt.int_str i t y u _ _ _ _ h
    · rcases keyIs_shape hv with ⟨j, u, rfl, rfl⟩ | ⟨y, u, rfl, rfl⟩
      · rw [key_rl] at h; exact SeqAt.EqAt.str_int x t j u _ _ _ _ h
      · rw [key_rr] at h; exact wpAny_eqBool_str h
  «strs» := fun k x t v h => by
    rcases keyIs_shape h with ⟨i, u, rfl, e⟩ | ⟨y, u, rfl, e⟩
    · exact nomatch e
    · injection e with e1 _
      subst e1
      cases v <;> rfl

theorem mixKind_int (prog : Program) (w : World) (i : Int) (t : Tok) : (mixKind prog w).is (.inl i) (.int i t) = true := keyIs_int i t
theorem mixKind_str (prog : Program) (w : World) (x : Str) (t : Tok) : (mixKind prog w).is (.inr x) (.str x t) = true := keyIs_str x t
end L2

namespace L2
open PySem PySem.Spec PyProof.Rows

/-- a value, without the heap -/
inductive V where
  | non | bl (b : Bool) | int (i : Int) | str (x : Str) | byt (b : Array UInt8) | flt (b : UInt64) | ref (a : Addr) | ty (n : String)
  deriving DecidableEq

def RelV : V → Value → Prop
  | .non, u => u = Value.none
  | .bl b, u => u = Value.bool b
  | .int i, u => ∃ t, u = Value.int i t
  | .str x, u => ∃ t, u = Value.str x t
  | .byt b, u => ∃ t, u = Value.bytes b t
  | .flt b, u => ∃ t, u = Value.float b t
  | .ref a, u => u = Value.ref a
  | .ty n, u => u = Value.type n

abbrev Vals : List V → List Value → Prop := Paired RelV
theorem Vals.length {xs : List V} {us : List Value} (r : Vals xs us) : xs.length = us.length := Paired.length r
theorem Vals.get : ∀ {xs : List V} {us : List Value} {i : Nat} {x : V}, Vals xs us → xs[i]? = some x → ∃ u, us[i]? = some u ∧ RelV x u
  | _, _, _, _, .nil, e => by simp at e
  | _, _, 0, _, .cons r _, e => by simp at e; subst e; exact ⟨_, rfl, r⟩
  | _, _, i + 1, x, .cons _ t, e => by
    obtain ⟨u, h1, h2⟩ := Vals.get (i := i) (x := x) t (by simpa using e)
    exact ⟨u, by simpa using h1, h2⟩
theorem Vals.append : ∀ {xs ys : List V} {us ws : List Value}, Vals xs us → Vals ys ws → Vals (xs ++ ys) (us ++ ws)
  | _, _, _, _, .nil, s => s
  | _, _, _, _, .cons r t, s => .cons r (Vals.append t s)
theorem Vals.take : ∀ {xs : List V} {us : List Value} (n : Nat), Vals xs us → Vals (xs.take n) (us.take n)
  | _, _, 0, _ => .nil
  | _, _, _ + 1, .nil => .nil
  | _, _, n + 1, .cons r t => .cons r (Vals.take n t)
theorem Vals.drop : ∀ {xs : List V} {us : List Value} (n : Nat), Vals xs us → Vals (xs.drop n) (us.drop n)
  | _, _, 0, r => r
  | _, _, _ + 1, .nil => .nil
  | _, _, n + 1, .cons _ t => Vals.drop n t

def RelO : Option V → Option Value → Prop
  | some v, some u => RelV v u
  | none, none => True
  | _, _ => False
def KV {κ : Type} : List (κ × V) → List (κ × Value) → Prop := Paired fun (p : κ × V) (q : κ × Value) => p.1 = q.1 ∧ RelV p.2 q.2

/-- a key of a dict (00_mix): an int or a text -/
def kV : Key → V
  | .inl i => .int i
  | .inr x => .str x

/-- what stands at a tracked address -/
inductive HO where
  /-- a list -/
  | lst (xs : List V)
  /-- a tuple (never changes) -/
  | tup (xs : List V)
  /-- a dict whose keys are ints and texts; one whose keys are tuples of ints and texts (the empty one is both) -/
  | dK (kvs : List (Key × V)) | dT (kvs : List (List Key × V))
  /-- a set of ints: its members, its size -/
  | set (S : Int → Bool) (n : Nat)
  /-- an instance of the class at C, its dict at dx, its attributes -/
  | ins (C dx : Addr) (fs : List (Str × V))
  /-- the dict of the instance at x -/
  | own (x : Addr)
  /-- the dict of an exception -/
  | xd (fs : List (Str × V))
  /-- a bound method, f of x -/
  | met (f x : Addr)
  /-- a range object lo, lo + 1, .. below hi -/
  | rng (lo hi : Int)
  /-- a thing that is known to the object (the script; a dict while a loop walks it): read, never written while it is so -/
  | frz (o : Obj) (u : HO)
  /-- a code object's table -/
  | tbl (ps : Array Value)
  /-- any other thing, by what is true of its one object (a def of one's own: SetO a S n := HO.ext fun h => ..) -/
  | ext (φ : Heap → Prop)

abbrev Hp := Addr → Option HO
def upd (H : Hp) (a : Addr) (o : HO) : Hp := fun b => if b = a then some o else H b
theorem upd_same {H : Hp} {a : Addr} {o : HO} : upd H a o a = some o := by unfold upd; rw [if_pos rfl]
theorem upd_ne {H : Hp} {a b : Addr} {o : HO} (h : b ≠ a) : upd H a o b = H b := by unfold upd; rw [if_neg h]
theorem upd_upd {H : Hp} {a : Addr} {o u : HO} : upd (upd H a o) a u = upd H a u := by
  funext b; unfold upd; split <;> rfl
/-- two objects of different content stand apart -/
theorem ne_of {H : Hp} {a b : Addr} {o u : HO} (h : H a = some o) (h' : H b = some u) (d : o ≠ u) : a ≠ b := by
  intro e; subst e; rw [h] at h'; exact d (Option.some.inj h')
theorem ne_of_none {H : Hp} {a b : Addr} {o : HO} (h : H a = some o) (h' : H b = none) : a ≠ b := by
  intro e; subst e; rw [h] at h'; cases h'

section
variable (P : Program) (w : World)
def ObjOk (H : Hp) (h : Heap) (a : Addr) : HO → Prop
  | .lst xs => xs.length ≤ sizeLine ∧ ∃ (its : List Value) (n : Nat), Vals xs its ∧ h.get? a = some { cls := .type "list", data := .seq its.toArray n }
  | .tup xs => xs.length ≤ sizeLine ∧ ∃ its : List Value, Vals xs its ∧ IsTup h a its.toArray
  | .dK kvs => kvs.length ≤ sizeLine ∧ (a == sysModules) = false ∧ ∃ vs, KV kvs vs ∧ h.DictOf (mixKind P w) a vs
  | .dT kvs => kvs.length ≤ sizeLine ∧ (a == sysModules) = false ∧ ∃ xs : List (List Key × Addr × Value),
      Paired (fun (p : List Key × V) (q : List Key × Addr × Value) => p.1 = q.1 ∧ H q.2.1 = some (.tup (p.1.map kV)) ∧ RelV p.2 q.2.2) kvs xs ∧
      ∃ o es ep, h.get? a = some o ∧ o.ExactDict ∧ o.data = .dict es ep ∧ es.toList = xs.map (entryOfKey (tupleKind (mixKind P w))) ∧ (xs.map (·.1)).Nodup
  | .set S n => h.SetOf (intKind P w) a S n
  | .ins C dx fs => H dx = some (.own a) ∧ fs.length ≤ 1000 ∧ dx ≠ a ∧ h.get? a = some (PySem.W.instObj C dx) ∧
      ∃ mA, h.Ns1 dx mA ∧ (∀ f, RelO (fs.lookup f) (mA f)) ∧ PySem.Within mA (fs.map (·.1))
  | .own _ => ∃ o, h.get? a = some o
  | .xd fs => ∃ mA, h.Ns1 a mA ∧ ∀ f, RelO (fs.lookup f) (mA f)
  | .rng lo hi => ∃ t u v, h.get? a = some { cls := .type "range", data := .fields #[.int lo t, .int hi u, .int 1 v] }
  | .frz o u => h.get? a = some o ∧ ObjOk H h a u
  | .tbl ps => h.get? a = some { cls := .none, data := .fields ps }
  | .met f x => h.get? a = some (PySem.W.methodObj (.ref f) (.ref x))
  | .ext φ => φ h ∧ (∃ o, h.get? a = some o) ∧ ∀ h1 h2 : Heap, φ h1 → (∀ o, h1.get? a = some o → h2.get? a = some o) → φ h2
/-- the abstract heap is held -/
def HOk (H : Hp) (h : Heap) : Prop := ∀ a o, H a = some o → ObjOk P w H h a o
end

section
variable {P : Program} {w : World} {H H' : Hp} {h h' : Heap} {a : Addr} {o : HO}
theorem ObjOk.lt (x : ObjOk P w H h a o) : a < h.objs.size := by
  cases o with
  | lst xs => obtain ⟨_, _, _, _, e⟩ := x; exact Heap.lt_size e
  | tup xs => obtain ⟨_, _, _, p⟩ := x; exact p.lt
  | dK kvs => obtain ⟨_, _, _, _, o, _, _, e, _⟩ := x; exact Heap.lt_size e
  | dT kvs => obtain ⟨_, _, _, _, o, _, _, e, _⟩ := x; exact Heap.lt_size e
  | set S n => obtain ⟨o, _, _, _, e, _⟩ := x; exact Heap.lt_size e
  | ins C dx fs => obtain ⟨_, _, _, e, _⟩ := x; exact Heap.lt_size e
  | own y => obtain ⟨_, e⟩ := x; exact Heap.lt_size e
  | xd fs => obtain ⟨_, ⟨_, _, _, e, _⟩, _⟩ := x; exact Heap.lt_size e
  | rng lo hi => obtain ⟨_, _, _, e⟩ := x; exact Heap.lt_size e
  | frz ob u => obtain ⟨e, _⟩ := x; exact Heap.lt_size e
  | tbl ps => exact Heap.lt_size (show h.get? a = some _ from x)
  | met f y => exact Heap.lt_size (show h.get? a = some _ from x)
  | ext φ => obtain ⟨_, ⟨_, e⟩, _⟩ := x; exact Heap.lt_size e
theorem Paired.mapP {α β : Type} {F G : α → β → Prop} : ∀ {l₁ : List α} {l₂ : List β}, Paired F l₁ l₂ → (∀ a b, F a b → G a b) → Paired G l₁ l₂
  | _, _, .nil, _ => .nil
  | _, _, .cons r t, f => .cons (f _ _ r) (Paired.mapP t f)
/-- what an object's description leans on: its own object, its own dict, the tuples -/
theorem ObjOk.stay (x : ObjOk P w H h a o) (k : ∀ b u, (b = a ∨ H b = some (.own a)) → h.get? b = some u → h'.get? b = some u)
    (ho : ∀ b, H b = some (.own a) → H' b = some (.own a)) (ht : ∀ b xs, H b = some (.tup xs) → H' b = some (.tup xs)) : ObjOk P w H' h' a o := by
  induction o with
  | lst xs => obtain ⟨z, its, n, r, e⟩ := x; exact ⟨z, its, n, r, k _ _ (.inl rfl) e⟩
  | tup xs => obtain ⟨z, its, r, ob, e, c⟩ := x; exact ⟨z, its, r, ob, k _ _ (.inl rfl) e, c⟩
  | dK kvs => obtain ⟨z, y, vs, r, ob, es, ep, e, c⟩ := x; exact ⟨z, y, vs, r, ob, es, ep, k _ _ (.inl rfl) e, c⟩
  | dT kvs =>
    obtain ⟨z, y, xs, r, ob, es, ep, e, c⟩ := x
    exact ⟨z, y, xs, Paired.mapP r fun p q z => ⟨z.1, ht _ _ z.2.1, z.2.2⟩, ob, es, ep, k _ _ (.inl rfl) e, c⟩
  | set S n => obtain ⟨ob, es, ep, t, e, c⟩ := x; exact ⟨ob, es, ep, t, k _ _ (.inl rfl) e, c⟩
  | ins C dx fs =>
    obtain ⟨d, z, ne, e, mA, ⟨od, es, ep, e2, c⟩, r⟩ := x
    exact ⟨ho _ d, z, ne, k _ _ (.inl rfl) e, mA, ⟨od, es, ep, k _ _ (.inr d) e2, c⟩, r⟩
  | own y => obtain ⟨ob, e⟩ := x; exact ⟨ob, k _ _ (.inl rfl) e⟩
  | xd fs => obtain ⟨mA, ⟨od, es, ep, e, c⟩, r⟩ := x; exact ⟨mA, ⟨od, es, ep, k _ _ (.inl rfl) e, c⟩, r⟩
  | rng lo hi => obtain ⟨t, u, v, e⟩ := x; exact ⟨t, u, v, k _ _ (.inl rfl) e⟩
  | frz ob u ih => obtain ⟨e, q⟩ := x; exact ⟨k _ _ (.inl rfl) e, ih q⟩
  | tbl ps =>
    have e : h.get? a = some { cls := .none, data := .fields ps } := x
    show h'.get? a = some { cls := .none, data := .fields ps }
    exact k a _ (.inl rfl) e
  | met f y =>
    have e : h.get? a = some (PySem.W.methodObj (.ref f) (.ref y)) := x
    show h'.get? a = some (PySem.W.methodObj (.ref f) (.ref y))
    exact k a _ (.inl rfl) e
  | ext φ => obtain ⟨p, ⟨o, e⟩, st⟩ := x; exact ⟨st _ _ p fun o q => k _ _ (.inl rfl) q, ⟨o, k _ _ (.inl rfl) e⟩, st⟩
theorem HOk.lt (x : HOk P w H h) (e : H a = some o) : a < h.objs.size := (x a o e).lt
theorem HOk.fresh (x : HOk P w H h) (e : h.objs.size ≤ a) : H a = none := by
  cases q : H a with
  | none => rfl
  | some u => exact absurd (Nat.lt_of_lt_of_le (x.lt q) e) (Nat.lt_irrefl _)
/-- every object of the heap is kept -/
theorem HOk.kept (x : HOk P w H h) (k : ∀ b u, h.get? b = some u → h'.get? b = some u) : HOk P w H h' := fun a o e =>
  (x a o e).stay (fun b u _ q => k b u q) (fun _ q => q) fun _ _ q => q
/-- a new object is laid and tracked -/
theorem HOk.laid (x : HOk P w H h) (k : ∀ b u, h.get? b = some u → h'.get? b = some u) (hp : h.objs.size ≤ a) (new : ObjOk P w (upd H a o) h' a o) : HOk P w (upd H a o) h' := fun b u e => by
  have hn := x.fresh hp
  by_cases hb : b = a
  · subst hb; rw [upd_same] at e; cases e; exact new
  · rw [upd_ne hb] at e
    exact (x b u e).stay (fun c v _ q => k c v q) (fun c q => by rw [upd_ne (ne_of_none q hn)]; exact q) fun c xs q => by rw [upd_ne (ne_of_none q hn)]; exact q
end

/-- what may be read as u: it is u, or a known u -/
def Rd (H : Hp) (a : Addr) (u : HO) : Prop := H a = some u ∨ ∃ o, H a = some (.frz o u)
theorem Rd.ok {P : Program} {w : World} {H : Hp} {h : Heap} {a : Addr} {u : HO} (r : Rd H a u) (x : HOk P w H h) : ObjOk P w H h a u := by
  rcases r with r | ⟨o, r⟩
  · exact x a u r
  · obtain ⟨_, q⟩ := x a _ r
    exact q
/-- what may be written -/
def Mut : Option HO → Prop
  | some (.lst _) => True
  | some (.dK _) => True
  | some (.dT _) => True
  | some (.set _ _) => True
  | some (.ins _ _ _) => True
  | some (.ext _) => True
  | _ => False
section
variable {P : Program} {w : World} {H : Hp} {h h' : Heap} {x e : Addr} {o' : HO}
/-- the object at e is changed: x itself, or the dict of the instance x -/
theorem HOk.write (ok : HOk P w H h) (mu : Mut (H x)) (he : e = x ∨ H e = some (.own x)) (k : ∀ b u, b ≠ e → h.get? b = some u → h'.get? b = some u) (heo : ∃ u, h'.get? e = some u)
    (new : ObjOk P w (upd H x o') h' x o') : HOk P w (upd H x o') h' := fun b u q => by
  have nown : ∀ c y, H c = some (.own y) → c ≠ x := fun c y r z => by subst z; rw [r] at mu; exact mu
  have ntup : ∀ c xs, H c = some (.tup xs) → c ≠ x := fun c xs r z => by subst z; rw [r] at mu; exact mu
  by_cases hb : b = x
  · subst hb; rw [upd_same] at q; cases q; exact new
  · rw [upd_ne hb] at q
    by_cases hbe : b = e
    · have q' : H b = some (.own x) := by
        rcases he with z | z
        · exact absurd (hbe.trans z) hb
        · rw [hbe]; exact z
      rw [q] at q'; cases q'
      obtain ⟨v, hv⟩ := heo
      exact ⟨v, by rw [hbe]; exact hv⟩
    · refine (ok b u q).stay (fun c v hc r => k c v ?_ r) (fun c r => by rw [upd_ne (nown c b r)]; exact r) fun c xs r => by rw [upd_ne (ntup c xs r)]; exact r
      rcases hc with rfl | hc
      · exact hbe
      · rintro rfl
        rcases he with z | z
        · exact nown c b hc z
        · rw [hc] at z; cases z; exact hb rfl
end

/-! ### kept unless tracked; of the frames at fs (the callers') the slots may change (an exception that passes writes there); of the records at ex (iterators) nothing is said -/
structure Un (fs ex : List Addr) (H H' : Hp) (h h' : Heap) : Prop where
  keep : ∀ b o, h.get? b = some o → H b = none → b ∉ fs → b ∉ ex → h'.get? b = some o
  slot : ∀ b o, h.get? b = some o → H b = none → b ∈ fs → b ∉ ex → ∃ sl, h'.get? b = some { o with slots := sl }
  free : ∀ b o, h.get? b = some o → H b = none → b ∉ ex → H' b = none
  there : ∀ b o, h.get? b = some o → b ∉ ex → ∃ o', h'.get? b = some o'
  tups : ∀ b xs, H b = some (.tup xs) → H' b = some (.tup xs)
  frzs : ∀ b o u, H b = some (.frz o u) → H' b = some (.frz o u)
  tbls : ∀ b ps, H b = some (.tbl ps) → ∃ more, H' b = some (.tbl (ps ++ more))
section
variable {fs fs' ex ex' : List Addr} {H H1 H2 : Hp} {h h1 h2 h' : Heap} {a x e : Addr} {o : HO}
theorem Un.any (u : Un fs ex H H1 h h1) {b : Addr} {ob : Obj} (q : h.get? b = some ob) (n : H b = none) (hx : b ∉ ex) : ∃ sl, h1.get? b = some { ob with slots := sl } := by
  by_cases hb : b ∈ fs
  · exact u.slot b ob q n hb hx
  · exact ⟨ob.slots, u.keep b ob q n hb hx⟩
theorem Un.kept (k : ∀ b u, h.get? b = some u → h'.get? b = some u) : Un fs ex H H h h' :=
  ⟨fun b ob q _ _ _ => k b ob q, fun b ob q _ _ _ => ⟨ob.slots, k b ob q⟩, fun _ _ _ n _ => n, fun b ob q _ => ⟨ob, k b ob q⟩, fun _ _ q => q, fun _ _ _ q => q, fun _ ps q => ⟨#[], by rw [q]; simp⟩⟩
theorem Un.refl : Un fs ex H H h h := Un.kept fun _ _ q => q
theorem Un.laid (k : ∀ b u, h.get? b = some u → h'.get? b = some u) (hp : h.objs.size ≤ a) (hn : H a = none) : Un fs ex H (upd H a o) h h' where
  keep := fun b u q _ _ _ => k b u q
  slot := fun b u q _ _ _ => ⟨u.slots, k b u q⟩
  free := fun b u q n _ => by rw [upd_ne (Nat.ne_of_lt (Nat.lt_of_lt_of_le (Heap.lt_size q) hp))]; exact n
  there := fun b u q _ => ⟨u, k b u q⟩
  tups := fun b xs q => by rw [upd_ne (ne_of_none q hn)]; exact q
  frzs := fun b u xs q => by rw [upd_ne (ne_of_none q hn)]; exact q
  tbls := fun b ps q => ⟨#[], by rw [upd_ne (ne_of_none q hn), q]; simp⟩
theorem Un.write (mu : Mut (H x)) (he : e = x ∨ H e = some (.own x)) (k : ∀ b u, b ≠ e → h.get? b = some u → h'.get? b = some u) (heo : ∃ u, h'.get? e = some u) : Un fs ex H (upd H x o) h h' := by
  have hx : ∀ b, H b = none → b ≠ x := fun b n z => by subst z; rw [n] at mu; exact mu
  have hb : ∀ b, H b = none → b ≠ e := fun b n z => by
    subst z
    rcases he with r | r
    · exact hx b n r
    · rw [n] at r; cases r
  have hm : ∀ b u, H b = some u → ¬ Mut (some u) → b ≠ x := fun b u q nm z => by subst z; rw [q] at mu; exact nm mu
  refine ⟨fun b u q n _ _ => k b u (hb b n) q, fun b u q n _ _ => ⟨u.slots, k b u (hb b n) q⟩, fun b u q n _ => by rw [upd_ne (hx b n)]; exact n, fun b u q _ => ?_,
    fun b xs q => by rw [upd_ne (hm b _ q fun z => z)]; exact q, fun b u xs q => by rw [upd_ne (hm b _ q fun z => z)]; exact q, fun b ps q => ⟨#[], by rw [upd_ne (hm b _ q fun z => z), q]; simp⟩⟩
  by_cases hbe : b = e
  · subst hbe; exact heo
  · exact ⟨u, k b u hbe q⟩
end

/-! ### the heap without what is tracked -/
def trk (h : Heap) (H : Hp) : List Addr := (List.range h.objs.size).filter fun a => (H a).isSome
def hidT (h : Heap) (H : Hp) : Heap := PySem.W.hideAll h (trk h H)
theorem hidT_size (h : Heap) (H : Hp) : (hidT h H).objs.size = h.objs.size := PySem.W.hideAll_size _ _
theorem hidT_get {h : Heap} {H : Hp} {b : Addr} {o : Obj} (e : h.get? b = some o) (n : H b = none) : (hidT h H).get? b = some o :=
  PySem.W.hideAll_get _ e fun hm => by
    have q : (H b).isSome = true := (List.mem_filter.mp hm).2
    rw [n] at q; simp at q
theorem of_hidT {h : Heap} {H : Hp} {b : Addr} {o : Obj} (e : (hidT h H).get? b = some o) : h.get? b = some o ∧ H b = none := by
  have e' : h.get? b = some o := PySem.W.of_hideAll (trk h H) e
  refine ⟨e', ?_⟩
  cases q : H b with
  | none => rfl
  | some x =>
    have hm : b ∈ trk h H := List.mem_filter.mpr ⟨List.mem_range.mpr (Heap.lt_size e'), by simp [q]⟩
    have z : (hidT h H).get? b = none := PySem.W.hideAll_none (trk h H) hm
    rw [z] at e; cases e

/-! ### OpenK's ledger, filled with every new object but one -/
def allNews (g h : Heap) (L : Addr) : List (Addr × Obj) := (List.range h.objs.size).filterMap fun a => if a = L ∨ (g.get? a).isSome = true then none else (h.get? a).map fun o => (a, o)
def rest (g h : Heap) (L d : Addr) : List (Addr × Obj) := (allNews g h L).filter fun p => decide (p.1 ≠ d)
end L2

namespace L2
open PySem PySem.Spec PyProof.Rows

/-- the module's facts, over the base: the heap at the law's entry without what is tracked there -/
structure Mod (K : PySem.W.Frag) (mg : Str → Option Value) (base : Heap) : Prop where
  kin : K.In base
  glob : base.Ns mainGlobals mg
  blt : ∃ mb, base.Ns builtinsNs mb ∧ ∀ x : Str, x ≠ "__name__" → mb x = bootBuiltins x
  nolimit : base.NoLimit

/-- the context: a def's body (or a comprehension's block) running. base: fixed through the whole law; s₀, H₀: the entry; outer: the frames whose slots others may change (a def's callers); stack: all frames that run;
   ex: iterators that were made ahead of the entry and are walked here (a comprehension's); fn: the names whose cells were made at the entry (a def: all; a comprehension's block: its own); calm: not within an except suite; pn: pins that every state bears; xe: what is wanted of an exception that leaves the code -/
structure Cx where
  prog : Program
  w : World
  K : PySem.W.Frag
  mg : Str → Option Value
  base : Heap
  A : Around
  N : List Str
  s₀ : Shared
  H₀ : Hp
  env : Env
  outer : List Env
  stack : List Env
  ex : List Addr
  fn : Str → Bool
  calm : Bool
  pn : List (Addr × Obj)
  xe : Value → Shared → Prop
/-- the callers' frames -/
def frs (l : List Env) : List Addr := l.filterMap (·.frame)
abbrev Cx.fs (X : Cx) : List Addr := frs X.outer

def Vis (sc : Scope) (x : Str) : Prop := sc.names.lookup x = some .local ∨ sc.names.lookup x = some .cell ∨ sc.names.lookup x = some .free
def Loc (sc : Scope) (x : Str) : Prop := sc.names.lookup x = some .local ∨ sc.names.lookup x = some .cell
def Look (env : Env) (h : Heap) (m : Str → Option Value) (x : Str) (u : Value) : Prop :=
  (env.kindOf x = some .local ∧ m x = some u) ∨ ((env.kindOf x = some .cell ∨ env.kindOf x = some .free) ∧ ∃ c, env.cells.lookup x = some c ∧ h.IsCell c (some u))

structure Cx.Ok (X : Cx) : Prop where
  mod : Mod X.K X.mg X.base
  kind : X.env.scope.kind = .function
  glob : X.env.globals = mainGlobals
  blt : X.env.builtins = builtinsNs
  above : X.s₀.heap.objs.size ≤ X.env.locals
  inj : ∀ x y c, X.env.cells.lookup x = some c → X.env.cells.lookup y = some c → x = y
  has : ∀ x, (X.env.kindOf x = some .cell ∨ X.env.kindOf x = some .free) → ∃ c, X.env.cells.lookup x = some c
  cab : ∀ x c, X.fn x = true → X.env.cells.lookup x = some c → X.s₀.heap.objs.size ≤ c
  hd : X.calm = true → X.A.handled = none
  frames : X.A.frames = some X.stack
  stk : X.stack = X.outer ∨ (X.stack = X.env :: X.outer ∧ X.env.frame = some X.env.locals)
  exf : ∀ b ∈ X.ex, b ≠ X.env.locals ∧ ∀ x c, X.env.cells.lookup x = some c → c ≠ b
  bs : ∀ b o, X.base.get? b = some o → X.s₀.heap.get? b = some o ∧ X.H₀ b = none
  bsz : X.base.objs.size ≤ X.s₀.heap.objs.size
  noex : ∀ b o, X.base.get? b = some o → b ∉ X.ex
  exfs : ∀ b ∈ X.ex, b ∉ X.fs
  funs : X.s₀.heap.FunFrames X.base X.outer
  frf : ∀ b ∈ X.fs, X.H₀ b = none

structure Inv (X : Cx) (pins : List (Addr × Obj)) (σ : List (Option V)) (H : Hp) (s : Shared) : Prop where
  ok : X.Ok
  os : s.os = X.s₀.os
  bare : AllBare s.gens
  base : Un X.fs X.ex X.H₀ H X.s₀.heap s.heap
  loc : ∃ m, s.heap.Ns X.env.locals m ∧ ∀ (i : Nat) (x : Str) (v : V), X.N[i]? = some x → σ[i]? = some (some v) → Vis X.env.scope x → ∃ u, RelV v u ∧ Look X.env s.heap m x u
  cell : ∀ x c, X.env.cells.lookup x = some c → ∃ v, s.heap.IsCell c v
  free : H X.env.locals = none
  freeC : ∀ x c, X.env.cells.lookup x = some c → H c = none
  pin : ∀ p ∈ X.pn ++ pins, s.heap.get? p.1 = some p.2 ∧ H p.1 = none ∧ p.1 ≠ X.env.locals ∧ p.1 ∉ X.fs ∧ ∀ v, p.2.data ≠ .cell v
  hok : HOk X.prog X.w H s.heap
  len : σ.length = X.N.length

section
variable {X : Cx} {pins : List (Addr × Obj)} {σ : List (Option V)} {H H' : Hp} {s : Shared} {h' : Heap}

theorem Cx.Ok.nofr (ok : X.Ok) {b : Addr} {o : Obj} (e : X.base.get? b = some o) : b ∉ X.fs := fun hb => by
  have := (ok.funs.mem hb).1
  rw [e] at this; cases this
theorem Inv.bs (I : Inv X pins σ H s) : ∀ b o, X.base.get? b = some o → s.heap.get? b = some o ∧ H b = none := fun b o e =>
  ⟨I.base.keep b o (I.ok.bs b o e).1 (I.ok.bs b o e).2 (I.ok.nofr e) (I.ok.noex b o e), I.base.free b o (I.ok.bs b o e).1 (I.ok.bs b o e).2 (I.ok.noex b o e)⟩
theorem Inv.bk (I : Inv X pins σ H s) : ∀ b o, X.base.get? b = some o → s.heap.get? b = some o := fun b o e => (I.bs b o e).1
theorem Inv.mod (I : Inv X pins σ H s) : Mod X.K X.mg X.base := I.ok.mod
theorem Inv.kIn (I : Inv X pins σ H s) : X.K.In s.heap := I.ok.mod.kin.keeps I.bk
theorem Inv.lt (I : Inv X pins σ H s) : X.env.locals < s.heap.objs.size := let ⟨_, hn, _⟩ := I.loc; hn.lt
theorem Inv.sz (I : Inv X pins σ H s) : X.s₀.heap.objs.size ≤ s.heap.objs.size := Nat.le_trans I.ok.above (Nat.le_of_lt I.lt)
theorem Inv.nofs (I : Inv X pins σ H s) {a : Addr} (h : s.heap.objs.size ≤ a) : a ∉ X.fs := fun hb => by
  obtain ⟨_, o, ho, _⟩ := I.ok.funs.mem hb
  exact absurd (Nat.lt_of_lt_of_le (Heap.lt_size ho) (Nat.le_trans I.sz h)) (Nat.lt_irrefl _)
theorem Inv.cne (I : Inv X pins σ H s) : ∀ x c, X.env.cells.lookup x = some c → c ≠ X.env.locals := fun x c e z => by
  obtain ⟨v, o, ho, hd⟩ := I.cell x c e
  obtain ⟨m, ⟨o', es, ep, ho', hd', _⟩, _⟩ := I.loc
  rw [z, ho'] at ho; cases ho; rw [hd'] at hd; cases hd
theorem Inv.funs (I : Inv X pins σ H s) : s.heap.FunFrames X.base X.outer := by
  have all : ∀ (l : List Env), (∀ b ∈ frs l, b ∈ X.fs) → X.s₀.heap.FunFrames X.base l → s.heap.FunFrames X.base l := by
    intro l
    induction l with
    | nil => intro _ _; trivial
    | cons env r ih =>
      intro hs hl
      obtain ⟨hk, ⟨L, o, hf, hn, ho, hd⟩, hr⟩ := hl
      have hL : L ∈ X.fs := hs L (by unfold frs; rw [List.filterMap_cons, hf]; exact List.mem_cons_self)
      obtain ⟨sl, e⟩ := I.base.slot L o ho (I.ok.frf L hL) hL fun z => I.ok.exfs L z hL
      exact ⟨hk, ⟨L, _, hf, hn, e, hd⟩, ih (fun b hb => hs b (by unfold frs; rw [List.filterMap_cons, hf]; exact List.mem_cons_of_mem _ hb)) hr⟩
  exact all X.outer (fun _ hb => hb) I.ok.funs

/-- the frames that run, for a call -/
theorem Inv.stack (I : Inv X pins σ H s) : s.heap.FunFrames X.base X.stack := by
  rcases I.ok.stk with e | ⟨e, hf⟩
  · rw [e]; exact I.funs
  · rw [e]
    obtain ⟨m, hn, _⟩ := I.loc
    refine .cons (by rw [I.ok.kind]; decide) hf hn ?_ I.funs
    exact Heap.get?_none_of_le (Nat.le_trans I.ok.bsz I.ok.above)
theorem Inv.stkSub (I : Inv X pins σ H s) : ∀ b ∈ frs X.stack, b ∈ X.env.locals :: X.fs := fun b hb => by
  rcases I.ok.stk with e | ⟨e, hf⟩
  · rw [e] at hb; exact List.mem_cons_of_mem _ hb
  · rw [e] at hb
    unfold frs at hb
    rw [List.filterMap_cons, hf] at hb
    exact hb
theorem Inv.stkFree (I : Inv X pins σ H s) : ∀ b ∈ frs X.stack, H b = none := fun b hb => by
  rcases List.mem_cons.mp (I.stkSub b hb) with e | hb
  · rw [e]; exact I.free
  · obtain ⟨_, o, ho, _⟩ := I.ok.funs.mem hb
    exact I.base.free b o ho (I.ok.frf b hb) fun z => I.ok.exfs b z hb

/-- THE STEP: the untracked objects but the frame and the records at ch are kept (the callers' frames up to slots), the frame's map is kept, the new abstract heap is held -/
theorem Inv.step {g' : Array GenState} {t' : Nat} {d' : Drawn} {ch : List Addr} (I : Inv X pins σ H s)
    (hch : ∀ b ∈ ch, (b ∈ X.ex ∨ X.s₀.heap.objs.size ≤ b) ∧ b ≠ X.env.locals ∧ (∀ x c, X.env.cells.lookup x = some c → c ≠ b) ∧ ∀ p ∈ X.pn ++ pins, p.1 ≠ b)
    (keep : ∀ b o, b ≠ X.env.locals → b ∉ X.fs → b ∉ ch → s.heap.get? b = some o → H b = none → h'.get? b = some o)
    (slot : ∀ b o, b ≠ X.env.locals → b ∈ X.fs → b ∉ ch → s.heap.get? b = some o → H b = none → ∃ sl, h'.get? b = some { o with slots := sl }) (free : ∀ b o, b ∉ ch → s.heap.get? b = some o → H b = none → H' b = none)
    (there : ∀ b o, b ∉ ch → s.heap.get? b = some o → ∃ o', h'.get? b = some o')
    (tups : ∀ b xs, H b = some (.tup xs) → H' b = some (.tup xs)) (frzs : ∀ b o u, H b = some (.frz o u) → H' b = some (.frz o u)) (tbls : ∀ b ps, H b = some (.tbl ps) → ∃ more, H' b = some (.tbl (ps ++ more)))
    (ns : ∀ m, s.heap.Ns X.env.locals m → h'.Ns X.env.locals m) (hok : HOk X.prog X.w H' h') (hg : AllBare g') :
    Inv X pins σ H' { s with heap := h', gens := g', drawn := d', toks := t' } := by
  have neL : ∀ b o, X.s₀.heap.get? b = some o → b ≠ X.env.locals := fun b o e => Nat.ne_of_lt (Nat.lt_of_lt_of_le (Heap.lt_size e) I.ok.above)
  have neC : ∀ b o, X.s₀.heap.get? b = some o → b ∉ X.ex → b ∉ ch := fun b o e hx hb => by
    rcases (hch b hb).1 with z | z
    · exact hx z
    · exact absurd (Nat.lt_of_lt_of_le (Heap.lt_size e) z) (Nat.lt_irrefl _)
  have cellK : ∀ x c, X.env.cells.lookup x = some c → ∀ v, s.heap.IsCell c v → h'.IsCell c v := fun x c e v ⟨o, ho, hd⟩ => by
    have nch : c ∉ ch := fun z => (hch c z).2.2.1 x c e rfl
    by_cases hc : c ∈ X.fs
    · obtain ⟨sl, q⟩ := slot c o (I.cne x c e) hc nch ho (I.freeC x c e)
      exact ⟨_, q, hd⟩
    · exact ⟨o, keep c o (I.cne x c e) hc nch ho (I.freeC x c e), hd⟩
  refine ⟨I.ok, I.os, hg, ⟨fun b o e n hb hx => ?_, fun b o e n hb hx => ?_, fun b o e n hx => ?_, fun b o e hx => ?_, fun b xs e => tups b xs (I.base.tups b xs e), fun b o xs e => frzs b o xs (I.base.frzs b o xs e), fun b ps e => ?_⟩, ?_, fun x c e => ?_, ?_, fun x c e => ?_, fun p hp => ?_, hok, I.len⟩
  · exact keep b o (neL b o e) hb (neC b o e hx) (I.base.keep b o e n hb hx) (I.base.free b o e n hx)
  · obtain ⟨sl, e1⟩ := I.base.slot b o e n hb hx
    obtain ⟨sl', e2⟩ := slot b _ (neL b o e) hb (neC b o e hx) e1 (I.base.free b o e n hx)
    exact ⟨sl', e2⟩
  · obtain ⟨o', e1⟩ := I.base.there b o e hx
    exact free b o' (neC b o e hx) e1 (I.base.free b o e n hx)
  · obtain ⟨o', e1⟩ := I.base.there b o e hx
    exact there b o' (neC b o e hx) e1
  · obtain ⟨m1, e1⟩ := I.base.tbls b ps e
    obtain ⟨m2, e2⟩ := tbls b _ e1
    exact ⟨m1 ++ m2, by rw [e2, Array.append_assoc]⟩
  · obtain ⟨m, hn, hl⟩ := I.loc
    refine ⟨m, ns m hn, fun i x v e1 e2 e3 => ?_⟩
    obtain ⟨u, r, l⟩ := hl i x v e1 e2 e3
    refine ⟨u, r, ?_⟩
    rcases l with l | ⟨k, c, e, z⟩
    · exact .inl l
    · exact .inr ⟨k, c, e, cellK x c e _ z⟩
  · obtain ⟨v, z⟩ := I.cell x c e
    exact ⟨v, cellK x c e v z⟩
  · obtain ⟨m, ⟨o, _, _, ho, _⟩, _⟩ := I.loc
    exact free _ o (fun z => (hch _ z).2.1 rfl) ho I.free
  · obtain ⟨v, o, ho, hd⟩ := I.cell x c e
    exact free c o (fun z => (hch c z).2.2.1 x c e rfl) ho (I.freeC x c e)
  · obtain ⟨e, n, ne, nf, d⟩ := I.pin p hp
    have nch : p.1 ∉ ch := fun z => (hch p.1 z).2.2.2 p hp rfl
    exact ⟨keep p.1 p.2 ne nf nch e n, free p.1 p.2 nch e n, ne, nf, d⟩
/-- .. where the frame's own object is kept too -/
theorem Inv.un {t' : Nat} (I : Inv X pins σ H s) (u : Un X.fs [] H H' s.heap h') (hok : HOk X.prog X.w H' h') : Inv X pins σ H' { s with heap := h', toks := t' } := by
  obtain ⟨m, ⟨o, es, ep, ho, r⟩, _⟩ := id I.loc
  obtain ⟨sl, hL⟩ := u.any ho I.free (by simp)
  exact I.step (g' := s.gens) (d' := s.drawn) (ch := []) (fun _ z => nomatch z) (fun b o _ hb _ e n => u.keep b o e n hb (by simp)) (fun b o _ hb _ e n => u.slot b o e n hb (by simp)) (fun b o _ e n => u.free b o e n (by simp)) (fun b o _ e => u.there b o e (by simp)) u.tups u.frzs u.tbls (fun m' hm => by
    obtain ⟨o', es', ep', ho', r'⟩ := hm
    rw [ho] at ho'; cases ho'
    exact ⟨_, es', ep', hL, r'⟩) hok I.bare
/-- behind a call (or a comprehension's block): the slots of this frame may have changed too, the records at ch may have turned -/
theorem Inv.call {g' : Array GenState} {t' : Nat} {d' : Drawn} {ch : List Addr} (I : Inv X pins σ H s) (u : Un (frs X.stack) ch H H' s.heap h') (hok : HOk X.prog X.w H' h') (hg : AllBare g')
    (hch : ∀ b ∈ ch, (b ∈ X.ex ∨ X.s₀.heap.objs.size ≤ b) ∧ b ≠ X.env.locals ∧ (∀ x c, X.env.cells.lookup x = some c → c ≠ b) ∧ ∀ p ∈ X.pn ++ pins, p.1 ≠ b) :
    Inv X pins σ H' { s with heap := h', gens := g', drawn := d', toks := t' } := by
  obtain ⟨m, ⟨o, es, ep, ho, r⟩, _⟩ := id I.loc
  obtain ⟨sl, hL⟩ := u.any ho I.free fun z => (hch _ z).2.1 rfl
  exact I.step (ch := ch) hch (fun b o hL hb hc e n => u.keep b o e n (fun z => (List.mem_cons.mp (I.stkSub b z)).elim hL hb) hc) (fun b o _ _ hc e n => u.any e n hc) (fun b o hc e n => u.free b o e n hc) (fun b o hc e => u.there b o e hc) u.tups u.frzs u.tbls (fun m' hm => by
    obtain ⟨o', es', ep', ho', r'⟩ := hm
    rw [ho] at ho'; cases ho'
    exact ⟨_, es', ep', hL, r'⟩) hok hg
/-- an untracked record of ours (an iterator) has turned -/
theorem Inv.turned {t' : Nat} {it : Addr} (I : Inv X pins σ H s) (k : ∀ b o, b ≠ it → s.heap.get? b = some o → h'.get? b = some o) (hn : H it = none) (hL : it ≠ X.env.locals)
    (h1 : it ∈ X.ex ∨ X.s₀.heap.objs.size ≤ it) (h2 : ∀ x c, X.env.cells.lookup x = some c → c ≠ it) (h3 : ∀ p ∈ X.pn ++ pins, p.1 ≠ it) : Inv X pins σ H { s with heap := h', toks := t' } := by
  have nit : ∀ b u, H b = some u → b ≠ it := fun b u e z => by rw [z, hn] at e; cases e
  refine I.step (g' := s.gens) (d' := s.drawn) (ch := [it]) (fun b hb => ?_) (fun b o _ _ hc e _ => k b o (fun z => hc (by simp [z])) e) (fun b o _ _ hc e _ => ⟨o.slots, k b o (fun z => hc (by simp [z])) e⟩) (fun _ _ _ _ n => n)
    (fun b o hc e => ⟨o, k b o (fun z => hc (by simp [z])) e⟩) (fun _ _ e => e) (fun _ _ _ e => e) (fun b ps e => ⟨#[], by rw [e]; simp⟩) (fun m hm => ?_) (fun b u e => ?_) I.bare
  · have e : b = it := by simpa using hb
    subst e
    exact ⟨h1, hL, h2, h3⟩
  · obtain ⟨o, es, ep, ho, r⟩ := hm
    exact ⟨o, es, ep, k _ o (Ne.symm hL) ho, r⟩
  · refine (I.hok b u e).stay (fun c v hc q => k c v ?_ q) (fun _ q => q) fun _ _ q => q
    rcases hc with z | z
    · rw [z]; exact nit b u e
    · exact nit c _ z
theorem Inv.tok (I : Inv X pins σ H s) (t : Nat) : Inv X pins σ H { s with toks := t } := I.un (h' := s.heap) (t' := t) Un.refl I.hok
/-- all objects kept -/
theorem Inv.kept {t' : Nat} (I : Inv X pins σ H s) (k : ∀ b u, s.heap.get? b = some u → h'.get? b = some u) : Inv X pins σ H { s with heap := h', toks := t' } := I.un (Un.kept k) (I.hok.kept k)
/-- a new object laid and tracked -/
theorem Inv.laid {a : Addr} {o : HO} {t' : Nat} (I : Inv X pins σ H s) (k : ∀ b u, s.heap.get? b = some u → h'.get? b = some u) (hp : s.heap.objs.size ≤ a) (new : ObjOk X.prog X.w (upd H a o) h' a o) :
    Inv X pins σ (upd H a o) { s with heap := h', toks := t' } := I.un (Un.laid k hp (I.hok.fresh hp)) (I.hok.laid k hp new)
/-- an object written -/
theorem Inv.write {x e : Addr} {o : HO} {t' : Nat} (I : Inv X pins σ H s) (mu : Mut (H x)) (he : e = x ∨ H e = some (.own x)) (k : ∀ b u, b ≠ e → s.heap.get? b = some u → h'.get? b = some u) (heo : ∃ u, h'.get? e = some u)
    (new : ObjOk X.prog X.w (upd H x o) h' x o) : Inv X pins σ (upd H x o) { s with heap := h', toks := t' } := I.un (Un.write mu he k heo) (I.hok.write mu he k heo new)
theorem Inv.pins_of {pins' : List (Addr × Obj)} (I : Inv X pins σ H s) (h : ∀ p ∈ pins', s.heap.get? p.1 = some p.2 ∧ H p.1 = none ∧ p.1 ≠ X.env.locals ∧ p.1 ∉ X.fs ∧ ∀ v, p.2.data ≠ .cell v) : Inv X pins' σ H s :=
  ⟨I.ok, I.os, I.bare, I.base, I.loc, I.cell, I.free, I.freeC, fun p hp => (List.mem_append.mp hp).elim (fun z => I.pin p (List.mem_append_left _ z)) (h p), I.hok, I.len⟩

theorem nodup_ix {N : List Str} (hN : N.Nodup) {i j : Nat} {x : Str} (a : N[i]? = some x) (b : N[j]? = some x) : i = j := by
  obtain ⟨h1, e1⟩ := List.getElem?_eq_some_iff.mp a
  obtain ⟨h2, e2⟩ := List.getElem?_eq_some_iff.mp b
  exact (List.getElem_inj hN).mp (e1.trans e2.symm)

/-- a name is stored; what changed -/
theorem store_ok2 {M : Model} {A : Around} {E : Value → Shared → Prop} {i : Nat} {x : Str} {v : V} {u : Value} {Q : Unit → Shared → Prop} (I : Inv X pins σ H s) (hN : X.N.Nodup) (hi : X.N[i]? = some x) (hx : Loc X.env.scope x) (r : RelV v u)
    (h : ∀ s', Inv X pins (σ.set i (some v)) H s' → (∃ a, Heap.SameBut a s.heap s'.heap ∧ (a = X.env.locals ∨ X.env.cells.lookup x = some a)) → Q () s') (hf : X.fn x = true ∨ X.env.scope.names.lookup x = some .local := by first | exact .inl rfl | exact .inr rfl | assumption) : wpAny M A (storeName X.env x u) Q E s := by
  obtain ⟨m, hn, hl⟩ := id I.loc
  have hcls : (X.env.scope.kind == .class || (X.env.scope.kind == .module && X.env.locals != X.env.globals)) = false := by rw [I.ok.kind]; rfl
  have hiσ : i < σ.length := by rw [I.len]; exact (List.getElem?_eq_some_iff.mp hi).1
  have cne := I.cne
  have tracked : ∀ {a : Addr} {h' : Heap}, (∃ o, s.heap.get? a = some o ∧ H a = none) → Heap.SameBut a s.heap h' → HOk X.prog X.w H h' := fun {a h'} ha hs b ob e => by
    obtain ⟨_, _, hfree⟩ := ha
    refine (I.hok b ob e).stay (fun c w' hc q => (hs.2 c ?_).trans q) (fun _ q => q) fun _ _ q => q
    rintro rfl
    rcases hc with rfl | hc
    · rw [hfree] at e; cases e
    · rw [hfree] at hc; cases hc
  rcases hx with hk | hk
  · refine wpAny_storeName_local hk hn (fun h' hn' hs => ?_) hcls
    obtain ⟨oL, _, _, hoL, _⟩ := id hn
    refine h _ ⟨I.ok, I.os, I.bare, ⟨fun b o e n hb hx => ?_, fun b o e n hb hx => ?_, I.base.free, fun b o e hx => ?_, I.base.tups, I.base.frzs, I.base.tbls⟩, ⟨_, hn', fun j y v' e1 e2 e3 => ?_⟩, fun y c e => ?_, I.free, I.freeC, fun p hp => ?_, tracked ⟨oL, hoL, I.free⟩ hs, by simpa using I.len⟩ ⟨_, hs, .inl rfl⟩
    · exact (hs.2 b (Nat.ne_of_lt (Nat.lt_of_lt_of_le (Heap.lt_size e) I.ok.above))).trans (I.base.keep b o e n hb hx)
    · obtain ⟨sl, e1⟩ := I.base.slot b o e n hb hx
      exact ⟨sl, (hs.2 b (Nat.ne_of_lt (Nat.lt_of_lt_of_le (Heap.lt_size e) I.ok.above))).trans e1⟩
    · obtain ⟨o', e1⟩ := I.base.there b o e hx
      exact ⟨o', (hs.2 b (Nat.ne_of_lt (Nat.lt_of_lt_of_le (Heap.lt_size e) I.ok.above))).trans e1⟩
    · by_cases hj : j = i
      · subst hj
        rw [hi] at e1; cases e1
        rw [List.getElem?_set_self hiσ] at e2
        cases e2
        exact ⟨u, r, .inl ⟨hk, by simp⟩⟩
      · rw [List.getElem?_set_ne (Ne.symm hj)] at e2
        obtain ⟨u', r', q⟩ := hl j y v' e1 e2 e3
        refine ⟨u', r', ?_⟩
        rcases q with ⟨k, e⟩ | ⟨k, c, e, z⟩
        · refine .inl ⟨k, ?_⟩
          have : y ≠ x := fun e => hj (nodup_ix hN e1 (e ▸ hi))
          simp [this, e]
        · exact .inr ⟨k, c, e, z.sameBut hs (cne y c e)⟩
    · obtain ⟨w', z⟩ := I.cell y c e
      exact ⟨w', z.sameBut hs (cne y c e)⟩
    · obtain ⟨e, n, ne, nf, d⟩ := I.pin p hp
      exact ⟨(hs.2 p.1 ne).trans e, n, ne, nf, d⟩
  · have hfn : X.fn x = true := by
      rcases hf with z | z
      · exact z
      · rw [z] at hk; cases hk
    obtain ⟨c, hc⟩ := I.ok.has x (.inl hk)
    obtain ⟨w', z⟩ := I.cell x c hc
    refine wpAny_storeName_cell I.ok.kind hk hc z (fun h' hc' hs => ?_)
    obtain ⟨oc, hoc, hocd⟩ := id z
    refine h { s with heap := h' } ⟨I.ok, I.os, I.bare, ⟨fun b o e n hb hx => ?_, fun b o e n hb hx => ?_, I.base.free, fun b o e hx => ?_, I.base.tups, I.base.frzs, I.base.tbls⟩, ⟨m, hn.sameBut hs (Ne.symm (cne x c hc)), fun j y v' e1 e2 e3 => ?_⟩, fun y c' e => ?_, I.free, I.freeC, fun p hp => ?_, tracked ⟨oc, hoc, I.freeC x c hc⟩ hs, by simpa using I.len⟩ ⟨c, hs, .inr hc⟩
    · exact (hs.2 b (Nat.ne_of_lt (Nat.lt_of_lt_of_le (Heap.lt_size e) (I.ok.cab x c hfn hc)))).trans (I.base.keep b o e n hb hx)
    · obtain ⟨sl, e1⟩ := I.base.slot b o e n hb hx
      exact ⟨sl, (hs.2 b (Nat.ne_of_lt (Nat.lt_of_lt_of_le (Heap.lt_size e) (I.ok.cab x c hfn hc)))).trans e1⟩
    · obtain ⟨o', e1⟩ := I.base.there b o e hx
      exact ⟨o', (hs.2 b (Nat.ne_of_lt (Nat.lt_of_lt_of_le (Heap.lt_size e) (I.ok.cab x c hfn hc)))).trans e1⟩
    · by_cases hj : j = i
      · subst hj
        rw [hi] at e1; cases e1
        rw [List.getElem?_set_self hiσ] at e2
        cases e2
        exact ⟨u, r, .inr ⟨.inl hk, c, hc, hc'⟩⟩
      · rw [List.getElem?_set_ne (Ne.symm hj)] at e2
        obtain ⟨u', r', q⟩ := hl j y v' e1 e2 e3
        refine ⟨u', r', ?_⟩
        rcases q with q | ⟨k, c', e, z'⟩
        · exact .inl q
        · refine .inr ⟨k, c', e, z'.sameBut hs ?_⟩
          rintro rfl
          exact hj (nodup_ix hN e1 (I.ok.inj _ _ _ e hc ▸ hi))
    · by_cases hcc : c' = c
      · subst hcc; exact ⟨_, hc'⟩
      · obtain ⟨w2, z2⟩ := I.cell y c' e
        exact ⟨w2, z2.sameBut hs hcc⟩
    · obtain ⟨e, n, ne, nf, d⟩ := I.pin p hp
      refine ⟨(hs.2 p.1 ?_).trans e, n, ne, nf, d⟩
      intro q
      rw [q, hoc] at e
      have q' : oc = p.2 := Option.some.inj e
      exact d w' (by rw [← q']; exact hocd)
theorem store_ok {M : Model} {A : Around} {E : Value → Shared → Prop} {i : Nat} {x : Str} {v : V} {u : Value} {Q : Unit → Shared → Prop} (I : Inv X pins σ H s) (hN : X.N.Nodup) (hi : X.N[i]? = some x) (hx : Loc X.env.scope x) (r : RelV v u)
    (h : ∀ s', Inv X pins (σ.set i (some v)) H s' → Q () s') (hf : X.fn x = true ∨ X.env.scope.names.lookup x = some .local := by first | exact .inl rfl | exact .inr rfl | assumption) : wpAny M A (storeName X.env x u) Q E s :=
  store_ok2 I hN hi hx r (fun s' I' _ => h s' I') hf
/-- behind a call or a block, the state as it is -/
theorem Inv.call' {s' : Shared} {ch : List Addr} (I : Inv X pins σ H s) (ho : s'.os = s.os) (u : Un (frs X.stack) ch H H' s.heap s'.heap) (hok : HOk X.prog X.w H' s'.heap) (hg : AllBare s'.gens)
    (hch : ∀ b ∈ ch, (b ∈ X.ex ∨ X.s₀.heap.objs.size ≤ b) ∧ b ≠ X.env.locals ∧ (∀ x c, X.env.cells.lookup x = some c → c ≠ b) ∧ ∀ p ∈ X.pn ++ pins, p.1 ≠ b) : Inv X pins σ H' s' := by
  obtain ⟨h', g', d', t', o'⟩ := s'
  have e : o' = s.os := ho
  subst e
  exact I.call (g' := g') (t' := t') (d' := d') u hok hg hch
end

/-! ### the judgements -/
/-- an exception: its class, its own dict's address (where it has one), the abstract heap behind it -/
abbrev XK := Value → Option Addr → Hp → Prop
abbrev St := List (Option V)
abbrev VK := V → Hp → Prop
/-- an expression's reading; a test's; an argument list's -/
abbrev TE := St → Hp → VK → Prop
abbrev TT := St → Hp → (Bool → Hp → Prop) → Prop
abbrev TA := St → Hp → (List V → Hp → Prop) → Prop
/-- what is wanted behind a statement -/
structure Ends where
  nx : St → Hp → Prop
  rt : VK
  bk : St → Hp → Prop := fun _ _ => False
  ct : St → Hp → Prop := fun _ _ => False
abbrev TS := Ends → St → Hp → Prop

inductive EP (X : Cx) (pins : List (Addr × Obj)) (σ : St) (Q : VK) (u : Value) (s' : Shared) : Prop
  | mk (v : V) (H' : Hp) (I : Inv X pins σ H' s') (r : RelV v u) (q : Q v H')
inductive TP (X : Cx) (pins : List (Addr × Obj)) (σ : St) (Q : Bool → Hp → Prop) (b : Bool) (s' : Shared) : Prop
  | mk (H' : Hp) (I : Inv X pins σ H' s') (q : Q b H')
inductive AP (X : Cx) (pins : List (Addr × Obj)) (σ : St) (Q : List V → Hp → Prop) (us : List Value) (s' : Shared) : Prop
  | mk (vs : List V) (H' : Hp) (I : Inv X pins σ H' s') (r : Vals vs us) (q : Q vs H')
inductive SN (X : Cx) (pins : List (Addr × Obj)) (k : St → Hp → Prop) (s' : Shared) : Prop
  | mk (σ' : St) (H' : Hp) (I : Inv X pins σ' H' s') (q : k σ' H')
def SP (X : Cx) (pins : List (Addr × Obj)) (D : Ends) (f : Flow) (s' : Shared) : Prop :=
  match f with
  | .next => SN X pins D.nx s'
  | .brk => SN X pins D.bk s'
  | .cont => SN X pins D.ct s'
  | .ret u => ∃ v σ' H', Inv X pins σ' H' s' ∧ RelV v u ∧ D.rt v H'

def PE (X : Cx) (e : Expr) (t : TE) : Prop :=
  ∀ (pins : List (Addr × Obj)) (s : Shared) (σ : St) (H : Hp) (Q : VK), Inv X pins σ H s → t σ H Q → wpAny (model X.prog X.w) X.A (eval e X.env) (EP X pins σ Q) X.xe s
def PT (X : Cx) (e : Expr) (t : TT) : Prop :=
  ∀ (pins : List (Addr × Obj)) (s : Shared) (σ : St) (H : Hp) (Q : Bool → Hp → Prop), Inv X pins σ H s → t σ H Q → wpAny (model X.prog X.w) X.A (isTrue e X.env (eval e X.env)) (TP X pins σ Q) X.xe s
/-- a test whatever its 'whole' is (and, or) -/
def PW (X : Cx) (e : Expr) (t : TT) : Prop :=
  ∀ (whole : Sem Value) (pins : List (Addr × Obj)) (s : Shared) (σ : St) (H : Hp) (Q : Bool → Hp → Prop), Inv X pins σ H s → t σ H Q → wpAny (model X.prog X.w) X.A (isTrue e X.env whole) (TP X pins σ Q) X.xe s
theorem PW.pt {X : Cx} {e : Expr} {t : TT} (h : PW X e t) : PT X e t := h _
/-- an argument list (no star), from the left -/
def PA (X : Cx) (es : List Expr) (t : TA) : Prop :=
  ∀ (pos : Pos) (pins : List (Addr × Obj)) (s : Shared) (σ : St) (H : Hp) (Q : List V → Hp → Prop), Inv X pins σ H s → t σ H Q → wpAny (model X.prog X.w) X.A (spliced (backTo pos (starEach es X.env))) (AP X pins σ Q) X.xe s
def PS (X : Cx) (st : Stmt) (t : TS) : Prop :=
  ∀ (pins : List (Addr × Obj)) (s : Shared) (σ : St) (H : Hp) (D : Ends), Inv X pins σ H s → t D σ H → wpAny (model X.prog X.w) X.A (exec st X.env) (SP X pins D) X.xe s
def PSs (X : Cx) (st : List Stmt) (t : TS) : Prop :=
  ∀ (pins : List (Addr × Obj)) (s : Shared) (σ : St) (H : Hp) (D : Ends), Inv X pins σ H s → t D σ H → wpAny (model X.prog X.w) X.A (execs st X.env) (SP X pins D) X.xe s
/-- weaken the end -/
theorem thn {α : Type} {t : Sem α} {Q Q' : α → Shared → Prop} {M : Model} {A : Around} {E : Value → Shared → Prop} {s : Shared} (h : wpAny M A t Q E s) (hQ : ∀ a s, Q a s → Q' a s) : wpAny M A t Q' E s := wpAny_mono h hQ fun _ _ x => x
end L2

namespace L2
open PySem PySem.Spec PyProof.Rows
section
variable {X : Cx}


/-! ### names and constants -/
inductive VarP (i : Nat) (σ : St) (H : Hp) (Q : VK) : Prop
  | mk (v : V) (h : σ[i]? = some (some v)) (q : Q v H)
def tVar (i : Nat) : TE := fun σ H Q => VarP i σ H Q
inductive IsB (x : V) (H : Hp) (Q : Bool → Hp → Prop) : Prop
  | mk (c : Bool) (h : x = .bl c) (q : Q c H)
def tC (v : V) : TE := fun _ H Q => Q v H
theorem pe_var {i : Nat} {x : Str} {pos : Pos} (hN : X.N[i]? = some x) (hv : Vis X.env.scope x) (hd : (x == ("__debug__" : Str)) = false := by decide) (hcd : (x == ("__classdict__" : Str)) = false := by decide) : PE X (.Name x pos) (tVar i) := by
  intro pins s σ H Q I h
  obtain ⟨v, e, h⟩ := h
  obtain ⟨m, hn, hl⟩ := I.loc
  obtain ⟨u, r, l⟩ := hl i x v hN e hv
  have fin : EP X pins σ Q u s := ⟨v, H, I, r, h⟩
  rcases l with ⟨hk, hm⟩ | ⟨hk, c, hc, hcell⟩
  · exact wpAny_Name (wpAny_loadName_local I.ok.kind hk hn hm fin) hd
  · rcases hk with hk | hk
    · exact wpAny_Name (wpAny_loadName_cell I.ok.kind hk hc hcell fin) hd
    · exact wpAny_Name (wpAny_loadName_free I.ok.kind hk hc hcell fin hcd) hd
theorem pe_int {i j pos} : PE X (.Constant (.int i) j pos) (tC (.int i)) := fun _ _ _ H _ I h => wpAny_Constant_int ⟨.int i, H, I.tok _, ⟨_, rfl⟩, h⟩
theorem pe_bl {b j pos} : PE X (.Constant (.bool b) j pos) (tC (.bl b)) := fun _ _ _ H _ I h => Constant_bool ⟨.bl b, H, I, rfl, h⟩
theorem pe_non {j pos} : PE X (.Constant .none j pos) (tC .non) := fun _ _ _ H _ I h => Constant_none ⟨.non, H, I, rfl, h⟩
theorem pe_str {x j pos} : PE X (.Constant (.str x) j pos) (tC (.str x)) := fun _ _ _ H _ I h => Calls.Constant_str ⟨.str x, H, I.tok _, ⟨_, rfl⟩, h⟩

/-- a global name of the def -/
def Gl (X : Cx) (x : Str) : Prop := X.env.kindOf x = some .globalImplicit
theorem ld_glob {E : Value → Shared → Prop} {pins : List (Addr × Obj)} {s : Shared} {σ : St} {H : Hp} {x : Str} {u : Value} {pos : Pos} {Q : Value → Shared → Prop} (I : Inv X pins σ H s) (hg : Gl X x) (hm : X.mg x = some u) (h : Q u s)
    (hd : (x == ("__debug__" : Str)) = false := by decide) : wpAny (model X.prog X.w) X.A (eval (.Name x pos) X.env) Q E s :=
  Calls.Name_function_global I.ok.kind hg (Calls.loadGlobal_global (by rw [I.ok.glob]; exact I.mod.glob.keeps I.bk) hm h) hd
theorem ld_blt {E : Value → Shared → Prop} {pins : List (Addr × Obj)} {s : Shared} {σ : St} {H : Hp} {x : Str} {u : Value} {pos : Pos} {Q : Value → Shared → Prop} (I : Inv X pins σ H s) (hg : Gl X x) (hm : X.mg x = none) (hv : bootBuiltins x = some u) (h : Q u s)
    (hn : x ≠ "__name__" := by decide) (hd : (x == ("__debug__" : Str)) = false := by decide) : wpAny (model X.prog X.w) X.A (eval (.Name x pos) X.env) Q E s := by
  obtain ⟨mb, h1, h2⟩ := I.mod.blt
  exact Calls.Name_function_global I.ok.kind hg (Calls.loadGlobal_builtin (by rw [I.ok.glob]; exact I.mod.glob.keeps I.bk) hm (by rw [I.ok.blt]; exact h1.keeps I.bk) ((h2 x hn).trans hv) h) hd
/-- a module's constant, a class, a function, as a value -/
theorem pe_glob {x : Str} {v : V} {u : Value} {pos : Pos} (hg : Gl X x) (hm : X.mg x = some u) (r : RelV v u) (hd : (x == ("__debug__" : Str)) = false := by decide) : PE X (.Name x pos) (tC v) :=
  fun _ _ _ H _ I h => ld_glob I hg hm ⟨v, H, I, r, h⟩ hd
theorem pe_bltn {x : Str} {v : V} {u : Value} {pos : Pos} (hg : Gl X x) (hm : X.mg x = none) (hv : bootBuiltins x = some u) (r : RelV v u) (hn : x ≠ "__name__" := by decide) (hd : (x == ("__debug__" : Str)) = false := by decide) : PE X (.Name x pos) (tC v) :=
  fun _ _ _ H _ I h => ld_blt I hg hm hv ⟨v, H, I, r, h⟩ hn hd

/-! ### arithmetic -/
/-- two ints -/
def t2I (ta tb : TE) (k : Int → Int → Hp → Prop) : St → Hp → Prop := fun σ H => ta σ H fun x H1 => tb σ H1 fun y H2 => ∃ i j, x = .int i ∧ y = .int j ∧ k i j H2
def tAdd (ta tb : TE) : TE := fun σ H Q => t2I ta tb (fun i j H2 => Q (.int (i + j)) H2) σ H
def tSub (ta tb : TE) : TE := fun σ H Q => t2I ta tb (fun i j H2 => Q (.int (i - j)) H2) σ H
/-- the left factor below 2^64 -/
def tMul (ta tb : TE) : TE := fun σ H Q => t2I ta tb (fun i j H2 => (-(2 ^ 64) < i ∧ i < 2 ^ 64) ∧ Q (.int (i * j)) H2) σ H
variable {a b : Expr} {ta tb : TE} {pos : Pos}

/-! ### comparisons -/
def PC (X : Cx) (op : CmpOp) (a b : Expr) (t : TE) : Prop :=
  ∀ (pins : List (Addr × Obj)) (s : Shared) (σ : St) (H : Hp) (Q : VK), Inv X pins σ H s → t σ H Q →
    wpAny (model X.prog X.w) X.A (eval a X.env) (fun v s₁ => wpAny (model X.prog X.w) X.A (eval b X.env) (fun u s₂ => wpAny (model X.prog X.w) X.A (compareOp op v u) (EP X pins σ Q) X.xe s₂) X.xe s₁) X.xe s
def tCmp (p : Int → Int → Bool) (ta tb : TE) : TE := fun σ H Q => t2I ta tb (fun i j H2 => Q (.bl (p i j)) H2) σ H
abbrev tLt : TE → TE → TE := tCmp fun i j => decide (i < j)
abbrev tLe : TE → TE → TE := tCmp fun i j => decide (i ≤ j)
abbrev tGt : TE → TE → TE := tCmp fun i j => decide (j < i)
abbrev tGe : TE → TE → TE := tCmp fun i j => decide (j ≤ i)
abbrev tEqI : TE → TE → TE := tCmp fun i j => decide (i = j)
abbrev tNeI : TE → TE → TE := tCmp fun i j => !decide (i = j)
/-- is None -/
def tIsN (ta : TE) : TE := fun σ H Q => ta σ H fun x H1 => Q (.bl (decide (x = .non))) H1
def tNotN (ta : TE) : TE := fun σ H Q => ta σ H fun x H1 => Q (.bl (!decide (x = .non))) H1
/-- a comparison as a value, as a test -/
def tB (t : TE) : TT := fun σ H Q => t σ H fun x H1 => IsB x H1 Q
theorem pe_cmp {op : CmpOp} {t : TE} (h : PC X op a b t) (h1 : behindInMarks op b = false := by first | exact nobehind _ (by decide) (by decide) | rfl) : PE X (.Compare a [op] [b] pos) t := fun pins s σ H Q I hw => wpAny_Compare1 (h pins s σ H Q I hw) h1
theorem pt_cmp {op : CmpOp} {t : TE} (h : PC X op a b t) (h1 : behindInMarks op b = false := by first | exact nobehind _ (by decide) (by decide) | rfl) : PT X (.Compare a [op] [b] pos) (tB t) := by
  intro pins s σ H Q I hw
  refine wpAny_isTrue_Compare1 (thn (h pins s σ H _ I hw) fun v s1 h1 => thn h1 fun u s2 h2 => thn h2 fun c s3 hpat => ?_) h1
  obtain ⟨x, H1, I1, r1, q1⟩ := hpat
  obtain ⟨d, rfl, q⟩ := q1
  cases r1
  exact wpAny_truthy_bool ⟨H1, I1, q⟩
/-- an expression whose value is a bool, as a test -/
theorem pt_val {e : Expr} {t : TE} (h : PE X e t) (he : ∀ whole, isTrue e X.env whole = (do let v ← whole; standAt e.pos; holding [v] (truthy v)) := by intro _; rfl) : PT X e (tB t) := by
  intro pins s σ H Q I hw
  refine isTrue_plain (thn (h pins s σ H _ I hw) fun v s1 hpat => ?_) (he _)
  obtain ⟨x, H1, I1, r1, q1⟩ := hpat
  obtain ⟨d, rfl, q⟩ := q1
  cases r1
  exact wpAny_truthy_bool ⟨H1, I1, q⟩

/-! ### and, or, not -/
variable {tA tB' : TT} {rest : List Expr}
def tAnd (t u : TT) : TT := fun σ H Q => t σ H fun c H1 => if c = true then u σ H1 Q else Q false H1
def tOr (t u : TT) : TT := fun σ H Q => t σ H fun c H1 => if c = true then Q true H1 else u σ H1 Q
def tNot (t : TT) : TT := fun σ H Q => t σ H fun c H1 => Q (!c) H1
theorem pw_and1 (ha : PT X a tA) : PW X (.BoolOp .And [a] pos) tA := by
  intro wh pins s σ H Q I h
  refine isTrue_and (thn (ha pins s σ H Q I h) fun c s1 e => ?_)
  cases c with
  | true => exact isTrue_and_nil e
  | false => exact e
theorem pw_or1 (ha : PT X a tA) : PW X (.BoolOp .Or [a] pos) tA := by
  intro wh pins s σ H Q I h
  refine isTrue_or (thn (ha pins s σ H Q I h) fun c s1 e => ?_)
  cases c with
  | false => exact isTrue_or_nil e
  | true => exact e
theorem pw_and (ha : PT X a tA) (hb : PW X (.BoolOp .And (b :: rest) pos) tB') : PW X (.BoolOp .And (a :: b :: rest) pos) (tAnd tA tB') := by
  intro wh pins s σ H Q I h
  refine isTrue_and (thn (ha pins s σ H _ I h) fun c s1 ⟨H1, I1, q1⟩ => ?_)
  cases c with
  | true => exact hb wh pins s1 σ H1 Q I1 q1
  | false => exact ⟨H1, I1, q1⟩
theorem pw_or (ha : PT X a tA) (hb : PW X (.BoolOp .Or (b :: rest) pos) tB') : PW X (.BoolOp .Or (a :: b :: rest) pos) (tOr tA tB') := by
  intro wh pins s σ H Q I h
  refine isTrue_or (thn (ha pins s σ H _ I h) fun c s1 ⟨H1, I1, q1⟩ => ?_)
  cases c with
  | true => exact ⟨H1, I1, q1⟩
  | false => exact hb wh pins s1 σ H1 Q I1 q1
theorem pt_not (ha : PT X a tA) : PT X (.UnaryOp .Not a pos) (tNot tA) := by
  intro pins s σ H Q I h
  exact isTrue_not (thn (ha pins s σ H (fun c H1 => Q (!c) H1) I h) fun c s1 q => q.casesOn fun H1 I1 q1 => ⟨H1, I1, q1⟩)
/-- .. as values (bools) -/
def tAndV (ta tb : TE) : TE := fun σ H Q => ta σ H fun x H1 => IsB x H1 fun c H2 => if c = true then tb σ H2 Q else Q (.bl false) H2
def tOrV (ta tb : TE) : TE := fun σ H Q => ta σ H fun x H1 => IsB x H1 fun c H2 => if c = true then Q (.bl true) H2 else tb σ H2 Q
def tNotV (ta : TE) : TE := fun σ H Q => ta σ H fun x H1 => IsB x H1 fun c H2 => Q (.bl (!c)) H2
theorem pe_one {op} {t : TE} (h : PE X a t) : PE X (.BoolOp op [a] pos) t := fun pins s σ H Q I hw => BoolOp_one (h pins s σ H Q I hw)
theorem pe_and (ha : PE X a ta) (hb : PE X (.BoolOp .And (b :: rest) pos) tb) : PE X (.BoolOp .And (a :: b :: rest) pos) (tAndV ta tb) := by
  intro pins s σ H Q I h
  refine BoolOp_and (thn (ha pins s σ H _ I h) fun v s1 hpat => ?_)
  obtain ⟨x, H1, I1, r1, q1⟩ := hpat
  obtain ⟨c, rfl, q1⟩ := q1
  cases r1
  refine wpAny_truthy_bool ?_
  cases c with
  | true => exact hb pins s1 σ H1 Q I1 q1
  | false => exact ⟨.bl false, H1, I1, rfl, q1⟩
theorem pe_or (ha : PE X a ta) (hb : PE X (.BoolOp .Or (b :: rest) pos) tb) : PE X (.BoolOp .Or (a :: b :: rest) pos) (tOrV ta tb) := by
  intro pins s σ H Q I h
  refine BoolOp_or (thn (ha pins s σ H _ I h) fun v s1 hpat => ?_)
  obtain ⟨x, H1, I1, r1, q1⟩ := hpat
  obtain ⟨c, rfl, q1⟩ := q1
  cases r1
  refine wpAny_truthy_bool ?_
  cases c with
  | false => exact hb pins s1 σ H1 Q I1 q1
  | true => exact ⟨.bl true, H1, I1, rfl, q1⟩
theorem pe_not (ha : PE X a ta) : PE X (.UnaryOp .Not a pos) (tNotV ta) := by
  intro pins s σ H Q I h
  refine UnaryOp_ (thn (ha pins s σ H _ I h) fun v s1 hpat => ?_)
  obtain ⟨x, H1, I1, r1, q1⟩ := hpat
  obtain ⟨c, rfl, q1⟩ := q1
  cases r1
  exact not_of (wpAny_truthy_bool ⟨.bl (!c), H1, I1, rfl, q1⟩)
/-- a if t else b -/
def tIf (t : TT) (ta tb : TE) : TE := fun σ H Q => t σ H fun c H1 => if c = true then ta σ H1 Q else tb σ H1 Q
end
end L2

namespace L2
open PySem PySem.Spec PyProof.Rows

/-! ### a list, a tuple that is read: tracked, frozen, or an object of the module -/
def SqL (K : PySem.W.Frag) (H : Hp) (a : Addr) (xs : List V) : Prop :=
  Rd H a (.lst xs) ∨
    ∃ (o : Obj) (its : Array Value) (n : Nat), K.lookup a = some o ∧ o.cls = .type "list" ∧ o.dict = none ∧ o.data = .seq its n ∧ its.size ≤ sizeLine ∧ Vals xs its.toList
def SqT (K : PySem.W.Frag) (H : Hp) (a : Addr) (xs : List V) : Prop :=
  Rd H a (.tup xs) ∨
    ∃ (o : Obj) (its : Array Value) (n : Nat), K.lookup a = some o ∧ o.cls = .type "tuple" ∧ o.data = .seq its n ∧ its.size ≤ sizeLine ∧ Vals xs its.toList
def absV : Value → Option V
  | .none => some .non
  | .bool b => some (.bl b)
  | .int i _ => some (.int i)
  | .str x _ => some (.str x)
  | .bytes b _ => some (.byt b)
  | .float b _ => some (.flt b)
  | .ref a => some (.ref a)
  | .type n => some (.ty n)
  | _ => none
theorem RelV.abs {x : V} {u : Value} (r : RelV x u) : absV u = some x := by
  cases x with
  | non => cases r; rfl
  | bl _ => cases r; rfl
  | int _ => obtain ⟨t, rfl⟩ := r; rfl
  | str _ => obtain ⟨t, rfl⟩ := r; rfl
  | byt _ => obtain ⟨t, rfl⟩ := r; rfl
  | flt _ => obtain ⟨t, rfl⟩ := r; rfl
  | ref _ => cases r; rfl
  | ty _ => cases r; rfl
theorem RelV.inj {x y : V} {u : Value} (r : RelV x u) (q : RelV y u) : x = y := Option.some.inj (r.abs.symm.trans q.abs)
theorem Vals.inj : ∀ {xs ys : List V} {us : List Value}, Vals xs us → Vals ys us → xs = ys
  | _, _, _, .nil, .nil => rfl
  | _, _, _, .cons r t, .cons r' t' => by rw [r.inj r', Vals.inj t t']
section
variable {X : Cx} {pins : List (Addr × Obj)} {σ : St} {H : Hp} {s : Shared} {a : Addr} {xs ys : List V}
theorem SqL.of {K : PySem.W.Frag} (h : H a = some (.lst xs)) : SqL K H a xs := .inl (.inl h)
theorem SqT.of {K : PySem.W.Frag} (h : H a = some (.tup xs)) : SqT K H a xs := .inl (.inl h)
theorem Inv.list (I : Inv X pins σ H s) (h : SqL X.K H a xs) : ∃ its : List Value, Vals xs its ∧ PlainL s.heap a its.toArray ∧ xs.length ≤ sizeLine := by
  rcases h with h | ⟨o, its, n, hk, hc, hd, hs, hz, r⟩
  · obtain ⟨z, its, n, r, e⟩ := h.ok I.hok
    exact ⟨its, r, ⟨_, n, e, rfl, rfl, rfl⟩, z⟩
  · refine ⟨its.toList, r, ⟨o, n, I.kIn a o hk, hc, hd, by simpa using hs⟩, ?_⟩
    have e := r.length
    simp only [Array.length_toList] at e
    omega
theorem Inv.tuple (I : Inv X pins σ H s) (h : SqT X.K H a xs) : ∃ its : List Value, Vals xs its ∧ IsTup s.heap a its.toArray ∧ xs.length ≤ sizeLine := by
  rcases h with h | ⟨o, its, n, hk, hc, hs, hz, r⟩
  · obtain ⟨z, its, r, p⟩ := h.ok I.hok
    exact ⟨its, r, p, z⟩
  · refine ⟨its.toList, r, ⟨o, I.kIn a o hk, hc, n, by simpa using hs⟩, ?_⟩
    have e := r.length
    simp only [Array.length_toList] at e
    omega
theorem Inv.list_inj (I : Inv X pins σ H s) (h : SqL X.K H a xs) (h' : SqL X.K H a ys) : xs = ys := by
  obtain ⟨its, r, ⟨o, n, e, _, _, d⟩, _⟩ := I.list h
  obtain ⟨its', r', ⟨o', n', e', _, _, d'⟩, _⟩ := I.list h'
  rw [e] at e'; cases e'
  rw [d] at d'
  injection d' with d1 _
  have : its = its' := by simpa using congrArg Array.toList d1
  subst this
  exact r.inj r'
theorem Inv.tuple_inj (I : Inv X pins σ H s) (h : SqT X.K H a xs) (h' : SqT X.K H a ys) : xs = ys := by
  obtain ⟨its, r, ⟨o, e, _, n, d⟩, _⟩ := I.tuple h
  obtain ⟨its', r', ⟨o', e', _, n', d'⟩, _⟩ := I.tuple h'
  rw [e] at e'; cases e'
  rw [d] at d'
  injection d' with d1 _
  have : its = its' := by simpa using congrArg Array.toList d1
  subst this
  exact r.inj r'
end

/-! ### another wish about exceptions -/
abbrev Cx.wish (X : Cx) (E : Value → Shared → Prop) : Cx := { X with xe := E }
/-- no exception leaves -/
abbrev Cx.nox (X : Cx) : Cx := X.wish fun _ _ => False
theorem Cx.Ok.wish {X : Cx} (ok : X.Ok) (E : Value → Shared → Prop) : (X.wish E).Ok :=
  ⟨ok.mod, ok.kind, ok.glob, ok.blt, ok.above, ok.inj, ok.has, ok.cab, ok.hd, ok.frames, ok.stk, ok.exf, ok.bs, ok.bsz, ok.noex, ok.exfs, ok.funs, ok.frf⟩
theorem Cx.Ok.unwish {X : Cx} {E : Value → Shared → Prop} (ok : (X.wish E).Ok) : X.Ok :=
  ⟨ok.mod, ok.kind, ok.glob, ok.blt, ok.above, ok.inj, ok.has, ok.cab, ok.hd, ok.frames, ok.stk, ok.exf, ok.bs, ok.bsz, ok.noex, ok.exfs, ok.funs, ok.frf⟩
section
variable {X : Cx} {pins : List (Addr × Obj)} {σ : St} {H : Hp} {s : Shared} {E : Value → Shared → Prop}
theorem Inv.wish (I : Inv X pins σ H s) (E : Value → Shared → Prop) : Inv (X.wish E) pins σ H s := ⟨I.ok.wish E, I.os, I.bare, I.base, I.loc, I.cell, I.free, I.freeC, I.pin, I.hok, I.len⟩
theorem Inv.unwish (I : Inv (X.wish E) pins σ H s) : Inv X pins σ H s := ⟨I.ok.unwish, I.os, I.bare, I.base, I.loc, I.cell, I.free, I.freeC, I.pin, I.hok, I.len⟩
theorem SP.unwish {D : Ends} {f : Flow} {s' : Shared} (h : SP (X.wish E) pins D f s') : SP X pins D f s' := by
  cases f with
  | next => obtain ⟨σ', H', I, q⟩ := h; exact ⟨σ', H', I.unwish, q⟩
  | brk => obtain ⟨σ', H', I, q⟩ := h; exact ⟨σ', H', I.unwish, q⟩
  | cont => obtain ⟨σ', H', I, q⟩ := h; exact ⟨σ', H', I.unwish, q⟩
  | ret u => obtain ⟨v, σ', H', I, r, q⟩ := h; exact ⟨v, σ', H', I.unwish, r, q⟩
theorem PSs.nox {st : List Stmt} {t : TS} (h : PSs X.nox st t) : PSs X st t := fun pins s σ H D I hw =>
  wpAny_mono (h pins s σ H D (I.wish _) hw) (fun _ _ q => q.unwish) fun _ _ z => False.elim z
end

/-! ### blocks and small statements -/
section
variable {X : Cx} {st : Stmt} {rest : List Stmt} {t u : TS} {e : Expr} {te : TE} {pos : Pos}
def tNext : TS := fun D σ H => D.nx σ H
def tSeq (t u : TS) : TS := fun D σ H => t { D with nx := u D } σ H
theorem pss_nil : PSs X [] tNext := fun _ _ σ H _ I h => wpAny_execs_nil ⟨σ, H, I, h⟩
theorem pss_cons (h1 : PS X st t) (h2 : PSs X rest u) : PSs X (st :: rest) (tSeq t u) := by
  intro pins s σ H D I h
  refine wpAny_execs_cons (thn (h1 pins s σ H { D with nx := u D } I h) fun f s1 q => ?_)
  cases f with
  | next =>
    obtain ⟨σ', H', I', q⟩ := q
    exact h2 pins s1 σ' H' D I' q
  | ret v => exact q
  | brk => exact q
  | cont => exact q
theorem pss_one (h1 : PS X st t) : PSs X [st] t := by
  intro pins s σ H D I h
  refine wpAny_execs_cons (thn (h1 pins s σ H D I h) fun f s1 q => ?_)
  cases f with
  | next => exact wpAny_execs_nil q
  | ret v => exact q
  | brk => exact q
  | cont => exact q
def tBreak : TS := fun D σ H => D.bk σ H
def tCont : TS := fun D σ H => D.ct σ H
/-- in a def's body nothing is shown -/
theorem Inv.quiet {pins : List (Addr × Obj)} {σ : St} {H : Hp} {s : Shared} (I : Inv X pins σ H s) : interactive X.env = false := by simp [interactive, I.ok.kind]
/-- an expression whose value is dropped -/
def tDrop (te : TE) : TS := fun D σ H => te σ H fun _ H1 => D.nx σ H1
theorem ps_expr (he : PE X e te) (hs : swapsWith e none pos.line X.env = pure false := by rfl) : PS X (.Expr e pos) (tDrop te) := by
  intro pins s σ H D I h
  exact wpAny_Expr_any (thn (he pins s σ H _ I h) fun v s1 ⟨x, H1, I1, r1, q1⟩ => ⟨σ, H1, I1, q1⟩) I.quiet hs
def tRet (te : TE) : TS := fun D σ H => te σ H D.rt
theorem ps_ret (he : PE X e te) : PS X (.Return (some e) pos) (tRet te) := by
  intro pins s σ H D I h
  exact wpAny_Return_some (thn (he pins s σ H _ I h) fun v s1 ⟨x, H1, I1, r1, q1⟩ => ⟨x, σ, H1, I1, r1, q1⟩)
def tRetN : TS := fun D _ H => D.rt .non H
def tIfS (c : TT) (t u : TS) : TS := fun D σ H => c σ H fun b H1 => if b = true then t D σ H1 else u D σ H1
theorem ps_if {c : Expr} {a b : List Stmt} {tc : TT} (hc : PT X c tc) (ha : PSs X a t) (hb : PSs X b u) : PS X (.If c a b pos) (tIfS tc t u) := by
  intro pins s σ H D I h
  refine wpAny_If (thn (hc pins s σ H _ I h) fun d s1 ⟨H1, I1, q1⟩ => ?_)
  cases d with
  | true => exact ha pins s1 σ H1 D I1 q1
  | false => exact hb pins s1 σ H1 D I1 q1
/-- code that the proof never comes to -/
def tNever : TS := fun _ _ _ => False
theorem pss_never {sts : List Stmt} : PSs X sts tNever := fun _ _ _ _ _ _ h => h.elim
end

/-! ### targets -/
abbrev TG := V → St → Hp → (St → Hp → Prop) → Prop
abbrev TGs := List V → St → Hp → (St → Hp → Prop) → Prop
def PG (X : Cx) (target : Expr) (t : TG) : Prop :=
  ∀ (pins : List (Addr × Obj)) (s : Shared) (σ : St) (H : Hp) (v : V) (u : Value) (Q : St → Hp → Prop), Inv X pins σ H s → RelV v u → t v σ H Q →
    wpAny (model X.prog X.w) X.A (assign target X.env u) (fun _ s' => ∃ σ' H', Inv X pins σ' H' s' ∧ Q σ' H') X.xe s
/-- several targets, one after another -/
def PGs (X : Cx) (ts : List Expr) (t : TGs) : Prop :=
  ∀ (pins : List (Addr × Obj)) (s : Shared) (σ : St) (H : Hp) (vs : List V) (us : List Value) (Q : St → Hp → Prop), Inv X pins σ H s → Vals vs us → t vs σ H Q →
    wpAny (model X.prog X.w) X.A (assignInOrder ((assignEach ts X.env).map (·.2)) us) (fun _ s' => ∃ σ' H', Inv X pins σ' H' s' ∧ Q σ' H') X.xe s
/-- o[i] = v, by values -/
abbrev TSet := V → V → V → Hp → (Hp → Prop) → Prop
def PSet (X : Cx) (t : TSet) : Prop :=
  ∀ (pins : List (Addr × Obj)) (s : Shared) (σ : St) (H : Hp) (o i v : V) (ov iv u : Value) (Q : Hp → Prop), Inv X pins σ H s → RelV o ov → RelV i iv → RelV v u → t o i v H Q →
    wpAny (model X.prog X.w) X.A (setItem ov iv u) (fun _ s' => ∃ H', Inv X pins σ H' s' ∧ Q H') X.xe s
/-- a op= b, by values -/
abbrev TIp := V → V → Hp → VK → Prop
def PIp (X : Cx) (op : Operator) (t : TIp) : Prop :=
  ∀ (pins : List (Addr × Obj)) (s : Shared) (σ : St) (H : Hp) (x y : V) (v u : Value) (Q : VK), Inv X pins σ H s → RelV x v → RelV y u → t x y H Q →
    wpAny (model X.prog X.w) X.A (inplaceOp op v u) (EP X pins σ Q) X.xe s
section
variable {X : Cx} {pos : Pos}
def gName (i : Nat) : TG := fun v σ H Q => Q (σ.set i (some v)) H
theorem pg_name {i : Nat} {x : Str} (hN : X.N.Nodup) (hi : X.N[i]? = some x) (hx : Loc X.env.scope x) (hf : X.fn x = true ∨ X.env.scope.names.lookup x = some .local := by first | exact .inl rfl | exact .inr rfl | assumption) : PG X (.Name x pos) (gName i) := by
  intro pins s σ H v u Q I r h
  exact wpAny_assign_Name (store_ok I hN hi hx r (fun s' I' => ⟨_, H, I', h⟩) hf)
def gNil : TGs := fun vs σ H Q => vs = [] ∧ Q σ H
inductive ConsP (t : TG) (u : TGs) (vs : List V) (σ : St) (H : Hp) (Q : St → Hp → Prop) : Prop
  | mk (v : V) (r : List V) (e : vs = v :: r) (q : t v σ H fun σ' H' => u r σ' H' Q)
def gCons (t : TG) (u : TGs) : TGs := fun vs σ H Q => ConsP t u vs σ H Q
theorem pgs_nil : PGs X [] gNil := by
  intro pins s σ H vs us Q I r h
  obtain ⟨e, h⟩ := h
  subst e
  cases r
  exact assignInOrder_nil ⟨σ, H, I, h⟩
theorem pgs_cons {e : Expr} {es : List Expr} {t : TG} {u : TGs} (h1 : PG X e t) (h2 : PGs X es u)
    (hs : (assignEach (e :: es) X.env).map (·.2) = assign e X.env :: (assignEach es X.env).map (·.2) := by rfl) : PGs X (e :: es) (gCons t u) := by
  intro pins s σ H vs us Q I r h
  obtain ⟨v, vr, e1, h⟩ := h
  subst e1
  cases r with
  | cons r rr =>
    rw [hs]
    refine assignInOrder_cons (thn (h1 pins s σ H _ _ _ I r h) fun _ s1 hpat => ?_)
    obtain ⟨σ1, H1, I1, q1⟩ := hpat
    exact h2 pins s1 σ1 H1 _ _ Q I1 rr q1
/-- (a, b, ..) = a tuple of that length -/
inductive TupP (K : PySem.W.Frag) (n : Nat) (t : TGs) (v : V) (σ : St) (H : Hp) (Q : St → Hp → Prop) : Prop
  | mk (a : Addr) (xs : List V) (hv : v = .ref a) (s : SqT K H a xs) (e : xs.length = n) (q : t xs σ H Q)
def gTup (K : PySem.W.Frag) (n : Nat) (t : TGs) : TG := fun v σ H Q => TupP K n t v σ H Q
theorem pg_tup {es : List Expr} {k : Nat} {t : TGs} {n : Nat} (hc : X.calm = true) (h : PGs X es t)
    (hn : (assignEach es X.env).length = n := by rfl) (hst : (assignEach es X.env).findIdx? (·.1) = none := by rfl) : PG X (.Tuple es k pos) (gTup X.K n t) := by
  intro pins s σ H v u Q I r hw
  obtain ⟨a, xs, e1, hq, hl, hw⟩ := hw
  subst e1
  cases r
  obtain ⟨its, rv, ht, hz⟩ := I.tuple hq
  refine assign_Tuple_tuple (I.ok.hd hc) ht (by simp [hn, ← hl, rv.length]) hst fun h' hx => ?_
  have I1 : Inv X pins σ H { s with heap := h' } := I.kept (t' := s.toks) fun b o e => hx b o (Nat.ne_of_lt (Heap.lt_size e)) e
  exact h pins _ σ H xs _ Q I1 (by simpa using rv) hw
/-- o[i] = .. -/
def gSub (to ti : TE) (t : TSet) : TG := fun v σ H Q => to σ H fun o H1 => ti σ H1 fun i H2 => t o i v H2 fun H3 => Q σ H3
/-- target = value -/
def tAsg (te : TE) (g : TG) : TS := fun D σ H => te σ H fun x H1 => g x σ H1 D.nx
theorem ps_asg {tg e : Expr} {te : TE} {g : TG} (he : PE X e te) (hg : PG X tg g) (hs : swapsWithSole [tg] e pos.line X.env = pure false := by rfl) (hw : swappedStores [tg] e X.env = pure none := by rfl)
    (h1 : (assignEach [tg] X.env).map (·.2) = [assign tg X.env] := by rfl) : PS X (.Assign [tg] e pos) (tAsg te g) := by
  intro pins s σ H D I h
  refine wpAny_Assign_stores (thn (he pins s σ H _ I h) fun v s1 hpat => ?_) hs hw
  obtain ⟨x, H1, I1, r1, q1⟩ := hpat
  rw [h1]
  exact thn (hg pins s1 σ H1 x v _ I1 r1 q1) fun _ s2 ⟨a, b, c, d⟩ => ⟨a, b, c, d⟩
/-- name = value -/
theorem ps_set {i : Nat} {x : Str} {e : Expr} {te : TE} {pos' : Pos} (hN : X.N.Nodup) (hi : X.N[i]? = some x) (hx : Loc X.env.scope x) (he : PE X e te) (hs : swapsWith e (some (.Name x pos')) pos.line X.env = pure false := by rfl) (hf : X.fn x = true ∨ X.env.scope.names.lookup x = some .local := by first | exact .inl rfl | exact .inr rfl | assumption) :
    PS X (.Assign [.Name x pos'] e pos) (tAsg te (gName i)) := by
  intro pins s σ H D I h
  refine wpAny_Assign_Name (thn (he pins s σ H _ I h) fun v s1 hpat => ?_) hs
  obtain ⟨y, H1, I1, r1, q1⟩ := hpat
  exact store_ok I1 hN hi hx r1 (fun s2 I2 => ⟨_, H1, I2, q1⟩) hf
/-- a, b = x, y with plain local names: stored from the right; the pair itself is not tracked (the opening rows as in PyProof/Rows/TupAssign.lean:23) -/
def tPar (i j : Nat) (ta : TA) : TS := fun D σ H => ta σ H fun vs H1 => ∃ v w, vs = [v, w] ∧ D.nx ((σ.set i (some v)).set j (some w)) H1
/-- name op= e -/
def tAug (i : Nat) (te : TE) (ti : TIp) : TS := fun D σ H => ∃ x, σ[i]? = some (some x) ∧ te σ H fun y H1 => ti x y H1 fun z H2 => D.nx (σ.set i (some z)) H2
/-- o[i] op= e -/
def tAugS (to ti te : TE) (tget : V → V → Hp → VK → Prop) (tip : TIp) (tset : TSet) : TS := fun D σ H => to σ H fun o H1 => ti σ H1 fun i H2 => tget o i H2 fun x H3 => te σ H3 fun y H4 => tip x y H4 fun z H5 => tset o i z H5 fun H6 => D.nx σ H6
/-- o[i], by values -/
def PGet (X : Cx) (t : V → V → Hp → VK → Prop) : Prop :=
  ∀ (pins : List (Addr × Obj)) (s : Shared) (σ : St) (H : Hp) (o i : V) (ov iv : Value) (Q : VK), Inv X pins σ H s → RelV o ov → RelV i iv → t o i H Q →
    wpAny (model X.prog X.w) X.A (getItem ov iv) (EP X pins σ Q) X.xe s
/-- ints -/
def ipI (f : Int → Int → Int) : TIp := fun x y H Q => ∃ i j, x = .int i ∧ y = .int j ∧ Q (.int (f i j)) H
end

/-! ### while -/
section
variable {X : Cx} {pos : Pos}
/-- the invariant W with its measure -/
def tWhile (c : TT) (tb : TS) : TS := fun D σ H => ∃ W : Nat → St → Hp → Prop, (∃ m, W m σ H) ∧ ∀ m σ H, W m σ H →
  c σ H fun b H1 => if b = true then ∃ N : St → Hp → Prop, (∀ σ' H', N σ' H' → ∃ m', m' < m ∧ W m' σ' H') ∧ tb { D with nx := N, ct := N, bk := D.nx } σ H1 else D.nx σ H1
end

/-! ### what a loop or a comprehension walks -/
/-- at turn i: it yields x (the heap may grow), or it stops -/
structure It where
  go : Nat → Hp → Prop
  yld : Nat → Hp → V → Hp → Prop
  stop : Nat → Hp → Prop
/-- the iterator's own objects may turn: they are not the frame's, not pinned, younger than the entry (or a comprehension's own) -/
def FpOk (X : Cx) (pins : List (Addr × Obj)) (H : Hp) (b : Addr) : Prop :=
  H b = none ∧ b ≠ X.env.locals ∧ b ∉ X.fs ∧ (b ∈ X.ex ∨ X.s₀.heap.objs.size ≤ b) ∧ (∀ x c, X.env.cells.lookup x = some c → c ≠ b) ∧ ∀ p ∈ X.pn ++ pins, p.1 ≠ b
theorem Inv.fpOk {X : Cx} {pins : List (Addr × Obj)} {σ : St} {H H' : Hp} {s : Shared} {b : Addr} (I : Inv X pins σ H s) (hb : s.heap.objs.size ≤ b) (hn : H' b = none) : FpOk X pins H' b := by
  refine ⟨hn, Nat.ne_of_gt (Nat.lt_of_lt_of_le I.lt hb), I.nofs hb, .inr (Nat.le_trans I.sz hb), fun x c e z => ?_, fun p hp z => ?_⟩
  · obtain ⟨v, q⟩ := I.cell x c e
    exact absurd (Nat.lt_of_lt_of_le q.lt (by rw [z]; exact hb)) (Nat.lt_irrefl _)
  · exact absurd (Nat.lt_of_lt_of_le (Heap.lt_size (I.pin p hp).1) (by rw [z]; exact hb)) (Nat.lt_irrefl _)
structure Turn (P : Program) (w : World) (K : PySem.W.Frag) (tg : Expr) (J : It) (fp : List Addr) (it : Addr) (tn : Nat → Heap → Prop) : Prop where
  mem : it ∈ fp
  obj : ∀ i h, tn i h → ∀ b ∈ fp, ∃ o, h.get? b = some o ∧ ∀ v, o.data ≠ .cell v
  keep : ∀ i h h', tn i h → (∀ b ∈ fp, ∀ o, h.get? b = some o → h'.get? b = some o) → tn i h'
  item : ∀ (X : Cx), X.prog = P → X.w = w → X.K = K → X.calm = true → ∀ (i : Nat) (pins : List (Addr × Obj)) (s : Shared) (σ : St) (H : Hp) (E : Value → Shared → Prop), Inv X pins σ H s → (∀ b ∈ fp, FpOk X pins H b) → tn i s.heap → J.go i H →
    wpAny (model P w) X.A (pyNext (.ref it)) (fun r s1 => ∃ u, r = some u ∧
      wpAny (model P w) X.A (letOwnedTupleGo tg (.ref it) u) (fun _ s2 => ∃ x H', Inv X pins σ H' s2 ∧ RelV x u ∧ J.yld i H x H' ∧ tn (i + 1) s2.heap ∧ ∀ b ∈ fp, H' b = none) E s1) E s
  done : ∀ (X : Cx), X.prog = P → X.w = w → X.K = K → X.calm = true → ∀ (i : Nat) (pins : List (Addr × Obj)) (s : Shared) (σ : St) (H : Hp) (E : Value → Shared → Prop), Inv X pins σ H s → (∀ b ∈ fp, FpOk X pins H b) → tn i s.heap → J.stop i H →
    wpAny (model P w) X.A (pyNext (.ref it)) (fun r s1 => r = none ∧ Inv X pins σ H s1) E s
  self : ∀ (A : Around) (i : Nat) (s : Shared) (Q : Value → Shared → Prop) (E : Value → Shared → Prop), tn i s.heap → Q (.ref it) s → wpAny (model P w) A (pyIter (.ref it)) Q E s
abbrev TI := St → Hp → (It → Hp → Prop) → Prop
/-- an iterator has come -/
def PIE (X : Cx) (pins : List (Addr × Obj)) (σ : St) (tg : Expr) (R : It → Hp → Prop) (itv : Value) (s2 : Shared) : Prop :=
  ∃ (it : Addr) (fp : List Addr) (tn : Nat → Heap → Prop) (J : It) (H' : Hp), itv = .ref it ∧ Inv X pins σ H' s2 ∧ Turn X.prog X.w X.K tg J fp it tn ∧ tn 0 s2.heap ∧ (∀ b ∈ fp, FpOk X pins H' b) ∧ R J H'
def PI (X : Cx) (tg iter : Expr) (wi : TI) : Prop :=
  ∀ (pins : List (Addr × Obj)) (s : Shared) (σ : St) (H : Hp) (R : It → Hp → Prop), Inv X pins σ H s → wi σ H R →
    wpAny (model X.prog X.w) X.A (eval iter X.env) (fun v s1 => wpAny (model X.prog X.w) X.A (pyIter v) (PIE X pins σ tg R) X.xe s1) X.xe s

/-- the step ahead of the store is nothing for an iterator that keeps no tuple -/
theorem go_of {M : Model} {A : Around} {E : Value → Shared → Prop} {s : Shared} {tg : Expr} {it : Addr} {u : Value} {o : Obj} {n : String} {vs : Array Value} {Q : Unit → Shared → Prop} (ho : s.heap.get? it = some o) (hc : o.cls = .type n) (hd : o.data = .fields vs)
    (hn : ["enumerate", "zip", "dict_itemiterator", "dict_reverseitemiterator", "odict_iterator", "itertools.zip_longest", "itertools.pairwise"].contains n = false) (hQ : Q () s) : wpAny M A (letOwnedTupleGo tg (.ref it) u) Q E s := by
  unfold letOwnedTupleGo
  cases tg <;> first
    | exact wpAny_pure hQ
    | (cases u <;> first
        | exact wpAny_pure hQ
        | (refine wpAny_bind (wpAny_load ho ?_)
           rw [hc, hd]
           show wpAny M A (if (["enumerate", "zip", "dict_itemiterator", "dict_reverseitemiterator", "odict_iterator", "itertools.zip_longest", "itertools.pairwise"].contains n && vs[0]? == some (rawInt _)) = true then _ else _) Q E s
           rw [if_neg (by intro h; rw [hn, Bool.false_and] at h; cases h)]
           exact wpAny_pure hQ))

/-- the list at a, as it stands at each turn (a loop may append to it) -/
def Itl (K : PySem.W.Frag) (a : Addr) : It :=
  ⟨fun i H => ∃ xs x, SqL K H a xs ∧ xs[i]? = some x, fun i H x H' => H' = H ∧ ∀ xs, SqL K H a xs → xs[i]? = some x, fun i H => ∃ xs, SqL K H a xs ∧ xs.length ≤ i⟩
def Itt (K : PySem.W.Frag) (a : Addr) : It :=
  ⟨fun i H => ∃ xs x, SqT K H a xs ∧ xs[i]? = some x, fun i H x H' => H' = H ∧ ∀ xs, SqT K H a xs → xs[i]? = some x, fun i H => ∃ xs, SqT K H a xs ∧ xs.length ≤ i⟩
/-- lo, lo + 1, .. (n of them) -/
def Itr (lo : Int) (n : Nat) : It := ⟨fun i _ => i < n, fun i H x H' => H' = H ∧ x = .int (lo + i), fun i _ => n ≤ i⟩
theorem turn_list {P : Program} {w : World} {K : PySem.W.Frag} {tg : Expr} (a it : Addr) : Turn P w K tg (Itl K a) [it] it (fun i h => h.IsListIter it a i) where
  mem := by simp
  obj := fun i h st b hb => by
    have e : b = it := by simpa using hb
    subst e
    obtain ⟨o, e, c, d⟩ := st
    exact ⟨o, e, fun v z => by rw [d] at z; cases z⟩
  keep := fun i h h' st k => st.at fun o e => k it (by simp) o e
  item := by
    intro X hP hw hK hc i pins s σ H E I hf st hg
    subst hP hw hK
    obtain ⟨xs, x, hq, hx⟩ := hg
    obtain ⟨its, rv, p, hz⟩ := I.list hq
    obtain ⟨u, hu, ru⟩ := rv.get hx
    obtain ⟨f0, f1, f2, f3, f4, f5⟩ := hf it (by simp)
    refine wpAny_pyNext_list_item st p.isList (x := u) (by simpa using hu) fun h' st' sb => ?_
    have I1 : Inv X pins σ H { s with heap := h' } := I.turned (t' := s.toks) (fun b o hb e => (sb.2 b hb).trans e) f0 f1 f3 f4 f5
    obtain ⟨o, e, c, d⟩ := id st'
    exact ⟨u, rfl, go_of (s := { s with heap := h' }) e c d (by decide) ⟨x, H, I1, ru, ⟨rfl, fun ys hy => by rw [I.list_inj hy hq]; exact hx⟩, st', fun b hb => (hf b hb).1⟩⟩
  done := by
    intro X hP hw hK hc i pins s σ H E I hf st hg
    subst hP hw hK
    obtain ⟨xs, hq, hx⟩ := hg
    obtain ⟨its, rv, p, hz⟩ := I.list hq
    obtain ⟨f0, f1, f2, f3, f4, f5⟩ := hf it (by simp)
    have hl := rv.length
    exact wpAny_pyNext_list_end (I.ok.hd hc) st p.isList (by simp; omega) fun h' eb => ⟨rfl, I.turned (t' := s.toks) (fun b o hb e => eb b o hb e) f0 f1 f3 f4 f5⟩
  self := fun _ _ _ _ _ st h => wpAny_pyIter_listiter st h
theorem turn_tuple {P : Program} {w : World} {K : PySem.W.Frag} {tg : Expr} (a it : Addr) : Turn P w K tg (Itt K a) [it] it (fun i h => h.IsTupleIter it a i) where
  mem := by simp
  obj := fun i h st b hb => by
    have e : b = it := by simpa using hb
    subst e
    obtain ⟨o, e, c, d⟩ := st
    exact ⟨o, e, fun v z => by rw [d] at z; cases z⟩
  keep := fun i h h' st k => st.at fun o e => k it (by simp) o e
  item := by
    intro X hP hw hK hc i pins s σ H E I hf st hg
    subst hP hw hK
    obtain ⟨xs, x, hq, hx⟩ := hg
    obtain ⟨its, rv, p, hz⟩ := I.tuple hq
    obtain ⟨u, hu, ru⟩ := rv.get hx
    obtain ⟨f0, f1, f2, f3, f4, f5⟩ := hf it (by simp)
    refine wpAny_pyNext_tuple_item st (show s.heap.IsTuple a its.toArray from p) (x := u) (by simpa using hu) fun h' st' sb => ?_
    have I1 : Inv X pins σ H { s with heap := h' } := I.turned (t' := s.toks) (fun b o hb e => (sb.2 b hb).trans e) f0 f1 f3 f4 f5
    obtain ⟨o, e, c, d⟩ := id st'
    exact ⟨u, rfl, go_of (s := { s with heap := h' }) e c d (by decide) ⟨x, H, I1, ru, ⟨rfl, fun ys hy => by rw [I.tuple_inj hy hq]; exact hx⟩, st', fun b hb => (hf b hb).1⟩⟩
  done := by
    intro X hP hw hK hc i pins s σ H E I hf st hg
    subst hP hw hK
    obtain ⟨xs, hq, hx⟩ := hg
    obtain ⟨its, rv, p, hz⟩ := I.tuple hq
    obtain ⟨f0, f1, f2, f3, f4, f5⟩ := hf it (by simp)
    have hl := rv.length
    exact wpAny_pyNext_tuple_end (I.ok.hd hc) st (show s.heap.IsTuple a its.toArray from p) (by simp; omega) fun h' eb => ⟨rfl, I.turned (t' := s.toks) (fun b o hb e => eb b o hb e) f0 f1 f3 f4 f5⟩
  self := fun _ _ _ _ _ st h => wpAny_pyIter_tupleiter st h
theorem turn_range {P : Program} {w : World} {K : PySem.W.Frag} {tg : Expr} (it : Addr) (lo : Int) (n : Nat) : Turn P w K tg (Itr lo n) [it] it (fun i h => IsRangeIter h it (lo + (i : Nat) * 1) ((n : Int) - (i : Nat)) 1) where
  mem := by simp
  obj := fun i h st b hb => by
    have e : b = it := by simpa using hb
    subst e
    exact ⟨_, st, fun v z => by
      have z' : Data.fields _ = Data.cell v := z
      cases z'⟩
  keep := fun i h h' st k => k it (by simp) _ st
  item := by
    intro X hP hw hK hc i pins s σ H E I hf st hg
    subst hP hw hK
    obtain ⟨f0, f1, f2, f3, f4, f5⟩ := hf it (by simp)
    have W := Walks.range (prog := X.prog) (w := X.w) (I.ok.hd hc) it lo 1 n
    refine W.item i s _ _ hg st fun v h' tk hv st' kk => ?_
    obtain ⟨t, rfl⟩ := hv
    have I1 : Inv X pins σ H { s with heap := h', toks := tk } := I.turned (fun b o hb e => kk b o (by simpa using hb) e) f0 f1 f3 f4 f5
    refine ⟨_, rfl, go_of (s := { s with heap := h', toks := tk }) (n := "range_iterator") st' rfl rfl (by decide) ⟨.int (lo + i), H, I1, ⟨t, ?_⟩, ⟨rfl, rfl⟩, st', fun b hb => (hf b hb).1⟩⟩
    rw [Int.mul_one]
  done := by
    intro X hP hw hK hc i pins s σ H E I hf st hg
    subst hP hw hK
    obtain ⟨f0, f1, f2, f3, f4, f5⟩ := hf it (by simp)
    exact wpAny_pyNext_range_end (I.ok.hd hc) st (by have : n ≤ i := hg; omega) fun h' eb => ⟨rfl, I.turned (t' := s.toks) (fun b o hb e => eb b o hb e) f0 f1 f3 f4 f5⟩
  self := fun _ _ _ _ _ st h => wpAny_pyIter_rangeiter st h
end L2

namespace L2
open PySem PySem.Spec PyProof.Rows
section
variable {X : Cx} {tg : Expr}
inductive IListP (K : PySem.W.Frag) (x : V) (H : Hp) (R : It → Hp → Prop) : Prop
  | mk (a : Addr) (e : x = .ref a) (s : ∃ xs, SqL K H a xs) (q : R (Itl K a) H)
def iList (K : PySem.W.Frag) (tl : TE) : TI := fun σ H R => tl σ H fun x H1 => IListP K x H1 R
def iTup (K : PySem.W.Frag) (tl : TE) : TI := fun σ H R => tl σ H fun x H1 => ∃ a, x = .ref a ∧ (∃ xs, SqT K H1 a xs) ∧ R (Itt K a) H1
theorem pi_list {l : Expr} {tl : TE} (hl : PE X l tl) : PI X tg l (iList X.K tl) := by
  intro pins s σ H R I h
  refine thn (hl pins s σ H _ I h) fun v s1 hpat => ?_
  obtain ⟨x, H1, I1, r1, q1⟩ := hpat
  obtain ⟨a, e, ⟨xs, hq⟩, q⟩ := q1
  subst e
  cases r1
  obtain ⟨its, rv, p, hz⟩ := I1.list hq
  refine wpAny_pyIter_list p.isList ?_
  refine ⟨s1.heap.objs.size, [s1.heap.objs.size], _, _, H1, rfl, I1.kept (t' := s1.toks) fun b o e => Heap.get?_push_of_some _ e, turn_list a _, ⟨_, Heap.get?_push_size _ rfl, rfl, rfl⟩, fun b hb => ?_, q⟩
  have e : b = s1.heap.objs.size := by simpa using hb
  subst e
  exact I1.fpOk (Nat.le_refl _) (I1.hok.fresh (Nat.le_refl _))
theorem pi_tup {l : Expr} {tl : TE} (hl : PE X l tl) : PI X tg l (iTup X.K tl) := by
  intro pins s σ H R I h
  refine thn (hl pins s σ H _ I h) fun v s1 hpat => ?_
  obtain ⟨x, H1, I1, r1, q1⟩ := hpat
  obtain ⟨a, e, ⟨xs, hq⟩, q⟩ := q1
  subst e
  cases r1
  obtain ⟨its, rv, p, hz⟩ := I1.tuple hq
  refine wpAny_pyIter_tuple (show s1.heap.IsTuple a its.toArray from p) ?_
  refine ⟨s1.heap.objs.size, [s1.heap.objs.size], _, _, H1, rfl, I1.kept (t' := s1.toks) fun b o e => Heap.get?_push_of_some _ e, turn_tuple a _, ⟨_, Heap.get?_push_size _ rfl, rfl, rfl⟩, fun b hb => ?_, q⟩
  have e : b = s1.heap.objs.size := by simpa using hb
  subst e
  exact I1.fpOk (Nat.le_refl _) (I1.hok.fresh (Nat.le_refl _))
/-- a range object just made, walked -/
theorem range_it {pins : List (Addr × Obj)} {σ : St} {H : Hp} {s : Shared} {R : It → Hp → Prop} {E : Value → Shared → Prop} {lo hi : Int} {t u v : Tok} {tk : Nat} (I : Inv X pins σ H s) (h1 : -(2 ^ 62) ≤ lo) (h2 : lo < 2 ^ 62) (h3 : -(2 ^ 62) ≤ hi) (h4 : hi < 2 ^ 62)
    (q : R (Itr lo (hi - lo).toNat) H) : wpAny (model X.prog X.w) X.A (pyIter (.ref s.heap.objs.size)) (PIE X pins σ tg R) E { s with heap := s.heap.push { cls := .type "range", data := .fields #[.int lo t, .int hi u, .int 1 v] }, toks := tk } := by
  refine wpAny_pyIter_range (IsRange.new ..) (small_one h1 h2 h3 h4) ?_
  have I1 : Inv X pins σ H { s with heap := s.heap.push { cls := .type "range", data := .fields #[.int lo t, .int hi u, .int 1 v] }, toks := tk } := I.kept fun b o e => Heap.get?_push_of_some _ e
  refine ⟨(s.heap.push { cls := .type "range", data := .fields #[.int lo t, .int hi u, .int 1 v] }).objs.size, [(s.heap.push { cls := .type "range", data := .fields #[.int lo t, .int hi u, .int 1 v] }).objs.size], _, _, H, rfl,
    I1.kept (t' := tk) fun b o e => Heap.get?_push_of_some _ e, turn_range _ lo (hi - lo).toNat, ?_, fun b hb => ?_, q⟩
  · have e1 : lo + ((0 : Nat) : Int) * 1 = lo := by simp
    have e2 : (((hi - lo).toNat : Nat) : Int) - ((0 : Nat) : Int) = Builtin.Range.rangeSize lo hi 1 := by rw [rangeSize_one]; split <;> omega
    show IsRangeIter _ _ (lo + ((0 : Nat) : Int) * 1) ((((hi - lo).toNat : Nat) : Int) - ((0 : Nat) : Int)) 1
    rw [e1, e2]
    exact Heap.get?_push_size _ rfl
  · have e : b = (s.heap.push { cls := .type "range", data := .fields #[.int lo t, .int hi u, .int 1 v] }).objs.size := by simpa using hb
    subst e
    exact I1.fpOk (Nat.le_refl _) (I1.hok.fresh (Nat.le_refl _))
def iRng1 (ta : TA) : TI := fun σ H R => ta σ H fun vs H1 => ∃ j : Int, vs = [.int j] ∧ -(2 ^ 62) ≤ j ∧ j < 2 ^ 62 ∧ R (Itr 0 j.toNat) H1
def iRng2 (ta : TA) : TI := fun σ H R => ta σ H fun vs H1 => ∃ i j : Int, vs = [.int i, .int j] ∧ (-(2 ^ 62) ≤ i ∧ i < 2 ^ 62 ∧ -(2 ^ 62) ≤ j ∧ j < 2 ^ 62) ∧ R (Itr i (j - i).toNat) H1
theorem pi_range1 {a : Expr} {ta : TA} {p pos : Pos} (hg : Gl X "range") (hm : X.mg "range" = none) (ha : PA X [a] ta) (hs : starEach [a] X.env = [(false, eval a X.env)] := by rfl) : PI X tg (.Call (.Name "range" p) [a] [] pos) (iRng1 ta) := by
  intro pins s σ H R I h
  refine Call_ (ld_blt I hg hm boot_range (PyProof.Rows.callWith_type1 (thn (ha pos pins s σ H _ I h) fun us s1 hpat => ?_) hs rfl))
  obtain ⟨vs, H1, I1, r1, q1⟩ := hpat
  obtain ⟨j, e, q1, q2, q⟩ := q1
  subst e
  cases r1 with
  | cons r rr =>
    cases rr
    obtain ⟨t, rfl⟩ := r
    exact call_range_1 (range_it I1 (by omega) (by omega) q1 q2 (by simpa using q))

/-! ### for -/
/-- W: the invariant by the turn and a measure; N: what the body is to reach -/
def tFor (wi : TI) (g : TG) (tb : TS) : TS := fun D σ H => wi σ H fun J H1 => ∃ W : Nat → Nat → St → Hp → Prop, (∃ m, W 0 m σ H1) ∧ ∀ i m σ H, W i m σ H →
  (J.stop i H ∧ D.nx σ H) ∨ (J.go i H ∧ ∃ N : St → Hp → Prop, (∀ σ' H', N σ' H' → ∃ m', m' < m ∧ W (i + 1) m' σ' H') ∧ ∀ x H', J.yld i H x H' → g x σ H' fun σ2 H2 => tb { D with nx := N, ct := N, bk := D.nx } σ2 H2)
/-- the records at fp as they stand -/
def pinsAt (fp : List Addr) (h : Heap) : List (Addr × Obj) := fp.filterMap fun b => (h.get? b).map fun o => (b, o)
theorem mem_pinsAt {fp : List Addr} {h : Heap} {b : Addr} {o : Obj} (hb : b ∈ fp) (e : h.get? b = some o) : (b, o) ∈ pinsAt fp h := List.mem_filterMap.mpr ⟨b, hb, by rw [e]; rfl⟩
theorem of_pinsAt {fp : List Addr} {h : Heap} {p : Addr × Obj} (hp : p ∈ pinsAt fp h) : p.1 ∈ fp ∧ h.get? p.1 = some p.2 := by
  obtain ⟨b, hb, e⟩ := List.mem_filterMap.mp hp
  cases q : h.get? b with
  | none => rw [q] at e; cases e
  | some o =>
    rw [q] at e
    have e' : (b, o) = p := Option.some.inj e
    subst e'
    exact ⟨hb, q⟩
theorem Inv.pinned {pins : List (Addr × Obj)} {σ : St} {H : Hp} {s : Shared} {fp : List Addr} (I : Inv X pins σ H s) (hf : ∀ b ∈ fp, FpOk X pins H b) (ho : ∀ b ∈ fp, ∃ o, s.heap.get? b = some o ∧ ∀ v, o.data ≠ .cell v) : Inv X (pins ++ pinsAt fp s.heap) σ H s :=
  I.pins_of fun p hp => (List.mem_append.mp hp).elim (fun z => I.pin p (List.mem_append_right _ z)) fun z => by
    obtain ⟨hb, e⟩ := of_pinsAt z
    obtain ⟨f0, f1, f2, _⟩ := hf p.1 hb
    obtain ⟨o, e', d⟩ := ho p.1 hb
    rw [e] at e'; cases e'
    exact ⟨e, f0, f1, f2, d⟩
theorem Inv.unpinned {pins pl : List (Addr × Obj)} {σ : St} {H : Hp} {s : Shared} (I : Inv X (pins ++ pl) σ H s) : Inv X pins σ H s := I.pins_of fun p hp => I.pin p (List.mem_append_right _ (List.mem_append_left _ hp))
theorem ps_for {iter : Expr} {body : List Stmt} {wi : TI} {g : TG} {tb : TS} {pos : Pos} (hp : PassesOwn (model X.prog X.w) X.A X.env X.xe) (hc : X.calm = true) (hi : PI X tg iter wi) (hg : PG X tg g) (hb : PSs X body tb)
    (hs : ∀ x, foldedSetIterable iter X.env x = pure x := by intro _; rfl) : PS X (.For tg iter body [] pos) (tFor wi g tb) := by
  intro pins s σ H D I h
  refine wpAny_For (thn (hi pins s σ H _ I h) fun v s1 h1 => thn h1 fun itv s2 h2 => ?_) hs
  obtain ⟨it, fp, tn, J, H2, e, I2, T, st2, f2, W, ⟨m0, w0⟩, turn⟩ := h2
  subst e
  -- what stays true of the iterator's objects through the loop
  have stat : ∀ {H' : Hp}, (∀ b ∈ fp, H' b = none) → ∀ b ∈ fp, FpOk X pins H' b := fun hn b hb => ⟨hn b hb, (f2 b hb).2⟩
  refine codeAny_forLoop_any (fun n s' => ∃ i σ' H', Inv X pins σ' H' s' ∧ tn i s'.heap ∧ (∀ b ∈ fp, H' b = none) ∧ W i n σ' H') ?_ m0 ⟨0, σ, H2, I2, st2, fun b hb => (f2 b hb).1, w0⟩
  rintro n s3 ⟨i, σ3, H3, I3, st3, fr3, w3⟩
  rcases turn i n σ3 H3 w3 with ⟨stop, qn⟩ | ⟨go, N, hN, step⟩
  · refine wpAny_passesOwn hp (thn (T.done X rfl rfl rfl hc i pins s3 σ3 H3 X.xe I3 (stat fr3) st3 stop) fun r s4 ⟨hr, I4⟩ => ?_)
    subst hr
    exact wpAny_execs_nil ⟨σ3, H3, I4, qn⟩
  · refine wpAny_passesOwn hp (thn (T.item X rfl rfl rfl hc i pins s3 σ3 H3 X.xe I3 (stat fr3) st3 go) fun r s4 ⟨u, hr, h4⟩ => ?_)
    subst hr
    refine wpAny_passesOwn hp (thn h4 fun _ s5 hpat => ?_)
    obtain ⟨x, H5, I5, r5, y5, st5, fr5⟩ := hpat
    have I5' := I5.pinned (stat fr5) (T.obj _ _ st5)
    refine wpAny_passesOwn hp (thn (hg _ s5 σ3 H5 x u _ I5' r5 (step x H5 y5)) fun _ s6 hpat => ?_)
    obtain ⟨σ6, H6, I6, q6⟩ := hpat
    refine wpAny_passesOwn hp (thn (hb _ s6 σ6 H6 _ I6 q6) fun f s7 q7 => ?_)
    have again : ∀ {σ7 : St} {H7 : Hp}, Inv X (pins ++ pinsAt fp s5.heap) σ7 H7 s7 → N σ7 H7 → ∃ m, m < n ∧ ∃ i σ' H', Inv X pins σ' H' s7 ∧ tn i s7.heap ∧ (∀ b ∈ fp, H' b = none) ∧ W i m σ' H' := fun {σ7 H7} I7 n7 => by
      obtain ⟨m', hm, w7⟩ := hN σ7 H7 n7
      refine ⟨m', hm, i + 1, σ7, H7, I7.unpinned, T.keep _ _ _ st5 fun b hb o e => (I7.pin (b, o) (List.mem_append_right _ (List.mem_append_right _ (mem_pinsAt hb e)))).1, fun b hb => ?_, w7⟩
      obtain ⟨o, e, d⟩ := T.obj _ _ st5 b hb
      exact (I7.pin (b, o) (List.mem_append_right _ (List.mem_append_right _ (mem_pinsAt hb e)))).2.1
    cases f with
    | next => obtain ⟨σ7, H7, I7, n7⟩ := q7; exact again I7 n7
    | cont => obtain ⟨σ7, H7, I7, n7⟩ := q7; exact again I7 n7
    | brk => obtain ⟨σ7, H7, I7, q7⟩ := q7; exact ⟨σ7, H7, I7.unpinned, q7⟩
    | ret v => obtain ⟨x7, σ7, H7, I7, r7, q7⟩ := q7; exact ⟨x7, σ7, H7, I7.unpinned, r7, q7⟩
end

/-! ### the forms one uses -/
/-- over a list that the body leaves as it is -/
theorem for_list {K : PySem.W.Frag} {a : Addr} {xs : List V} {g : TG} {tb : TS} {D : Ends} {σ : St} {H : Hp} (Pv : Nat → St → Hp → Prop) (h0 : Pv 0 σ H) (hl : ∀ i σ H, i ≤ xs.length → Pv i σ H → SqL K H a xs)
    (hs : ∀ i x σ H, xs[i]? = some x → Pv i σ H → g x σ H fun σ2 H2 => tb { D with nx := Pv (i + 1), ct := Pv (i + 1), bk := D.nx } σ2 H2) (hd : ∀ σ H, Pv xs.length σ H → D.nx σ H) :
    ∃ W : Nat → Nat → St → Hp → Prop, (∃ m, W 0 m σ H) ∧ ∀ i m σ H, W i m σ H →
      ((Itl K a).stop i H ∧ D.nx σ H) ∨ ((Itl K a).go i H ∧ ∃ N : St → Hp → Prop, (∀ σ' H', N σ' H' → ∃ m', m' < m ∧ W (i + 1) m' σ' H') ∧ ∀ x H', (Itl K a).yld i H x H' → g x σ H' fun σ2 H2 => tb { D with nx := N, ct := N, bk := D.nx } σ2 H2) := by
  refine ⟨fun i m σ H => m = xs.length - i ∧ i ≤ xs.length ∧ Pv i σ H, ⟨xs.length, by simp, Nat.zero_le _, h0⟩, ?_⟩
  rintro i m σ H ⟨rfl, hi, p⟩
  have q := hl i σ H hi p
  by_cases hlt : i < xs.length
  · refine .inr ⟨⟨xs, xs[i], q, by simp [hlt]⟩, Pv (i + 1), fun σ' H' p' => ⟨xs.length - (i + 1), by omega, rfl, hlt, p'⟩, fun x H' y => ?_⟩
    obtain ⟨e, y⟩ := y
    subst e
    exact hs i x σ _ (y xs q) p
  · have e : i = xs.length := by omega
    subst e
    exact .inl ⟨⟨xs, q, Nat.le_refl _⟩, hd σ H p⟩
theorem for_range {lo : Int} {n : Nat} {g : TG} {tb : TS} {D : Ends} {σ : St} {H : Hp} (Pv : Nat → St → Hp → Prop) (h0 : Pv 0 σ H)
    (hs : ∀ i σ H, i < n → Pv i σ H → g (.int (lo + i)) σ H fun σ2 H2 => tb { D with nx := Pv (i + 1), ct := Pv (i + 1), bk := D.nx } σ2 H2) (hd : ∀ σ H, Pv n σ H → D.nx σ H) :
    ∃ W : Nat → Nat → St → Hp → Prop, (∃ m, W 0 m σ H) ∧ ∀ i m σ H, W i m σ H →
      ((Itr lo n).stop i H ∧ D.nx σ H) ∨ ((Itr lo n).go i H ∧ ∃ N : St → Hp → Prop, (∀ σ' H', N σ' H' → ∃ m', m' < m ∧ W (i + 1) m' σ' H') ∧ ∀ x H', (Itr lo n).yld i H x H' → g x σ H' fun σ2 H2 => tb { D with nx := N, ct := N, bk := D.nx } σ2 H2) := by
  refine ⟨fun i m σ H => m = n - i ∧ i ≤ n ∧ Pv i σ H, ⟨n, by simp, Nat.zero_le _, h0⟩, ?_⟩
  rintro i m σ H ⟨rfl, hi, p⟩
  by_cases hlt : i < n
  · refine .inr ⟨hlt, Pv (i + 1), fun σ' H' p' => ⟨n - (i + 1), by omega, rfl, hlt, p'⟩, fun x H' y => ?_⟩
    obtain ⟨e, y⟩ := y
    subst e y
    exact hs i σ _ hlt p
  · have e : i = n := by omega
    subst e
    exact .inl ⟨Nat.le_refl _, hd σ H p⟩
end L2

namespace L2
open PySem PySem.Spec PyProof.Rows

abbrev R2 := V → V → Hp → VK → Prop
/-- a two-place operation on values: f is binaryOp op, inplaceOp op or compareOp op -/
def OpR (X : Cx) (f : Value → Value → Sem Value) (r : R2) : Prop :=
  ∀ (pins : List (Addr × Obj)) (s : Shared) (σ : St) (H : Hp) (x y : V) (v u : Value) (Q : VK), Inv X pins σ H s → RelV x v → RelV y u → r x y H Q →
    wpAny (model X.prog X.w) X.A (f v u) (EP X pins σ Q) X.xe s
/-- a one-place operation -/
def UnR (X : Cx) (f : Value → Sem Value) (r : V → Hp → VK → Prop) : Prop :=
  ∀ (pins : List (Addr × Obj)) (s : Shared) (σ : St) (H : Hp) (x : V) (v : Value) (Q : VK), Inv X pins σ H s → RelV x v → r x H Q →
    wpAny (model X.prog X.w) X.A (f v) (EP X pins σ Q) X.xe s
/-- a call of a value that is known (a builtin, a type) with values -/
def CallR (X : Cx) (f : Value) (r : List V → Hp → VK → Prop) : Prop :=
  ∀ (pins : List (Addr × Obj)) (s : Shared) (σ : St) (H : Hp) (xs : List V) (us : List Value) (Q : VK), Inv X pins σ H s → Vals xs us → r xs H Q →
    wpAny (model X.prog X.w) X.A (call f us) (EP X pins σ Q) X.xe s
/-- a value's truth -/
def TruR (X : Cx) (r : V → Hp → (Bool → Hp → Prop) → Prop) : Prop :=
  ∀ (pins : List (Addr × Obj)) (s : Shared) (σ : St) (H : Hp) (x : V) (v : Value) (Q : Bool → Hp → Prop), Inv X pins σ H s → RelV x v → r x H Q →
    wpAny (model X.prog X.w) X.A (truthy v) (TP X pins σ Q) X.xe s

def tOp (r : R2) (ta tb : TE) : TE := fun σ H Q => ta σ H fun x H1 => tb σ H1 fun y H2 => r x y H2 Q
def tUn (r : V → Hp → VK → Prop) (ta : TE) : TE := fun σ H Q => ta σ H fun x H1 => r x H1 Q
/-- ints in, under C, and a value out -/
inductive IntP (C : Int → Int → Prop) (g : Int → Int → V) (x y : V) (H : Hp) (Q : VK) : Prop
  | mk (i j : Int) (hx : x = .int i) (hy : y = .int j) (c : C i j) (q : Q (g i j) H)
inductive IntP0 (g : Int → Int → V) (x y : V) (H : Hp) (Q : VK) : Prop
  | mk (i j : Int) (hx : x = .int i) (hy : y = .int j) (q : Q (g i j) H)
def rI (C : Int → Int → Prop) (g : Int → Int → V) : R2 := fun x y H Q => IntP C g x y H Q
def rI0 (g : Int → Int → V) : R2 := fun x y H Q => IntP0 g x y H Q
def rU (g : Int → V) : V → Hp → VK → Prop := fun x H Q => ∃ i, x = .int i ∧ Q (g i) H

section
variable {X : Cx} {a b c : Expr} {ta tb tc : TE} {pos : Pos}

theorem binT (ha : PE X a ta) (hb : PE X b tb) {pins : List (Addr × Obj)} {s : Shared} {σ : St} {H : Hp} {R : V → V → Hp → Prop} (I : Inv X pins σ H s)
    (h : ta σ H fun x H1 => tb σ H1 fun y H2 => R x y H2) {Q : Value → Shared → Prop} {f : Value → Value → Sem Value}
    (hf : ∀ v u s2 x y H2, Inv X pins σ H2 s2 → RelV x v → RelV y u → R x y H2 → wpAny (model X.prog X.w) X.A (f v u) Q X.xe s2) :
    wpAny (model X.prog X.w) X.A (eval a X.env) (fun v s₁ => wpAny (model X.prog X.w) X.A (eval b X.env) (fun u s₂ => wpAny (model X.prog X.w) X.A (f v u) Q X.xe s₂) X.xe s₁) X.xe s := by
  refine thn (ha pins s σ H _ I h) fun v s1 hpat => ?_
  obtain ⟨x, H1, I1, r1, q1⟩ := hpat
  refine thn (hb pins s1 σ H1 _ I1 q1) fun u s2 hpat => ?_
  obtain ⟨y, H2, I2, r2, q2⟩ := hpat
  exact hf v u s2 x y H2 I2 r1 r2 q2

theorem pe_op {op : Operator} {r : R2} (ho : OpR X (binaryOp op) r) (ha : PE X a ta) (hb : PE X b tb) : PE X (.BinOp a op b pos) (tOp r ta tb) := by
  intro pins s σ H Q I h
  exact wpAny_BinOp (binT ha hb I h fun v u s2 x y H2 I2 rx ry q => ho pins s2 σ H2 x y v u Q I2 rx ry q)
theorem pe_un {op : UnaryOp} {r : V → Hp → VK → Prop} (ho : UnR X (unaryOp op) r) (ha : PE X a ta) : PE X (.UnaryOp op a pos) (tUn r ta) := by
  intro pins s σ H Q I h
  exact UnaryOp_ (thn (ha pins s σ H _ I h) fun v s1 ⟨x, H1, I1, r1, q1⟩ => ho pins s1 σ H1 x v Q I1 r1 q1)

/-! ### ints -/
theorem opI {f : Value → Value → Sem Value} {C : Int → Int → Prop} {g : Int → Int → Int}
    (rule : ∀ (i j : Int) (t u : Tok) (s : Shared) (Q : Value → Shared → Prop) (E : Value → Shared → Prop), C i j → Q (.int (g i j) s.toks) { s with toks := s.toks + 1 } → wpAny (model X.prog X.w) X.A (f (.int i t) (.int j u)) Q E s) :
    OpR X f (rI C fun i j => .int (g i j)) := by
  intro pins s σ H x y v u Q I rx ry h
  obtain ⟨i, j, rfl, rfl, hc, q⟩ := h
  obtain ⟨t, rfl⟩ := rx
  obtain ⟨t', rfl⟩ := ry
  exact rule i j t t' s _ _ hc ⟨.int (g i j), H, I.tok _, ⟨_, rfl⟩, q⟩
theorem opI0 {f : Value → Value → Sem Value} {g : Int → Int → Int}
    (rule : ∀ (i j : Int) (t u : Tok) (s : Shared) (Q : Value → Shared → Prop) (E : Value → Shared → Prop), Q (.int (g i j) s.toks) { s with toks := s.toks + 1 } → wpAny (model X.prog X.w) X.A (f (.int i t) (.int j u)) Q E s) :
    OpR X f (rI0 fun i j => .int (g i j)) := by
  intro pins s σ H x y v u Q I rx ry h
  obtain ⟨i, j, rfl, rfl, q⟩ := h
  obtain ⟨t, rfl⟩ := rx
  obtain ⟨t', rfl⟩ := ry
  exact rule i j t t' s _ _ ⟨.int (g i j), H, I.tok _, ⟨_, rfl⟩, q⟩
theorem opB0 {f : Value → Value → Sem Value} {g : Int → Int → Bool}
    (rule : ∀ (i j : Int) (t u : Tok) (s : Shared) (Q : Value → Shared → Prop) (E : Value → Shared → Prop), Q (.bool (g i j)) s → wpAny (model X.prog X.w) X.A (f (.int i t) (.int j u)) Q E s) :
    OpR X f (rI0 fun i j => .bl (g i j)) := by
  intro pins s σ H x y v u Q I rx ry h
  obtain ⟨i, j, rfl, rfl, q⟩ := h
  obtain ⟨t, rfl⟩ := rx
  obtain ⟨t', rfl⟩ := ry
  exact rule i j t t' s _ _ ⟨.bl (g i j), H, I, rfl, q⟩

def CDiv (i j : Int) : Prop := 0 < j ∧ j < 1073741824
def CDivN (i j : Int) : Prop := j ≠ 0 ∧ j.natAbs < 1073741824
def CPow (i j : Int) : Prop := 0 ≤ j ∧ j ≤ 1000000 ∧ i.natAbs < 2 ^ 64
def CMul (i j : Int) : Prop := (-(2 ^ 64) < i ∧ i < 2 ^ 64) ∨ (-(2 ^ 64) < j ∧ j < 2 ^ 64)
theorem CMul.ok {i j : Int} (h : CMul i j) : IntMulOk i j := by
  rcases h with ⟨h1, h2⟩ | ⟨h1, h2⟩
  · exact .of_left (intBits_le_64 h1 h2)
  · exact .of_right (intBits_le_64 h1 h2)

theorem op_add : OpR X (binaryOp .Add) (rI0 fun i j => .int (i + j)) := opI0 fun _ _ _ _ _ _ _ q => add_int q
theorem op_sub : OpR X (binaryOp .Sub) (rI0 fun i j => .int (i - j)) := opI0 fun _ _ _ _ _ _ _ q => sub_int q
theorem op_mul : OpR X (binaryOp .Mult) (rI CMul fun i j => .int (i * j)) := opI fun _ _ _ _ _ _ _ hc q => mul_int q hc.ok
/-- // by a positive divisor -/
theorem op_fdiv : OpR X (binaryOp .FloorDiv) (rI CDiv fun i j => .int (i / j)) := opI fun i j _ _ _ _ _ hc q => by
  have h1 : (0 : Int) < j := hc.1
  have h2 : j < 1073741824 := hc.2
  exact floordiv_int (by omega) (by rw [Int.fdiv_eq_ediv_of_nonneg i (by omega)]; exact q) (.inl (PyProof.noPylong_small (by omega)))
/-- % by a positive divisor of any size -/
theorem op_mod : OpR X (binaryOp .Mod) (rI (fun _ j => 0 < j) fun i j => .int (i % j)) := opI fun i j _ _ _ _ _ hc q => by
  have h1 : (0 : Int) < j := hc
  exact mod_int' (by omega) (by rw [Int.fmod_eq_emod_of_nonneg i (by omega)]; exact q)
theorem op_pow : OpR X (binaryOp .Pow) (rI CPow fun i j => .int (i ^ j.toNat)) := opI fun _ _ _ _ _ _ _ hc q => pow_int_small hc.1 hc.2.1 hc.2.2 q


theorem unI {f : Value → Sem Value} {g : Int → Int}
    (rule : ∀ (i : Int) (t : Tok) (s : Shared) (Q : Value → Shared → Prop) (E : Value → Shared → Prop), Q (.int (g i) s.toks) { s with toks := s.toks + 1 } → wpAny (model X.prog X.w) X.A (f (.int i t)) Q E s) :
    UnR X f (rU fun i => .int (g i)) := by
  intro pins s σ H x v Q I rx h
  obtain ⟨i, rfl, q⟩ := h
  obtain ⟨t, rfl⟩ := rx
  exact rule i t s _ _ ⟨.int (g i), H, I.tok _, ⟨_, rfl⟩, q⟩
theorem un_neg : UnR X (unaryOp .USub) (rU fun i => .int (-i)) := unI fun _ _ _ _ _ q => neg_int q

/-! ### bools among ints: n += (a < b) -/
end

/-! ### comparisons -/
/-- the scalars that == tells apart as data does -/
def scal : V → V → Bool
  | .non, .non => true | .non, .int _ => true | .int _, .non => true | .non, .bl _ => true | .bl _, .non => true | .non, .str _ => true | .str _, .non => true
  | .int _, .int _ => true | .bl _, .bl _ => true | .str _, .str _ => true | .byt _, .byt _ => true
  | .int _, .str _ => true | .str _, .int _ => true | .bl _, .str _ => true | .str _, .bl _ => true
  | _, _ => false
def rEq : R2 := fun x y H Q => scal x y = true ∧ Q (.bl (decide (x = y))) H
def rNe : R2 := fun x y H Q => scal x y = true ∧ Q (.bl (!decide (x = y))) H

theorem dec_int {i j : Int} : decide (V.int i = V.int j) = (i == j) := by
  rw [Bool.eq_iff_iff]
  simp
theorem dec_bl {i j : Bool} : decide (V.bl i = V.bl j) = (i == j) := by
  rw [Bool.eq_iff_iff]
  simp
theorem dec_str {i j : Str} : decide (V.str i = V.str j) = (i == j) := by
  rw [Bool.eq_iff_iff]
  simp
theorem dec_byt {i j : Array UInt8} : decide (V.byt i = V.byt j) = (i.toList == j.toList) := by
  rw [Bool.eq_iff_iff]
  cases i
  cases j
  simp

section
variable {X : Cx} {a b c : Expr} {ta tb tc : TE} {pos : Pos}
theorem fin_bl {pins : List (Addr × Obj)} {σ : St} {H : Hp} {s : Shared} {Q : VK} {k k' : Bool} (I : Inv X pins σ H s) (q : Q (.bl k) H) (e : k = k') : EP X pins σ Q (.bool k') s := by
  subst e
  exact ⟨.bl k, H, I, rfl, q⟩
theorem op_eq : OpR X (compareOp .Eq) rEq := by
  intro pins s σ H x y v u Q I rx ry h
  obtain ⟨hs, q⟩ := h
  cases x with
  | non =>
    cases rx
    cases y with
    | non => cases ry; exact PySem.EqNone.eq_none_none (fin_bl I q (by simp))
    | bl j => cases ry; exact PySem.EqNone.eq_none_bool (fin_bl I q (by simp))
    | int j => obtain ⟨t', rfl⟩ := ry; exact PySem.EqNone.eq_none_int (fin_bl I q (by simp))
    | str j => obtain ⟨t', rfl⟩ := ry; exact PySem.EqNone.eq_none_str (fin_bl I q (by simp))
    | _ => exact absurd (show false = true from hs) Bool.false_ne_true
  | bl i =>
    cases rx
    cases y with
    | non => cases ry; exact PySem.EqNone.eq_bool_none (fin_bl I q (by simp))
    | bl j => cases ry; exact eq_bool (fin_bl I q dec_bl)
    | str j => obtain ⟨t', rfl⟩ := ry; exact PySem.EqMixed.eq_bool_str (fin_bl I q (by simp))
    | _ => exact absurd (show false = true from hs) Bool.false_ne_true
  | int i =>
    obtain ⟨t, rfl⟩ := rx
    cases y with
    | non => cases ry; exact PySem.EqNone.eq_int_none (fin_bl I q (by simp))
    | int j => obtain ⟨t', rfl⟩ := ry; exact eq_int (fin_bl I q dec_int)
    | str j => obtain ⟨t', rfl⟩ := ry; exact PySem.EqMixed.eq_int_str (fin_bl I q (by simp))
    | _ => exact absurd (show false = true from hs) Bool.false_ne_true
  | str i =>
    obtain ⟨t, rfl⟩ := rx
    cases y with
    | non => cases ry; exact PySem.EqNone.eq_str_none (fin_bl I q (by simp))
    | bl j => cases ry; exact PySem.EqMixed.eq_str_bool (fin_bl I q (by simp))
    | int j => obtain ⟨t', rfl⟩ := ry; exact PySem.EqMixed.eq_str_int (fin_bl I q (by simp))
    | str j => obtain ⟨t', rfl⟩ := ry; exact eq_str (fin_bl I q dec_str)
    | _ => exact absurd (show false = true from hs) Bool.false_ne_true
  | byt i =>
    obtain ⟨t, rfl⟩ := rx
    cases y with
    | byt j => obtain ⟨t', rfl⟩ := ry; exact PySem.W.eq_bytes (fin_bl I q dec_byt)
    | _ => exact absurd (show false = true from hs) Bool.false_ne_true
  | _ => cases y <;> exact absurd (show false = true from hs) Bool.false_ne_true
theorem op_ne : OpR X (compareOp .NotEq) rNe := by
  intro pins s σ H x y v u Q I rx ry h
  obtain ⟨hs, q⟩ := h
  cases x with
  | non =>
    cases rx
    cases y with
    | non => cases ry; exact PySem.EqNone.ne_none_none (fin_bl I q (by simp))
    | bl j => cases ry; exact PySem.EqNone.ne_none_bool (fin_bl I q (by simp))
    | int j => obtain ⟨t', rfl⟩ := ry; exact PySem.EqNone.ne_none_int (fin_bl I q (by simp))
    | str j => obtain ⟨t', rfl⟩ := ry; exact PySem.EqNone.ne_none_str (fin_bl I q (by simp))
    | _ => exact absurd (show false = true from hs) Bool.false_ne_true
  | bl i =>
    cases rx
    cases y with
    | non => cases ry; exact PySem.EqNone.ne_bool_none (fin_bl I q (by simp))
    | bl j => cases ry; exact ne_bool (fin_bl I q (congrArg not dec_bl))
    | str j => obtain ⟨t', rfl⟩ := ry; exact PySem.EqMixed.ne_bool_str (fin_bl I q (by simp))
    | _ => exact absurd (show false = true from hs) Bool.false_ne_true
  | int i =>
    obtain ⟨t, rfl⟩ := rx
    cases y with
    | non => cases ry; exact PySem.EqNone.ne_int_none (fin_bl I q (by simp))
    | int j => obtain ⟨t', rfl⟩ := ry; exact ne_int (fin_bl I q (congrArg not dec_int))
    | str j => obtain ⟨t', rfl⟩ := ry; exact PySem.EqMixed.ne_int_str (fin_bl I q (by simp))
    | _ => exact absurd (show false = true from hs) Bool.false_ne_true
  | str i =>
    obtain ⟨t, rfl⟩ := rx
    cases y with
    | non => cases ry; exact PySem.EqNone.ne_str_none (fin_bl I q (by simp))
    | bl j => cases ry; exact PySem.EqMixed.ne_str_bool (fin_bl I q (by simp))
    | int j => obtain ⟨t', rfl⟩ := ry; exact PySem.EqMixed.ne_str_int (fin_bl I q (by simp))
    | str j => obtain ⟨t', rfl⟩ := ry; exact ne_str (fin_bl I q (congrArg not dec_str))
    | _ => exact absurd (show false = true from hs) Bool.false_ne_true
  | byt i =>
    obtain ⟨t, rfl⟩ := rx
    cases y with
    | byt j => obtain ⟨t', rfl⟩ := ry; exact PySem.W.ne_bytes (fin_bl I q (congrArg not dec_byt))
    | _ => exact absurd (show false = true from hs) Bool.false_ne_true
  | _ => cases y <;> exact absurd (show false = true from hs) Bool.false_ne_true

theorem op_lt : OpR X (compareOp .Lt) (rI0 fun i j => .bl (decide (i < j))) := opB0 fun _ _ _ _ _ _ _ q => lt_int q
theorem op_le : OpR X (compareOp .LtE) (rI0 fun i j => .bl (decide (i ≤ j))) := opB0 fun _ _ _ _ _ _ _ q => le_int q
theorem op_gt : OpR X (compareOp .Gt) (rI0 fun i j => .bl (decide (j < i))) := opB0 fun _ _ _ _ _ _ _ q => gt_int q

/-- is None, is not None: the right side a value none -/
theorem op_isN : OpR X (compareOp .Is) (fun x y H Q => y = .non ∧ Q (.bl (decide (x = .non))) H) := by
  intro pins s σ H x y v u Q I rx ry h
  obtain ⟨rfl, q⟩ := h
  cases ry
  refine is_none_gen (fin_bl I q ?_)
  cases x <;> first
    | (cases rx; rfl)
    | (obtain ⟨t, rfl⟩ := rx; rfl)
theorem op_notN : OpR X (compareOp .IsNot) (fun x y H Q => y = .non ∧ Q (.bl (!decide (x = .non))) H) := by
  intro pins s σ H x y v u Q I rx ry h
  obtain ⟨rfl, q⟩ := h
  cases ry
  refine isnot_none_gen (fin_bl I q ?_)
  cases x <;> first
    | (cases rx; rfl)
    | (obtain ⟨t, rfl⟩ := rx; rfl)

/-- is, is not of two objects that are tracked lists or instances -/
def isObj : HO → Bool
  | .lst _ => true
  | .ins _ _ _ => true
  | _ => false


theorem nomark (b : Expr) {op : CmpOp} (h : op ≠ .In := by decide) (h2 : op ≠ .NotIn := by decide) : behindInMarks op b = false := by
  have e1 : (op == CmpOp.In) = false := by cases op <;> first | rfl | exact absurd rfl h
  have e2 : (op == CmpOp.NotIn) = false := by cases op <;> first | rfl | exact absurd rfl h2
  cases b <;> simp [behindInMarks, e1, e2]
/-- a comparison as a value; hm: nomark b, or (for in, not in) by with_unfolding_all rfl -/
theorem pe_cmpR {op : CmpOp} {r : R2} (ho : OpR X (compareOp op) r) (ha : PE X a ta) (hb : PE X b tb) (hm : behindInMarks op b = false) : PE X (.Compare a [op] [b] pos) (tOp r ta tb) := by
  intro pins s σ H Q I h
  exact wpAny_Compare1 (binT ha hb I h fun v u s2 x y H2 I2 rx ry q => ho pins s2 σ H2 x y v u Q I2 rx ry q) hm
/-- a reading of a value as a test -/
def tTest (t : TE) : TT := fun σ H Q => t σ H fun x H' => IsB x H' Q
theorem pt_cmpR {op : CmpOp} {r : R2} (ho : OpR X (compareOp op) r) (ha : PE X a ta) (hb : PE X b tb) (hm : behindInMarks op b = false) : PT X (.Compare a [op] [b] pos) (tTest (tOp r ta tb)) := by
  intro pins s σ H Q I h
  refine wpAny_isTrue_Compare1 (thn (ha pins s σ H _ I h) fun v s1 ⟨x, H1, I1, r1, q1⟩ => thn (hb pins s1 σ H1 _ I1 q1) fun u s2 ⟨y, H2, I2, r2, q2⟩ =>
    thn (ho pins s2 σ H2 x y v u _ I2 r1 r2 q2) fun c s3 ⟨z, H3, I3, r3, k, e, q3⟩ => ?_) hm
  subst e
  cases r3
  exact wpAny_truthy_bool ⟨H3, I3, q3⟩
/-- a op1 b op2 c -/
def tChain (r r' : R2) (ta tb tc : TE) : TE := fun σ H Q => ta σ H fun x H1 => tb σ H1 fun y H2 => r x y H2 fun z H3 => ∃ k, z = .bl k ∧
  (if k = true then tc σ H3 fun w' H4 => r' y w' H4 Q else Q (.bl false) H3)
theorem pe_chain {op op' : CmpOp} {r r' : R2} (ho : OpR X (compareOp op) r) (ho' : OpR X (compareOp op') r') (ha : PE X a ta) (hb : PE X b tb) (hc : PE X c tc)
    (hm : lastMarks [op, op'] [b, c] = false := by with_unfolding_all rfl) : PE X (.Compare a [op, op'] [b, c] pos) (tChain r r' ta tb tc) := by
  intro pins s σ H Q I h
  refine Compare_chain (thn (ha pins s σ H _ I h) fun v s1 ⟨x, H1, I1, r1, q1⟩ => chain_link (thn (hb pins s1 σ H1 _ I1 q1) fun u s2 ⟨y, H2, I2, r2, q2⟩ =>
    thn (ho pins s2 σ H2 x y v u _ I2 r1 r2 q2) fun d s3 ⟨z, H3, I3, r3, k, e, q3⟩ => ?_)) hm
  subst e
  cases r3
  refine wpAny_truthy_bool ?_
  cases k with
  | false => exact ite_ff ⟨.bl false, H3, I3, rfl, q3⟩
  | true => exact ite_tt (chain_last (thn (hc pins s3 σ H3 _ I3 q3) fun w' s4 ⟨z', H4, I4, r4, q4⟩ => ho' pins s4 σ H4 y z' u w' Q I4 r2 r4 q4))
theorem pt_chain {op op' : CmpOp} {r r' : R2} (ho : OpR X (compareOp op) r) (ho' : OpR X (compareOp op') r') (ha : PE X a ta) (hb : PE X b tb) (hc : PE X c tc)
    (hm : lastMarks [op, op'] [b, c] = false := by with_unfolding_all rfl) : PT X (.Compare a [op, op'] [b, c] pos) (tTest (tChain r r' ta tb tc)) := by
  intro pins s σ H Q I h
  refine isTrue_chain (thn (ha pins s σ H _ I h) fun v s1 ⟨x, H1, I1, r1, q1⟩ => test_link (thn (hb pins s1 σ H1 _ I1 q1) fun u s2 ⟨y, H2, I2, r2, q2⟩ =>
    thn (ho pins s2 σ H2 x y v u _ I2 r1 r2 q2) fun d s3 ⟨z, H3, I3, r3, k, e, q3⟩ => ?_)) hm
  subst e
  cases r3
  refine wpAny_truthy_bool ?_
  cases k with
  | false =>
    obtain ⟨k', e', q'⟩ := q3
    cases e'
    exact ite_ff ⟨H3, I3, q'⟩
  | true =>
    refine ite_tt (test_last (thn (hc pins s3 σ H3 _ I3 q3) fun w' s4 ⟨z', H4, I4, r4, q4⟩ => thn (ho' pins s4 σ H4 y z' u w' _ I4 r2 r4 q4) fun d' s5 hpat => ?_))
    obtain ⟨z2, H5, I5, r5, k2, e2, q5⟩ := hpat
    subst e2
    cases r5
    exact wpAny_truthy_bool ⟨H5, I5, q5⟩

/-! ### truth -/
/-- a value's truth by the abstract heap -/
def TruV (K : PySem.W.Frag) (x : V) (H : Hp) (k : Bool) : Prop :=
  match x with
  | .non => k = false
  | .bl b => k = b
  | .int i => k = (i != 0)
  | .str y => y.length ≤ sizeLine ∧ k = ((y.length : Int) != 0)
  | .byt y => y.size ≤ sizeLine ∧ k = ((y.size : Int) != 0)
  | .ref p => (∃ xs, SqL K H p xs ∧ k = !xs.isEmpty) ∨ (∃ xs, SqT K H p xs ∧ k = !xs.isEmpty) ∨ ∃ kvs, H p = some (.dK kvs) ∧ k = !kvs.isEmpty
  | _ => False
theorem line63 : (sizeLine : Nat) < 2 ^ 63 := by rw [sizeLine_eq]; decide

/-! ### strs and bytes -/
theorem op_add_str : OpR X (binaryOp .Add) (fun x y H Q => ∃ i j, x = .str i ∧ y = .str j ∧ i.length + j.length ≤ sizeLine ∧ Q (.str (i ++ j)) H) := by
  intro pins s σ H x y v u Q I rx ry h
  obtain ⟨i, j, rfl, rfl, hz, q⟩ := h
  obtain ⟨t, rfl⟩ := rx
  obtain ⟨t', rfl⟩ := ry
  exact add_str (fun t' tk => ⟨.str (i ++ j), H, I.tok _, ⟨_, rfl⟩, q⟩) hz

def PlainIxT (b : Expr) : Prop := ∀ o i, subscripted b false o i = operate [o, i] (getItem o i)

/-! ### scalar builtins, by CallR -/
theorem vals1 {x : V} {us : List Value} (r : Vals [x] us) : ∃ u, us = [u] ∧ RelV x u := by
  cases r with
  | cons r1 r2 => cases r2; exact ⟨_, rfl, r1⟩
theorem vals2 {x y : V} {us : List Value} (r : Vals [x, y] us) : ∃ u w', us = [u, w'] ∧ RelV x u ∧ RelV y w' := by
  cases r with
  | cons r1 r2 =>
    cases r2 with
    | cons r3 r4 => cases r4; exact ⟨_, _, rfl, r1, r3⟩
theorem call_max2 (hc : X.calm = true) : CallR X (.builtin "max") (fun xs H Q => ∃ i j, xs = [.int i, .int j] ∧ Q (.int (if j > i then j else i)) H) := by
  intro pins s σ H xs us Q I r h
  obtain ⟨i, j, rfl, q⟩ := h
  obtain ⟨u, w', rfl, ⟨t, rfl⟩, ⟨t', rfl⟩⟩ := vals2 r
  refine max_two_ints (I.ok.hd hc) fun h' tk k => ⟨_, H, I.kept k, ?_, q⟩
  by_cases hj : j > i
  · rw [if_pos hj, if_pos hj]; exact ⟨_, rfl⟩
  · rw [if_neg hj, if_neg hj]; exact ⟨_, rfl⟩
theorem call_min2 (hc : X.calm = true) : CallR X (.builtin "min") (fun xs H Q => ∃ i j, xs = [.int i, .int j] ∧ Q (.int (if j < i then j else i)) H) := by
  intro pins s σ H xs us Q I r h
  obtain ⟨i, j, rfl, q⟩ := h
  obtain ⟨u, w', rfl, ⟨t, rfl⟩, ⟨t', rfl⟩⟩ := vals2 r
  refine min_two_ints (I.ok.hd hc) fun h' tk k => ⟨_, H, I.kept k, ?_, q⟩
  by_cases hj : j < i
  · rw [if_pos hj, if_pos hj]; exact ⟨_, rfl⟩
  · rw [if_neg hj, if_neg hj]; exact ⟨_, rfl⟩
theorem call_int1 : CallR X (.type "int") (fun xs H Q => (∃ i, xs = [.int i] ∧ Q (.int i) H) ∨ ∃ k, xs = [.bl k] ∧ Q (.int (if k then 1 else 0)) H) := by
  intro pins s σ H xs us Q I r h
  rcases h with ⟨i, rfl, q⟩ | ⟨k, rfl, q⟩
  · obtain ⟨u, rfl, t, rfl⟩ := vals1 r
    exact call_int_int ⟨.int i, H, I, ⟨_, rfl⟩, q⟩
  · obtain ⟨u, rfl, r1⟩ := vals1 r
    cases r1
    exact call_int_bool ⟨.int (if k then 1 else 0), H, I.tok _, ⟨_, rfl⟩, q⟩
/-- len of a str, a bytes, a list, a tuple -/
def LenV (K : PySem.W.Frag) (x : V) (H : Hp) (n : Nat) : Prop :=
  match x with
  | .str y => y.length ≤ sizeLine ∧ n = y.length
  | .byt y => y.size ≤ sizeLine ∧ n = y.size
  | .ref p => (∃ xs, SqL K H p xs ∧ n = xs.length) ∨ ∃ xs, SqT K H p xs ∧ n = xs.length
  | _ => False
end
end L2

namespace L2
open PySem PySem.Spec PyProof.Rows

/-! ### an instance, its attributes a map -/
structure ObjM (h : Heap) (x dx C : Addr) (mA : Str → Option Value) : Prop where
  obj : h.get? x = some (PySem.W.instObj C dx)
  ns : h.Ns1 dx mA
  ne : dx ≠ x

theorem lookIn_ns {h : Heap} {dx : Addr} {mA : Str → Option Value} (n : h.Ns1 dx mA) : ∃ od, h.get? dx = some od ∧ ∀ name, PySem.W.lookIn name od = some (mA name) := by
  obtain ⟨o, es, ep, ho, hd, hk, _, hm⟩ := n
  refine ⟨o, ho, fun name => ?_⟩
  have e := hm name
  unfold nsFind findBy at e
  rw [← Array.find?_toList] at e
  unfold PySem.W.lookIn
  rw [hd]
  dsimp only
  split
  · rename_i y q
    rw [q] at e
    exact congrArg some e
  · rename_i q
    rw [q] at e
    have a : es.toList.any (·.refKey) = false := by
      rw [List.any_eq_false]
      intro y hy
      obtain ⟨z, t, hkey⟩ := hk y (Array.mem_toList_iff.mp hy)
      simp [DictEntry.refKey, hkey]
    have a' : ¬ es.toList.any (·.refKey) = true := by rw [a]; exact Bool.false_ne_true
    rw [if_neg a']
    exact congrArg some e

theorem ObjM.look {h : Heap} {x dx C : Addr} {mA : Str → Option Value} (I : ObjM h x dx C mA) : ∃ od, PySem.W.InstAt h x (PySem.W.instObj C dx) C (some od) ∧ ∀ name, PySem.W.lookIn name od = some (mA name) :=
  let ⟨od, ho, hl⟩ := lookIn_ns I.ns
  ⟨od, ⟨I.obj, rfl, rfl, ho⟩, hl⟩

section
variable {prog : Program} {w : World} {A : Around} {E : Value → Shared → Prop} {s : Shared} {K : PySem.W.Frag} {x dx C f : Addr} {mA : Str → Option Value} {name : Str} {v : Value}

theorem get_map {expr : Bool} {Q : Value → Shared → Prop} (X : K.In s.heap) (I : ObjM s.heap x dx C mA) (hg : PySem.W.plainGet K C name = true) (hh : PySem.W.hasDictIn K C = true)
    (ha : PySem.W.findIn K (.ref C) name = some none) (hv : mA name = some v) (hv' : PySem.W.handedIn v = true) (h : Q v { s with toks := s.toks + 1 }) :
    wpAny (model prog w) A (getAttr (.ref x) name expr) Q E s := by
  obtain ⟨od, J, hl⟩ := I.look
  exact PySem.W.get_value X J (PySem.W.plainGet_of hg).1 (PySem.W.findObj_own hh ha rfl (by rw [hl, hv])) hv' h


theorem get_meth {pl : Sem Bool} {Q : Value × List Value → Shared → Prop} (X : K.In s.heap) (I : ObjM s.heap x dx C mA) (hg : PySem.W.plainGet K C name = true)
    (hf : PySem.W.findIn K (.ref C) name = some (some (.ref f))) (ht : PySem.W.isFn K (.ref f) = true) (hv : mA name = none) (h : Q (.ref f, [.ref x]) s) :
    wpAny (model prog w) A (getMethod (.ref x) name pl) Q E s := by
  obtain ⟨od, J, hl⟩ := I.look
  exact PySem.W.method_fn X J (PySem.W.plainGet_of hg).1 (PySem.W.plainGet_of hg).2 hf (beq_iff_eq.mp ht) (by show (PySem.W.lookIn name od).map (·.isSome) = some false; rw [hl, hv]; rfl) h

theorem set_map {ns : List Str} {Q : Unit → Shared → Prop} (X : K.In s.heap) (I : ObjM s.heap x dx C mA)
    (hs : PySem.W.findIn K (.ref C) "__setattr__" = some (some (.builtin "object.__setattr__"))) (hp : PySem.W.plainOver K C = true) (ht : PySem.W.takerIn K C name = some none) (hh : PySem.W.hasDictIn K C = true)
    (hw : PySem.Within mA ns) (hsz : ns.length ≤ sizeLine)
    (h : ∀ h', ObjM h' x dx C (fun y => if y = name then some v else mA y) → Heap.SameBut dx s.heap h' → Q () { s with heap := h', toks := s.toks + 2 }) :
    wpAny (model prog w) A (setAttr (.ref x) name v) Q E s := by
  obtain ⟨od, J, hl⟩ := I.look
  refine PySem.W.set_plain X J hs (PySem.W.osa_open (s := { s with toks := s.toks + 1 }) (r := none) X J hp ht fun b => ?_)
  obtain ⟨cd, hc, hd'⟩ := PySem.W.any_some hh
  have hx : s.heap.get? x = some ⟨.ref C, some dx, .plain, #[]⟩ := I.obj
  refine wpAny_bind (wpAny_pure (wpAny_bind (wpAny_bind (wpAny_loadPart hx (wpAny_bind (PySem.W.Looks.here (s := { s with toks := s.toks + 1 }) (PySem.W.looks_clsIn X hc) ?_))))))
  rw [hd']
  refine wpAny_pure (a := some dx) (wpAny_bind (wpAny_pure (wpAny_bind ?_)))
  refine wpAny_nsSet1 (s := { s with toks := s.toks + 1 }) I.ns fun h' hn2 hs2 => ?_
  obtain ⟨oD, esD, epD, hoD, hdD, hcD⟩ := hn2.count (PySem.Within.cons name v hw)
  refine wpAny_bind (wpAny_lookBehind hoD (by rw [hdD]; exact pastItsLine_dict (Nat.le_trans hcD (by rw [List.length_cons]; omega))) ?_)
  exact wpAny_pure (h _ ⟨(hs2.2 _ (Ne.symm I.ne)).trans I.obj, hn2, I.ne⟩ hs2)

/-- C(..): the dict at the heap's end, the instance behind it; then its __init__ -/
theorem make_map {R : Result → Shared → Prop} {vs : List Value} {kw : List (Str × Value)} (X : K.In s.heap) (hm : PySem.W.makesIn K C = true)
    (hi : PySem.W.findIn K (.ref C) "__init__" = some (some (.ref f))) (hf : PySem.W.typeIn K (.ref f) = some (.type "function"))
    (h : codeAny (model prog w) (A.under (.builtin "type.__call__" ⟨.ref C :: vs, kw⟩)) (.call (.ref f) ⟨.ref (s.heap.objs.size + 1) :: vs, kw⟩) (PySem.W.InitBack (s.heap.objs.size + 1) R)
      { s with heap := (s.heap.push PySem.W.emptyDict).push (PySem.W.instObj C s.heap.objs.size) }) :
    codeAny (model prog w) A (.call (.ref C) ⟨vs, kw⟩) R s := by
  obtain ⟨hh, g, d, t, os⟩ := s
  exact PySem.W.make_core (PySem.W.makes_of X hm) (PySem.W.looks_findIn X hi) (fun self => PySem.W.bind_fn X self hf) (.inl rfl) h
end

/-! ### the attributes as a list of pairs -/
def putF (f : Str) (v : V) : List (Str × V) → List (Str × V)
  | [] => [(f, v)]
  | (g, x) :: r => if g = f then (g, v) :: r else (g, x) :: putF f v r
theorem lookup_putF (f g : Str) (v : V) : ∀ fs : List (Str × V), (putF f v fs).lookup g = if g = f then some v else fs.lookup g
  | [] => by
    show List.lookup g [(f, v)] = _
    by_cases h : g = f
    · have hb : (g == f) = true := beq_iff_eq.mpr h
      simp only [List.lookup, hb, if_pos h]
    · have hb : (g == f) = false := beq_eq_false_iff_ne.mpr h
      simp only [List.lookup, hb, if_neg h]
  | (k, x) :: r => by
    have ih := lookup_putF f g v r
    rw [show putF f v ((k, x) :: r) = (if k = f then (k, v) :: r else (k, x) :: putF f v r) from rfl]
    by_cases hk : k = f
    · rw [if_pos hk]
      by_cases h : g = k
      · have hb : (g == k) = true := beq_iff_eq.mpr h
        simp only [List.lookup, hb, if_pos (h.trans hk)]
      · have hb : (g == k) = false := beq_eq_false_iff_ne.mpr h
        simp only [List.lookup, hb, if_neg (fun e : g = f => h (e.trans hk.symm))]
    · rw [if_neg hk]
      by_cases h : g = k
      · have hb : (g == k) = true := beq_iff_eq.mpr h
        simp only [List.lookup, hb, if_neg (fun e : g = f => hk (h.symm.trans e))]
      · have hb : (g == k) = false := beq_eq_false_iff_ne.mpr h
        simp only [List.lookup, hb]
        exact ih
theorem keys_putF (f : Str) (v : V) : ∀ fs : List (Str × V), f ∈ (putF f v fs).map (·.1) ∧ ∀ g, g ∈ fs.map (·.1) → g ∈ (putF f v fs).map (·.1)
  | [] => ⟨by simp [putF], fun g h => by simp at h⟩
  | (k, x) :: r => by
    obtain ⟨i1, i2⟩ := keys_putF f v r
    rw [show putF f v ((k, x) :: r) = (if k = f then (k, v) :: r else (k, x) :: putF f v r) from rfl]
    by_cases hk : k = f
    · rw [if_pos hk]
      subst hk
      exact ⟨by simp, fun g h => by simpa using h⟩
    · rw [if_neg hk]
      refine ⟨?_, fun g h => ?_⟩
      · rw [List.map_cons]
        exact List.mem_cons_of_mem _ i1
      · rw [List.map_cons] at h ⊢
        rcases List.mem_cons.mp h with e | e
        · exact List.mem_cons.mpr (.inl e)
        · exact List.mem_cons_of_mem _ (i2 g e)
theorem length_putF (f : Str) (v : V) : ∀ fs : List (Str × V), (putF f v fs).length ≤ fs.length + 1
  | [] => by simp [putF]
  | (k, x) :: r => by
    have ih := length_putF f v r
    rw [show putF f v ((k, x) :: r) = (if k = f then (k, v) :: r else (k, x) :: putF f v r) from rfl]
    by_cases hk : k = f
    · rw [if_pos hk, List.length_cons, List.length_cons]; omega
    · rw [if_neg hk, List.length_cons, List.length_cons]; omega

theorem RelO.some_of {v : V} {o : Option Value} (r : RelO (some v) o) : ∃ u, o = some u ∧ RelV v u := by
  cases o with
  | none => exact (show False from r).elim
  | some u => exact ⟨u, rfl, r⟩
theorem RelO.none_of {o : Option Value} (r : RelO none o) : o = none := by
  cases o with
  | none => rfl
  | some u => exact (show False from r).elim
theorem handed_of {v : V} {u : Value} (r : RelV v u) : PySem.W.handedIn u = true := by
  cases v with
  | non => cases (show u = Value.none from r); rfl
  | bl b => cases (show u = Value.bool b from r); rfl
  | int i => obtain ⟨t, e⟩ := (show ∃ t, u = Value.int i t from r); cases e; rfl
  | str x => obtain ⟨t, e⟩ := (show ∃ t, u = Value.str x t from r); cases e; rfl
  | byt b => obtain ⟨t, e⟩ := (show ∃ t, u = Value.bytes b t from r); cases e; rfl
  | flt b => obtain ⟨t, e⟩ := (show ∃ t, u = Value.float b t from r); cases e; rfl
  | ref a => cases (show u = Value.ref a from r); rfl
  | ty n => cases (show u = Value.type n from r); rfl

section
variable {P : Program} {w : World} {H H' : Hp} {h h' : Heap} {a C dx : Addr} {fs fs' : List (Str × V)}
theorem ins_get (hok : HOk P w H h) (e : H a = some (.ins C dx fs)) : ∃ mA, ObjM h a dx C mA ∧ (∀ f, RelO (fs.lookup f) (mA f)) ∧ PySem.Within mA (fs.map (·.1)) ∧ fs.length ≤ 1000 ∧ H dx = some (.own a) := by
  obtain ⟨d, z, ne, ob, mA, n, r, q⟩ := (show ObjOk P w H h a (.ins C dx fs) from hok a _ e)
  exact ⟨mA, ⟨ob, n, ne⟩, r, q, z, d⟩
end

/-! ### what of the text a class must have -/
structure Cls (K : PySem.W.Frag) (C : Addr) : Prop where
  pg : PySem.W.plainGet K C Str.empty = true
  hd : PySem.W.hasDictIn K C = true
  po : PySem.W.plainOver K C = true
  sa : PySem.W.findIn K (.ref C) "__setattr__" = some (some (.builtin "object.__setattr__"))
theorem Cls.get {K : PySem.W.Frag} {C : Addr} (c : Cls K C) (f : Str) : PySem.W.plainGet K C f = true := c.pg
/-- no class of it has the name -/
def NoAttr (K : PySem.W.Frag) (C : Addr) (f : Str) : Prop := PySem.W.findIn K (.ref C) f = some none
theorem NoAttr.taker {K : PySem.W.Frag} {C : Addr} {f : Str} (n : NoAttr K C f) : PySem.W.takerIn K C f = some none := by
  unfold PySem.W.takerIn
  rw [show PySem.W.findIn K (.ref C) f = some none from n]
  rfl
/-- a constant of the class -/
structure Con (K : PySem.W.Frag) (C : Addr) (f : Str) (v : V) (u : Value) : Prop where
  at_ : PySem.W.findIn K (.ref C) f = some (some u)
  rel : RelV v u
  get : PySem.W.specialIn K u "__get__" = some none
  cp : PySem.W.copiedNames.contains f = false
/-- a method: a plain def of the class or of one above it -/
structure Meth (K : PySem.W.Frag) (C : Addr) (m : Str) (f : Addr) : Prop where
  at_ : PySem.W.findIn K (.ref C) m = some (some (.ref f))
  fn : PySem.W.isFn K (.ref f) = true
  kp : PySem.W.keepIn K (.ref f) = true

section
variable {X : Cx} {pins : List (Addr × Obj)} {σ : St} {H : Hp} {s : Shared} {a C dx : Addr} {fs : List (Str × V)} {f : Str} {v : V} {A : Around} {E : Value → Shared → Prop}

theorem getattr_ok {b : Bool} {Q : Value → Shared → Prop} (I : Inv X pins σ H s) (e : H a = some (.ins C dx fs)) (c : Cls X.K C) (n : NoAttr X.K C f) (l : fs.lookup f = some v)
    (h : ∀ u s', Inv X pins σ H s' → RelV v u → Q u s') : wpAny (model X.prog X.w) A (getAttr (.ref a) f b) Q E s := by
  obtain ⟨mA, O, r, _, _, _⟩ := ins_get I.hok e
  obtain ⟨u, hu, ru⟩ := RelO.some_of (v := v) (o := mA f) (by rw [← l]; exact r f)
  exact get_map I.kIn O (c.get f) c.hd n hu (handed_of ru) (h u _ (I.tok _) ru)


theorem getmeth_ok {m : Str} {g : Addr} {pl : Sem Bool} {Q : Value × List Value → Shared → Prop} (I : Inv X pins σ H s) (e : H a = some (.ins C dx fs)) (c : Cls X.K C) (k : Meth X.K C m g) (l : fs.lookup m = none)
    (h : Q (.ref g, [.ref a]) s) : wpAny (model X.prog X.w) A (getMethod (.ref a) m pl) Q E s := by
  obtain ⟨mA, O, r, _, _, _⟩ := ins_get I.hok e
  have hn : mA m = none := RelO.none_of (by rw [← l]; exact r m)
  exact get_meth I.kIn O (c.get m) k.at_ k.fn hn h

theorem setattr_ok {y : V} {u : Value} {Q : Unit → Shared → Prop} (I : Inv X pins σ H s) (e : H a = some (.ins C dx fs)) (c : Cls X.K C) (n : NoAttr X.K C f) (hl : fs.length < 1000) (ry : RelV y u)
    (h : ∀ s', Inv X pins σ (upd H a (.ins C dx (putF f y fs))) s' → Q () s') : wpAny (model X.prog X.w) A (setAttr (.ref a) f u) Q E s := by
  obtain ⟨mA, O, r, wi, _, ho⟩ := ins_get I.hok e
  have hz : (fs.map (·.1)).length ≤ sizeLine := by rw [List.length_map, sizeLine_eq]; omega
  refine set_map I.kIn O c.sa c.po n.taker c.hd wi hz fun h' O' sb => h _ ?_
  have hd : ∃ o, h'.get? dx = some o := let ⟨o, _, _, e', _⟩ := O'.ns; ⟨o, e'⟩
  refine I.write (x := a) (e := dx) (by rw [e]; exact True.intro) (.inr ho) (fun b q hb z => (sb.2 b hb).trans z) hd ?_
  refine ⟨by rw [upd_ne O.ne]; exact ho, ?_, O.ne, O'.obj, _, O'.ns, fun g => ?_, fun g hg => ?_⟩
  · have := length_putF f y fs; omega
  · show RelO ((putF f y fs).lookup g) (if g = f then some u else mA g)
    rw [lookup_putF]
    by_cases q : g = f
    · rw [if_pos q, if_pos q]; exact ry
    · rw [if_neg q, if_neg q]; exact r g
  · by_cases q : g = f
    · rw [q]; exact (keys_putF f y fs).1
    · refine (keys_putF f y fs).2 g (wi g fun z => hg ?_)
      show (if g = f then some u else mA g) = none
      rw [if_neg q]; exact z

/-- a new instance, tracked, without attributes -/
theorem Inv.made (I : Inv X pins σ H s) : Inv X pins σ (upd (upd H s.heap.objs.size (.own (s.heap.objs.size + 1))) (s.heap.objs.size + 1) (.ins C s.heap.objs.size []))
    { s with heap := (s.heap.push PySem.W.emptyDict).push (PySem.W.instObj C s.heap.objs.size) } := by
  have e1 : (s.heap.push PySem.W.emptyDict).get? s.heap.objs.size = some PySem.W.emptyDict := Heap.get?_push_size s.heap rfl
  have e2 : ((s.heap.push PySem.W.emptyDict).push (PySem.W.instObj C s.heap.objs.size)).get? (s.heap.objs.size + 1) = some (PySem.W.instObj C s.heap.objs.size) := by
    have := Heap.get?_push_size (s.heap.push PySem.W.emptyDict) (o := PySem.W.instObj C s.heap.objs.size) rfl
    rwa [Heap.size_push] at this
  have e3 : (s.heap.push PySem.W.emptyDict).Ns s.heap.objs.size (fun _ => none) := ⟨PySem.W.emptyDict, #[], _, e1, rfl, (fun e he => absurd he (by simp)), fun _ => rfl⟩
  have I1 := I.laid (a := s.heap.objs.size) (o := .own (s.heap.objs.size + 1)) (h' := s.heap.push PySem.W.emptyDict) (t' := s.toks) (fun b u q => Heap.get?_push_of_some _ q) (Nat.le_refl _) ⟨_, e1⟩
  refine I1.laid (a := s.heap.objs.size + 1) (o := .ins C s.heap.objs.size []) (t' := s.toks) (fun b u q => Heap.get?_push_of_some _ q) (Nat.le_of_eq (Heap.size_push _ _)) ?_
  have ne : s.heap.objs.size ≠ s.heap.objs.size + 1 := Nat.ne_of_lt (Nat.lt_succ_self _)
  refine ⟨by rw [upd_ne ne, upd_same], Nat.zero_le _, ne, e2, fun _ => none, (Heap.Ns1.of_empty e3).at fun o q => Heap.get?_push_of_some _ q, fun _ => True.intro, fun y hy => absurd rfl hy⟩

/-- e.f where nothing but the object is asked: through attributeBase (super) and the last hold -/
theorem attr_of {prog : Program} {w : World} {env : Env} {e : Expr} {f : Str} {pos : Pos} {s : Shared} {Q : Value → Shared → Prop} (hb : attributeBase e f env (eval e env) = eval e env)
    (h : wpAny (model prog w) A (eval e env) (fun o s₁ => wpAny (model prog w) A (getAttr o f true) Q E s₁) E s) : wpAny (model prog w) A (eval (.Attribute e f pos) env) Q E s :=
  Attribute_any_ h (by rw [arm_eval_Attribute, hb])
end

/-! ### readings and rules -/
/-- e.f, an attribute of the instance -/
inductive FldP (K : PySem.W.Frag) (f : Str) (x : V) (H : Hp) (Q : VK) : Prop
  | mk (a C dx : Addr) (fs : List (Str × V)) (v : V) (hx : x = .ref a) (h : H a = some (.ins C dx fs)) (c : Cls K C) (n : NoAttr K C f) (l : fs.lookup f = some v) (q : Q v H)
def tFld (K : PySem.W.Frag) (ta : TE) (f : Str) : TE := fun σ H Q => ta σ H fun x H1 => FldP K f x H1 Q
/-- e.f, a constant of the class -/
def tCon (K : PySem.W.Frag) (ta : TE) (f : Str) : TE := fun σ H Q => ta σ H fun x H1 => ∃ a C dx fs v u, x = .ref a ∧ H1 a = some (.ins C dx fs) ∧ Cls K C ∧ Con K C f v u ∧ fs.lookup f = none ∧ Q v H1
/-- e.f = value -/
def sFld (K : PySem.W.Frag) (ta tv : TE) (f : Str) : TS := fun D σ H => tv σ H fun y H1 => ta σ H1 fun x H2 => ∃ a C dx fs, x = .ref a ∧ H2 a = some (.ins C dx fs) ∧ Cls K C ∧ NoAttr K C f ∧ fs.length < 1000 ∧
  D.nx σ (upd H2 a (.ins C dx (putF f y fs)))
/-- an augmented operator on two values -/
def InOp (X : Cx) (op : Operator) (rd : V → V → Hp → VK → Prop) : Prop :=
  ∀ (pins : List (Addr × Obj)) (s : Shared) (σ : St) (H : Hp) (x y : V) (u v : Value) (Q : VK), Inv X pins σ H s → RelV x u → RelV y v → rd x y H Q → wpAny (model X.prog X.w) X.A (inplaceOp op u v) (EP X pins σ Q) X.xe s
/-- e.f op= value -/
def sFldAug (K : PySem.W.Frag) (ta tv : TE) (rd : V → V → Hp → VK → Prop) (f : Str) : TS := fun D σ H => ta σ H fun x H1 => ∃ a C dx fs v, x = .ref a ∧ H1 a = some (.ins C dx fs) ∧ Cls K C ∧ NoAttr K C f ∧ fs.lookup f = some v ∧
  tv σ H1 fun y H2 => rd v y H2 fun z H3 => ∃ dx' fs', H3 a = some (.ins C dx' fs') ∧ fs'.length < 1000 ∧ D.nx σ (upd H3 a (.ins C dx' (putF f z fs')))

section
variable {X : Cx} {o e value : Expr} {f : Str} {pos pos' tpos : Pos} {ta tv : TE}
theorem pe_fld (he : PE X e ta) (hb : attributeBase e f X.env (eval e X.env) = eval e X.env) : PE X (.Attribute e f pos) (tFld X.K ta f) := by
  intro pins s σ H Q I h
  refine attr_of hb (thn (he pins s σ H _ I h) fun u s1 hpat => ?_)
  obtain ⟨x, H1, I1, rx, a, C, dx, fs, v, ex, ea, c, n, l, q⟩ := hpat
  subst ex
  obtain rfl : u = Value.ref a := rx
  exact getattr_ok I1 ea c n l fun u' s2 I2 ru => ⟨v, H1, I2, ru, q⟩
theorem ps_fld (ha : PE X o ta) (hv : PE X value tv) (hs : swapsWith value (some (.Attribute o f pos')) pos.line X.env = pure false) : PS X (.Assign [.Attribute o f pos'] value pos) (sFld X.K ta tv f) := by
  intro pins s σ H D I h
  refine plainObj_wpAny_Assign_Attribute (thn (hv pins s σ H _ I h) fun u s1 ⟨y, H1, I1, ry, q⟩ => thn (ha pins s1 σ H1 _ I1 q) fun ov s2 hpat => ?_) hs
  obtain ⟨x, H2, I2, rx, a, C, dx, fs, ex, ea, c, n, l, q2⟩ := hpat
  subst ex
  obtain rfl : ov = Value.ref a := rx
  exact setattr_ok I2 ea c n l ry fun s3 I3 => ⟨σ, _, I3, q2⟩
def rAdd : V → V → Hp → VK → Prop := fun x y H Q => ∃ i j, x = .int i ∧ y = .int j ∧ Q (.int (i + j)) H
def rSub : V → V → Hp → VK → Prop := fun x y H Q => ∃ i j, x = .int i ∧ y = .int j ∧ Q (.int (i - j)) H

end

/-! ### isinstance -/
section
variable {X : Cx} {pins : List (Addr × Obj)} {σ : St} {H : Hp} {s : Shared} {A : Around} {E : Value → Shared → Prop} {Q : Value → Shared → Prop} {c : Value} {b : Bool}
/-- the type of a value, as the fragment's deciders take it; for an instance its class -/
inductive TyOf (K : PySem.W.Frag) (H : Hp) : V → Value → Prop where
  | non : TyOf K H .non (.type "NoneType")
  | bl (x : Bool) : TyOf K H (.bl x) (.type "bool")
  | int (i : Int) : TyOf K H (.int i) (.type "int")
  | str (x : Str) : TyOf K H (.str x) (.type "str")
  | flt (x : UInt64) : TyOf K H (.flt x) (.type "float")
  | lst {a : Addr} {xs : List V} (e : H a = some (.lst xs)) : TyOf K H (.ref a) (.type "list")
  | frz {a : Addr} {o : Obj} {xs : List V} (e : H a = some (.frz o (.lst xs))) : TyOf K H (.ref a) (.type "list")
  | tup {a : Addr} {xs : List V} (e : H a = some (.tup xs)) : TyOf K H (.ref a) (.type "tuple")
  | dK {a : Addr} {kvs : List (Key × V)} (e : H a = some (.dK kvs)) : TyOf K H (.ref a) (.type "dict")
  | dT {a : Addr} {kvs : List (List Key × V)} (e : H a = some (.dT kvs)) : TyOf K H (.ref a) (.type "dict")
  | ins {a C dx : Addr} {fs : List (Str × V)} (e : H a = some (.ins C dx fs)) (cl : Cls K C) (ha : PySem.W.findIn K (.ref C) "__class__" = some (some (.builtin "object.__class__")))
      (hn : PySem.W.specialIn K (.builtin "object.__class__") "__get__" = some (some (.builtin "getset_descriptor.__get__"))) (htk : PySem.W.takesIn K (.builtin "object.__class__") = some true)
      (hm : PySem.W.mroIn K C (.type "object") = some true) : TyOf K H (.ref a) (.ref C)
/-- isinstance(x, c) for one class c, a built-in or an own one: kitOne's answer -/
theorem isinst_ok {x : V} {u t : Value} (I : Inv X pins σ H s) (rx : RelV x u) (ty : TyOf X.K H x t) (e : PySem.W.kitOne X.K t c = some b) (h : ∀ tk, Q (.bool b) { s with toks := tk }) :
    wpAny (model X.prog X.w) A (call (.builtin "isinstance") [u, c]) Q E s := by
  cases ty with
  | non => cases (show u = Value.none from rx); exact PySem.W.kia_one PySem.W.kitx_none I.kIn True.intro e (fun z => nomatch z) h
  | bl y => cases (show u = Value.bool y from rx); exact PySem.W.kia_one PySem.W.kitx_bool I.kIn True.intro e (fun z => nomatch z) h
  | int i => obtain ⟨t, q⟩ := (show ∃ t, u = Value.int i t from rx); cases q; exact PySem.W.kia_one PySem.W.kitx_int I.kIn True.intro e (fun z => nomatch z) h
  | str y => obtain ⟨t, q⟩ := (show ∃ t, u = Value.str y t from rx); cases q; exact PySem.W.kia_one PySem.W.kitx_str I.kIn True.intro e (fun z => nomatch z) h
  | flt y => obtain ⟨t, q⟩ := (show ∃ t, u = Value.float y t from rx); cases q; exact PySem.W.kia_one PySem.W.kitx_float I.kIn True.intro e (fun z => nomatch z) h
  | @lst a xs ea =>
    cases (show u = Value.ref a from rx)
    obtain ⟨_, _, n, _, h1⟩ := (show ObjOk X.prog X.w H s.heap a (.lst xs) from I.hok a _ ea)
    exact PySem.W.kia_one PySem.W.kitx_list I.kIn ⟨_, h1, rfl⟩ e (fun z => nomatch z) h
  | @frz a ob xs ea =>
    cases (show u = Value.ref a from rx)
    obtain ⟨_, _, _, n, _, h1⟩ := (show ObjOk X.prog X.w H s.heap a (.frz ob (.lst xs)) from I.hok a _ ea)
    exact PySem.W.kia_one PySem.W.kitx_list I.kIn ⟨_, h1, rfl⟩ e (fun z => nomatch z) h
  | @tup a xs ea =>
    cases (show u = Value.ref a from rx)
    obtain ⟨_, _, _, p⟩ := (show ObjOk X.prog X.w H s.heap a (.tup xs) from I.hok a _ ea)
    obtain ⟨o, h1, h2, _⟩ := p
    exact PySem.W.kia_one PySem.W.kitx_tuple I.kIn ⟨o, h1, h2⟩ e (fun z => nomatch z) h
  | @dK a kvs ea =>
    cases (show u = Value.ref a from rx)
    obtain ⟨_, _, vs, _, p⟩ := (show ObjOk X.prog X.w H s.heap a (.dK kvs) from I.hok a _ ea)
    obtain ⟨o, es, ep, h1, h2, _⟩ := p
    exact PySem.W.kia_one PySem.W.kitx_dict I.kIn ⟨o, h1, h2.1⟩ e (fun z => nomatch z) h
  | @dT a kvs ea =>
    cases (show u = Value.ref a from rx)
    obtain ⟨_, _, xs, _, o, es, ep, h1, h2, _⟩ := (show ObjOk X.prog X.w H s.heap a (.dT kvs) from I.hok a _ ea)
    exact PySem.W.kia_one PySem.W.kitx_dict I.kIn ⟨o, h1, h2.1⟩ e (fun z => nomatch z) h
  | @ins a C dx fs ea cl ha hn htk hm =>
    cases (show u = Value.ref a from rx)
    obtain ⟨mA, O, _⟩ := ins_get I.hok ea
    obtain ⟨od, J, _⟩ := O.look
    exact PySem.W.kia_one (PySem.W.kitx_own (cl.get _) cl.hd ha hn htk hm) I.kIn J e (fun z => nomatch z) h
end
end L2

namespace L2
open PySem PySem.Spec PyProof.Rows

/-! ### room -/
structure Room (k : Nat) (A : Around) : Prop where
  hd : A.handled = none
  dp : A.depth + 3 * k + 5 < recursionLimit
  un : A.units + 16 * k + 200 < cLine
theorem Room.mono {j k : Nat} {A : Around} (r : Room k A) (h : j ≤ k) : Room j A := ⟨r.hd, by have := r.dp; omega, by have := r.un; omega⟩
theorem Room.deeper {k : Nat} {A : Around} (r : Room (k + 1) A) (env : Env) : Room k (A.deeper env) :=
  ⟨r.hd, by have := r.dp; show A.depth + 1 + 3 * k + 5 < _; omega, by have := r.un; show A.units + 3 + 16 * k + 200 < _; omega⟩
theorem make_depth {A : Around} {C : Addr} {us : List Value} {kw : List (Str × Value)} : (A.under (.builtin "type.__call__" ⟨.ref C :: us, kw⟩)).depth = A.depth + 1 := by
  first | rfl | simp [Around.under, Code.weight, Code.isCreation, Code.isGuard, Code.isCaller, Code.frames, Code.isFrame, guardIds]
theorem make_units {A : Around} {C : Addr} {us : List Value} {kw : List (Str × Value)} : (A.under (.builtin "type.__call__" ⟨.ref C :: us, kw⟩)).units = A.units + 1 := by
  first | rfl | simp [Around.under, Code.cUnits, Code.frames, Code.isFrame]
theorem Room.make {k : Nat} {A : Around} (r : Room (k + 1) A) (C : Addr) (us : List Value) (kw : List (Str × Value)) : Room k (A.under (.builtin "type.__call__" ⟨.ref C :: us, kw⟩)) :=
  ⟨r.hd, by have := r.dp; rw [make_depth]; omega, by have := r.un; rw [make_units]; omega⟩
theorem Room.depth {k : Nat} {A : Around} (r : Room k A) : A.depth < recursionLimit := by have := r.dp; omega
theorem Room.units {k : Nat} {A : Around} (r : Room k A) : A.units + 64 < cLine := by have := r.un; omega

/-! ### argument lists and displays -/
def tNil : TA := fun _ H Q => Q [] H
def tCons (ta : TE) (tr : TA) : TA := fun σ H Q => ta σ H fun x H1 => tr σ H1 fun xs H2 => Q (x :: xs) H2
section
variable {X : Cx} {e : Expr} {es : List Expr} {te : TE} {t : TA} {pos : Pos}
theorem pa_nil : PA X [] tNil := fun _ _ _ _ H Q I h => Calls.spliced_nil ⟨[], H, I, .nil, h⟩
theorem pa_cons (ha : PE X e te) (hr : PA X es t) (hs : starEach (e :: es) X.env = (false, eval e X.env) :: starEach es X.env := by rfl) : PA X (e :: es) (tCons te t) := by
  intro pos pins s σ H Q I h
  rw [hs]
  show wpAny _ _ (spliced ((false, eval e X.env) :: backTo pos (starEach es X.env))) _ _ s
  refine Calls.spliced_cons (thn (ha pins s σ H _ I h) fun u s1 hpat => ?_)
  obtain ⟨x, H1, I1, r1, q1⟩ := hpat
  exact thn (hr pos pins s1 σ H1 _ I1 q1) fun us s2 ⟨xs, H2, I2, r2, q2⟩ => ⟨x :: xs, H2, I2, .cons r1 r2, q2⟩

/-- a tuple, a list of written items -/
def tTup (t : TA) : TE := fun σ H Q => t σ H fun xs H1 => xs.length ≤ sizeLine ∧ ∀ p, H1 p = none → Q (.ref p) (upd H1 p (.tup xs))
def tLst (t : TA) : TE := fun σ H Q => t σ H fun xs H1 => xs.length ≤ sizeLine ∧ ∀ p, H1 p = none → Q (.ref p) (upd H1 p (.lst xs))
theorem pe_tup {x1} (h : PA X es t) : PE X (.Tuple es x1 pos) (tTup t) := by
  intro pins s σ H Q I hq
  refine wpAny_Tuple_spliced (thn (h pos pins s σ H _ I hq) fun us s1 ⟨xs, H1, I1, r, z, q⟩ => ⟨by rw [← r.length]; exact z, ?_⟩)
  have hf : H1 s1.heap.objs.size = none := I1.hok.fresh (Nat.le_refl _)
  refine ⟨.ref s1.heap.objs.size, upd H1 s1.heap.objs.size (.tup xs), I1.laid (t' := s1.toks) (fun b u e => Heap.get?_push_of_some _ e) (Nat.le_refl _) ?_, rfl, q _ hf⟩
  exact ⟨z, us, r, ⟨_, Heap.get?_push_size _ rfl, rfl, _, rfl⟩⟩
theorem pe_lst (h : PA X es t) : PE X (.List es pos) (tLst t) := by
  intro pins s σ H Q I hq
  refine wpAny_List_spliced (thn (h pos pins s σ H _ I hq) fun us s1 ⟨xs, H1, I1, r, z, q⟩ => ⟨by rw [← r.length]; exact z, ?_⟩)
  have hf : H1 s1.heap.objs.size = none := I1.hok.fresh (Nat.le_refl _)
  refine ⟨.ref s1.heap.objs.size, upd H1 s1.heap.objs.size (.lst xs), I1.laid (t' := s1.toks) (fun b u e => Heap.get?_push_of_some _ e) (Nat.le_refl _) ?_, rfl, q _ hf⟩
  exact ⟨z, us, 0, r, Heap.get?_push_size _ rfl⟩
end

/-! ### what a def promises -/
/-- a def's promise: the bound arguments in the parameters' order, the heap, the wanted end, the wanted exception -/
abbrev Sp := List V → Hp → VK → XK → Prop
/-- how an exception lies behind a call (file 08 gives it): the callers' frames, abstract heap and state ahead of the call, the wish, the exception, the state -/
abbrev CXT := List Env → Hp → Shared → XK → Value → Shared → Prop

/-- the state at a call -/
structure Env0 (P : Program) (w : World) (K : PySem.W.Frag) (mg : Str → Option Value) (base : Heap) (A : Around) (outer : List Env) (s : Shared) (H : Hp) : Prop where
  frames : A.frames = some outer
  mod : Mod K mg base
  bs : ∀ b o, base.get? b = some o → s.heap.get? b = some o ∧ H b = none
  bsz : base.objs.size ≤ s.heap.objs.size
  funs : s.heap.FunFrames base outer
  frf : ∀ b ∈ frs outer, H b = none
  hok : HOk P w H s.heap
  bare : AllBare s.gens
/-- a call's end -/
def CE (outer : List Env) (P : Program) (w : World) (H : Hp) (s : Shared) (Q : VK) (u : Value) (s' : Shared) : Prop :=
  ∃ v H', s'.os = s.os ∧ AllBare s'.gens ∧ Un (frs outer) [] H H' s.heap s'.heap ∧ HOk P w H' s'.heap ∧ RelV v u ∧ Q v H'
def CR (CX : CXT) (outer : List Env) (P : Program) (w : World) (H : Hp) (s : Shared) (Q : VK) (E : XK) (r : Result) (s' : Shared) : Prop :=
  match r with
  | .ok (.ret u) => CE outer P w H s Q u s'
  | .ok _ => False
  | .error e => CX outer H s E e s'
structure FnOk (P : Program) (w : World) (K : PySem.W.Frag) (mg : Str → Option Value) (base : Heap) (CX : CXT) (k : Nat) (f : Addr) (fd : FuncData) (ps : List Str) (sp : Sp) : Prop where
  len : ∀ vs H Q E, sp vs H Q E → vs.length = ps.length
  run : ∀ (A : Around) (outer : List Env) (s : Shared) (H : Hp) (args : Args) (us : List Value) (vs : List V) (Q : VK) (E : XK), Room k A → Env0 P w K mg base A outer s H → BindsTo s fd args (ps.zip us) → Vals vs us → sp vs H Q E →
    codeAny (model P w) A (.call (.ref f) args) (CR CX outer P w H s Q E) s

theorem Env0.make {P : Program} {w : World} {K : PySem.W.Frag} {mg : Str → Option Value} {base : Heap} {A : Around} {outer : List Env} {s : Shared} {H : Hp} (e : Env0 P w K mg base A outer s H) (C : Addr) (us : List Value) (kw : List (Str × Value)) :
    Env0 P w K mg base (A.under (.builtin "type.__call__" ⟨.ref C :: us, kw⟩)) outer s H := ⟨by first | exact e.frames | (simpa [Around.under, Code.envs, Code.isFrame, pushEnvs] using e.frames), e.mod, e.bs, e.bsz, e.funs, e.frf, e.hok, e.bare⟩

section
variable {X : Cx} {pins : List (Addr × Obj)} {σ : St} {H : Hp} {s s' : Shared}
/-- from a body: what a callee wants -/
theorem Inv.env0 (I : Inv X pins σ H s) : Env0 X.prog X.w X.K X.mg X.base X.A X.stack s H :=
  ⟨I.ok.frames, I.ok.mod, I.bs, Nat.le_trans I.ok.bsz I.sz, I.stack, I.stkFree, I.hok, I.bare⟩
/-- behind a call -/
theorem Inv.after {Q : VK} {u : Value} (I : Inv X pins σ H s) (h : CE X.stack X.prog X.w H s Q u s') : EP X pins σ Q u s' := by
  obtain ⟨v, H', os, bare, un, hok, r, q⟩ := h
  obtain ⟨hh, g, d, t, os'⟩ := s'
  obtain rfl : os' = s.os := os
  exact ⟨v, H', I.call (h' := hh) (g' := g) (d' := d) (t' := t) (ch := []) un hok bare (fun b z => absurd z (by simp)), r, q⟩
end

/-! ### calls -/
/-- f(..): the written arguments, then the defaults dvs; E: what is wanted of an exception -/
def tCall (sp : Sp) (dvs : List V) (E : XK) (t : TA) : TE := fun σ H Q => t σ H fun vs H1 => sp (vs ++ dvs) H1 Q E
inductive MethP (C : Addr) (m : Str) (x : V) (H : Hp) (G : Prop) : Prop
  | mk (a dx : Addr) (fs : List (Str × V)) (hx : x = .ref a) (h : H a = some (.ins C dx fs)) (l : fs.lookup m = none) (q : G)
/-- o.m(..) of an instance of the class at C -/
def tMeth (C : Addr) (m : Str) (sp : Sp) (dvs : List V) (E : XK) (ta : TE) (t : TA) : TE := fun σ H Q => ta σ H fun x H1 => MethP C m x H1 (t σ H1 fun vs H2 => sp (x :: (vs ++ dvs)) H2 Q E)
/-- C(..): a new instance and its dict, then __init__ -/
def tMake (C : Addr) (sp : Sp) (dvs : List V) (E : XK) (t : TA) : TE := fun σ H Q => t σ H fun vs H1 => ∀ x dx, H1 x = none → H1 dx = none → dx ≠ x →
  sp (.ref x :: (vs ++ dvs)) (upd (upd H1 dx (.own x)) x (.ins C dx [])) (fun v H2 => v = .non ∧ Q (.ref x) H2) E

/-- how the parameters are bound: us the positional arguments, kw the keywords' values by name, ds the defaults that fill up -/
def Binds (K : PySem.W.Frag) (fd : FuncData) (ps : List Str) (ds : List Value) : Prop :=
  ∀ (s : Shared) (us : List Value), K.In s.heap → (us ++ ds).length = ps.length → BindsTo s fd ⟨us, []⟩ (ps.zip (us ++ ds))
/-- every parameter is given -/
theorem Binds.all {K : PySem.W.Frag} {fd : FuncData} {ps : List Str} (h : ∀ us : List Value, us.length = ps.length → bindArgs fd ⟨us, []⟩ = pure (ps.zip us)) : Binds K fd ps [] := fun s us _ hl => by
  rw [List.append_nil] at hl ⊢
  exact .of_eq (h us hl)

/-- an exception of a callee reaches what this body wants of exceptions -/
def Passes (CX : CXT) (X : Cx) (E : XK) : Prop := ∀ (pins : List (Addr × Obj)) (σ : St) (H : Hp) (s : Shared) (e : Value) (s' : Shared), Inv X pins σ H s → CX X.stack H s E e s' → X.xe e s'

section
variable {X : Cx} {CX : CXT} {k : Nat} {f C : Addr} {fd : FuncData} {ps : List Str} {sp : Sp} {dvs : List V} {ds : List Value} {E : XK} {x m : Str} {p pos apos : Pos} {e o : Expr} {es : List Expr} {ta : TE} {t : TA}

/-- the callee runs -/
theorem run_fn {pins : List (Addr × Obj)} {σ : St} {H : Hp} {s : Shared} {Q : VK} {us : List Value} {vs : List V} (F : FnOk X.prog X.w X.K X.mg X.base CX k f fd ps sp) (hr : Room k X.A) (hb : Binds X.K fd ps ds) (hd : Vals dvs ds) (hx : Passes CX X E)
    (I : Inv X pins σ H s) (r : Vals vs us) (h : sp (vs ++ dvs) H Q E) : wpAny (model X.prog X.w) X.A (call (.ref f) us) (EP X pins σ Q) X.xe s := by
  have r2 : Vals (vs ++ dvs) (us ++ ds) := r.append hd
  have hl : (us ++ ds).length = ps.length := by rw [← r2.length]; exact F.len _ _ _ _ h
  refine wpAny_call (codeAny_mono (F.run X.A X.stack s H ⟨us, []⟩ (us ++ ds) (vs ++ dvs) Q E hr I.env0 (hb s us I.kIn hl) r2 h) fun r s' hq => ?_)
  cases r with
  | error e => exact hx pins σ H s e s' I hq
  | ok fl =>
    cases fl with
    | ret u => exact I.after hq
    | next => exact False.elim hq
    | brk => exact False.elim hq
    | cont => exact False.elim hq

theorem pe_call (F : FnOk X.prog X.w X.K X.mg X.base CX k f fd ps sp) (hr : Room k X.A) (hg : Gl X x) (hm : X.mg x = some (.ref f)) (hk : PySem.W.keepIn X.K (.ref f) = true) (hb : Binds X.K fd ps ds) (hd : Vals dvs ds) (hx : Passes CX X E)
    (ha : PA X (e :: es) t) (hdb : (x == ("__debug__" : Str)) = false := by decide) (he : starEach (e :: es) X.env = (false, eval e X.env) :: starEach es X.env := by rfl) (hpl : (backTo pos (starEach es X.env)).any (·.1) = false := by rfl) :
    PE X (.Call (.Name x p) (e :: es) [] pos) (tCall sp dvs E t) := by
  intro pins s σ H Q I h
  refine wpAny_Call_Name_kw (ld_glob I hg hm ?_ hdb)
  refine PySem.W.callWith_K (h₀ := X.base) I.ok.mod.kin hk (thn (ha pos pins s σ H _ I h) fun us s1 ⟨vs, H1, I1, r, q⟩ => ⟨I1.kIn, ?_⟩) he hpl
  exact run_fn F hr hb hd hx I1 r q

/-- o.m() -/
theorem pe_meth0 {pl : Sem Bool} (he : PE X o ta) (c : Cls X.K C) (hm : Meth X.K C m f) (F : FnOk X.prog X.w X.K X.mg X.base CX k f fd ps sp) (hr : Room k X.A) (hb : Binds X.K fd ps ds) (hd : Vals dvs ds) (hx : Passes CX X E)
    (ht : eval (.Call (.Attribute o m apos) [] [] pos) X.env = (do
      let ov ← eval o X.env
      standAt apos.atName
      let (f, first) ← holding [ov] (getMethod ov m pl)
      callWith pos f first (backTo pos (starEach [] X.env)) (backToKw pos (keywordEach [] X.env))) := by rfl) :
    PE X (.Call (.Attribute o m apos) [] [] pos) (tMeth C m sp dvs E ta tNil) := by
  intro pins s σ H Q I h
  refine PySem.W.methodCall_KW (pl := pl) (thn (he pins s σ H _ I h) fun u s1 hpat => ?_) ht
  obtain ⟨x, H1, I1, rx, a, dx, fs, ex, ea, l, q⟩ := hpat
  subst ex
  obtain rfl : u = Value.ref a := rx
  refine getmeth_ok I1 ea c hm l ?_
  exact PySem.W.callWith_K0 (first := [.ref a]) I1.kIn hm.kp (run_fn (us := [.ref a]) (vs := [.ref a]) F hr hb hd hx I1 (.cons rfl .nil) q)

/-- what a class must have to be made -/
structure Mk (K : PySem.W.Frag) (C f : Addr) : Prop where
  makes : PySem.W.makesIn K C = true
  init : PySem.W.findIn K (.ref C) "__init__" = some (some (.ref f))
  fn : PySem.W.isFn K (.ref f) = true
  kp : PySem.W.keepIn K (.ref C) = true

theorem run_make {pins : List (Addr × Obj)} {σ : St} {H : Hp} {s : Shared} {Q : VK} {us : List Value} {vs : List V} (M : Mk X.K C f) (F : FnOk X.prog X.w X.K X.mg X.base CX k f fd ps sp) (hr : Room (k + 1) X.A) (hb : Binds X.K fd ps ds) (hd : Vals dvs ds)
    (hx : Passes CX X E) (I : Inv X pins σ H s) (r : Vals vs us)
    (h : ∀ x dx, H x = none → H dx = none → dx ≠ x → sp (.ref x :: (vs ++ dvs)) (upd (upd H dx (.own x)) x (.ins C dx [])) (fun v H2 => v = .non ∧ Q (.ref x) H2) E) :
    wpAny (model X.prog X.w) X.A (call (.ref C) us) (EP X pins σ Q) X.xe s := by
  have hq := h (s.heap.objs.size + 1) s.heap.objs.size (I.hok.fresh (Nat.le_succ _)) (I.hok.fresh (Nat.le_refl _)) (Nat.ne_of_lt (Nat.lt_succ_self _))
  have I2 := Inv.made (C := C) I
  have r2 : Vals (V.ref (s.heap.objs.size + 1) :: (vs ++ dvs)) (Value.ref (s.heap.objs.size + 1) :: (us ++ ds)) := .cons rfl (r.append hd)
  have hl : (Value.ref (s.heap.objs.size + 1) :: us ++ ds).length = ps.length := by
    have e := r2.length
    rw [F.len _ _ _ _ hq] at e
    exact e.symm
  refine wpAny_call (make_map (f := f) I.kIn M.makes M.init (beq_iff_eq.mp M.fn) (codeAny_mono (F.run _ X.stack _ _ ⟨Value.ref (s.heap.objs.size + 1) :: us, []⟩ (Value.ref (s.heap.objs.size + 1) :: (us ++ ds)) _ _ E (hr.make C us [])
    (I2.env0.make C us []) (hb _ (Value.ref (s.heap.objs.size + 1) :: us) I2.kIn hl) r2 hq) fun r s' hq' => ?_))
  cases r with
  | error e => exact hx pins σ _ _ e s' I2 hq'
  | ok fl =>
    cases fl with
    | ret u =>
      obtain ⟨v, H', I3, rv, ev, q3⟩ := I2.after hq'
      subst ev
      exact ⟨rv, ⟨V.ref (s.heap.objs.size + 1), H', I3, rfl, q3⟩⟩
    | next => exact False.elim hq'
    | brk => exact False.elim hq'
    | cont => exact False.elim hq'
theorem pe_make (M : Mk X.K C f) (F : FnOk X.prog X.w X.K X.mg X.base CX k f fd ps sp) (hr : Room (k + 1) X.A) (hg : Gl X x) (hm : X.mg x = some (.ref C)) (hb : Binds X.K fd ps ds) (hd : Vals dvs ds) (hx : Passes CX X E)
    (ha : PA X (e :: es) t) (hdb : (x == ("__debug__" : Str)) = false := by decide) (he : starEach (e :: es) X.env = (false, eval e X.env) :: starEach es X.env := by rfl) (hpl : (backTo pos (starEach es X.env)).any (·.1) = false := by rfl) :
    PE X (.Call (.Name x p) (e :: es) [] pos) (tMake C sp dvs E t) := by
  intro pins s σ H Q I h
  refine wpAny_Call_Name_kw (ld_glob I hg hm ?_ hdb)
  refine PySem.W.callWith_K (h₀ := X.base) I.ok.mod.kin M.kp (thn (ha pos pins s σ H _ I h) fun us s1 ⟨vs, H1, I1, r, q⟩ => ⟨I1.kIn, ?_⟩) he hpl
  exact run_make M F hr hb hd hx I1 r q
end

/-! ### keywords -/
/-- the values of the keywords, from the left -/
def PK (X : Cx) (kws : List Keyword) (t : TA) : Prop :=
  ∀ (pos : Pos) (pins : List (Addr × Obj)) (s : Shared) (σ : St) (H : Hp) (Q : List V → Hp → Prop), Inv X pins σ H s → t σ H Q → wpAny (model X.prog X.w) X.A (evalAll ((backToKw pos (keywordEach kws X.env)).map (·.2))) (AP X pins σ Q) X.xe s
section
variable {X : Cx} {CX : CXT} {k : Nat} {f C : Addr} {fd : FuncData} {ps ks : List Str} {sp : Sp} {E : XK} {x m : Str} {p pos apos kpos : Pos} {e o : Expr} {es : List Expr} {kws : List Keyword} {te ta : TE} {t tk : TA} {nm : Option Str}

/-- how a call with keywords binds: g puts the positional values us and the keywords' values ws (names ks) in the parameters' order, defaults among them -/
structure KBinds (K : PySem.W.Frag) (fd : FuncData) (ps ks : List Str) (g : List Value → List Value → List Value) (gV : List V → List V → List V) : Prop where
  to : ∀ (s : Shared) (us ws : List Value), K.In s.heap → (g us ws).length = ps.length → BindsTo s fd ⟨us, ks.zip ws⟩ (ps.zip (g us ws))
  rel : ∀ {vs : List V} {us : List Value} {zs : List V} {ws : List Value}, Vals vs us → Vals zs ws → Vals (gV vs zs) (g us ws)
def tCallK (sp : Sp) (gV : List V → List V → List V) (E : XK) (t tk : TA) : TE := fun σ H Q => t σ H fun vs H1 => tk σ H1 fun zs H2 => sp (gV vs zs) H2 Q E
variable {g : List Value → List Value → List Value} {gV : List V → List V → List V}
end

/-! ### a def's body keeps its promise -/
/-- names: the parameters first -/
structure FnScope (N P : List Str) (sc : Scope) : Prop where
  kind : sc.kind = .function
  co : sc.isCoroutine = false
  gen : sc.isGenerator = false
  nd : N.Nodup
  pre : N.take P.length = P
  par : ∀ x ∈ P, sc.names.lookup x = some .local ∨ sc.names.lookup x = some .cell
  nofree : ∀ y ∈ sc.names, y.2 ≠ .free

theorem bindL_out {kindOf : Str → Option NameKind} {x : Str} : ∀ {binds : List (Str × Value)} {m : Str → Option Value}, (∀ v, (x, v) ∉ binds) → bindL kindOf binds m x = m x
  | [], _, _ => rfl
  | (n, v) :: r, m, h => by
    unfold bindL
    rw [bindL_out fun w hw => h w (List.mem_cons_of_mem _ hw)]
    split
    · have : x ≠ n := by rintro rfl; exact h v List.mem_cons_self
      simp [this]
    · rfl
theorem bindC_out {kindOf : Str → Option NameKind} {x : Str} : ∀ {binds : List (Str × Value)} {m : Str → Option Value}, (∀ v, (x, v) ∉ binds) → bindC kindOf binds m x = m x
  | [], _, _ => rfl
  | (n, v) :: r, m, h => by
    unfold bindC
    rw [bindC_out fun w hw => h w (List.mem_cons_of_mem _ hw)]
    split
    · rfl
    · have : x ≠ n := by rintro rfl; exact h v List.mem_cons_self
      simp [this]
theorem bindL_get {kindOf : Str → Option NameKind} {x : Str} {v : Value} : ∀ {P : List Str} {vs : List Value} {i : Nat} {m : Str → Option Value}, P.Nodup → P[i]? = some x → vs[i]? = some v → kindOf x = some .local →
    bindL kindOf (P.zip vs) m x = some v
  | [], _, _, _, _, h, _, _ => by simp at h
  | _ :: _, [], _, _, _, _, h, _ => by simp at h
  | p :: P, w :: vs, 0, m, nd, h1, h2, hk => by
    simp at h1 h2; subst h1; subst h2
    show bindL kindOf ((p, w) :: P.zip vs) m p = _
    unfold bindL
    rw [bindL_out fun v hv => (List.nodup_cons.mp nd).1 (List.of_mem_zip hv).1, if_pos hk]
    simp
  | p :: P, w :: vs, i + 1, m, nd, h1, h2, hk => by
    show bindL kindOf ((p, w) :: P.zip vs) m x = _
    unfold bindL
    exact bindL_get (i := i) (List.nodup_cons.mp nd).2 (by simpa using h1) (by simpa using h2) hk
theorem bindC_get {kindOf : Str → Option NameKind} {x : Str} {v : Value} : ∀ {P : List Str} {vs : List Value} {i : Nat} {m : Str → Option Value}, P.Nodup → P[i]? = some x → vs[i]? = some v → kindOf x ≠ some .local →
    bindC kindOf (P.zip vs) m x = some v
  | [], _, _, _, _, h, _, _ => by simp at h
  | _ :: _, [], _, _, _, _, h, _ => by simp at h
  | p :: P, w :: vs, 0, m, nd, h1, h2, hk => by
    simp at h1 h2; subst h1; subst h2
    show bindC kindOf ((p, w) :: P.zip vs) m p = _
    unfold bindC
    rw [bindC_out fun v hv => (List.nodup_cons.mp nd).1 (List.of_mem_zip hv).1, if_neg hk]
    simp
  | p :: P, w :: vs, i + 1, m, nd, h1, h2, hk => by
    show bindC kindOf ((p, w) :: P.zip vs) m x = _
    unfold bindC
    exact bindC_get (i := i) (List.nodup_cons.mp nd).2 (by simpa using h1) (by simpa using h2) hk

/-- the names' values at the entry -/
def start (N : List Str) (vs : List V) : St := vs.map some ++ List.replicate (N.length - vs.length) none

/-- the context of a def's body, at its entry; an exception leaves the frame, then lies as CX says -/
def cxOf (CX : CXT) (P : Program) (w : World) (K : PySem.W.Frag) (mg : Str → Option Value) (base : Heap) (N : List Str) (qual : Str) (scope : Scope) (f : Addr) (cd : Value) (A : Around) (outer : List Env) (s : Shared) (H : Hp) (E : XK) : Cx where
  prog := P
  w := w
  K := K
  mg := mg
  base := base
  A := A.deeper (envOfC qual scope s.heap.objs.size f cd)
  N := N
  s₀ := s
  H₀ := H
  env := envOfC qual scope s.heap.objs.size f cd
  outer := outer
  stack := envOfC qual scope s.heap.objs.size f cd :: outer
  ex := []
  calm := true
  fn := fun _ => true
  pn := []
  xe := fun e s' => wpAny (model P w) (A.deeper (envOfC qual scope s.heap.objs.size f cd)) (leaving (envOfC qual scope s.heap.objs.size f cd) e) (fun _ s'' => CX outer H s E e s'') (fun e' s'' => CX outer H s E e' s'') s'

theorem cell_has {sc : Scope} {n : Nat} {x : Str} (h : sc.names.lookup x = some .cell) : ∃ c, (cellsFrom n sc.names []).lookup x = some c := by
  have q := PySem.W.cellsFrom_some sc.names n [] (.inl h)
  exact Option.isSome_iff_exists.mp q

theorem inv_start {CX : CXT} {P : Program} {w : World} {K : PySem.W.Frag} {mg : Str → Option Value} {base : Heap} {N ps : List Str} {qual : Str} {scope : Scope} {f : Addr} {cd : Value} {A : Around} {outer : List Env} {s s1 : Shared} {H : Hp} {E : XK} {us : List Value} {vs : List V}
    (S : FnScope N ps scope) (hd : A.handled = none) (e0 : Env0 P w K mg base A outer s H) (hl : vs.length = ps.length) (r : Vals vs us)
    (x : InCallC s s.heap.objs.size (bindL (envOfC qual scope s.heap.objs.size f cd).kindOf (ps.zip us) fun _ => none) (cellsFrom (s.heap.objs.size + 1) scope.names []) (bindC (envOfC qual scope s.heap.objs.size f cd).kindOf (ps.zip us) fun _ => none) s1) :
    Inv (cxOf CX P w K mg base N qual scope f cd A outer s H E) [] (start N vs) H s1 := by
  have hpl : ps.length ≤ N.length := by have := congrArg List.length S.pre; rw [List.length_take] at this; omega
  obtain ⟨h1, tk, rfl, hk⟩ := x.done
  have noA : ∀ b : Addr, b ∉ (cxOf CX P w K mg base N qual scope f cd A outer s H E).ex := fun b z => absurd (show b ∈ ([] : List Addr) from z) (by simp)
  refine ⟨⟨e0.mod, S.kind, rfl, rfl, Nat.le_refl _, fun y z c h1 h2 => ?_, fun y hy => ?_, fun y c _ h => ?_, fun _ => hd, Around.frames_deeper e0.frames, .inr ⟨rfl, rfl⟩, fun b z => absurd z (noA b), e0.bs, e0.bsz, fun b _ _ => noA b, fun b z => absurd z (noA b), e0.funs, e0.frf⟩,
    rfl, e0.bare, Un.kept hk, ⟨_, x.toInCall.ns, fun i y v h1 h2 h3 => ?_⟩, fun y c h => ⟨_, x.cell y c h⟩, e0.hok.fresh (Nat.le_refl _), fun y c h => ?_, fun p hp => absurd (show p ∈ ([] : List (Addr × Obj)) from hp) (by simp), e0.hok.kept hk, ?_⟩
  · exact name_of_addr x.apart (PySem.mem_of_lookup h1) (PySem.mem_of_lookup h2)
  · have hy : scope.names.lookup y = some .cell ∨ scope.names.lookup y = some .free := hy
    rcases hy with hy | hy
    · exact cell_has hy
    · exact absurd rfl (S.nofree _ (PySem.mem_of_lookup hy))
  · exact Nat.le_of_lt (x.above y c (PySem.mem_of_lookup h))
  · have hi : i < vs.length := by
      unfold start at h2
      by_cases hi : i < vs.length
      · exact hi
      · rw [List.getElem?_append_right (by simpa using hi)] at h2
        rw [List.getElem?_replicate] at h2
        split at h2 <;> cases h2
    have ha : vs[i]? = some v := by
      unfold start at h2
      rw [List.getElem?_append_left (by simpa using hi), List.getElem?_map] at h2
      cases e : vs[i]? with
      | none => rw [e] at h2; cases h2
      | some a => rw [e] at h2; cases h2; rfl
    obtain ⟨u, hu, rv⟩ := r.get ha
    have hp : ps[i]? = some y := by
      rw [← S.pre, List.getElem?_take_of_lt (by omega)]; exact h1
    have ndP : ps.Nodup := by rw [← S.pre]; exact S.nd.sublist (List.take_sublist _ _)
    refine ⟨u, rv, ?_⟩
    rcases S.par y (List.mem_of_getElem? hp) with k | k
    · exact .inl ⟨k, bindL_get ndP hp hu k⟩
    · obtain ⟨c, e⟩ := cell_has (n := s.heap.objs.size + 1) k
      refine .inr ⟨.inl k, c, e, ?_⟩
      have q := x.cell y c e
      rw [bindC_get ndP hp hu (by show scope.names.lookup y ≠ _; rw [k]; decide)] at q
      exact q
  · exact e0.hok.fresh (Nat.le_of_lt (x.above y c (PySem.mem_of_lookup h)))
  · unfold start
    show _ = N.length
    rw [List.length_append, List.length_map, List.length_replicate]
    omega

/-- THE RULE: a def (or a method) of the text, by its body. The body's reading t is chosen for each entry; it is run at the parameters' values -/
theorem fn_of {CX : CXT} {P : Program} {w : World} {K : PySem.W.Frag} {mg : Str → Option Value} {base : Heap} {k : Nat} {f : Addr} {name qual : Str} {params : Arguments} {body : List Stmt} {scope : Scope} {dV kV doc pm cdv ct oc : Value} {an od : Option Addr}
    {osl : Array (Option Value)} {N ps : List Str} {sp : Sp} (lk : K.lookup f = some ⟨oc, od, .func (PySem.W.fnOf name qual params body scope dV kV doc pm an cdv ct), osl⟩) (hcd : PySem.W.codeIn K cdv qual = true) (S : FnScope N ps scope)
    (len : ∀ vs H Q E, sp vs H Q E → vs.length = ps.length)
    (hbody : ∀ (A : Around) (outer : List Env) (s : Shared) (H : Hp) (vs : List V) (Q : VK) (E : XK), Room k (A.deeper (envOfC qual scope s.heap.objs.size f cdv)) → sp vs H Q E →
      ∃ t, PSs (cxOf CX P w K mg base N qual scope f cdv A outer s H E) body t ∧ t { nx := fun _ H' => Q .non H', rt := Q } (start N vs) H) :
    FnOk P w K mg base CX (k + 1) f (PySem.W.fnOf name qual params body scope dV kV doc pm an cdv ct) ps sp := by
  refine ⟨len, fun A outer s H args us vs Q E hr e0 hb r hsp => ?_⟩
  have hl := len _ _ _ _ hsp
  have KX : K.In s.heap := e0.mod.kin.keeps fun b o e => (e0.bs b o e).1
  have lim : s.heap.NoLimit := e0.mod.nolimit.keeps fun b o e => (e0.bs b o e).1
  have hkind : ∀ y ∈ ps.zip us, scope.names.lookup y.1 = some .local ∨ (scope.names.lookup y.1 = some .cell ∧ ((cellsFrom (s.heap.objs.size + 1) scope.names []).lookup y.1).isSome = true) := fun ⟨n, v⟩ hy => by
    rcases S.par n (List.of_mem_zip hy).1 with q | q
    · exact .inl q
    · exact .inr ⟨q, PySem.W.cellsFrom_some _ _ _ (.inl q)⟩
  refine codeAny_call_function hr.depth (KX _ _ lk) rfl S.co S.gen rfl (PySem.W.codeRec_of KX hcd) (hb _ _ _ _ ?_)
  refine wpAny_newFunctionEnv_cells S.kind hkind fun env he s1 x => ?_
  subst he
  refine ⟨lim.keeps x.toInCall.keep, codeAny_func ?_⟩
  obtain ⟨t, ht, hq⟩ := hbody A outer s H vs Q E (hr.deeper _) hsp
  have I : Inv (cxOf CX P w K mg base N qual scope f cdv A outer s H E) [] (start N vs) H s1 := inv_start S hr.hd e0 hl r x
  refine wpAny_mono (ht [] s1 (start N vs) H _ I hq) (fun fl s' hs => ?_) fun e s' hs => hs
  have fin : ∀ {σ' : St} {H' : Hp} {v : V} {u : Value}, Inv (cxOf CX P w K mg base N qual scope f cdv A outer s H E) [] σ' H' s' → RelV v u → Q v H' → CE outer P w H s Q u s' :=
    fun {σ' H' v u} J rv q => ⟨v, H', J.os, J.bare, J.base, J.hok, rv, q⟩
  cases fl with
  | ret u =>
    obtain ⟨v, σ', H', J, rv, q⟩ := hs
    exact fin J rv q
  | next =>
    obtain ⟨σ', H', J, q⟩ := hs
    exact fin (v := V.non) (u := Value.none) J rfl q
  | brk =>
    obtain ⟨_, _, _, q⟩ := hs
    exact False.elim q
  | cont =>
    obtain ⟨_, _, _, q⟩ := hs
    exact False.elim q
end L2

namespace L2
open PySem PySem.Spec PyProof.Rows
section
variable {X : Cx} {x : Str} {p pos : Pos} {e : Expr} {es : List Expr} {t : TA} {id T : String} {r : List V → Hp → VK → Prop}

def tCB (r : List V → Hp → VK → Prop) (t : TA) : TE := fun σ H Q => t σ H fun vs H1 => r vs H1 Q
/-- f(e, ..), f a built-in function -/
theorem pe_callB (hc : CallR X (.builtin id) r) (hg : Gl X x) (hm : X.mg x = none) (hv : bootBuiltins x = some (.builtin id)) (ha : PA X (e :: es) t) (hn : x ≠ "__name__" := by decide) (hdb : (x == ("__debug__" : Str)) = false := by decide)
    (he : starEach (e :: es) X.env = (false, eval e X.env) :: starEach es X.env := by rfl) (hpl : (backTo pos (starEach es X.env)).any (·.1) = false := by rfl) : PE X (.Call (.Name x p) (e :: es) [] pos) (tCB r t) := by
  intro pins s σ H Q I h
  refine wpAny_Call_Name_kw (ld_blt I hg hm hv ?_ hn hdb)
  exact PyProof.Rows.callWith_builtin1 (thn (ha pos pins s σ H _ I h) fun us s1 ⟨vs, H1, I1, r1, q1⟩ => hc pins s1 σ H1 vs us Q I1 r1 q1) he hpl
/-- T(e, ..), T a built-in type -/
theorem pe_callTy (hc : CallR X (.type T) r) (hg : Gl X x) (hm : X.mg x = none) (hv : bootBuiltins x = some (.type T)) (ha : PA X (e :: es) t) (hn : x ≠ "__name__" := by decide) (hdb : (x == ("__debug__" : Str)) = false := by decide)
    (he : starEach (e :: es) X.env = (false, eval e X.env) :: starEach es X.env := by rfl) (hpl : (backTo pos (starEach es X.env)).any (·.1) = false := by rfl) : PE X (.Call (.Name x p) (e :: es) [] pos) (tCB r t) := by
  intro pins s σ H Q I h
  refine wpAny_Call_Name_kw (ld_blt I hg hm hv ?_ hn hdb)
  exact PyProof.Rows.callWith_type1 (thn (ha pos pins s σ H _ I h) fun us s1 ⟨vs, H1, I1, r1, q1⟩ => hc pins s1 σ H1 vs us Q I1 r1 q1) he hpl
end
end L2

namespace HT
open PySem PyProof.Rows

/-- t < u of tuples of ints -/
def lexLt : List Int → List Int → Bool
  | [], [] => false
  | [], _ :: _ => true
  | _ :: _, [] => false
  | x :: xs, y :: ys => if x = y then lexLt xs ys else decide (x < y)


section
open PySem.SeqAt
open PySem.AutoSeq1 (wpAny_loadPart')
open PySem.MeetsSeq PySem.MeetsSeq2 PySem.MeetsSeq3

end

section
variable {prog : Program} {w : World} {A : Around} {E : Value → Shared → Prop} {s : Shared}



/-! ### t[a:b], not the whole -/
/-- a slice's bound as a place among n (d where it is left out) -/
def sIx (n d : Nat) : Option Int → Nat
  | none => d
  | some v => if v < 0 then (v + (n : Int)).toNat else min v.toNat n
theorem sIx_none (n d : Nat) : sIx n d none = d := rfl
theorem sIx_nat (n d k : Nat) : sIx n d (some (k : Int)) = min k n := by
  show (if (k : Int) < 0 then ((k : Int) + (n : Int)).toNat else min (k : Int).toNat n) = min k n
  rw [if_neg (by omega), Int.toNat_natCast]
theorem sIx_le (n d : Nat) (hd : d ≤ n) (o : Option Int) : sIx n d o ≤ n := by
  cases o with
  | none => exact hd
  | some v =>
    show (if v < 0 then (v + (n : Int)).toNat else min v.toNat n) ≤ n
    by_cases hv : v < 0
    · rw [if_pos hv]; omega
    · rw [if_neg hv]; exact Nat.min_le_right _ _
theorem castMin (a b : Nat) : ((min a b : Nat) : Int) = min (a : Int) (b : Int) := by omega
theorem clip_eq (v : Int) (n d : Nat) : (if v < 0 then max (v + (n : Int)) 0 else min v (n : Int)) = ((sIx n d (some v) : Nat) : Int) := by
  show (if v < 0 then max (v + (n : Int)) 0 else min v (n : Int)) = (((if v < 0 then (v + (n : Int)).toNat else min v.toNat n) : Nat) : Int)
  by_cases hv : v < 0
  · rw [if_pos hv, if_pos hv, Int.toNat_eq_max]
  · rw [if_neg hv, if_neg hv, castMin, Int.toNat_of_nonneg (Int.not_lt.mp hv)]
theorem adjust_gen (lo hi : Option Int) (n : Nat) : Builtin.Slice.sliceAdjust lo hi 1 (n : Int) = (((sIx n 0 lo : Nat) : Int), ((sIx n n hi : Nat) : Int)) := by
  have h1 : ¬ ((1 : Int) < 0) := by omega
  unfold Builtin.Slice.sliceAdjust
  simp only [h1, if_false]
  refine Prod.ext ?_ ?_
  · cases lo with
    | none => rfl
    | some v => exact clip_eq v n 0
  · cases hi with
    | none => rfl
    | some v => exact clip_eq v n n
theorem places_gen (i j : Nat) : Builtin.Slice.slicePlaces (i : Int) (j : Int) 1 = j - i := by
  unfold Builtin.Slice.slicePlaces
  have h1 : (1 : Int) > 0 := by omega
  simp only [h1, if_true, Int.ediv_one]
  split <;> omega
theorem slicePart_ {v : Value} {o : Option Int} {Q : Option Int → Shared → Prop} (p : IsPart v o) (h : Q o s) : wpAny (model prog w) A (Builtin.Slice.slicePartIndex v) Q E s := by
  cases p with
  | none => exact slicePart_none h
  | int i t => exact slicePart_int h
theorem sliceApplied_gen {sl : Addr} {vl vu : Value} {lo hi : Option Int} {n : Nat} {Q : Int × Int × Nat → Shared → Prop} (hs : s.heap.IsSliceOf sl vl vu .none) (pl : IsPart vl lo) (pu : IsPart vu hi)
    (h : Q (((sIx n 0 lo : Nat) : Int), 1, sIx n n hi - sIx n 0 lo) s) : wpAny (model prog w) A (Builtin.Slice.sliceApplied (.ref sl) (pure (n : Int))) Q E s := by
  obtain ⟨os, hos, hcs, hds⟩ := id hs
  unfold Builtin.Slice.sliceApplied Builtin.Slice.sliceFields
  refine wpAny_bind (wpAny_bind (wpAny_field hos hds (x := vl) rfl (wpAny_bind (wpAny_field hos hds (x := vu) rfl (wpAny_bind (wpAny_field hos hds (x := .none) rfl (wpAny_pure ?_)))))))
  refine wpAny_bind (slicePart_none ?_)
  show wpAny _ _ (if ((1 : Int) == 0) = true then _ else _) _ _ s
  rw [if_neg (by decide)]
  refine wpAny_bind (slicePart_ pl (wpAny_bind (slicePart_ pu (wpAny_bind (wpAny_pure ?_)))))
  show wpAny _ _ (match Builtin.Slice.sliceAdjust lo hi 1 (n : Int) with | (lo, hi) => pure (lo, (1 : Int), Builtin.Slice.slicePlaces lo hi 1)) _ _ s
  rw [adjust_gen lo hi n]
  show wpAny _ _ (pure (((sIx n 0 lo : Nat) : Int), (1 : Int), Builtin.Slice.slicePlaces ((sIx n 0 lo : Nat) : Int) ((sIx n n hi : Nat) : Int) 1)) _ _ s
  rw [places_gen]
  exact wpAny_pure h
theorem pick_gen (xs : Array Value) (i k : Nat) : ((List.range k).filterMap fun (m : Nat) => xs[((i : Int) + (m : Int) * 1).toNat]?).toArray = ((xs.toList.drop i).take k).toArray := by
  have e : (fun (m : Nat) => xs[((i : Int) + (m : Int) * 1).toNat]?) = fun m => xs[i + m]? := by
    funext m
    have : ((i : Int) + (m : Int) * 1).toNat = i + m := by omega
    rw [this]
  rw [e]
  have := pick_run xs i k
  rw [List.filterMap_map] at this
  have e2 : ((fun x => xs[x]?) ∘ fun x => i + x) = fun m => xs[i + m]? := rfl
  rw [e2] at this
  rw [this]

theorem getItem_tuple_cut {t sl : Addr} {items : Array Value} {vl vu : Value} {lo hi : Option Int} {Q : Value → Shared → Prop} (ht : IsTup s.heap t items) (hs : s.heap.IsSliceOf sl vl vu .none) (pl : IsPart vl lo) (pu : IsPart vu hi)
    (hw : ¬ (sIx items.size 0 lo = 0 ∧ sIx items.size items.size hi = items.size))
    (h : Q (.ref s.heap.objs.size) { s with heap := s.heap.push { cls := .type "tuple", data := .seq ((items.toList.drop (sIx items.size 0 lo)).take (sIx items.size items.size hi - sIx items.size 0 lo)).toArray } })
    (hsz : items.size ≤ sizeLine) : wpAny (model prog w) A (getItem (.ref t) (.ref sl)) Q E s := by
  have htake : sizeOk (.seq ((items.toList.drop (sIx items.size 0 lo)).take (sIx items.size items.size hi - sIx items.size 0 lo)).toArray) := by
    show ((items.toList.drop (sIx items.size 0 lo)).take (sIx items.size items.size hi - sIx items.size 0 lo)).toArray.size ≤ sizeLine
    rw [List.size_toArray, List.length_take, List.length_drop, Array.length_toList]
    omega
  have hj : sIx items.size items.size hi ≤ items.size := sIx_le _ _ (Nat.le_refl _) hi
  obtain ⟨os, hos, hcs, hds⟩ := id hs
  have hTs : s.TypeIs (.ref sl) "slice" := ⟨os, hos, hcs⟩
  unfold getItem
  try with_reducible refine wpAny_holding ?_
  first | refine wpAny_bind (wpAny_pure ?_) | skip
  refine wpAny_bind (wpAny_sequenceKey ht.typeIs (by decide) ?_)
  refine wpAny_bind (wpAny_callSpecial?_slot (name := Str.ofString "__getitem__") ht.typeIs PyProof.Rows.slot_tuple_getitem
    (wpAny_call_entry PyProof.Rows.slot_tuple_getitem ht.typeIs entry_tuple_getitem ?_ (args_tuple_getitem _ _)))
  show wpAny _ _ (Builtin.Tuple.tupleItemsOf (.ref t) >>= _) _ _ s
  refine wpAny_bind (tupleItemsOf_ ht ?_)
  refine wpAny_bind (wpAny_typeOf hTs ?_)
  rw [if_pos (by decide)]
  refine wpAny_bind (sliceApplied_gen hs pl pu ?_)
  have hno : ¬ ((((sIx items.size 0 lo : Nat) : Int) == 0 && (1 : Int) == 1 && (sIx items.size items.size hi - sIx items.size 0 lo) == items.size) = true) := by
    intro q
    rw [Bool.and_eq_true, Bool.and_eq_true] at q
    have q1 : ((sIx items.size 0 lo : Nat) : Int) = 0 := eq_of_beq q.1.1
    have q2 : sIx items.size items.size hi - sIx items.size 0 lo = items.size := eq_of_beq q.2
    exact hw ⟨by omega, by omega⟩
  show wpAny _ _ (if (((sIx items.size 0 lo : Nat) : Int) == 0 && (1 : Int) == 1 && (sIx items.size items.size hi - sIx items.size 0 lo) == items.size) = true then _ else _) _ _ s
  rw [if_neg hno, pick_gen]
  first
    | exact wpAny_bind (m := Builtin.Tuple.tupleExact _) (wpAny_newObj_type (wpAny_pure ⟨_, rfl, wpAny_pure h⟩) htake)
    | exact wpAny_bind (m := Builtin.Tuple.tupleExact _) (wpAny_newObj_type (wpAny_bind (wpAny_pure (wpAny_pure ⟨_, rfl, wpAny_pure h⟩))) htake)
    | exact wpAny_bind (wpAny_bind (m := Builtin.Tuple.tupleExact _) (wpAny_newObj_type (wpAny_pure (wpAny_pure ⟨_, rfl, wpAny_pure h⟩)) htake))
    | exact wpAny_bind (wpAny_bind (m := Builtin.Tuple.tupleExact _) (wpAny_newObj_type (wpAny_pure ⟨_, rfl, wpAny_pure h⟩) htake))
end
end HT

namespace L2
open PySem PySem.Spec PyProof.Rows

/-! ### the parts of a slice -/
abbrev TO := St → Hp → (Option Int → Hp → Prop) → Prop
/-- a slice's part (left out, or an int) -/
def PO (X : Cx) (e : Option Expr) (t : TO) : Prop :=
  ∀ (pins : List (Addr × Obj)) (s : Shared) (σ : St) (H : Hp) (Q : Option Int → Hp → Prop), Inv X pins σ H s → t σ H Q →
    wpAny (model X.prog X.w) X.A (evalPart e X.env) (fun u s' => ∃ o H', Inv X pins σ H' s' ∧ IsPart u o ∧ Q o H') X.xe s
def tNoPart : TO := fun _ H Q => Q none H
inductive IntV (x : V) (H : Hp) (Q : Option Int → Hp → Prop) : Prop
  | mk (i : Int) (h : x = .int i) (q : Q (some i) H)
def tPart (t : TE) : TO := fun σ H Q => t σ H fun x H1 => IntV x H1 Q


section
variable {X : Cx} {e : Expr} {te : TE} {lo hi : Option Expr} {tl th : TO} {pos p2 : Pos}

theorem po_none : PO X none tNoPart := by
  intro pins s σ H Q I h
  rw [evalPart_none]
  exact wpAny_pure ⟨none, H, I, .none, h⟩
theorem po_some (h : PE X e te) : PO X (some e) (tPart te) := by
  intro pins s σ H Q I hw
  rw [evalPart_some]
  refine thn (h pins s σ H _ I hw) fun u s1 hpat => ?_
  obtain ⟨x, H1, I1, r1, q1⟩ := hpat
  obtain ⟨i, rfl, q⟩ := q1
  obtain ⟨t, rfl⟩ := r1
  exact ⟨some i, H1, I1, .int i t, q⟩

/-- what a slice of a value is, by values: the slice object stands at sl -/
def SlR (X : Cx) (r : V → Option Int → Option Int → Hp → VK → Prop) : Prop :=
  ∀ (pins : List (Addr × Obj)) (s : Shared) (σ : St) (H : Hp) (x : V) (v vl vu : Value) (lo hi : Option Int) (sl : Addr) (Q : VK), Inv X pins σ H s → RelV x v → s.heap.IsSliceOf sl vl vu .none → IsPart vl lo → IsPart vu hi → r x lo hi H Q →
    ∃ T id, typeLookup (.type T) "__getitem__" = pure (some (.builtin id)) ∧ s.TypeIs v T ∧ wpAny (model X.prog X.w) X.A (getItem v (.ref sl)) (EP X pins σ Q) X.xe s
def tSl (r : V → Option Int → Option Int → Hp → VK → Prop) (te : TE) (tl th : TO) : TE := fun σ H Q => te σ H fun x H1 => tl σ H1 fun l H2 => th σ H2 fun u H3 => r x l u H3 Q
/-- a[lo:hi], any a -/
theorem pe_slice {r : V → Option Int → Option Int → Hp → VK → Prop} (hr : SlR X r) (he : PE X e te) (hl : PO X lo tl) (hu : PO X hi th) : PE X (.Subscript e (.Slice lo hi none p2) pos) (tSl r te tl th) := by
  intro pins s σ H Q I h
  refine Subscript_ (thn (he pins s σ H _ I h) fun v s1 hpat => ?_)
  obtain ⟨x, H1, I1, r1, q1⟩ := hpat
  refine wpAny_Slice (thn (hl pins s1 σ H1 _ I1 q1) fun vl s2 ⟨l, H2, I2, pl, q2⟩ => thn (hu pins s2 σ H2 _ I2 q2) fun vu s3 hpat => ?_)
  obtain ⟨u, H3, I3, pu, q3⟩ := hpat
  rw [evalPart_none]
  refine wpAny_pure ?_
  have I4 : Inv X pins σ H3 { s3 with heap := s3.heap.push { cls := .type "slice", data := .fields #[vl, vu, .none] } } := I3.kept (t' := s3.toks) fun b ob q => Heap.get?_push_of_some _ q
  obtain ⟨T, id, hT, ht, hg⟩ := hr pins { s3 with heap := s3.heap.push { cls := .type "slice", data := .fields #[vl, vu, .none] } } σ H3 x v vl vu l u s3.heap.objs.size Q I4 r1 (Heap.IsSliceOf.new ..) pl pu q3
  show wpAny (model X.prog X.w) X.A (subscriptTail e (.Slice lo hi none p2) v (.ref s3.heap.objs.size)) (EP X pins σ Q) X.xe { s3 with heap := s3.heap.push { cls := .type "slice", data := .fields #[vl, vu, .none] } }
  exact tail_any (ops := [.ref s3.heap.objs.size, v]) ht hT hg (by with_unfolding_all rfl)

/-- the items of xs[lo:hi] -/
def cutV (xs : List V) (lo hi : Option Int) : List V := (xs.drop (HT.sIx xs.length 0 lo)).take (HT.sIx xs.length xs.length hi - HT.sIx xs.length 0 lo)
theorem cutV_length (xs : List V) (lo hi : Option Int) : (cutV xs lo hi).length ≤ xs.length := by
  unfold cutV
  rw [List.length_take, List.length_drop]
  exact Nat.le_trans (Nat.min_le_right _ _) (Nat.sub_le _ _)
/-- t[lo:hi], not the whole of it (the whole would be t itself) -/
def rSlT (K : PySem.W.Frag) : V → Option Int → Option Int → Hp → VK → Prop := fun x lo hi H Q => ∃ a xs, x = .ref a ∧ SqT K H a xs ∧
  ¬ (HT.sIx xs.length 0 lo = 0 ∧ HT.sIx xs.length xs.length hi = xs.length) ∧ ∀ p, H p = none → Q (.ref p) (upd H p (.tup (cutV xs lo hi)))
theorem sl_tup : SlR X (rSlT X.K) := by
  intro pins s σ H x v vl vu lo hi sl Q I rx hs pl pu h
  obtain ⟨a, xs, rfl, hx, hw, q⟩ := h
  cases rx
  obtain ⟨its, r, ht, hz⟩ := I.tuple hx
  have hlen : its.toArray.size = xs.length := by rw [List.size_toArray]; exact r.length.symm
  refine ⟨"tuple", _, PyProof.Rows.slot_tuple_getitem.lookup, ht.typeIs, ?_⟩
  refine HT.getItem_tuple_cut ht hs pl pu (by rw [hlen]; exact hw) ?_ (by rw [hlen]; exact hz)
  rw [hlen]
  refine ⟨.ref s.heap.objs.size, _, I.laid (t' := s.toks) (o := .tup (cutV xs lo hi)) (fun b ob q => Heap.get?_push_of_some _ q) (Nat.le_refl _) ?_, rfl, q _ (I.hok.fresh (Nat.le_refl _))⟩
  exact ⟨Nat.le_trans (cutV_length xs lo hi) hz, _, (r.drop (HT.sIx xs.length 0 lo)).take (HT.sIx xs.length xs.length hi - HT.sIx xs.length 0 lo), IsTup.new _ _⟩

/-! ### t < u, t + u -/
def rLtT (K : PySem.W.Frag) : R2 := fun x y H Q => ∃ a b ns ms, x = .ref a ∧ y = .ref b ∧ SqT K H a (ns.map V.int) ∧ SqT K H b (ms.map V.int) ∧ Q (.bl (HT.lexLt ns ms)) H
/-- t + u, t not empty: u empty gives t itself -/
def rCatT (K : PySem.W.Frag) : R2 := fun x y H Q => ∃ a b xs ys, x = .ref a ∧ y = .ref b ∧ SqT K H a xs ∧ SqT K H b ys ∧ xs ≠ [] ∧ xs.length + ys.length ≤ sizeLine ∧
  (ys = [] → Q (.ref a) H) ∧ (ys ≠ [] → ∀ p, H p = none → Q (.ref p) (upd H p (.tup (xs ++ ys))))
end
end L2

namespace L2
open PySem PySem.Spec PyProof.Rows

/-! ### places -/
/-- the place that an index of any sign means -/
def ixN (n : Nat) (i : Int) : Option Nat := if 0 ≤ i then (if i < n then some i.toNat else none) else if -(n : Int) ≤ i then some (i + n).toNat else none
def atI {α : Type} (xs : List α) (i : Int) : Option α := (ixN xs.length i).bind fun j => xs[j]?
theorem ixN_seq {n : Nat} {i : Int} {j : Nat} (h : ixN n i = some j) : seqIndex? i n = some j ∧ j < n ∧ -(n : Int) ≤ i ∧ i < n := by
  unfold ixN at h
  by_cases h0 : 0 ≤ i
  · rw [if_pos h0] at h
    by_cases h1 : i < n
    · rw [if_pos h1] at h
      have e : i.toNat = j := Option.some.inj h
      exact ⟨by rw [seqIndex_of h0 h1, e], by omega, by omega, h1⟩
    · rw [if_neg h1] at h; cases h
  · rw [if_neg h0] at h
    by_cases h1 : -(n : Int) ≤ i
    · rw [if_pos h1] at h
      have e : (i + n).toNat = j := Option.some.inj h
      exact ⟨by rw [seqIndex_neg (by omega) h1, e], by omega, h1, by omega⟩
    · rw [if_neg h1] at h; cases h
theorem atI_get {α : Type} {xs : List α} {i : Int} {v : α} (h : atI xs i = some v) : ∃ j, seqIndex? i xs.length = some j ∧ xs[j]? = some v ∧ j < xs.length ∧ -(xs.length : Int) ≤ i ∧ i < xs.length := by
  unfold atI at h
  cases e : ixN xs.length i with
  | none => rw [e] at h; cases h
  | some j =>
    rw [e] at h
    obtain ⟨h1, h2, h3, h4⟩ := ixN_seq e
    exact ⟨j, h1, h, h2, h3, h4⟩
theorem atI_nat {α : Type} {xs : List α} {j : Nat} {v : α} (h : xs[j]? = some v) : atI xs (j : Int) = some v := by
  have hj : j < xs.length := (List.getElem?_eq_some_iff.mp h).1
  have e : ixN xs.length (j : Int) = some j := by
    unfold ixN
    rw [if_pos (by omega), if_pos (by omega)]; simp
  unfold atI; rw [e]; exact h

/-! ### what may be subscripted -/
/-- what stands as an index of a plain subscript -/
def PlainIx (b : Expr) : Prop := ∀ o i, subscripted b false o i = operate [o, i] (getItem o i)
/-- a subscript by values -/
def IxR (X : Cx) (r : R2) : Prop :=
  ∀ (value slice : Expr) (pins : List (Addr × Obj)) (s : Shared) (σ : St) (H : Hp) (x y : V) (v u : Value) (Q : VK), Inv X pins σ H s → RelV x v → RelV y u → r x y H Q →
    subscripted slice false v u = operate [v, u] (getItem v u) → wpAny (model X.prog X.w) X.A (subscriptTail value slice v u) (EP X pins σ Q) X.xe s
/-- a call of a builtin's method by values: the receiver, the arguments -/
def MtR (X : Cx) (id : String) (r : V → List V → Hp → VK → Prop) : Prop :=
  ∀ (pins : List (Addr × Obj)) (s : Shared) (σ : St) (H : Hp) (x : V) (xs : List V) (v : Value) (us : List Value) (Q : VK), Inv X pins σ H s → RelV x v → Vals xs us → r x xs H Q →
    wpAny (model X.prog X.w) X.A (call (.builtin id) (v :: us)) (EP X pins σ Q) X.xe s
section
variable {X : Cx} {a b : Expr} {ta tb : TE} {pos : Pos}
/-- a[b] -/
theorem pe_ix {r : R2} (hr : IxR X r) (ha : PE X a ta) (hb : PE X b tb) (hs : PlainIx b) : PE X (.Subscript a b pos) (tOp r ta tb) := by
  intro pins s σ H Q I h
  exact Subscript_ (binT ha hb I h fun v u s2 x y H2 I2 rx ry q => hr a b pins s2 σ H2 x y v u Q I2 rx ry q (hs _ _))

inductive IxP (S : Addr → List V → Prop) (x y : V) (H : Hp) (Q : VK) : Prop
  | mk (p : Addr) (xs : List V) (i : Int) (v : V) (hx : x = .ref p) (hy : y = .int i) (s : S p xs) (e : atI xs i = some v) (q : Q v H)
inductive IxSP (x y : V) (H : Hp) (Q : VK) : Prop
  | mk (z : Str) (i : Int) (c : Nat) (hx : x = .str z) (hy : y = .int i) (s : z.length ≤ sizeLine) (e : atI z.cps.toList i = some c) (q : Q (.str ⟨#[c]⟩) H)
def rIxL (K : PySem.W.Frag) : R2 := fun x y H Q => IxP (SqL K H) x y H Q
def rIxT (K : PySem.W.Frag) : R2 := fun x y H Q => IxP (SqT K H) x y H Q
def rIxS : R2 := fun x y H Q => IxSP x y H Q
theorem ix_list : IxR X (rIxL X.K) := by
  intro value slice pins s σ H x y v u Q I rx ry h hs
  obtain ⟨p, xs, i, z, rfl, rfl, hq, he, q⟩ := h
  cases rx
  obtain ⟨t, rfl⟩ := ry
  obtain ⟨its, r, pl, hz⟩ := I.list hq
  obtain ⟨j, h1, h2, h3, h4, h5⟩ := atI_get he
  obtain ⟨w, ew, rw'⟩ := r.get h2
  have hl := r.length
  have hn := line63
  have fin : EP X pins σ Q w s := ⟨z, H, I, rw', q⟩
  by_cases h0 : 0 ≤ i
  · have hj : i.toNat = j := by
      rw [seqIndex_of h0 h5] at h1
      exact Option.some.inj h1
    exact item_listR pl.isList h0 (by omega) (by rw [hj]; simpa using ew) fin hs
  · have hj : (i + (its.toArray.size : Int)).toNat = j := by
      rw [seqIndex_neg (by omega) h4] at h1
      rw [List.size_toArray, ← hl]
      exact Option.some.inj h1
    exact subscriptTail_builtinR (x := w) pl.isList.typeIs slot_list_getitem.lookup
      (wpAny_getItem_list_neg (Q := fun r s' => r = w ∧ EP X pins σ Q r s') pl.isList (by omega) (by rw [List.size_toArray] <;> omega) (by omega) (by rw [hj]; simpa using ew) ⟨rfl, fin⟩) hs
theorem ix_tup : IxR X (rIxT X.K) := by
  intro value slice pins s σ H x y v u Q I rx ry h hs
  obtain ⟨p, xs, i, z, rfl, rfl, hq, he, q⟩ := h
  cases rx
  obtain ⟨t, rfl⟩ := ry
  obtain ⟨its, r, pl, hz⟩ := I.tuple hq
  obtain ⟨j, h1, h2, h3, h4, h5⟩ := atI_get he
  obtain ⟨w, ew, rw'⟩ := r.get h2
  have hl := r.length
  have hn := line63
  have fin : EP X pins σ Q w s := ⟨z, H, I, rw', q⟩
  exact subscriptTail_builtinR (x := w) pl.typeIs slot_tuple_getitem.lookup
    (getItem_tuple (j := j) (Q := fun r s' => r = w ∧ EP X pins σ Q r s') pl (by omega) (by omega) (by rw [List.size_toArray, ← hl]; exact h1) (by simpa using ew) ⟨rfl, fin⟩) hs
theorem ix_str : IxR X rIxS := by
  intro value slice pins s σ H x y v u Q I rx ry h hs
  obtain ⟨z, i, c, rfl, rfl, hz, he, q⟩ := h
  obtain ⟨t, rfl⟩ := rx
  obtain ⟨t', rfl⟩ := ry
  obtain ⟨j, h1, h2, h3, h4, h5⟩ := atI_get he
  have hl : z.cps.toList.length = z.length := by simp [Str.length]
  rw [hl] at h1 h4 h5
  have hn := line63
  exact tail_any (typeIs_str s z t) slot_str_getitem.lookup (getItem_str (c := c) (by
    have e1 : decide (i < -(2 ^ 63 : Int)) = false := decide_eq_false (by omega)
    have e2 : decide (i ≥ 2 ^ 63) = false := decide_eq_false (by omega)
    rw [e1, e2, Bool.or_false]) (by rw [h1]; simpa using h2) ⟨.str ⟨#[c]⟩, H, I.tok _, ⟨_, rfl⟩, q⟩) hs
/-- list, tuple or str -/
def rIx (K : PySem.W.Frag) : R2 := fun x y H Q => rIxL K x y H Q ∨ rIxT K x y H Q ∨ rIxS x y H Q

/-! ### xs[i] = v, any sign -/
inductive SetP (o i v : V) (H : Hp) (Q : Hp → Prop) : Prop
  | mk (p : Addr) (xs : List V) (k : Int) (j : Nat) (ho : o = .ref p) (hi : i = .int k) (s : H p = some (.lst xs)) (e : ixN xs.length k = some j) (q : Q (upd H p (.lst (xs.set j v))))
def rSetL : V → V → V → Hp → (Hp → Prop) → Prop := fun o i v H Q => SetP o i v H Q

/-! ### slices -/
theorem clipM (v : Int) (n d : Nat) : max 0 (min (if v < 0 then v + (n : Int) else v) (n : Int)) = ((HT.sIx n d (some v) : Nat) : Int) := by
  show _ = (((if v < 0 then (v + (n : Int)).toNat else min v.toNat n) : Nat) : Int)
  by_cases hv : v < 0
  · rw [if_pos hv, if_pos hv, Int.toNat_eq_max, Int.max_comm, Int.min_eq_left (by omega)]
  · rw [if_neg hv, if_neg hv, HT.castMin, Int.toNat_of_nonneg (Int.not_lt.mp hv)]
    exact Int.max_eq_right (Int.le_min.mpr ⟨Int.not_lt.mp hv, Int.natCast_nonneg n⟩)
theorem slice_bounds (lo hi : Option Int) (n : Nat) : (sliceBounds lo hi none n).1 = ((HT.sIx n 0 lo : Nat) : Int) ∧ (sliceBounds lo hi none n).2.1 = ((HT.sIx n n hi : Nat) : Int) ∧ (sliceBounds lo hi none n).2.2 = 1 := by
  refine ⟨?_, ?_, rfl⟩
  · cases lo with
    | none => simp [sliceBounds, HT.sIx]
    | some i =>
      simp only [sliceBounds, Option.getD_none, show (1 : Int) > 0 by decide, if_true]
      exact clipM i n 0
  · cases hi with
    | none => simp [sliceBounds, HT.sIx]
    | some i =>
      simp only [sliceBounds, Option.getD_none, show (1 : Int) > 0 by decide, if_true]
      exact clipM i n n
theorem slicePick_cut (its : List Value) (lo hi : Option Int) : slicePick its.toArray lo hi none = ((its.drop (HT.sIx its.length 0 lo)).take (HT.sIx its.length its.length hi - HT.sIx its.length 0 lo)).toArray := by
  obtain ⟨h1, h2, h3⟩ := slice_bounds lo hi its.toArray.size
  unfold slicePick
  rw [h1, h2, h3]
  simp only [sliceRange_one, pick_run, List.size_toArray] <;> rfl
/-- xs[lo:hi] of a list: a new list -/
inductive SlP (K : PySem.W.Frag) (x : V) (lo hi : Option Int) (H : Hp) (Q : VK) : Prop
  | mk (a : Addr) (xs : List V) (hx : x = .ref a) (s : SqL K H a xs) (q : ∀ p, H p = none → Q (.ref p) (upd H p (.lst (cutV xs lo hi))))
def rSlL (K : PySem.W.Frag) : V → Option Int → Option Int → Hp → VK → Prop := fun x lo hi H Q => SlP K x lo hi H Q
theorem sl_list : SlR X (rSlL X.K) := by
  intro pins s σ H x v vl vu lo hi sl Q I rx hs pl pu h
  obtain ⟨a, xs, rfl, hx, q⟩ := h
  cases rx
  obtain ⟨its, r, ht, hz⟩ := I.list hx
  have hlen := r.length
  refine ⟨"list", _, slot_list_getitem.lookup, ht.isList.typeIs, ?_⟩
  refine wpAny_getItem_list_slice ht.isList hs pl pu .none (by simp) ?_ (by rw [List.size_toArray] <;> omega)
  rw [slicePick_cut, ← hlen]
  refine ⟨.ref s.heap.objs.size, _, I.laid (t' := s.toks) (o := .lst (cutV xs lo hi)) (fun b ob q => Heap.get?_push_of_some _ q) (Nat.le_refl _) ?_, rfl, q _ (I.hok.fresh (Nat.le_refl _))⟩
  exact ⟨Nat.le_trans (cutV_length xs lo hi) hz, _, 0, (r.drop (HT.sIx xs.length 0 lo)).take (HT.sIx xs.length xs.length hi - HT.sIx xs.length 0 lo), Heap.get?_push_size _ rfl⟩

/-! ### in, not in: flat items -/
def flatV : V → Bool
  | .non => true
  | .bl _ => true
  | .int _ => true
  | .str _ => true
  | _ => false
/-- == of flat values -/
def eqV : V → V → Bool
  | .non, .non => true
  | .bl a, .bl b => a == b
  | .bl a, .int b => (if a then 1 else 0) == b
  | .int a, .bl b => a == (if b then 1 else 0)
  | .int a, .int b => a == b
  | .str a, .str b => a == b
  | _, _ => false
theorem eqAt_V {A : Around} {s : Shared} {y x : V} {u v : Value} (ry : RelV y u) (rx : RelV x v) (fy : flatV y = true) (fx : flatV x = true) : SeqAt.EqAt A s u v (eqV y x) := by
  cases y with
  | non =>
    cases ry
    cases x with
    | non => cases rx; exact SeqAt.EqAt.same _
    | bl b => cases rx; exact SeqAt.EqAt.none_bool b
    | int b => obtain ⟨t, rfl⟩ := rx; exact SeqAt.EqAt.none_int b t
    | str b => obtain ⟨t, rfl⟩ := rx; exact SeqAt.EqAt.none_str b t
    | _ => exact absurd (show false = true from fx) Bool.false_ne_true
  | bl a =>
    cases ry
    cases x with
    | non => cases rx; exact SeqAt.EqAt.bool_none a
    | bl b => cases rx; exact SeqAt.EqAt.bool_bool a b
    | int b => obtain ⟨t, rfl⟩ := rx; exact SeqAt.EqAt.bool_int a b t
    | str b => obtain ⟨t, rfl⟩ := rx; exact SeqAt.EqAt.bool_str a b t
    | _ => exact absurd (show false = true from fx) Bool.false_ne_true
  | int a =>
    obtain ⟨t', rfl⟩ := ry
    cases x with
    | non => cases rx; exact SeqAt.EqAt.int_none a t'
    | bl b => cases rx; exact SeqAt.EqAt.int_bool a t' b
    | int b => obtain ⟨t, rfl⟩ := rx; exact SeqAt.EqAt.int_int a t' b t
    | str b => obtain ⟨t, rfl⟩ := rx; exact SeqAt.EqAt.int_str a t' b t
    | _ => exact absurd (show false = true from fx) Bool.false_ne_true
  | str a =>
    obtain ⟨t', rfl⟩ := ry
    cases x with
    | non => cases rx; exact SeqAt.EqAt.str_none a t'
    | bl b => cases rx; exact SeqAt.EqAt.str_bool a t' b
    | int b => obtain ⟨t, rfl⟩ := rx; exact SeqAt.EqAt.str_int a t' b t
    | str b => obtain ⟨t, rfl⟩ := rx; exact SeqAt.EqAt.str_str a t' b t
    | _ => exact absurd (show false = true from fx) Bool.false_ne_true
  | _ => exact absurd (show false = true from fy) Bool.false_ne_true
/-- the items' answers, read off the values (a value's own answer does not lean on its token) -/
def eqU (x : V) (u : Value) : Bool := match u with
  | .none => eqV .non x
  | .bool b => eqV (.bl b) x
  | .int i _ => eqV (.int i) x
  | .str z _ => eqV (.str z) x
  | _ => false
theorem eqU_of {x y : V} {u : Value} (r : RelV y u) (f : flatV y = true) : eqU x u = eqV y x := by
  cases y with
  | non => cases r; rfl
  | bl b => cases r; rfl
  | int i => obtain ⟨t, rfl⟩ := r; rfl
  | str z => obtain ⟨t, rfl⟩ := r; rfl
  | _ => exact absurd (show false = true from f) Bool.false_ne_true
theorem any_eqU {x : V} : ∀ {xs : List V} {us : List Value}, Vals xs us → xs.all flatV = true → us.any (eqU x) = xs.any fun y => eqV y x
  | _, _, .nil, _ => rfl
  | y :: xs, u :: us, .cons r t, f => by
    rw [List.all_cons, Bool.and_eq_true] at f
    rw [List.any_cons, List.any_cons, eqU_of r f.1, any_eqU t f.2]
theorem mem_eqAt {A : Around} {s : Shared} {x : V} {v : Value} (rx : RelV x v) (fx : flatV x = true) : ∀ {xs : List V} {us : List Value}, Vals xs us → xs.all flatV = true → ∀ u ∈ us, SeqAt.EqAt A s u v (eqU x u)
  | _, _, .nil, _ => fun u hu => by cases hu
  | y :: xs, u :: us, .cons r t, f => fun u' hu => by
    rw [List.all_cons, Bool.and_eq_true] at f
    rcases List.mem_cons.mp hu with rfl | hu
    · rw [eqU_of r f.1]; exact eqAt_V r rx f.1 fx
    · exact mem_eqAt rx fx t f.2 u' hu
def inV (x : V) (xs : List V) : Bool := xs.any fun y => eqV y x
/-- x in a list or tuple of flat items -/
inductive InP (K : PySem.W.Frag) (neg : Bool) (x y : V) (H : Hp) (Q : VK) : Prop
  | mk (p : Addr) (xs : List V) (hy : y = .ref p) (s : SqL K H p xs ∨ SqT K H p xs) (f : flatV x = true) (fs : xs.all flatV = true) (q : Q (.bl (if neg then !inV x xs else inV x xs)) H)
def rIn (K : PySem.W.Frag) (neg : Bool) : R2 := fun x y H Q => InP K neg x y H Q
theorem op_in_seq : OpR X (compareOp .In) (rIn X.K false) := by
  intro pins s σ H x y v u Q I rx ry h
  obtain ⟨p, xs, rfl, hq, fx, fs, q⟩ := h
  cases ry
  rcases hq with hq | hq
  · obtain ⟨its, r, pl, hz⟩ := I.list hq
    refine SeqAt.in_listAt (eqU x) pl.isList (fun w hw => mem_eqAt rx fx r fs w (by simpa using hw)) ⟨.bl _, H, I, rfl, ?_⟩
    rw [show its.toArray.any (eqU x) = its.any (eqU x) by simp, any_eqU r fs]
    exact q
  · obtain ⟨its, r, pl, hz⟩ := I.tuple hq
    refine SeqAt.in_tupleAt (eqU x) pl (fun w hw => mem_eqAt rx fx r fs w (by simpa using hw)) ⟨.bl _, H, I, rfl, ?_⟩
    rw [show its.toArray.any (eqU x) = its.any (eqU x) by simp, any_eqU r fs]
    exact q
theorem op_notIn_seq : OpR X (compareOp .NotIn) (rIn X.K true) := by
  intro pins s σ H x y v u Q I rx ry h
  obtain ⟨p, xs, rfl, hq, fx, fs, q⟩ := h
  cases ry
  rcases hq with hq | hq
  · obtain ⟨its, r, pl, hz⟩ := I.list hq
    refine SeqAt.notIn_listAt (eqU x) pl.isList (fun w hw => mem_eqAt rx fx r fs w (by simpa using hw)) ⟨.bl _, H, I, rfl, ?_⟩
    rw [show its.toArray.any (eqU x) = its.any (eqU x) by simp, any_eqU r fs]
    exact q
  · obtain ⟨its, r, pl, hz⟩ := I.tuple hq
    refine SeqAt.notIn_tupleAt (eqU x) pl (fun w hw => mem_eqAt rx fx r fs w (by simpa using hw)) ⟨.bl _, H, I, rfl, ?_⟩
    rw [show its.toArray.any (eqU x) = its.any (eqU x) by simp, any_eqU r fs]
    exact q

/-! ### len, list(x), tuple(x) of any list or tuple that is read -/
inductive LenP (K : PySem.W.Frag) (xs : List V) (H : Hp) (Q : VK) : Prop
  | mk (p : Addr) (ys : List V) (e : xs = [.ref p]) (s : SqL K H p ys ∨ SqT K H p ys) (q : Q (.int ys.length) H)
theorem call_len_seq : CallR X (.builtin "len") (fun xs H Q => L2.LenP X.K xs H Q) := by
  intro pins s σ H xs us Q I r h
  obtain ⟨p, ys, rfl, hq, q⟩ := h
  obtain ⟨u, rfl, rx⟩ := vals1 r
  cases rx
  have hn := line63
  rcases hq with hq | hq
  · obtain ⟨its, r', pl, hz⟩ := I.list hq
    have hlen := r'.length
    exact Calls.call_len_list pl.isList (by simp only [List.size_toArray] <;> omega) ⟨.int ys.length, H, I.tok _, ⟨s.toks + 1, by rw [List.size_toArray, hlen]⟩, q⟩
  · obtain ⟨its, r', pl, hz⟩ := I.tuple hq
    have hlen := r'.length
    exact len_tuple pl (by simp only [List.size_toArray] <;> omega) ⟨.int ys.length, H, I.tok _, ⟨s.toks + 1, by rw [List.size_toArray, hlen]⟩, q⟩
theorem call_len_str : CallR X (.builtin "len") (fun xs H Q => ∃ z, xs = [.str z] ∧ z.length ≤ sizeLine ∧ Q (.int z.length) H) := by
  intro pins s σ H xs us Q I r h
  obtain ⟨z, rfl, hz, q⟩ := h
  obtain ⟨u, rfl, t, rfl⟩ := vals1 r
  have hn := line63
  exact len_str (by omega) ⟨.int z.length, H, I.tok _, ⟨_, rfl⟩, q⟩
theorem call_list_of : CallR X (.type "list") (fun xs H Q => ∃ p ys, xs = [.ref p] ∧ (SqL X.K H p ys ∨ SqT X.K H p ys) ∧ ∀ l, H l = none → Q (.ref l) (upd H l (.lst ys))) := by
  intro pins s σ H xs us Q I r h
  obtain ⟨p, ys, rfl, hq, q⟩ := h
  obtain ⟨u, rfl, rx⟩ := vals1 r
  cases rx
  have fin : ∀ (its : List Value), Vals ys its → ys.length ≤ sizeLine → ∀ (h' : Heap) (c' : Nat), (∀ b o', s.heap.get? b = some o' → h'.get? b = some o') →
      h'.get? s.heap.objs.size = some { cls := .type "list", dict := none, data := .seq its.toArray c', slots := #[] } → EP X pins σ Q (.ref s.heap.objs.size) { s with heap := h' } := fun its r' hz h' c' kp e =>
    ⟨.ref s.heap.objs.size, _, I.laid (t' := s.toks) kp (Nat.le_refl _) (show ObjOk X.prog X.w _ h' _ (.lst ys) from ⟨hz, its, c', r', e⟩), rfl, q _ (I.hok.fresh (Nat.le_refl _))⟩
  rcases hq with hq | hq
  · obtain ⟨its, r', pl, hz⟩ := I.list hq
    have hlen := r'.length
    obtain ⟨o, ho, hc, n, hd⟩ := pl.isList
    exact call_list_seq p (.inl rfl) ho hc hd (fun h' c' kp e => fin its r' hz h' c' kp e) (by simp only [List.size_toArray] <;> omega)
  · obtain ⟨its, r', pl, hz⟩ := I.tuple hq
    have hlen := r'.length
    obtain ⟨o, ho, hc, n, hd⟩ := pl
    exact call_list_seq p (.inr rfl) ho hc hd (fun h' c' kp e => fin its r' hz h' c' kp e) (by simp only [List.size_toArray] <;> omega)
theorem call_tuple_of : CallR X (.type "tuple") (fun xs H Q => ∃ p ys, xs = [.ref p] ∧ ((SqL X.K H p ys ∧ ∀ l, H l = none → Q (.ref l) (upd H l (.tup ys))) ∨ (SqT X.K H p ys ∧ Q (.ref p) H))) := by
  intro pins s σ H xs us Q I r h
  obtain ⟨p, ys, rfl, h⟩ := h
  obtain ⟨u, rfl, rx⟩ := vals1 r
  cases rx
  rcases h with ⟨hq, q⟩ | ⟨hq, q⟩
  · obtain ⟨its, r', pl, hz⟩ := I.list hq
    have hlen := r'.length
    refine call_tuple_list pl.isList (fun h' kp => ?_) (by simp only [List.size_toArray] <;> omega)
    have I1 : Inv X pins σ H { s with heap := h' } := I.kept (t' := s.toks) kp
    have I2 : Inv X pins σ (upd H h'.objs.size (.tup ys)) { s with heap := h'.push { cls := .type "tuple", data := .seq its.toArray } } :=
      I1.laid (t' := s.toks) (fun b o e => Heap.get?_push_of_some _ e) (Nat.le_refl _) (show ObjOk X.prog X.w _ _ _ (.tup ys) from ⟨hz, its, r', IsTup.new _ _⟩)
    exact ⟨.ref h'.objs.size, _, I2, rfl, q _ (I1.hok.fresh (Nat.le_refl _))⟩
  · obtain ⟨its, r', pl, hz⟩ := I.tuple hq
    exact call_tuple_same pl ⟨.ref p, H, I, rfl, q⟩

/-! ### the call of a builtin's method: o.m(..) -/
/-- the value is of that builtin type -/
def tyV (K : PySem.W.Frag) (T : String) (x : V) (H : Hp) : Prop := match x with
  | .str _ => T = "str"
  | .int _ => T = "int"
  | .ref p => (T = "list" ∧ ∃ xs, SqL K H p xs) ∨ (T = "tuple" ∧ ∃ o, K.lookup p = some o ∧ o.cls = .type "tuple" ∧ o.dict = none) ∨
      (T = "dict" ∧ ((∃ kvs, H p = some (.dK kvs)) ∨ ∃ kvs, H p = some (.dT kvs))) ∨ (T = "set" ∧ ∃ S n, H p = some (.set S n))
  | _ => False
theorem tyV_is {pins : List (Addr × Obj)} {σ : St} {H : Hp} {s : Shared} {T : String} {x : V} {v : Value} (I : Inv X pins σ H s) (r : RelV x v) (ty : tyV X.K T x H) :
    s.TypeIs v T ∧ ∀ a, v = .ref a → ∃ ob, s.heap.get? a = some ob ∧ ob.dict = none := by
  cases x with
  | str z =>
    obtain ⟨t, rfl⟩ := r
    cases (show T = "str" from ty)
    exact ⟨typeIs_str s z t, fun _ e => nomatch e⟩
  | int i =>
    obtain ⟨t, rfl⟩ := r
    cases (show T = "int" from ty)
    exact ⟨typeIs_int s i t, fun _ e => nomatch e⟩
  | ref p =>
    cases r
    rcases ty with ⟨rfl, xs, hq⟩ | ⟨rfl, o, hk, hc, hd⟩ | ⟨rfl, hk⟩ | ⟨rfl, S, n, hk⟩
    · obtain ⟨its, _, pl, _⟩ := I.list hq
      refine ⟨pl.isList.typeIs, fun a e => ?_⟩
      cases e
      obtain ⟨o, n, e, c, hd, _⟩ := pl
      exact ⟨o, e, hd⟩
    · refine ⟨⟨o, I.kIn p o hk, hc⟩, fun a e => ?_⟩
      cases e
      exact ⟨o, I.kIn _ o hk, hd⟩
    · have z : ∃ o, s.heap.get? p = some o ∧ o.ExactDict := by
        rcases hk with ⟨kvs, hk⟩ | ⟨kvs, hk⟩
        · obtain ⟨_, _, _, _, o, _, _, e, ex, _⟩ := I.hok p _ hk
          exact ⟨o, e, ex⟩
        · obtain ⟨_, _, _, _, o, _, _, e, ex, _⟩ := I.hok p _ hk
          exact ⟨o, e, ex⟩
      obtain ⟨o, e, ex⟩ := z
      refine ⟨⟨o, e, ex.1⟩, fun a e2 => ?_⟩
      cases e2
      exact ⟨o, e, ex.2.1⟩
    · obtain ⟨o, _, _, _, e, ex, _⟩ := I.hok p _ hk
      refine ⟨⟨o, e, ex.1⟩, fun a e2 => ?_⟩
      cases e2
      exact ⟨o, e, ex.2.1⟩
  | _ => exact False.elim ty
def tBM0 (K : PySem.W.Frag) (T : String) (r : V → List V → Hp → VK → Prop) (to : TE) : TE := fun σ H Q => to σ H fun x H1 => tyV K T x H1 ∧ r x [] H1 Q
def tBM (K : PySem.W.Frag) (T : String) (r : V → List V → Hp → VK → Prop) (to : TE) (t : TA) : TE := fun σ H Q => to σ H fun x H1 => tyV K T x H1 ∧ t σ H1 fun xs H2 => r x xs H2 Q
variable {o e : Expr} {es : List Expr} {to : TE} {t : TA} {name : Str} {apos cpos : Pos} {T id : String} {r : V → List V → Hp → VK → Prop}
theorem pe_bm (pa : PlainAttrs T) (slot : Slot T name id) (hty : typeOf (.builtin id) = pure (.type "method_descriptor")) (hm : MtR X id r) (ho : PE X o to) (ha : PA X (e :: es) t)
    (hbase : attributeBase o name X.env (eval o X.env) = eval o X.env := by rfl)
    (hfew : ((backTo cpos (starEach (e :: es) X.env)).all (fun x => !x.1) && (backToKw cpos (keywordEach [] X.env)).all (fun x => x.1.isSome)
      && decide ((e :: es).length + ([] : List Keyword).length + (if ([] : List Keyword).isEmpty then 0 else 1) < 30)) = true := by rfl)
    (hline : (apos.endLine == cpos.line) = true := by rfl) (hs : starEach (e :: es) X.env = (false, eval e X.env) :: starEach es X.env := by rfl) (hplain : (backTo cpos (starEach es X.env)).any (·.1) = false := by rfl) :
    PE X (.Call (.Attribute o name apos) (e :: es) [] cpos) (tBM X.K T r to t) := by
  intro pins s σ H Q I h
  refine wpAny_Call_method_late hbase hfew hline rfl (thn (ho pins s σ H _ I h) fun v s1 hpat => ?_)
  obtain ⟨x, H1, I1, r1, ty, q1⟩ := hpat
  obtain ⟨h1, h2⟩ := tyV_is I1 r1 ty
  refine ⟨T, id, pa, slot, hty, h1, h2, ?_⟩
  have hA := ha cpos pins s1 σ H1 _ I1 q1
  rw [hs] at hA ⊢
  refine Calls.callWith_builtin (by show (false || (backTo cpos (starEach es X.env)).any (·.1)) = false; rw [hplain] <;> rfl) (Calls.evalArgs_plain ?_)
  exact thn hA fun us s2 ⟨vs, H2, I2, r2, q2⟩ => hm pins s2 σ H2 x vs v us Q I2 r1 r2 q2
/- xs.append(e), list.index on a module's tuple .. are MtR facts of 06m -/
end
end L2

namespace L2
open PySem PySem.Spec PyProof.Rows

def MtM (X : Cx) (id : String) (r : V → List V → Hp → VK → Prop) : Prop :=
  ∀ (pins : List (Addr × Obj)) (s : Shared) (σ : St) (H : Hp) (x : V) (xs : List V) (v : Value) (us : List Value) (Q : VK), Inv X pins σ H s → RelV x v → Vals xs us → r x xs H Q →
    wpAny (model X.prog X.w) X.A (call (.builtin id) (v :: us)) (EP X pins σ Q) X.xe s

/-! ### lists of values -/
theorem Vals.one : ∀ {x : V} {us : List Value}, Vals [x] us → ∃ u, us = [u] ∧ RelV x u
  | _, _, .cons r .nil => ⟨_, rfl, r⟩
theorem Vals.zero : ∀ {us : List Value}, Vals [] us → us = []
  | _, .nil => rfl

section
variable {X : Cx} {pins : List (Addr × Obj)} {σ : St} {H : Hp} {s : Shared} {l b : Addr} {xs ys zs : List V}

/-! ### the two steps: a tracked list is rewritten, a new list is laid -/
theorem Inv.lset {its its' : List Value} {n : Nat} {f : Array Value → Array Value} {t' : Nat} (I : Inv X pins σ H s) (hH : H l = some (.lst xs))
    (e : s.heap.get? l = some { cls := .type "list", data := .seq its.toArray n }) (hf : f its.toArray = its'.toArray) (hv : Vals ys its') (hz : ys.length ≤ sizeLine) :
    Inv X pins σ (upd H l (.lst ys)) { s with heap := s.heap.update l (Obj.mapSeq f), toks := t' } := by
  have q := PySem.IsL.update e f
  rw [hf] at q
  refine I.write (x := l) (e := l) (by rw [hH]; exact trivial) (.inl rfl) (fun b' u hb hu => (Heap.get?_update_other s.heap (Obj.mapSeq f) (Ne.symm hb)).trans hu) ⟨_, q⟩ ?_
  exact ⟨hz, its', _, hv, q⟩
theorem Inv.lnew {its : List Value} {t' : Nat} (I : Inv X pins σ H s) (hv : Vals ys its) (hz : ys.length ≤ sizeLine) :
    Inv X pins σ (upd H s.heap.objs.size (.lst ys)) { s with heap := s.heap.push { cls := .type "list", data := .seq its.toArray }, toks := t' } :=
  I.laid (fun _ _ q => Heap.get?_push_of_some _ q) (Nat.le_refl _) ⟨hz, its, 0, hv, Heap.get?_push_size _ rfl⟩
theorem Inv.fresh (I : Inv X pins σ H s) : H s.heap.objs.size = none := I.hok.fresh (Nat.le_refl _)
theorem Inv.lstM (I : Inv X pins σ H s) (hH : H l = some (.lst xs)) : xs.length ≤ sizeLine ∧ ∃ (its : List Value) (n : Nat), Vals xs its ∧ xs.length = its.length ∧ s.heap.get? l = some { cls := .type "list", data := .seq its.toArray n } := by
  obtain ⟨z, its, n, r, e⟩ := I.hok l _ hH
  exact ⟨z, its, n, r, r.length, e⟩

end

section
variable {X : Cx}

/-! ### methods -/
inductive AppP (x : V) (vs : List V) (H : Hp) (Q : VK) : Prop
  | mk (l : Addr) (xs : List V) (y : V) (hx : x = .ref l) (hv : vs = [y]) (s : H l = some (.lst xs)) (b : xs.length < sizeLine) (q : Q .non (upd H l (.lst (xs ++ [y]))))
def rAppend : V → List V → Hp → VK → Prop := fun x vs H Q => AppP x vs H Q
theorem mt_append : MtM X "list.append" rAppend := by
  intro pins s σ H x vs v us Q I rx rv h
  obtain ⟨l, xs, y, rfl, rfl, hH, hz, q⟩ := h
  cases rx
  obtain ⟨u, rfl, ru⟩ := rv.one
  obtain ⟨z, its, n, r, hl, e⟩ := I.lstM hH
  refine call_meets F.slot_list_append ⟨_, e, rfl⟩ F.entry_list_append (F.args_list_append_2 _ _) (PySem.list_append l its.toArray n u (by rw [List.size_toArray]; omega)) ⟨e, ?_⟩
  refine ⟨.non, _, I.lset (its' := its ++ [u]) hH e (by simp) (r.append (.cons ru .nil)) ?_, rfl, q⟩
  rw [List.length_append, List.length_singleton]
  omega

def rExtend : V → List V → Hp → VK → Prop := fun x vs H Q => ∃ l b xs zs, x = .ref l ∧ vs = [.ref b] ∧ H l = some (.lst xs) ∧ H b = some (.lst zs) ∧ xs.length + zs.length ≤ sizeLine ∧ Q .non (upd H l (.lst (xs ++ zs)))

def rPop : V → List V → Hp → VK → Prop := fun x vs H Q => ∃ l xs y, x = .ref l ∧ vs = [] ∧ H l = some (.lst xs) ∧ xs[xs.length - 1]? = some y ∧ Q y (upd H l (.lst xs.dropLast))

def rPopAt : V → List V → Hp → VK → Prop := fun x vs H Q => ∃ l xs i k y, x = .ref l ∧ vs = [.int i] ∧ H l = some (.lst xs) ∧ -(2 ^ 63) ≤ i ∧ i < 2 ^ 63 ∧ seqIndex? i xs.length = some k ∧ xs[k]? = some y ∧ Q y (upd H l (.lst (xs.eraseIdx k)))

def rReverse : V → List V → Hp → VK → Prop := fun x vs H Q => ∃ l xs, x = .ref l ∧ vs = [] ∧ H l = some (.lst xs) ∧ Q .non (upd H l (.lst xs.reverse))

def rClear : V → List V → Hp → VK → Prop := fun x vs H Q => ∃ l xs, x = .ref l ∧ vs = [] ∧ H l = some (.lst xs) ∧ Q .non (upd H l (.lst []))

/-! ### list + list, list += list, list * int -/
def rCat : R2 := fun x y H Q => ∃ l b xs zs, x = .ref l ∧ y = .ref b ∧ H l = some (.lst xs) ∧ H b = some (.lst zs) ∧ xs.length + zs.length ≤ sizeLine ∧ ∀ p, H p = none → Q (.ref p) (upd H p (.lst (xs ++ zs)))
/-- a list times an int (a negative one is nothing) -/
def rRep : R2 := fun x y H Q => ∃ l k xs, x = .ref l ∧ y = .int k ∧ H l = some (.lst xs) ∧ -(2 ^ 63) ≤ k ∧ k < 2 ^ 63 ∧ xs.length * k.toNat ≤ sizeLine ∧
  ∀ p, H p = none → Q (.ref p) (upd H p (.lst (List.replicate k.toNat xs).flatten))

/-! ### del xs[i] -/
end

/-! ### xs[a:b] = ys -/
section
variable {prog : Program} {w : World} {A : Around} {E : Value → Shared → Prop} {s : Shared}
set_option maxRecDepth 100000 in
end

section
variable {X : Cx}
end
end L2

namespace Att
open PySem PySem.W PySem.Calls PyProof.Rows

/-! ### the script -/
theorem ints_of_wellAll {P : Params} {h : Heap} : ∀ (ns : List Int) (vs : List Value), WellAll P h vs (ns.map WData.int) → IntsAre vs ns := by
  intro ns
  induction ns with
  | nil =>
    intro vs w
    rw [List.map_nil] at w
    cases w
    exact .nil
  | cons n ns ih =>
    intro vs w
    rw [List.map_cons] at w
    cases w with
    | cons a b =>
      cases a
      exact .cons _ _ (ih _ b)

theorem script_of {l : OpenLaw} {n : Nat} (hn : l.most = some n) {P : Params} {h : Heap} {args : List WData} {vals : List Value}
    (hpre : l.row.toRowW.claim.pre args = true) (hwl : WellAll P h vals args) :
    ∃ a vs ns, vals = [Value.ref a] ∧ args = [WData.list (ns.map WData.int)] ∧ h.get? a = some { cls := .type "list", data := .seq vs.toArray } ∧ IntsAre vs ns ∧ ns.length ≤ n := by
  have hsh : WShape.hasAll [] args [.list .int] = true := (pre_splitW hpre).1
  have hc : l.pre.holds [] { args := args } = true := (pre_splitW hpre).2
  obtain ⟨d, r, rfl, h1, h2⟩ := hasAllW_cons hsh
  obtain rfl := hasAllW_nil h2
  obtain ⟨xs, rfl, h3⟩ := hasW_list h1
  obtain ⟨ns, rfl⟩ := items_int h3
  have hlen : ns.length ≤ n := by
    unfold OpenLaw.pre at hc
    have h4 : (WTm.not (.lt (.lit (.int (n : Int))) (.len (.arg 0)))).holds [] { args := [.list (ns.map .int)] } = true := by
      have h4 := (holds_andW hc).1
      rw [hn] at h4
      exact h4
    have h5 := condW_of h4 (w_not (w_lt w_lit (w_len_list (w_arg rfl))))
    rw [List.length_map] at h5
    refine Nat.le_of_not_lt fun q => ?_
    have q' : (n : Int) < ((ns.length : Nat) : Int) := by omega
    first
      | (rw [decide_eq_true q'] at h5; exact absurd h5 (by decide))
      | (simp at h5; omega)
  cases hwl with
  | cons w1 w2 =>
    cases w2
    cases w1 with
    | list ho hall => exact ⟨_, _, ns, rfl, rfl, ho, ints_of_wellAll ns _ hall, hlen⟩

theorem post_true (l : OpenLaw) (args : List WData) : l.row.toRowW.claim.post args (.bool true) args = true :=
  postW_of (r := l.row.toRowW) (X := (true == true))
    (show WShape.has [] (.bool true) .bool = true by first | rfl | decide | simp [WShape.has, WShape.arms, WShape.armsAll])
    (show (WTm.eq .res (.lit (.bool true))).value [] { args := args, res := some (.bool true), after := args } = some (.bool (true == true)) from w_eq_bool (w_res rfl) w_lit) rfl

/-! ### the attachment: holds_open's last premise (the goal 'hc' behind k_head) from a wpAny of the law's body -/

/-- the same from a codeAny of the CALL (for a layer whose function contracts speak of calls) -/
theorem attach_call {l : OpenLaw} {n : Nat} {q : Program} {loose : List Str} {XP : (Str → Option Value) → Heap → Prop} {YP : World → Heap → Prop} {d : DefRec}
    (hn : l.most = some n) (hdf : d.params.defaults = [])
    (call : ∀ (w : World) (s₀ s₁ : Shared) (mg mb : Str → Option Value) (fa : Addr) (o : Obj) (pm cd doc : Value) (a : Addr) (vs : List Value) (ns : List Int),
      Ground q loose [] XP w s₀ mg mb s₁.heap → YP w s₁.heap →
      s₁.heap.get? fa = some o → o.data = .func (docDef d.name d.params d.body d.scope pm cd doc) → s₁.heap.CodeRec cd d.name → mg d.name = some (.ref fa) →
      s₁.heap.get? a = some { cls := .type "list", data := .seq vs.toArray } → IntsAre vs ns → ns.length ≤ n → s₁.gens = #[] →
      codeAny (model l.prog w) callerA (.call (.ref fa) ⟨[.ref a], []⟩) (fun r s' => r = .ok (.ret (.bool true)) ∧ OldK s₁.heap s'.heap ∧ s'.os = s₁.os ∧ AllBare s'.gens) s₁) :
    WalkO q loose XP YP l.row.toRowW d [] (fun f vs => PySem.call f vs) := by
  intro w s₀ s₁ mg mb G Y fa o pm cd doc dV kV ho hd hcd hD hmg hg args vals as hpre hlay hrd hwl hlo
  obtain rfl : dV = .none := Dflts.none hD hdf
  obtain rfl : kV = .none := Dflts.noKw hD
  obtain ⟨a, vs, ns, rfl, rfl, hobj, hints, hlen⟩ := script_of hn hpre hwl
  refine enter_call (codeAny_mono (call w s₀ s₁ mg mb fa o pm cd doc a vs ns G Y ho (fd_plain hd) hcd hmg hobj hints hlen hg) fun r s' hq => ?_)
  obtain ⟨rfl, h2, h3, h4⟩ := hq
  exact ⟨.inl ⟨.bool true, .bool true, [], rfl, fun _ => rfl, .bool true, post_true l _, fun _ => ⟨List.Pairwise.nil, fun _ hm => (nomatch hm)⟩⟩, h2, h3, h4⟩


/-! ### rules over ANY heap (no ledger) from facts about the written part K: the library's own take a ledger (News) for what they write -/
section
variable {prog : Program} {w : World} {A : Around} {E : Value → Shared → Prop} {s : Shared} {K : Frag}





/-! the whole heap as the ledger: makes every rule that writes through a ledger a rule over any heap -/
def noObjs (h : Heap) : Heap := { h with objs := #[] }
def ledger (h : Heap) (L d : Addr) : List (Addr × Obj) := (List.range h.objs.size).filterMap fun a => if a = L ∨ a = d then none else (h.get? a).map fun o => (a, o)

end
end Att

namespace L2
open PySem PySem.Spec PyProof.Rows

theorem vals_ints : ∀ {vs : List Value} {ns : List Int}, IntsAre vs ns → Vals (ns.map V.int) vs
  | _, _, .nil => .nil
  | _, _, .cons n t h => .cons ⟨t, rfl⟩ (vals_ints h)

/-- nothing is tracked but the script, known to the object (or it is an object of the module) -/
def Only (H : Hp) : Prop := ∀ b, H b = none ∨ ∃ o xs, H b = some (.frz o (.lst xs))

/-- THE HEAD: the law's promise, at the heap behind the top. F, the promise of the law's def, may use that base is part of the heap (so K.In base, base.Ns mainGlobals mg stand in Mod) -/
theorem law_call {P : Program} {w : World} {K : PySem.W.Frag} {mg mb : Str → Option Value} {CX : CXT} {k : Nat} {fa a : Addr} {fd : FuncData} {x : Str} {sp : Sp} {s₁ : Shared} {vs : List Value} {ns : List Int}
    (KX : K.In s₁.heap) (hns : s₁.heap.Ns mainGlobals mg) (hb : s₁.heap.Ns builtinsNs mb) (hbb : ∀ x : Str, x ≠ "__name__" → mb x = bootBuiltins x) (hlim : s₁.heap.NoLimit) (hg : s₁.gens = #[])
    (ha : s₁.heap.get? a = some { cls := .type "list", data := .seq vs.toArray }) (hi : IntsAre vs ns) (hl : ns.length ≤ sizeLine) (hr : Room k callerA)
    (F : ∀ base : Heap, K.In base → base.Ns mainGlobals mg → FnOk P w K mg base CX k fa fd [x] sp) (hbind : ∀ (s : Shared) (u : Value), BindsTo s fd ⟨[u], []⟩ [(x, u)])
    (hsp : ∀ H : Hp, Only H → SqL K H a (ns.map V.int) → sp [.ref a] H (fun v _ => v = .bl true) fun _ _ _ => False)
    (hCX : ∀ H e s', CX [] H s₁ (fun _ _ _ => False) e s' → False) :
    codeAny (model P w) callerA (.call (.ref fa) ⟨[.ref a], []⟩) (fun r s' => r = .ok (.ret (.bool true)) ∧ OldK s₁.heap s'.heap ∧ s'.os = s₁.os ∧ AllBare s'.gens) s₁ := by
  have rv := vals_ints hi
  have lenV := hi.length
  -- from an abstract heap in which nothing but the script may be tracked
  have core : ∀ H : Hp, Only H → SqL K H a (ns.map V.int) → HOk P w H s₁.heap → (∀ b, H b ≠ none → b = a) → (H a ≠ none → K.lookup a = none) →
      codeAny (model P w) callerA (.call (.ref fa) ⟨[.ref a], []⟩) (fun r s' => r = .ok (.ret (.bool true)) ∧ OldK s₁.heap s'.heap ∧ s'.os = s₁.os ∧ AllBare s'.gens) s₁ := by
    intro H hO hS hok hA hK
    have base_of : ∀ {b : Addr} {o : Obj}, s₁.heap.get? b = some o → H b = none → (hidT s₁.heap H).get? b = some o := fun e n => hidT_get e n
    have noA : ∀ {b : Addr} {o : Obj} {es : Array DictEntry} {ep : Nat}, s₁.heap.get? b = some o → o.data = .dict es ep → H b = none := fun {b o es ep} e d => by
      cases q : H b with
      | none => rfl
      | some u =>
        have e' : b = a := hA b (by rw [q]; simp)
        subst e'
        rw [ha] at e; cases e
        have d' : Data.seq vs.toArray _ = Data.dict es ep := d
        cases d'
    have nsK : ∀ {b : Addr} {m : Str → Option Value}, s₁.heap.Ns b m → (hidT s₁.heap H).Ns b m := fun {b m} ⟨o, es, ep, e, d, r⟩ => ⟨o, es, ep, base_of e (noA e d), d, r⟩
    have hKb : K.In (hidT s₁.heap H) := fun b o e => base_of (KX b o e) (by
      cases q : H b with
      | none => rfl
      | some u =>
        have e' : b = a := hA b (by rw [q]; simp)
        subst e'
        rw [hK (by rw [q]; simp)] at e; cases e)
    have hM : Mod K mg (hidT s₁.heap H) := ⟨hKb, nsK hns, ⟨mb, nsK hb, hbb⟩, let ⟨mc, h1, h2⟩ := hlim; ⟨mc, nsK h1, h2⟩⟩
    have e0 : Env0 P w K mg (hidT s₁.heap H) callerA [] s₁ H := ⟨rfl, hM, fun b o e => of_hidT e, Nat.le_of_eq (hidT_size _ _), trivial, fun b hb => absurd (show b ∈ ([] : List Addr) from hb) (by simp), hok, .of_eq hg⟩
    refine codeAny_mono ((F _ hKb (nsK hns)).run callerA [] s₁ H ⟨[.ref a], []⟩ [.ref a] [.ref a] _ _ hr e0 (hbind s₁ (.ref a)) (.cons rfl .nil) (hsp H hO hS)) fun r s' h => ?_
    cases r with
    | error e => exact (hCX H e s' h).elim
    | ok fl =>
      cases fl with
      | next => exact False.elim h
      | brk => exact False.elim h
      | cont => exact False.elim h
      | ret u =>
        obtain ⟨v, H', os, bare, un, hok', r', q⟩ := h
        have q' : v = .bl true := q
        subst q'
        obtain rfl : u = Value.bool true := r'
        refine ⟨rfl, OldK.of_keep fun b o e => ?_, os, bare⟩
        cases q : H b with
        | none => exact un.keep b o e q (by intro z; exact absurd (show b ∈ ([] : List Addr) from z) (by simp)) (by simp)
        | some u =>
          rcases hO b with z | ⟨ob, xs, z⟩
          · rw [q] at z; cases z
          · have z2 := un.frzs b ob _ z
            obtain ⟨e1, _⟩ := hok b _ z
            obtain ⟨e2, _⟩ := hok' b _ z2
            rw [e] at e1; cases e1
            exact e2
  cases hk : K.lookup a with
  | some o =>
    -- the script is one of the module's own objects
    have e := KX a o hk
    rw [ha] at e
    cases e
    refine core (fun _ => none) (fun _ => .inl rfl) (.inr ⟨_, vs.toArray, _, hk, rfl, rfl, rfl, by rw [List.size_toArray, lenV]; exact hl, by simpa using rv⟩) (fun b u z => by have z' : (none : Option HO) = some u := z; cases z') (fun b z => absurd rfl z) fun z => absurd rfl z
  | none =>
    refine core (fun b => if b = a then some (.frz { cls := .type "list", data := .seq vs.toArray } (.lst (ns.map V.int))) else none) (fun b => ?_) (.inl (.inr ⟨{ cls := .type "list", data := .seq vs.toArray }, if_pos rfl⟩)) (fun b u z => ?_) (fun b z => ?_) fun _ => hk
    · by_cases hb : b = a
      · exact .inr ⟨_, _, if_pos hb⟩
      · exact .inl (if_neg hb)
    · by_cases hb : b = a
      · have z' := (if_pos hb).symm.trans z
        cases z'
        subst hb
        exact ⟨ha, by rw [List.length_map]; exact hl, vs, _, rv, ha⟩
      · have z' := (if_neg hb).symm.trans z
        cases z'
    · by_cases hb : b = a
      · exact hb
      · exact absurd (if_neg hb) z
end L2

namespace L2
open PySem PySem.Spec PyProof.Rows

abbrev KOf {K : PySem.W.Frag} {h : Heap} (_ : K.In h) : PySem.W.Frag := K

/-- the goal that k_head leaves (case hc), from the law's promise. F gives the function object fd (K's own) once, then the promise over every base -/
theorem walk_of {l : PySem.W.OpenLaw} {n k : Nat} {q : Program} {loose : List Str} {XP : (Str → Option Value) → Heap → Prop} {YP : World → Heap → Prop} {d : DefRec} {K : Params → PySem.W.Frag} {CX : World → CXT} {sp : World → Sp} {x : Str}
    (hn : l.most = some n) (hn2 : n ≤ sizeLine) (hdf : d.params.defaults = []) (hr : Room k callerA)
    (hY : ∀ (w : World) (h : Heap), YP w h → (K w.params).In h)
    (F : ∀ (w : World) (mg : Str → Option Value) (fa : Addr) (h : Heap), (K w.params).In h → h.Ns mainGlobals mg → mg d.name = some (.ref fa) →
      ∃ fd : FuncData, (∀ (s : Shared) (u : Value), BindsTo s fd ⟨[u], []⟩ [(x, u)]) ∧
        ∀ base : Heap, (K w.params).In base → base.Ns mainGlobals mg → FnOk l.prog w (K w.params) mg base (CX w) k fa fd [x] (sp w))
    (hsp : ∀ (w : World) (H : Hp) (a : Addr) (ns : List Int), ns.length ≤ n → Only H → SqL (K w.params) H a (ns.map V.int) → sp w [.ref a] H (fun v _ => v = .bl true) fun _ _ _ => False)
    (hCX : ∀ (w : World) (H : Hp) (s : Shared) (e : Value) (s' : Shared), CX w [] H s (fun _ _ _ => False) e s' → False) :
    PySem.W.WalkO q loose XP YP l.row.toRowW d [] (fun f vs => PySem.call f vs) := by
  refine Att.attach_call hn hdf fun w s₀ s₁ mg mb fa o pm cd doc a vs ns G Y ho hd hcd hmg hobj hints hlen hg => ?_
  have KX := hY w _ Y
  obtain ⟨fd, hb, hF⟩ := F w mg fa _ KX G.T.g hmg
  exact law_call KX G.T.g G.T.b G.T.builtins G.T.nolimit hg hobj hints (Nat.le_trans hlen hn2) hr hF hb (fun H hO hS => hsp w H a ns hlen hO hS) fun H e s' => hCX w H s₁ e s'
end L2

/- THE LAST THEOREM (shape; LID, My.* are yours):
   My.Adr: a structure of the addresses that your layer names (classes, functions); My.Txt K t: a structure (Prop) of the equations over K;
   My.txt_mk : {K} {implicit addresses ..} (e1 : nsIn K mainGlobals "law" = some (some (.ref f))) (e2 : K.lookup f = some ⟨oc, od, .func (fnOf "law" "law" params body scope dV kV doc pm an cdv ct), sl⟩) (e3 : codeIn K cdv "law" = true) .. : ∃ t, My.Txt K t

set_option maxRecDepth 100000 in
set_option maxHeartbeats 0 in
(the tactic k_is has no namespace: write k_is) -/

/-! SHORT WORDS over the layer: a def of the text, its body, what a loop and a test want. -/
namespace L2
open PySem PySem.Spec PyProof.Rows

/-! ### the text by places -/
/-! ### no exception leaves a def -/
abbrev CX0 : CXT := fun _ _ _ _ _ _ => False
abbrev E0 : XK := fun _ _ _ => False
theorem pass0 {X : Cx} : Passes CX0 X E0 := fun _ _ _ _ _ _ _ h => h.elim

/-! ### a def (or method) of the text as it stands behind the top -/
structure Fun (K : PySem.W.Frag) (x qual : Str) (st : Stmt) (f : Addr) (fd : FuncData) : Prop where
  ex : ∃ (oc : Value) (od : Option Addr) (kV doc pm : Value) (an : Option Addr) (cdv ct : Value) (osl : Array (Option Value)),
    fd = PySem.W.fnOf x qual (defArgs st) (defBody st) (defScope st) .none kV doc pm an cdv ct ∧ K.lookup f = some ⟨oc, od, .func fd, osl⟩ ∧ PySem.W.codeIn K cdv qual = true
  kp : PySem.W.keepIn K (.ref f) = true
section
variable {P : Program} {w : World} {K : PySem.W.Frag} {mg : Str → Option Value} {base : Heap}
/-- THE RULE for a def: its body as a term of rules, and the reading of that term -/
theorem Fun.ok {x qual : Str} {st : Stmt} {f : Addr} {fd : FuncData} {N ps : List Str} {k : Nat} {sp : Sp} (F : Fun K x qual st f fd) (S : FnScope N ps (defScope st)) (len : ∀ vs H Q E, sp vs H Q E → vs.length = ps.length)
    (hbody : ∀ (cdv : Value) (A : Around) (outer : List Env) (s : Shared) (H : Hp) (vs : List V) (Q : VK) (E : XK), Room k (A.deeper (envOfC qual (defScope st) s.heap.objs.size f cdv)) → sp vs H Q E →
      ∃ t, PSs (cxOf CX0 P w K mg base N qual (defScope st) f cdv A outer s H E).nox (defBody st) t ∧ t { nx := fun _ H' => Q .non H', rt := Q } (start N vs) H) : FnOk P w K mg base CX0 (k + 1) f fd ps sp := by
  obtain ⟨oc, od, kV, doc, pm, an, cdv, ct, osl, rfl, lk, hcd⟩ := F.ex
  refine fn_of lk hcd S len fun A outer s H vs Q E hr hsp => ?_
  obtain ⟨t, h, q⟩ := hbody cdv A outer s H vs Q E hr hsp
  exact ⟨t, h.nox, q⟩
/-- how its arguments bind (no defaults): h is «fun _ _ _ _ _ _ us hl => match us, hl with | [_, _], _ => rfl», one _ a parameter -/
theorem Fun.binds {x qual : Str} {st : Stmt} {f : Addr} {fd : FuncData} {ps : List Str} (F : Fun K x qual st f fd)
    (h : ∀ (kV doc pm : Value) (an : Option Addr) (cdv ct : Value) (us : List Value), us.length = ps.length → bindArgs (PySem.W.fnOf x qual (defArgs st) (defBody st) (defScope st) .none kV doc pm an cdv ct) ⟨us, []⟩ = pure (ps.zip us)) : Binds K fd ps [] := by
  obtain ⟨oc, od, kV, doc, pm, an, cdv, ct, osl, rfl, lk, hcd⟩ := F.ex
  exact .all (h kV doc pm an cdv ct)
theorem fun_mk {x qual : Str} {st : Stmt} {f : Addr} {oc : Value} {od an : Option Addr} {osl : Array (Option Value)} {kV doc pm cdv ct : Value} (l : K.lookup f = some ⟨oc, od, .func (PySem.W.fnOf x qual (defArgs st) (defBody st) (defScope st) .none kV doc pm an cdv ct), osl⟩)
    (c : PySem.W.codeIn K cdv qual = true) (k : PySem.W.keepIn K (.ref f) = true) : Fun K x qual st f (PySem.W.fnOf x qual (defArgs st) (defBody st) (defScope st) .none kV doc pm an cdv ct) := ⟨⟨oc, od, kV, doc, pm, an, cdv, ct, osl, rfl, l, c⟩, k⟩
end
theorem hu_of {A : Around} {k : Nat} (hr : Room k A) : A.units + 1 < cLine := Nat.lt_of_le_of_lt (Nat.add_le_add_left (by decide : 1 ≤ 64) _) hr.units

/-! ### expressions in short: the name that stands in the i-th slot -/
section
variable {X : Cx}
theorem pv (i : Nat) {x : Str} {pos : Pos} (hN : X.N[i]? = some x := by rfl) (hv : Vis X.env.scope x := by first | exact Or.inl rfl | exact Or.inr (Or.inl rfl) | exact Or.inr (Or.inr rfl)) (hd : (x == ("__debug__" : Str)) = false := by decide)
    (hcd : (x == ("__classdict__" : Str)) = false := by decide) : PE X (.Name x pos) (tVar i) := pe_var hN hv hd hcd
end

/-! ### tests -/
theorem iteF {A B : Prop} (h : B) : if false = true then A else B := by
  rw [if_neg Bool.false_ne_true]
  exact h
theorem iteT {A B : Prop} (h : A) : if true = true then A else B := by
  rw [if_pos rfl]
  exact h
theorem ite2 {c A B : Prop} [Decidable c] (h1 : c → A) (h2 : ¬ c → B) : if c then A else B := by
  by_cases h : c
  · rw [if_pos h]
    exact h1 h
  · rw [if_neg h]
    exact h2 h

/-! ### heaps -/
/-- all that was tracked is as it was -/
def Same (H H' : Hp) : Prop := ∀ b o, H b = some o → H' b = some o
theorem Same.refl (H : Hp) : Same H H := fun _ _ h => h
theorem Same.trans {H H1 H2 : Hp} (a : Same H H1) (b : Same H1 H2) : Same H H2 := fun c o h => b c o (a c o h)
theorem Same.free {H H' : Hp} (e : Same H H') {l : Addr} (h : H' l = Option.none) : H l = Option.none := by
  cases q : H l with
  | none => rfl
  | some o =>
    rw [e l o q] at h
    cases h
theorem Same.seq {K : PySem.W.Frag} {H H' : Hp} {a : Addr} {xs : List V} (e : Same H H') (h : SqL K H a xs) : SqL K H' a xs := by
  rcases h with (h | ⟨o, h⟩) | h
  · exact .inl (.inl (e _ _ h))
  · exact .inl (.inr ⟨o, e _ _ h⟩)
  · exact .inr h

end L2

namespace L2
open PySem PySem.Builtin.Str
end L2

/-! ### list comprehensions: one clause, a name, no test -/
namespace L2
open PySem PySem.Spec PyProof.Rows
theorem closure_ok {env : Env} {scope : Scope} (h : ∀ y ∈ scope.names, y.2 = .free → ∃ c, env.cells.lookup y.1 = some c) :
    ∃ cl, closureFor scope env = pure cl ∧ (∀ y c, cl.lookup y = some c → env.cells.lookup y = some c) ∧ (∀ y ∈ scope.names, y.2 = .free → cl.lookup y.1 = env.cells.lookup y.1) := by
  have gen : ∀ (names : List (Str × NameKind)) (acc : List (Str × Addr)), (∀ y ∈ names, y.2 = .free → ∃ c, env.cells.lookup y.1 = some c) → (∀ y c, acc.lookup y = some c → env.cells.lookup y = some c) →
      ∃ cl, (forIn (m := Sem) names acc fun x r => match x with
        | (name, kind) => if (kind == NameKind.free) = true then do
            let a ← cellOf env name
            pure (ForInStep.yield ((name, a) :: r))
          else pure (ForInStep.yield r)) = pure cl ∧ (∀ y c, cl.lookup y = some c → env.cells.lookup y = some c) ∧ (∀ y c, acc.lookup y = some c → cl.lookup y = some c) ∧ (∀ y ∈ names, y.2 = .free → cl.lookup y.1 = env.cells.lookup y.1) := by
    intro names
    induction names with
    | nil => intro acc _ ha; exact ⟨acc, rfl, ha, fun _ _ e => e, fun y hy => nomatch hy⟩
    | cons x r ih =>
      intro acc hn ha
      obtain ⟨n, k⟩ := x
      by_cases hk : k = .free
      · subst hk
        obtain ⟨c, hc⟩ := hn (n, .free) List.mem_cons_self rfl
        have hc' : cellOf env n = pure c := by
          unfold cellOf
          rw [show env.cells.lookup n = some c from hc]
        have ha' : ∀ y d, ((n, c) :: acc).lookup y = some d → env.cells.lookup y = some d := fun y d e => by
          rw [List.lookup_cons] at e
          cases q : y == n with
          | true => rw [q] at e; cases e; rw [eq_of_beq q]; exact hc
          | false => rw [q] at e; exact ha y d e
        obtain ⟨cl, e, h1, h2, h3⟩ := ih ((n, c) :: acc) (fun y hy => hn y (List.mem_cons_of_mem _ hy)) ha'
        refine ⟨cl, ?_, h1, fun y d q => ?_, fun y hy hf => ?_⟩
        · rw [List.forIn_cons]
          simp only [beq_self_eq_true, if_true, hc']
          exact e
        · cases z : y == n with
          | true =>
            have : y = n := eq_of_beq z
            subst this
            have q1 := ha y d q
            rw [hc] at q1; cases q1
            exact h2 y c (by rw [List.lookup_cons, z])
          | false => exact h2 y d (by rw [List.lookup_cons, z]; exact q)
        · rcases List.mem_cons.mp hy with rfl | hy
          · have := h2 n c (by rw [List.lookup_cons, beq_self_eq_true])
            rw [this, hc]
          · exact h3 y hy hf
      · have hb : (k == NameKind.free) = false := by simpa using hk
        obtain ⟨cl, e, h1, h2, h3⟩ := ih acc (fun y hy => hn y (List.mem_cons_of_mem _ hy)) ha
        refine ⟨cl, ?_, h1, h2, fun y hy hf => ?_⟩
        · rw [List.forIn_cons]
          simp only [hb, Bool.false_eq_true, if_false]
          exact e
        · rcases List.mem_cons.mp hy with rfl | hy
          · exact absurd hf hk
          · exact h3 y hy hf
  obtain ⟨cl, e, h1, _, h3⟩ := gen scope.names [] h (fun y c e => by cases e)
  refine ⟨cl, ?_, h1, h3⟩
  simp only [closureFor]
  rw [show (forIn scope.names ([] : List (Str × Addr)) _ : Sem _) = pure cl from e]
  rfl
theorem relabel_free {env : Env} (hk : env.scope.kind = .function) : ∀ {names : List (Str × NameKind)} {x : Str}, names.lookup x = some .free → env.kindOf x = some .cell →
    (names.map fun (n, k) => if (k == NameKind.free && env.scope.kind == .function && env.kindOf n == some .cell) then (n, NameKind.cell) else (n, k)).lookup x = some .cell
  | [], _, h, _ => by simp at h
  | (n, k) :: r, x, h, hc => by
    have ih := @relabel_free env hk r x
    show List.lookup x ((if (k == NameKind.free && env.scope.kind == .function && env.kindOf n == some .cell) = true then (n, NameKind.cell) else (n, k)) :: _) = _
    cases hx : x == n with
    | true =>
      simp only [List.lookup_cons, hx] at h
      cases h
      have e : x = n := eq_of_beq hx
      subst e
      rw [if_pos (by simp [hk, hc])]
      simp [List.lookup_cons]
    | false =>
      simp only [List.lookup_cons, hx] at h
      by_cases hc' : (k == NameKind.free && env.scope.kind == .function && env.kindOf n == some .cell) = true
      · rw [if_pos hc']; simp only [List.lookup_cons, hx]; exact ih h hc
      · rw [if_neg hc']; simp only [List.lookup_cons, hx]; exact ih h hc
theorem relabel_back {env : Env} {scope : Scope} {y : Str} {k' : NameKind} (h : (relabel scope env).names.lookup y = some k') (hk' : k' = .cell ∨ k' = .free) (nocell : ∀ z ∈ scope.names, z.2 ≠ .cell) : (y, NameKind.free) ∈ scope.names := by
  have hm := PySem.mem_of_lookup h
  obtain ⟨⟨n, k⟩, hm', e⟩ := List.mem_map.mp hm
  dsimp only at e
  split at e
  · rename_i c
    cases e
    rw [Bool.and_eq_true, Bool.and_eq_true] at c
    have e2 : k = .free := by simpa using c.1.1
    subst e2
    exact hm'
  · cases e
    rcases hk' with rfl | rfl
    · exact absurd rfl (nocell _ hm')
    · exact hm'

/-- the context of the block -/
def lcCx (X : Cx) (N' : List Str) (scope : Scope) (cl : List (Str × Addr)) (fp : List Addr) (s3 : Shared) (H3 : Hp) (C : Addr) : Cx :=
  { X with N := N', s₀ := s3, H₀ := H3, env := compEnvC scope cl C X.env, outer := X.stack, ex := fp, fn := fun _ => false, pn := [], xe := fun _ _ => False }
def caps (is : List Nat) (σ : St) : St := is.map fun i => (σ[i]?).join
def lcGoal (J : It) (is : List Nat) (te : TE) (σ : St) (H1 : Hp) (Q : VK) : Prop := ∀ D, H1 D = none → ∃ W : Nat → Nat → List V → Hp → Prop, (∃ m, W 0 m [] (upd H1 D (.lst []))) ∧
  ∀ i m ys H2, W i m ys H2 → H2 D = some (.lst ys) ∧ ((J.stop i H2 ∧ Q (.ref D) H2) ∨ (J.go i H2 ∧ ∀ v H3, J.yld i H2 v H3 → te (some v :: caps is σ) H3 fun y H4 =>
    H4 D = some (.lst ys) ∧ ys.length < sizeLine ∧ ∃ m', m' < m ∧ W (i + 1) m' (ys ++ [y]) (upd H4 D (.lst (ys ++ [y])))))
def tLC (wi : TI) (is : List Nat) (te : TE) : TE := fun σ H Q => wi σ H fun J H1 => lcGoal J is te σ H1 Q
structure LcOk (sc : Scope) (N : List Str) (x : Str) (scope : Scope) (is : List Nat) (ns : List Str) : Prop where
  kind : scope.kind = .function
  nocell : ∀ y ∈ scope.names, y.2 ≠ .cell
  names : ∀ y ∈ scope.names, y.2 = .local → scope.names.lookup y.1 = some .local
  free : ∀ y ∈ scope.names, y.2 = .free → sc.names.lookup y.1 = some .cell
  hx : scope.names.lookup x = some .local
  cap : ns.map some = is.map fun i => N[i]?
  nd : (x :: ns).Nodup
  capf : ∀ y ∈ ns, scope.names.lookup y = some .free ∧ sc.names.lookup y = some .cell
section
variable {X : Cx} {x : Str} {px pos : Pos} {elt iter : Expr} {scope : Scope} {wi : TI} {te : TE} {is : List Nat} {ns : List Str}
end
end L2

namespace L2
open PySem PySem.Spec PyProof.Rows
/-! ### a comprehension whose elements are values of the items alone -/
section
variable {K : PySem.W.Frag} {is : List Nat} {te : TE} {σ : St} {H : Hp} {Q : VK}
theorem Same.upd {H : Hp} {D : Addr} {o : HO} (h : H D = none) : Same H (upd H D o) := fun b u e => by
  rw [upd_ne (ne_of_none e h)]
  exact e
theorem lc_gen {J : It} {xs : List V} (f : V → V) (hz : xs.length ≤ sizeLine) (hgo : ∀ i H2, Same H H2 → i < xs.length → J.go i H2) (hstop : ∀ H2, Same H H2 → J.stop xs.length H2)
    (hy : ∀ i H2 v H3, Same H H2 → i < xs.length → J.yld i H2 v H3 → H3 = H2 ∧ xs[i]? = some v)
    (he : ∀ v H2 Q', v ∈ xs → Same H H2 → Q' (f v) H2 → te (some v :: caps is σ) H2 Q') (q : ∀ D, H D = none → Q (.ref D) (upd H D (.lst (xs.map f)))) : lcGoal J is te σ H Q := by
  intro D hD
  refine ⟨fun i m ys H2 => m = xs.length - i ∧ i ≤ xs.length ∧ ys = (xs.take i).map f ∧ H2 = upd H D (.lst ys), ⟨_, rfl, Nat.zero_le _, by simp, rfl⟩, ?_⟩
  rintro i m ys H2 ⟨rfl, hi, hys, rfl⟩
  have sm : Same H (upd H D (.lst ys)) := Same.upd hD
  refine ⟨upd_same, ?_⟩
  by_cases hlt : i < xs.length
  · refine .inr ⟨hgo i _ sm hlt, fun v H3 y => ?_⟩
    obtain ⟨rfl, hv⟩ := hy i _ v H3 sm hlt y
    refine he v _ _ (List.mem_of_getElem? hv) sm ⟨upd_same, ?_, xs.length - (i + 1), by omega, rfl, hlt, ?_, upd_upd⟩
    · rw [hys, List.length_map, List.length_take]
      omega
    · rw [hys, List.take_add_one, hv, List.map_append]
      rfl
  · have e : i = xs.length := by omega
    subst e
    refine .inl ⟨hstop _ sm, ?_⟩
    rw [hys, List.take_length]
    exact q D hD
theorem Same.seqT {K : PySem.W.Frag} {H H' : Hp} {a : Addr} {xs : List V} (e : Same H H') (h : SqT K H a xs) : SqT K H' a xs := by
  rcases h with (h | ⟨o, h⟩) | h
  · exact .inl (.inl (e _ _ h))
  · exact .inl (.inr ⟨o, e _ _ h⟩)
  · exact .inr h
theorem lc_range {lo : Int} {n : Nat} (f : V → V) (hz : n ≤ sizeLine) (he : ∀ (i : Nat) H2 Q', i < n → Same H H2 → Q' (f (.int (lo + i))) H2 → te (some (.int (lo + i)) :: caps is σ) H2 Q')
    (q : ∀ D, H D = none → Q (.ref D) (upd H D (.lst ((List.range n).map fun (i : Nat) => f (.int (lo + i)))))) : lcGoal (Itr lo n) is te σ H Q := by
  refine lc_gen (xs := (List.range n).map fun (i : Nat) => V.int (lo + i)) f (by simpa using hz) (fun i H2 _ hi => ?_) (fun H2 _ => ?_) (fun i H2 v H3 _ hi y => ?_) (fun v H2 Q' hv sm q' => ?_) (fun D hD => ?_)
  · show i < n
    simpa using hi
  · show n ≤ _
    simp
  · obtain ⟨rfl, rfl⟩ := y
    have hi' : i < n := by simpa using hi
    exact ⟨rfl, by simp [hi']⟩
  · obtain ⟨i, hi, rfl⟩ := List.mem_map.mp hv
    exact he i H2 Q' (List.mem_range.mp hi) sm q'
  · rw [List.map_map]
    exact q D hD
end

/-! ### the signs of a text -/
def signs (z : Str) : List V := z.cps.toList.map fun c => V.str ⟨#[c]⟩
theorem signs_length (z : Str) : (signs z).length = z.cps.size := by simp [signs]
def Its (z : Str) : It := ⟨fun i _ => i < z.cps.size, fun i H x H' => H' = H ∧ (signs z)[i]? = some x, fun i _ => i = z.cps.size⟩
theorem turn_str {P : Program} {w : World} {K : PySem.W.Frag} {tg : Expr} {ty : String} {z : Str} {t : Tok} (it : Addr) (hW : ∀ A : Around, A.handled = none → Walks P w A it [it] [it] z.cps.size (SignAt z) (fun i h => h.IsStrIter it ty z t i))
    (hS : ∀ (A : Around) (i : Nat) (s : Shared) (Q : Value → Shared → Prop) (E : Value → Shared → Prop), s.heap.IsStrIter it ty z t i → Q (.ref it) s → wpAny (model P w) A (pyIter (.ref it)) Q E s)
    (hn : ["enumerate", "zip", "dict_itemiterator", "dict_reverseitemiterator", "odict_iterator", "itertools.zip_longest", "itertools.pairwise"].contains ty = false) : Turn P w K tg (Its z) [it] it (fun i h => h.IsStrIter it ty z t i) where
  mem := by simp
  obj := fun i h st b hb => by
    have e : b = it := by simpa using hb
    subst e
    obtain ⟨o, e, c, d⟩ := st
    exact ⟨o, e, fun v z => by rw [d] at z; cases z⟩
  keep := fun i h h' st k => by
    obtain ⟨o, e, r⟩ := st
    exact ⟨o, k it (by simp) o e, r⟩
  item := by
    intro X hP hw hK hc i pins s σ H E I hf st hg
    subst hP hw hK
    obtain ⟨f0, f1, f2, f3, f4, f5⟩ := hf it (by simp)
    refine (hW X.A (I.ok.hd hc)).item i s _ _ hg st fun v h' tk hv st' kk => ?_
    obtain ⟨c, u, hcp, rfl⟩ := hv
    have I1 : Inv X pins σ H { s with heap := h', toks := tk } := I.turned (fun b o hb e => kk b o (by simpa using hb) e) f0 f1 f3 f4 f5
    obtain ⟨o, e, cc, d⟩ := id st'
    refine ⟨_, rfl, go_of (s := { s with heap := h', toks := tk }) e cc d hn ⟨.str ⟨#[c]⟩, H, I1, ⟨u, rfl⟩, ⟨rfl, ?_⟩, st', fun b hb => (hf b hb).1⟩⟩
    unfold signs
    rw [List.getElem?_map, Array.getElem?_toList, hcp]
    rfl
  done := by
    intro X hP hw hK hc i pins s σ H E I hf st hg
    subst hP hw hK
    obtain ⟨f0, f1, f2, f3, f4, f5⟩ := hf it (by simp)
    have hg' : i = z.cps.size := hg
    subst hg'
    exact (hW X.A (I.ok.hd hc)).done s _ _ st fun h' tk kk => ⟨rfl, I.turned (fun b o hb e => kk b o (by simpa using hb) e) f0 f1 f3 f4 f5⟩
  self := hS
section
variable {X : Cx} {tg : Expr}
def iStr (tl : TE) : TI := fun σ H R => tl σ H fun x H1 => ∃ z, x = .str z ∧ R (Its z) H1
theorem pi_str {l : Expr} {tl : TE} (hl : PE X l tl) : PI X tg l (iStr tl) := by
  intro pins s σ H R I h
  refine thn (hl pins s σ H _ I h) fun v s1 hpat => ?_
  obtain ⟨x, H1, I1, r1, q1⟩ := hpat
  obtain ⟨z, e, q⟩ := q1
  subst e
  obtain ⟨t, rfl⟩ := r1
  have fin : ∀ (ty : String) (hW : ∀ A : Around, A.handled = none → Walks X.prog X.w A s1.heap.objs.size [s1.heap.objs.size] [s1.heap.objs.size] z.cps.size (SignAt z) (fun i h => h.IsStrIter s1.heap.objs.size ty z t i))
      (hS : ∀ (A : Around) (i : Nat) (s : Shared) (Q : Value → Shared → Prop) (E : Value → Shared → Prop), s.heap.IsStrIter s1.heap.objs.size ty z t i → Q (.ref s1.heap.objs.size) s → wpAny (model X.prog X.w) A (pyIter (.ref s1.heap.objs.size)) Q E s)
      (hn : ["enumerate", "zip", "dict_itemiterator", "dict_reverseitemiterator", "odict_iterator", "itertools.zip_longest", "itertools.pairwise"].contains ty = false),
      PIE X pins σ tg R (.ref s1.heap.objs.size) { s1 with heap := s1.heap.push { cls := .type ty, data := .fields #[.str z t, .int 0 0] } } := fun ty hW hS hn => by
    refine ⟨s1.heap.objs.size, [s1.heap.objs.size], _, _, H1, rfl, I1.kept (t' := s1.toks) fun b o e => Heap.get?_push_of_some _ e, turn_str _ hW hS hn, ⟨_, Heap.get?_push_size _ rfl, rfl, rfl⟩, fun b hb => ?_, q⟩
    have e : b = s1.heap.objs.size := by simpa using hb
    subst e
    exact I1.fpOk (Nat.le_refl _) (I1.hok.fresh (Nat.le_refl _))
  cases ha : z.cps.all (· < 128)
  · exact wpAny_pyIter_wide ha (fin "str_iterator" (fun A hA => Walks.strWide hA _ z t) (fun A i s Q E st h => wpAny_pyIter_striter_wide st h) (by decide))
  · exact wpAny_pyIter_ascii ha (fin "str_ascii_iterator" (fun A hA => Walks.strAscii hA _ z t) (fun A i s Q E st h => wpAny_pyIter_striter_ascii st h) (by decide))
theorem lc_str {z : Str} {is : List Nat} {te : TE} {σ : St} {H : Hp} {Q : VK} (f : V → V) (hz : z.length ≤ sizeLine) (he : ∀ v H2 Q', v ∈ signs z → Same H H2 → Q' (f v) H2 → te (some v :: caps is σ) H2 Q')
    (q : ∀ D, H D = none → Q (.ref D) (upd H D (.lst ((signs z).map f)))) : lcGoal (Its z) is te σ H Q :=
  lc_gen f (by rw [signs_length]; exact hz) (fun i H2 _ hi => by rw [signs_length] at hi; exact hi) (fun H2 _ => signs_length z) (fun i H2 v H3 _ hi y => y) he q

/-! ### all(list of truths), isinstance(x, T) -/
theorem all_getD : ∀ bs : List Bool, ((List.range bs.length).all fun i => bs.getD i false) = bs.all id
  | [] => rfl
  | b :: r => by
    rw [List.length_cons, List.range_succ_eq_map, List.all_cons, List.all_map, List.all_cons, ← all_getD r]
    rfl
theorem call_allB (hc : X.calm = true) : CallR X (.builtin "all") (fun xs H Q => ∃ (p : Addr) (bs : List Bool), xs = [.ref p] ∧ SqL X.K H p (bs.map V.bl) ∧ Q (.bl (bs.all id)) H) := by
  intro pins s σ H xs us Q I r h
  obtain ⟨p, bs, rfl, hq, q⟩ := h
  obtain ⟨u, rfl, rx⟩ := vals1 r
  cases rx
  obtain ⟨its, rv, pl, hz⟩ := I.list hq
  have hl := rv.length
  rw [List.length_map] at hl
  have hlt : p < s.heap.objs.size := by obtain ⟨o, n, e, _⟩ := pl; exact Heap.lt_size e
  refine call_all_walk (wpAny_pyIter_list pl.isList ?_)
  refine ⟨s.heap.objs.size, [s.heap.objs.size, p], [s.heap.objs.size], its.toArray.size, _, _, fun i => bs.getD i false, rfl, Walks.list (show X.A.in1.handled = none from I.ok.hd hc) s.heap.objs.size p (Nat.ne_of_lt hlt) its.toArray,
    ⟨⟨_, Heap.get?_push_size _ rfl, rfl, rfl⟩, ?_⟩, fun i v s' Q' E' hv hQ => ?_, fun h' tk kk => ?_⟩
  · obtain ⟨o, e, r⟩ := pl.isList
    exact ⟨o, Heap.get?_push_of_some _ e, r⟩
  · have hi : i < bs.length := by
      have : i < its.length := by
        have := (Array.getElem?_eq_some_iff.mp hv).1
        simpa using this
      omega
    have hb : (bs.map V.bl)[i]? = some (V.bl bs[i]) := by simp [hi]
    obtain ⟨u, hu, ru⟩ := rv.get hb
    have hv' : its[i]? = some v := by simpa using hv
    rw [hu] at hv'
    cases hv'
    obtain rfl : v = Value.bool bs[i] := ru
    refine wpAny_truthy_bool ?_
    have e : bs.getD i false = bs[i] := by simp [List.getD, hi]
    rw [← e]
    exact hQ
  · refine ⟨.bl (bs.all id), H, ?_, ?_, q⟩
    · have I1 : Inv X pins σ H { s with heap := s.heap.push { cls := .type "list_iterator", data := .fields #[.ref p, .int 0 0] } } := I.kept (t' := s.toks) fun b o e => Heap.get?_push_of_some _ e
      have I2 : Inv X pins σ H { s with heap := h', toks := tk } := I.kept (t' := tk) fun b o e => kk b o (by
        intro z
        have z' : b = s.heap.objs.size := by simpa using z
        exact absurd (Heap.lt_size e) (by rw [z']; exact Nat.lt_irrefl _)) (Heap.get?_push_of_some _ e)
      exact I2
    · show Value.bool _ = Value.bool _
      congr 1
      rw [List.size_toArray, ← hl]
      exact all_getD bs
inductive IsiP (K : PySem.W.Frag) (xs : List V) (H : Hp) (Q : VK) : Prop
  | mk (x : V) (t : Value) (n : String) (b : Bool) (e : xs = [x, .ty n]) (ty : TyOf K H x t) (k : PySem.W.kitOne K t (.type n) = some b) (q : Q (.bl b) H)
theorem call_isi : CallR X (.builtin "isinstance") (fun xs H Q => L2.IsiP X.K xs H Q) := by
  intro pins s σ H xs us Q I r h
  obtain ⟨x, t, n, b, rfl, ty, e, q⟩ := h
  obtain ⟨u, c, rfl, rx, rc⟩ := vals2 r
  obtain rfl : c = Value.type n := rc
  exact isinst_ok I rx ty e fun tk => ⟨.bl b, H, I.tok _, rfl, q⟩

/-! ### texts: <=, slices -/
theorem op_le_str : OpR X (compareOp .LtE) (fun x y H Q => ∃ i j, x = .str i ∧ y = .str j ∧ Q (.bl (!decide (j.cps.toList < i.cps.toList))) H) := by
  intro pins s σ H x y v u Q I rx ry h
  obtain ⟨i, j, rfl, rfl, q⟩ := h
  obtain ⟨t, rfl⟩ := rx
  obtain ⟨t', rfl⟩ := ry
  exact PySem.P.le_str ⟨.bl _, H, I, rfl, q⟩
def cutS (z : Str) (lo hi : Option Int) : Str := ⟨((z.cps.toList.drop (HT.sIx z.length 0 lo)).take (HT.sIx z.length z.length hi - HT.sIx z.length 0 lo)).toArray⟩
theorem cutS_length (z : Str) (lo hi : Option Int) : (cutS z lo hi).length ≤ z.length := by
  show (((z.cps.toList.drop _).take _).toArray).size ≤ z.cps.size
  rw [List.size_toArray, List.length_take, List.length_drop, Array.length_toList]
  exact Nat.le_trans (Nat.min_le_right _ _) (Nat.sub_le _ _)
theorem clipS (v : Int) (n d : Nat) : max 0 (min (if v < 0 then v + (n : Int) else v) (n : Int)) = ((HT.sIx n d (some v) : Nat) : Int) := by
  exact clipM v n d
theorem picked_eq (z : Str) (lo hi : Option (Int × Tok)) : slicePicked z lo hi none = (List.range (HT.sIx z.length z.length (hi.map (·.1)) - HT.sIx z.length 0 (lo.map (·.1)))).map (HT.sIx z.length 0 (lo.map (·.1)) + ·) := by
  unfold slicePicked Builtin.Str.strSliceIndices
  simp only [Option.map_none, Option.getD_none, show (1 : Int) > 0 by decide, if_true]
  rw [← sliceRange_one]
  congr 1
  · cases lo with
    | none => rfl
    | some p => exact clipS p.1 z.length 0
  · cases hi with
    | none => rfl
    | some p => exact clipS p.1 z.length z.length
inductive SlSP (x : V) (lo hi : Option Int) (H : Hp) (Q : VK) : Prop
  | mk (z : Str) (hx : x = .str z) (b : z.length ≤ sizeLine) (q : Q (.str (cutS z lo hi)) H)
def rSlS : V → Option Int → Option Int → Hp → VK → Prop := fun x lo hi H Q => SlSP x lo hi H Q
theorem sl_str : SlR X rSlS := by
  intro pins s σ H x v vl vu lo hi sl Q I rx hs pl pu h
  obtain ⟨z, rfl, hz, q⟩ := h
  obtain ⟨t, rfl⟩ := rx
  have part : ∀ {u : Value} {o : Option Int}, IsPart u o → ∃ p : Option (Int × Tok), u = partValue p ∧ o = p.map (·.1) := fun {u o} p => by
    cases p with
    | none => exact ⟨none, rfl, rfl⟩
    | int i t => exact ⟨some (i, t), rfl, rfl⟩
  obtain ⟨l, rfl, rfl⟩ := part pl
  obtain ⟨u, rfl, rfl⟩ := part pu
  refine ⟨"str", _, slot_str_getitem.lookup, typeIs_str s z t, ?_⟩
  refine wpAny_getItem_str_slice (l := l) (u := u) (st := none) hs rfl ?_
  unfold sliceMade
  have ecut : (⟨((slicePicked z l u none).filterMap (z.cps[·]?)).toArray⟩ : Str) = cutS z (l.map (·.1)) (u.map (·.1)) := by
    rw [picked_eq]
    unfold cutS
    congr 2
    exact pick_run z.cps _ _
  split
  · rename_i c
    rw [Bool.and_eq_true] at c
    have c2 := eq_of_beq c.2
    rw [picked_eq, List.length_map, List.length_range] at c2
    have hle : HT.sIx z.length z.length (u.map (·.1)) ≤ z.length := HT.sIx_le _ _ (Nat.le_refl _) _
    have whole : cutS z (l.map (·.1)) (u.map (·.1)) = z := by
      unfold cutS
      by_cases h0 : z.length = 0
      · have hz0 : z.cps.toList = [] := by
          have : z.cps.size = 0 := h0
          exact List.eq_nil_of_length_eq_zero (by simpa using this)
        rw [hz0]
        simp only [List.drop_nil, List.take_nil]
        obtain ⟨cps⟩ := z
        congr 1
        exact (Array.toList_eq_nil_iff.mp hz0).symm
      · have e1 : HT.sIx z.length 0 (l.map (·.1)) = 0 := by omega
        rw [c2, e1]
        rw [List.drop_zero, List.take_of_length_le (by simp [Str.length])]
    exact ⟨.str _, H, I, ⟨t, by rw [whole]⟩, q⟩
  · refine ⟨?_, .str _, H, I.tok _, ⟨_, by rw [ecut]⟩, q⟩
    rw [ecut]
    exact Nat.le_trans (cutS_length _ _ _) hz
end
end L2

namespace L2
open PySem PySem.Spec PyProof.Rows
theorem Inv.bigM {X : Cx} {pins : List (Addr × Obj)} {σ : St} {H : Hp} {s : Shared} (I : Inv X pins σ H s) : sysModules < s.heap.objs.size := by
  have h : mainGlobals < s.heap.objs.size := (I.mod.glob.keeps I.bk).lt
  exact Nat.lt_trans (by decide) h
theorem dk_none {P : Program} {w : World} {H : Hp} (h : Heap) (hb : sysModules < h.objs.size) : ObjOk P w H (h.push { cls := .type "dict", data := .dict #[] }) h.objs.size (.dK []) :=
  ⟨Nat.zero_le _, beq_eq_false_iff_ne.mpr (Ne.symm (Nat.ne_of_lt hb)), [], .nil, Heap.DictOf.new h⟩
def tDNew : TE := fun _ H Q => ∀ p, H p = none → Q (.ref p) (upd H p (.dK []))
theorem pe_dnew {X : Cx} {pos : Pos} : PE X (.Dict [] [] pos) tDNew := fun pins s σ H Q I h =>
  wpAny_Dict_empty ⟨.ref s.heap.objs.size, _, I.laid (a := s.heap.objs.size) (o := .dK []) (t' := s.toks) (fun _ _ q => Heap.get?_push_of_some _ q) (Nat.le_refl _) (dk_none s.heap I.bigM), rfl, h _ (I.hok.fresh (Nat.le_refl _))⟩
/-- a def of the text: its object, its name, how it binds -/
structure Df (K : PySem.W.Frag) (mg : Str → Option Value) (x : Str) (st : Stmt) (ps : List Str) (f : Addr) (fd : FuncData) : Prop where
  fn : Fun K x x st f fd
  nm : mg x = some (.ref f)
  bi : Binds K fd ps []
/-- the kinds of things that are met -/
def tys : List String := ["NoneType", "bool", "int", "str", "list", "tuple", "dict"]
def isaB (T n : String) : Bool := T == n || (T == "bool" && n == "int")
theorem kit_isa {K : PySem.W.Frag} {T n : String} (hT : T ∈ tys) (hn : n ∈ ["int", "bool", "str", "list", "tuple"]) : PySem.W.kitOne K (.type T) (.type n) = some (isaB T n) := by
  simp only [tys, List.mem_cons, List.not_mem_nil, or_false] at hT hn
  rcases hT with rfl | rfl | rfl | rfl | rfl | rfl | rfl <;> rcases hn with rfl | rfl | rfl | rfl | rfl <;> rfl
section
variable {K : PySem.W.Frag} {H : Hp} {x : V} {T : String}
theorem ty_int (ty : TyOf K H x (.type "int")) : ∃ i, x = .int i := by
  generalize h : Value.type "int" = t at ty
  cases ty <;> first | exact ⟨_, rfl⟩ | (injection h with h'; exact absurd h' (by decide)) | cases h
theorem ty_str (ty : TyOf K H x (.type "str")) : ∃ z, x = .str z := by
  generalize h : Value.type "str" = t at ty
  cases ty <;> first | exact ⟨_, rfl⟩ | (injection h with h'; exact absurd h' (by decide)) | cases h
theorem of_ty_int {i : Int} (ty : TyOf K H (.int i) (.type T)) : T = "int" := by
  generalize h : Value.type T = t at ty
  cases ty
  injection h
theorem of_ty_str {z : Str} (ty : TyOf K H (.str z) (.type T)) : T = "str" := by
  generalize h : Value.type T = t at ty
  cases ty
  injection h
end
theorem bb_isinstance : bootBuiltins "isinstance" = some (.builtin "isinstance") := by decide +kernel
theorem bb_int : bootBuiltins "int" = some (.type "int") := by decide +kernel
theorem bb_bool : bootBuiltins "bool" = some (.type "bool") := by decide +kernel
theorem bb_str : bootBuiltins "str" = some (.type "str") := by decide +kernel
theorem bb_all : bootBuiltins "all" = some (.builtin "all") := by decide +kernel
theorem bb_len : bootBuiltins "len" = some (.builtin "len") := by decide +kernel
theorem bb_list : bootBuiltins "list" = some (.type "list") := by decide +kernel
theorem bb_tuple : bootBuiltins "tuple" = some (.type "tuple") := by decide +kernel
end L2

namespace L2
open PySem PySem.Spec PyProof.Rows
/-! ### items that bear no star, by their form alone -/
def notStar (e : Expr) : Bool := match e with
  | .Starred _ _ => false
  | _ => true
theorem star_plain {e : Expr} {rest : List Expr} {env : Env} (h : notStar e = true) : starEach (e :: rest) env = (false, eval e env) :: starEach rest env := by
  cases e <;> first | rfl | cases h
theorem star_none {env : Env} {pos : Pos} : ∀ {es : List Expr}, es.all notStar = true → (backTo pos (starEach es env)).any (·.1) = false
  | [], _ => rfl
  | e :: es, h => by
    rw [List.all_cons, Bool.and_eq_true] at h
    rw [star_plain h.1]
    exact star_none h.2
theorem pa_c {X : Cx} {e : Expr} {es : List Expr} {te : TE} {t : TA} (ha : PE X e te) (hr : PA X es t) (h : notStar e = true := by rfl) : PA X (e :: es) (tCons te t) := pa_cons ha hr (star_plain h)
/-! ### what rfl would read off a long expression, by its form alone -/
def isComp (e : Expr) : Bool := match e with
  | .ListComp .. => true
  | .SetComp .. => true
  | .DictComp .. => true
  | _ => false
theorem swaps_no {e : Expr} {tg : Option Expr} {n : Nat} {env : Env} (h : isComp e = false) : swapsWith e tg n env = pure false := by
  cases e <;> first | rfl | cases h
theorem pt_call {X : Cx} {f : Expr} {as : List Expr} {kw : List Keyword} {p : Pos} {t : TE} (h : PE X (.Call f as kw p) t) : PT X (.Call f as kw p) (tB t) := pt_val h (fun _ => rfl)
theorem ix_op {l r : Expr} {op : Operator} {p : Pos} : PlainIx (.BinOp l op r p) := fun _ _ => rfl
theorem ix_name {x : Str} {p : Pos} : PlainIx (.Name x p) := fun _ _ => rfl
theorem ix_con {c : Const} {k : Nat} {p : Pos} : PlainIx (.Constant c k p) := fun _ _ => rfl
theorem chain_mark {op op' : CmpOp} {b c : Expr} (h : op' ≠ .In := by decide) (h2 : op' ≠ .NotIn := by decide) : lastMarks [op, op'] [b, c] = false := by
  have e : lastMarks [op, op'] [b, c] = behindInMarks op' c := by rfl
  rw [e]
  exact nomark c h h2
theorem ps_do {X : Cx} {e : Expr} {te : TE} {p : Pos} (he : PE X e te) (h : isComp e = false := by rfl) : PS X (.Expr e p) (tDrop te) := ps_expr he (swaps_no h)
/-! ### a def's names and what it calls, as facts of a context that stays a letter -/
structure Slot (X : Cx) (i : Nat) (x : Str) : Prop where
  hN : X.N[i]? = some x
  lc : Loc X.env.scope x
  fn : X.fn x = true ∨ X.env.scope.names.lookup x = some .local
  db : (x == ("__debug__" : Str)) = false
  cd : (x == ("__classdict__" : Str)) = false
structure Bt (X : Cx) (x : Str) : Prop where
  gl : Gl X x
  nm : X.mg x = none
  hn : x ≠ "__name__"
  db : (x == ("__debug__" : Str)) = false
structure Cal (X : Cx) (x : Str) (sp : Sp) : Prop where
  ex : ∃ (k : Nat) (f : Addr) (fd : FuncData) (ps : List Str), FnOk X.prog X.w X.K X.mg X.base CX0 k f fd ps sp ∧ Room k X.A ∧ X.mg x = some (.ref f) ∧ PySem.W.keepIn X.K (.ref f) = true ∧ Binds X.K fd ps []
  gl : Gl X x
  db : (x == ("__debug__" : Str)) = false
section
variable {X : Cx} {i : Nat} {x : Str} {sp : Sp} {p pos pos' : Pos} {e : Expr} {es : List Expr} {te : TE} {t : TA}
theorem Slot.rd (S : Slot X i x) : PE X (.Name x p) (tVar i) := pe_var S.hN (S.lc.elim .inl fun h => .inr (.inl h)) S.db S.cd
theorem Slot.set (S : Slot X i x) (nd : X.N.Nodup) (he : PE X e te) (h : isComp e = false := by rfl) : PS X (.Assign [.Name x pos'] e pos) (tAsg te (gName i)) := ps_set nd S.hN S.lc he (swaps_no h) S.fn
theorem Slot.tg (S : Slot X i x) (nd : X.N.Nodup) : PG X (.Name x p) (gName i) := pg_name nd S.hN S.lc S.fn
theorem Bt.call {id : String} {r : List V → Hp → VK → Prop} (B : Bt X x) (hc : CallR X (.builtin id) r) (hv : bootBuiltins x = some (.builtin id)) (ha : PA X (e :: es) t) (h1 : notStar e = true := by rfl)
    (h2 : es.all notStar = true := by rfl) : PE X (.Call (.Name x p) (e :: es) [] pos) (tCB r t) := pe_callB hc B.gl B.nm hv ha B.hn B.db (star_plain h1) (star_none h2)
theorem Bt.callT {T : String} {r : List V → Hp → VK → Prop} (B : Bt X x) (hc : CallR X (.type T) r) (hv : bootBuiltins x = some (.type T)) (ha : PA X (e :: es) t) (h1 : notStar e = true := by rfl)
    (h2 : es.all notStar = true := by rfl) : PE X (.Call (.Name x p) (e :: es) [] pos) (tCB r t) := pe_callTy hc B.gl B.nm hv ha B.hn B.db (star_plain h1) (star_none h2)
theorem Bt.ty {n : String} (B : Bt X x) (hv : bootBuiltins x = some (.type n)) : PE X (.Name x p) (tC (.ty n)) := pe_bltn (v := .ty n) B.gl B.nm hv rfl B.hn B.db
theorem Cal.call (C : Cal X x sp) (ha : PA X (e :: es) t) (h1 : notStar e = true := by rfl)
    (h2 : es.all notStar = true := by rfl) : PE X (.Call (.Name x p) (e :: es) [] pos) (tCall sp [] E0 t) := by
  obtain ⟨k, f, fd, ps, G, hr, nm, kp, bi⟩ := C.ex
  exact pe_call G hr C.gl nm kp bi .nil pass0 ha C.db (star_plain h1) (star_none h2)
end
end L2

/-! ### the judgements as structures: what Lean's elaborator does not look into -/
namespace J
open PySem PySem.Spec PyProof.Rows
open L2 (Cx V Hp St VK TE TT TA TS TG TGs TI TO R2 Sp XK E0 CX0 FnOk Room Gl Binds RelV Vals SqL SqT TyOf)
structure JE (X : Cx) (e : Expr) (t : TE) : Prop where
  out : L2.PE X e t
structure JT (X : Cx) (e : Expr) (t : TT) : Prop where
  out : L2.PT X e t
structure JW (X : Cx) (e : Expr) (t : TT) : Prop where
  out : L2.PW X e t
structure JA (X : Cx) (es : List Expr) (t : TA) : Prop where
  out : L2.PA X es t
structure JS (X : Cx) (st : Stmt) (t : TS) : Prop where
  out : L2.PS X st t
structure JSs (X : Cx) (st : List Stmt) (t : TS) : Prop where
  out : L2.PSs X st t
structure JG (X : Cx) (tg : Expr) (g : TG) : Prop where
  out : L2.PG X tg g
structure JGs (X : Cx) (ts : List Expr) (g : TGs) : Prop where
  out : L2.PGs X ts g
structure JI (X : Cx) (tg it : Expr) (wi : TI) : Prop where
  out : L2.PI X tg it wi
structure JO (X : Cx) (e : Option Expr) (t : TO) : Prop where
  out : L2.PO X e t
structure JB (X : Cx) (op : Operator) (r : R2) : Prop where
  out : L2.OpR X (binaryOp op) r
structure JC (X : Cx) (op : CmpOp) (r : R2) : Prop where
  out : L2.OpR X (compareOp op) r
structure JU (X : Cx) (op : UnaryOp) (r : V → Hp → VK → Prop) : Prop where
  out : L2.UnR X (unaryOp op) r
structure JF (X : Cx) (f : Value) (r : List V → Hp → VK → Prop) : Prop where
  out : L2.CallR X f r
structure JX (X : Cx) (r : R2) : Prop where
  out : L2.IxR X r
structure JM (X : Cx) (id : String) (r : V → List V → Hp → VK → Prop) : Prop where
  out : L2.MtR X id r
structure JL (X : Cx) (r : V → Option Int → Option Int → Hp → VK → Prop) : Prop where
  out : L2.SlR X r
structure PlainIx (b : Expr) : Prop where
  out : L2.PlainIx b
section
variable {X : Cx} {a b c e : Expr} {es : List Expr} {ta tb tc te : TE} {t : TA} {tA tB' : TT} {pos p2 : Pos} {r r' : R2} {u v : TS} {st : Stmt} {sts : List Stmt} {tg : Expr}
-- ints
theorem op_add : JB X .Add (L2.rI0 fun i j => .int (i + j)) := ⟨L2.op_add⟩
theorem op_sub : JB X .Sub (L2.rI0 fun i j => .int (i - j)) := ⟨L2.op_sub⟩
theorem op_mul : JB X .Mult (L2.rI L2.CMul fun i j => .int (i * j)) := ⟨L2.op_mul⟩
theorem op_fdiv : JB X .FloorDiv (L2.rI L2.CDiv fun i j => .int (i / j)) := ⟨L2.op_fdiv⟩
theorem op_mod : JB X .Mod (L2.rI (fun _ j => 0 < j) fun i j => .int (i % j)) := ⟨L2.op_mod⟩
theorem op_pow : JB X .Pow (L2.rI L2.CPow fun i j => .int (i ^ j.toNat)) := ⟨L2.op_pow⟩
theorem op_add_str : JB X .Add (fun x y H Q => ∃ i j, x = .str i ∧ y = .str j ∧ i.length + j.length ≤ sizeLine ∧ Q (.str (i ++ j)) H) := ⟨L2.op_add_str⟩
theorem un_neg : JU X .USub (L2.rU fun i => .int (-i)) := ⟨L2.un_neg⟩
theorem op_eq : JC X .Eq L2.rEq := ⟨L2.op_eq⟩
theorem op_ne : JC X .NotEq L2.rNe := ⟨L2.op_ne⟩
theorem op_lt : JC X .Lt (L2.rI0 fun i j => .bl (decide (i < j))) := ⟨L2.op_lt⟩
theorem op_le : JC X .LtE (L2.rI0 fun i j => .bl (decide (i ≤ j))) := ⟨L2.op_le⟩
theorem op_gt : JC X .Gt (L2.rI0 fun i j => .bl (decide (j < i))) := ⟨L2.op_gt⟩
theorem op_isN : JC X .Is (fun x y H Q => y = .non ∧ Q (.bl (decide (x = .non))) H) := ⟨L2.op_isN⟩
theorem op_notN : JC X .IsNot (fun x y H Q => y = .non ∧ Q (.bl (!decide (x = .non))) H) := ⟨L2.op_notN⟩
theorem op_in_seq : JC X .In (L2.rIn X.K false) := ⟨L2.op_in_seq⟩
-- calls of built-ins
theorem call_len_seq : JF X (.builtin "len") (fun xs H Q => L2.LenP X.K xs H Q) := ⟨L2.call_len_seq⟩
theorem call_list_of : JF X (.type "list") (fun xs H Q => ∃ p ys, xs = [.ref p] ∧ (SqL X.K H p ys ∨ SqT X.K H p ys) ∧ ∀ l, H l = none → Q (.ref l) (L2.upd H l (.lst ys))) := ⟨L2.call_list_of⟩
theorem call_tuple_of : JF X (.type "tuple") (fun xs H Q => ∃ p ys, xs = [.ref p] ∧ ((SqL X.K H p ys ∧ ∀ l, H l = none → Q (.ref l) (L2.upd H l (.tup ys))) ∨ (SqT X.K H p ys ∧ Q (.ref p) H))) := ⟨L2.call_tuple_of⟩
theorem call_isi : JF X (.builtin "isinstance") (fun xs H Q => L2.IsiP X.K xs H Q) := ⟨L2.call_isi⟩
theorem call_allB (hc : X.calm = true) : JF X (.builtin "all") (fun xs H Q => ∃ (p : Addr) (bs : List Bool), xs = [.ref p] ∧ SqL X.K H p (bs.map V.bl) ∧ Q (.bl (bs.all id)) H) := ⟨L2.call_allB hc⟩
theorem call_int1 : JF X (.type "int") (fun xs H Q => (∃ i, xs = [.int i] ∧ Q (.int i) H) ∨ ∃ k, xs = [.bl k] ∧ Q (.int (if k then 1 else 0)) H) := ⟨L2.call_int1⟩
theorem call_max2 (hc : X.calm = true) : JF X (.builtin "max") (fun xs H Q => ∃ i j, xs = [.int i, .int j] ∧ Q (.int (if j > i then j else i)) H) := ⟨L2.call_max2 hc⟩
theorem call_min2 (hc : X.calm = true) : JF X (.builtin "min") (fun xs H Q => ∃ i j, xs = [.int i, .int j] ∧ Q (.int (if j < i then j else i)) H) := ⟨L2.call_min2 hc⟩
-- places, slices
theorem ix_list : JX X (L2.rIxL X.K) := ⟨L2.ix_list⟩
theorem ix_tup : JX X (L2.rIxT X.K) := ⟨L2.ix_tup⟩
theorem ix_str : JX X L2.rIxS := ⟨L2.ix_str⟩
theorem ix_op {l r : Expr} {op : Operator} {p : Pos} : PlainIx (.BinOp l op r p) := ⟨L2.ix_op⟩
theorem ix_name {x : Str} {p : Pos} : PlainIx (.Name x p) := ⟨L2.ix_name⟩
theorem ix_con {c : Const} {k : Nat} {p : Pos} : PlainIx (.Constant c k p) := ⟨L2.ix_con⟩
theorem ix_call {f : Expr} {as : List Expr} {kw : List Keyword} {p : Pos} : PlainIx (.Call f as kw p) := ⟨fun _ _ => rfl⟩
theorem sl_list : JL X (L2.rSlL X.K) := ⟨L2.sl_list⟩
theorem sl_str : JL X L2.rSlS := ⟨L2.sl_str⟩
theorem po_none : JO X none L2.tNoPart := ⟨L2.po_none⟩
theorem po_some (h : JE X e te) : JO X (some e) (L2.tPart te) := ⟨L2.po_some h.out⟩
-- expressions
theorem pe_int {i j pos} : JE X (.Constant (.int i) j pos) (L2.tC (.int i)) := ⟨L2.pe_int⟩
theorem pe_bl {b j pos} : JE X (.Constant (.bool b) j pos) (L2.tC (.bl b)) := ⟨L2.pe_bl⟩
theorem pe_non {j pos} : JE X (.Constant .none j pos) (L2.tC .non) := ⟨L2.pe_non⟩
theorem pe_str {x j pos} : JE X (.Constant (.str x) j pos) (L2.tC (.str x)) := ⟨L2.pe_str⟩
theorem pe_op {op : Operator} (ho : JB X op r) (ha : JE X a ta) (hb : JE X b tb) : JE X (.BinOp a op b pos) (L2.tOp r ta tb) := ⟨L2.pe_op ho.out ha.out hb.out⟩
theorem pe_un {op : UnaryOp} {r : V → Hp → VK → Prop} (ho : JU X op r) (ha : JE X a ta) : JE X (.UnaryOp op a pos) (L2.tUn r ta) := ⟨L2.pe_un ho.out ha.out⟩
theorem pe_ix (hr : JX X r) (ha : JE X a ta) (hb : JE X b tb) (hs : PlainIx b) : JE X (.Subscript a b pos) (L2.tOp r ta tb) := ⟨L2.pe_ix hr.out ha.out hb.out hs.out⟩
theorem pe_slice {r : V → Option Int → Option Int → Hp → VK → Prop} {lo hi : Option Expr} {tl th : TO} (hr : JL X r) (he : JE X e te) (hl : JO X lo tl) (hu : JO X hi th) : JE X (.Subscript e (.Slice lo hi none p2) pos) (L2.tSl r te tl th) := ⟨L2.pe_slice hr.out he.out hl.out hu.out⟩
theorem pe_cmpR {op : CmpOp} (ho : JC X op r) (ha : JE X a ta) (hb : JE X b tb) (hm : behindInMarks op b = false) : JE X (.Compare a [op] [b] pos) (L2.tOp r ta tb) := ⟨L2.pe_cmpR ho.out ha.out hb.out hm⟩
theorem pt_cmpR {op : CmpOp} (ho : JC X op r) (ha : JE X a ta) (hb : JE X b tb) (hm : behindInMarks op b = false) : JT X (.Compare a [op] [b] pos) (L2.tTest (L2.tOp r ta tb)) := ⟨L2.pt_cmpR ho.out ha.out hb.out hm⟩
theorem pe_chain {op op' : CmpOp} (ho : JC X op r) (ho' : JC X op' r') (ha : JE X a ta) (hb : JE X b tb) (hc : JE X c tc) (hm : lastMarks [op, op'] [b, c] = false) : JE X (.Compare a [op, op'] [b, c] pos) (L2.tChain r r' ta tb tc) := ⟨L2.pe_chain ho.out ho'.out ha.out hb.out hc.out hm⟩
theorem pt_chain {op op' : CmpOp} (ho : JC X op r) (ho' : JC X op' r') (ha : JE X a ta) (hb : JE X b tb) (hc : JE X c tc) (hm : lastMarks [op, op'] [b, c] = false) : JT X (.Compare a [op, op'] [b, c] pos) (L2.tTest (L2.tChain r r' ta tb tc)) := ⟨L2.pt_chain ho.out ho'.out ha.out hb.out hc.out hm⟩
theorem notSet_mark {op : CmpOp} {x : Str} {p : Pos} : behindInMarks op (.Name x p) = false := rfl
theorem tup_mark {op : CmpOp} {es : List Expr} {k : Nat} {p : Pos} : behindInMarks op (.Tuple es k p) = false := rfl
theorem pe_one {op} (h : JE X a te) : JE X (.BoolOp op [a] pos) te := ⟨L2.pe_one h.out⟩
theorem pe_and (ha : JE X a ta) (hb : JE X (.BoolOp .And (b :: es) pos) tb) : JE X (.BoolOp .And (a :: b :: es) pos) (L2.tAndV ta tb) := ⟨L2.pe_and ha.out hb.out⟩
theorem pe_or (ha : JE X a ta) (hb : JE X (.BoolOp .Or (b :: es) pos) tb) : JE X (.BoolOp .Or (a :: b :: es) pos) (L2.tOrV ta tb) := ⟨L2.pe_or ha.out hb.out⟩
theorem pe_not (ha : JE X a ta) : JE X (.UnaryOp .Not a pos) (L2.tNotV ta) := ⟨L2.pe_not ha.out⟩
theorem pw_and1 (ha : JT X a tA) : JW X (.BoolOp .And [a] pos) tA := ⟨L2.pw_and1 ha.out⟩
theorem pw_or1 (ha : JT X a tA) : JW X (.BoolOp .Or [a] pos) tA := ⟨L2.pw_or1 ha.out⟩
theorem pw_and (ha : JT X a tA) (hb : JW X (.BoolOp .And (b :: es) pos) tB') : JW X (.BoolOp .And (a :: b :: es) pos) (L2.tAnd tA tB') := ⟨L2.pw_and ha.out hb.out⟩
theorem pw_or (ha : JT X a tA) (hb : JW X (.BoolOp .Or (b :: es) pos) tB') : JW X (.BoolOp .Or (a :: b :: es) pos) (L2.tOr tA tB') := ⟨L2.pw_or ha.out hb.out⟩
theorem pw_pt (h : JW X e tA) : JT X e tA := ⟨h.out.pt⟩
theorem pt_not (ha : JT X a tA) : JT X (.UnaryOp .Not a pos) (L2.tNot tA) := ⟨L2.pt_not ha.out⟩
theorem pt_call {f : Expr} {as : List Expr} {kw : List Keyword} {p : Pos} (h : JE X (.Call f as kw p) te) : JT X (.Call f as kw p) (L2.tB te) := ⟨L2.pt_call h.out⟩
theorem pa_nil : JA X [] L2.tNil := ⟨L2.pa_nil⟩
theorem pa_c (ha : JE X e te) (hr : JA X es t) (h : L2.notStar e = true := by rfl) : JA X (e :: es) (L2.tCons te t) := ⟨L2.pa_c ha.out hr.out h⟩
theorem pe_lst (h : JA X es t) : JE X (.List es pos) (L2.tLst t) := ⟨L2.pe_lst h.out⟩
theorem pe_tup {k} (h : JA X es t) : JE X (.Tuple es k pos) (L2.tTup t) := ⟨L2.pe_tup h.out⟩
theorem pe_dnew : JE X (.Dict [] [] pos) L2.tDNew := ⟨L2.pe_dnew⟩
theorem pe_glob {x : Str} {v : V} {u : Value} (hg : Gl X x) (hm : X.mg x = some u) (r : RelV v u) (hd : (x == ("__debug__" : Str)) = false) : JE X (.Name x pos) (L2.tC v) := ⟨L2.pe_glob hg hm r hd⟩
-- iterables, targets
theorem pi_list (h : JE X e te) : JI X tg e (L2.iList X.K te) := ⟨L2.pi_list h.out⟩
theorem pi_tup (h : JE X e te) : JI X tg e (L2.iTup X.K te) := ⟨L2.pi_tup h.out⟩
-- statements
theorem pss_nil : JSs X [] L2.tNext := ⟨L2.pss_nil⟩
theorem pss_cons (h1 : JS X st u) (h2 : JSs X sts v) : JSs X (st :: sts) (L2.tSeq u v) := ⟨L2.pss_cons h1.out h2.out⟩
theorem pss_one (h1 : JS X st u) : JSs X [st] u := ⟨L2.pss_one h1.out⟩
theorem pss_never : JSs X sts L2.tNever := ⟨L2.pss_never⟩
theorem ps_ret (h : JE X e te) : JS X (.Return (some e) pos) (L2.tRet te) := ⟨L2.ps_ret h.out⟩
theorem ps_do (h : JE X e te) (hc : L2.isComp e = false := by rfl) : JS X (.Expr e pos) (L2.tDrop te) := ⟨L2.ps_do h.out hc⟩
theorem ps_if {c : Expr} {x y : List Stmt} {tc : TT} (hc : JT X c tc) (ha : JSs X x u) (hb : JSs X y v) : JS X (.If c x y pos) (L2.tIfS tc u v) := ⟨L2.ps_if hc.out ha.out hb.out⟩
theorem ps_for {it : Expr} {body : List Stmt} {wi : TI} {g : TG} {tb : TS} (hp : PassesOwn (model X.prog X.w) X.A X.env X.xe) (hc : X.calm = true) (hi : JI X tg it wi) (hg : JG X tg g) (hb : JSs X body tb)
    (hs : ∀ x, foldedSetIterable it X.env x = pure x := by intro _; rfl) : JS X (.For tg it body [] pos) (L2.tFor wi g tb) := ⟨L2.ps_for hp hc hi.out hg.out hb.out hs⟩
end
section
variable {X : Cx} {i : Nat} {x : Str} {sp : Sp} {p pos pos' : Pos} {e : Expr} {es : List Expr} {te : TE} {t : TA} {tg : Expr}
theorem rd (S : L2.Slot X i x) : JE X (.Name x p) (L2.tVar i) := ⟨S.rd⟩
theorem set (S : L2.Slot X i x) (nd : X.N.Nodup) (he : JE X e te) (h : L2.isComp e = false := by rfl) : JS X (.Assign [.Name x pos'] e pos) (L2.tAsg te (L2.gName i)) := ⟨S.set nd he.out h⟩
theorem tgt (S : L2.Slot X i x) (nd : X.N.Nodup) : JG X (.Name x p) (L2.gName i) := ⟨S.tg nd⟩
theorem blt {id : String} {r : List V → Hp → VK → Prop} (B : L2.Bt X x) (hc : JF X (.builtin id) r) (hv : bootBuiltins x = some (.builtin id)) (ha : JA X (e :: es) t) (h1 : L2.notStar e = true := by rfl) (h2 : es.all L2.notStar = true := by rfl) :
    JE X (.Call (.Name x p) (e :: es) [] pos) (L2.tCB r t) := ⟨B.call hc.out hv ha.out h1 h2⟩
theorem bltT {T : String} {r : List V → Hp → VK → Prop} (B : L2.Bt X x) (hc : JF X (.type T) r) (hv : bootBuiltins x = some (.type T)) (ha : JA X (e :: es) t) (h1 : L2.notStar e = true := by rfl) (h2 : es.all L2.notStar = true := by rfl) :
    JE X (.Call (.Name x p) (e :: es) [] pos) (L2.tCB r t) := ⟨B.callT hc.out hv ha.out h1 h2⟩
theorem ty {n : String} (B : L2.Bt X x) (hv : bootBuiltins x = some (.type n)) : JE X (.Name x p) (L2.tC (.ty n)) := ⟨B.ty hv⟩
theorem cal (C : L2.Cal X x sp) (ha : JA X (e :: es) t) (h1 : L2.notStar e = true := by rfl) (h2 : es.all L2.notStar = true := by rfl) : JE X (.Call (.Name x p) (e :: es) [] pos) (L2.tCall sp [] E0 t) := ⟨C.call ha.out h1 h2⟩
theorem pi_range1 (B : L2.Bt X "range") (ha : JA X [e] t) (h : L2.notStar e = true := by rfl) : JI X tg (.Call (.Name "range" p) [e] [] pos) (L2.iRng1 t) := ⟨L2.pi_range1 B.gl B.nm ha.out (L2.star_plain h)⟩
end
/-- a def by its body -/
theorem fn_ok {P : Program} {w : World} {K : PySem.W.Frag} {mg : Str → Option Value} {base : Heap} {x qual : Str} {st : Stmt} {f : Addr} {fd : FuncData} {N ps : List Str} {k : Nat} {sp : Sp} (F : L2.Fun K x qual st f fd) (S : L2.FnScope N ps (L2.defScope st)) (len : ∀ vs H Q E, sp vs H Q E → vs.length = ps.length)
    (hbody : ∀ (X : Cx) (cdv : Value) (A : Around) (outer : List Env) (s : Shared) (H : Hp) (vs : List V) (Q : VK) (E : XK), X = (L2.cxOf CX0 P w K mg base N qual (L2.defScope st) f cdv A outer s H E).nox → Room k X.A → sp vs H Q E →
      ∃ t, JSs X (L2.defBody st) t ∧ t { nx := fun _ H' => Q .non H', rt := Q } (L2.start N vs) H) : FnOk P w K mg base CX0 (k + 1) f fd ps sp := by
  refine F.ok S len (fun cdv A outer s H vs Q E hr h => ?_)
  obtain ⟨t, h1, h2⟩ := hbody _ cdv A outer s H vs Q E rfl hr h
  exact ⟨t, h1.out, h2⟩
end J

/-! ### zip over two sources of any kind -/
namespace Z
open PySem PySem.Spec PyProof.Rows
section
variable {prog : Program} {w : World} {A : Around} {E : Value → Shared → Prop} {s : Shared}
theorem tupDraw_item {it t : Addr} {i : Nat} {its : Array Value} {x : Value} {Q : Value → Shared → Prop} (a1 : s.heap.IsTupleIter it t i) (a2 : s.heap.IsTuple t its) (hx : its[i]? = some x)
    (k : ∀ g, g.IsTupleIter it t (i + 1) → Heap.SameBut it s.heap g → Q x { s with heap := g }) : wpAny (model prog w) A (Builtin.SmallTypes.nextOf (.ref it)) Q E s := by
  obtain ⟨oi, go, gc, gd⟩ := id a1
  obtain ⟨ot, gt, _, nt, gdt⟩ := a2
  unfold Builtin.SmallTypes.nextOf
  refine wpAny_bind (wpAny_callSpecial?_slot (name := Str.ofString "__next__") a1.typeIs PySem.F.slot_tuple_iterator_next (wpAny_call_entry PySem.F.slot_tuple_iterator_next a1.typeIs PySem.F.entry_tuple_iterator_next ?_ (PySem.F.args_tuple_iterator_next_1 _)))
  show wpAny _ _ (field (.ref it) 0 >>= _) _ _ s
  refine wpAny_bind (wpAny_field go gd (x := .ref t) rfl ?_)
  show wpAny _ _ (if (Value.ref t == Value.none) = true then _ else _) _ _ s
  rw [if_neg (show ¬ ((Value.ref t == Value.none) = true) from Bool.false_ne_true)]
  show wpAny _ _ (field (.ref it) 1 >>= _) _ _ s
  refine wpAny_bind (wpAny_field go gd (x := .int i 0) rfl ?_)
  show wpAny _ _ (seqItems? (.ref t) >>= _) _ _ s
  refine wpAny_bind (wpAny_seqItems gt gdt ?_)
  simp only [Int.toNat_natCast, hx]
  refine wpAny_bind (wpAny_setField go gd (by simp) (wpAny_pure ⟨x, rfl, wpAny_pure (k _ ?_ (Heap.SameBut.update ..))⟩))
  exact ⟨_, Heap.get?_update_self _ go (Obj.isFreed_of_fields (Obj.data_mapFields gd _)), (Obj.cls_mapFields ..).trans gc, by rw [Obj.data_mapFields gd]; simp [rawInt]⟩
theorem tupDraw_end {it t : Addr} {i : Nat} {its : Array Value} {Q : Value → Shared → Prop} (hh : A.handled = none) (a1 : s.heap.IsTupleIter it t i) (a2 : s.heap.IsTuple t its) (hx : its[i]? = none)
    (k : ∀ g e, Heap.ExtBut it s.heap g → (∃ o, g.get? e = some o ∧ o.cls = .type "StopIteration") → E (.ref e) { s with heap := g }) : wpAny (model prog w) A (Builtin.SmallTypes.nextOf (.ref it)) Q E s := by
  obtain ⟨oi, go, gc, gd⟩ := id a1
  obtain ⟨ot, gt, _, nt, gdt⟩ := a2
  unfold Builtin.SmallTypes.nextOf
  refine wpAny_bind (wpAny_callSpecial?_slot (name := Str.ofString "__next__") a1.typeIs PySem.F.slot_tuple_iterator_next (wpAny_call_entry PySem.F.slot_tuple_iterator_next a1.typeIs PySem.F.entry_tuple_iterator_next ?_ (PySem.F.args_tuple_iterator_next_1 _)))
  show wpAny _ _ (field (.ref it) 0 >>= _) _ _ s
  refine wpAny_bind (wpAny_field go gd (x := .ref t) rfl ?_)
  show wpAny _ _ (if (Value.ref t == Value.none) = true then _ else _) _ _ s
  rw [if_neg (show ¬ ((Value.ref t == Value.none) = true) from Bool.false_ne_true)]
  show wpAny _ _ (field (.ref it) 1 >>= _) _ _ s
  refine wpAny_bind (wpAny_field go gd (x := .int i 0) rfl ?_)
  show wpAny _ _ (seqItems? (.ref t) >>= _) _ _ s
  refine wpAny_bind (wpAny_seqItems gt gdt ?_)
  simp only [Int.toNat_natCast, hx]
  refine wpAny_bind (wpAny_rule (wpAny_bind (wpAny_setField go gd (by simp) ?_)))
  show wpAny _ _ (newExc (.type "StopIteration") [] >>= _) _ _ _
  refine wpAny_bind ?_
  simp only [newExc, newTuple]
  refine wpAny_bind (wpAny_newObj_type ?_ (by size_fits))
  refine wpAny_bind (m := firstArgMember _ _) (wpAny_of_eq (a := Value.none) (by first | rfl | (simp only [firstArgMember]; rfl)) ?_)
  refine wpAny_newObj_type ?_ (by size_fits)
  simp only [raiseNew]
  refine wpAny_bind (wpAny_handled ?_)
  first | rw [show A.in1.handled = none from hh] | rw [hh]
  refine wpAny_bind (wpAny_pure (wpAny_throw ?_))
  exact k _ _ (((Heap.SameBut.update ..).extBut.push _).push _) ⟨_, Heap.get?_push_size _ rfl, rfl⟩
end
theorem tupDraws {prog : Program} {w : World} {A : Around} (hh : A.handled = none) (it t : Addr) (ne : t ≠ it) (its : Array Value) :
    Draws prog w A it [it, t] its.size (fun i v => its[i]? = some v) (fun i h => h.IsTupleIter it t i ∧ h.IsTuple t its) where
  live := fun _ _ st => let ⟨o, ho, _⟩ := st.1; ⟨o, ho⟩
  frame := fun _ _ _ st hk => ⟨st.1.at fun o e => hk it (by simp) o e, let ⟨o, e, r⟩ := st.2; ⟨o, hk t (by simp) o e, r⟩⟩
  item := fun i s Q E hi st k => tupDraw_item st.1 st.2 (x := its[i]) (by simp [hi]) fun g a b => k _ g s.toks (by simp [hi]) ⟨a, let ⟨o, e, r⟩ := st.2; ⟨o, b.extBut _ _ ne e, r⟩⟩ b
  done := fun s Q E st k => tupDraw_end hh st.1 st.2 (by simp) k
structure Ap (z TI TO i1 i2 : Addr) (fp1 fp2 : List Addr) : Prop where
  TIz : TI ≠ z
  TOz : TO ≠ z
  TITO : TI ≠ TO
  TI1 : TI ≠ i1
  TI2 : TI ≠ i2
  z1 : z ∉ fp1
  z2 : z ∉ fp2
  o1 : TO ∉ fp1
  o2 : TO ∉ fp2
  m1 : i1 ∈ fp1
  m2 : i2 ∈ fp2
  x12 : i1 ∉ fp2
  x21 : i2 ∉ fp1
section
variable {prog : Program} {w : World} {A : Around} {E : Value → Shared → Prop} {s : Shared} {z TI TO i1 i2 : Addr} {fp1 fp2 : List Addr} {n1 n2 : Nat} {P1 P2 : Nat → Value → Prop} {S1 S2 : Nat → Heap → Prop}
theorem zip_step (D1 : Draws prog w A i1 fp1 n1 P1 S1) (D2 : Draws prog w A i2 fp2 n2 P2 S2) (p : Ap z TI TO i1 i2 fp1 fp2) {k : Nat} {a b : Value} {Q : Value → Shared → Prop} (k1 : k < n1) (k2 : k < n2)
    (cz : IsZip s.heap z TI TO .none) (cI : IsPair s.heap TI (.ref i1) (.ref i2)) (cO : IsPair s.heap TO a b) (c1 : S1 k s.heap) (c2 : S2 k s.heap)
    (q : ∀ x y g tk, P1 k x → P2 k y → IsZip g z TI TO (rawInt s.heap.objs.size) → IsPair g TO x y → S1 (k + 1) g → S2 (k + 1) g → IsPair g s.heap.objs.size x y →
      (∀ c o, c ≠ z → c ≠ TO → c ≠ i1 → c ≠ i2 → s.heap.get? c = some o → g.get? c = some o) → Q (.ref s.heap.objs.size) { s with heap := g, toks := tk }) :
    wpAny (model prog w) A (Builtin.«zip.__next__» ⟨[.ref z], []⟩) (fun fin s' => ∃ v, fin = .done (.ret v) ∧ Q v s') E s := by
  have ne1 : ∀ c ∈ fp1, c ≠ z ∧ c ≠ TO ∧ c ≠ i2 := fun c hc => ⟨fun e => p.z1 (e ▸ hc), fun e => p.o1 (e ▸ hc), fun e => p.x21 (e ▸ hc)⟩
  have ne2 : ∀ c ∈ fp2, c ≠ z ∧ c ≠ TO ∧ c ≠ i1 := fun c hc => ⟨fun e => p.z2 (e ▸ hc), fun e => p.o2 (e ▸ hc), fun e => p.x12 (e ▸ hc)⟩
  have i1z := (ne1 _ p.m1).1
  have i1O := (ne1 _ p.m1).2.1
  have i2z := (ne2 _ p.m2).1
  have i2O := (ne2 _ p.m2).2.1
  show wpAny _ _ (field (.ref z) 2 >>= _) _ _ _
  refine wpAny_bind (wpAny_field cz rfl (x := .bool false) rfl ?_)
  show wpAny _ _ (field (.ref z) 3 >>= _) _ _ _
  refine wpAny_bind (wpAny_field cz rfl (x := .ref TI) rfl ?_)
  refine wpAny_bind (wpAny_seqItems cI rfl ?_)
  show wpAny _ _ (Builtin.SmallTypes.ownedTupleIsFree (.ref z) >>= _) _ _ _
  refine wpAny_bind ?_
  unfold Builtin.SmallTypes.ownedTupleIsFree
  refine wpAny_bind (wpAny_field cz rfl (x := .none) rfl (wpAny_pure ?_))
  simp only [if_true]
  refine wpAny_bind (wpAny_rule ?_)
  refine wpAny_bind (wpAny_field cz rfl (x := .ref TO) rfl ?_)
  refine wpAny_bind (wpAny_setField_rec cz (by simp) fun g1 z1 b1 => ?_)
  replace z1 : IsZip g1 z TI TO .ellipsis := z1
  refine wpAny_bind ?_
  simp only [List.zipIdx_cons, List.zipIdx_nil, List.forIn_cons, List.forIn_nil]
  refine wpAny_bind (wpAny_bind (wpAny_onRaise ?_))
  show wpAny _ _ (Builtin.SmallTypes.nextOf (.ref i1) >>= _) _ _ _
  refine wpAny_bind (D1.item k _ _ _ k1 (D1.frame _ _ _ c1 fun c hc o e => b1.extBut _ _ (ne1 c hc).1 e) fun x g2 t2 hx f2 b2 => wpAny_pure ?_)
  have O2 : IsPair g2 TO a b := b2.extBut _ _ i1O.symm (b1.extBut _ _ p.TOz cO)
  refine wpAny_bind (wpAny_seqItems O2 rfl ?_)
  refine wpAny_bind (wpAny_updateSeq_pair O2 fun g3 O3 b3 => ?_)
  replace O3 : IsPair g3 TO x b := O3
  refine wpAny_bind (wpAny_letGo (wpAny_pure ?_))
  refine wpAny_bind (wpAny_bind (wpAny_onRaise ?_))
  show wpAny _ _ (Builtin.SmallTypes.nextOf (.ref i2) >>= _) _ _ _
  refine wpAny_bind (D2.item k _ _ _ k2 (D2.frame _ _ _ c2 fun c hc o e => b3.extBut _ _ (ne2 c hc).2.1 (b2.extBut _ _ (ne2 c hc).2.2 (b1.extBut _ _ (ne2 c hc).1 e))) fun y g4 t4 hy f4 b4 => wpAny_pure ?_)
  have O4 : IsPair g4 TO x b := b4.extBut _ _ i2O.symm O3
  refine wpAny_bind (wpAny_seqItems O4 rfl ?_)
  refine wpAny_bind (wpAny_updateSeq_pair O4 fun g5 O5 b5 => ?_)
  replace O5 : IsPair g5 TO x y := O5
  refine wpAny_bind (wpAny_letGo (wpAny_pure (wpAny_pure ?_)))
  refine wpAny_bind (wpAny_seqItems O5 rfl ?_)
  refine wpAny_bind (wpAny_newTuple ?_)
  have sz : g5.objs.size = s.heap.objs.size := by rw [b5.1, b4.1, b3.1, b2.1, b1.1]
  have z5 : IsZip g5 z TI TO .ellipsis := b5.extBut _ _ p.TOz.symm (b4.extBut _ _ i2z.symm (b3.extBut _ _ p.TOz.symm (b2.extBut _ _ i1z.symm z1)))
  have zl : z < g5.objs.size := Heap.lt_size z5
  show wpAny _ _ (Builtin.SmallTypes.ownedTupleHandOut (.ref z) (.ref g5.objs.size) >>= _) _ _ _
  refine wpAny_bind ?_
  unfold Builtin.SmallTypes.ownedTupleHandOut
  have z6 : IsZip (g5.push { cls := .type "tuple", data := .seq #[x, y] }) z TI TO .ellipsis := Heap.get?_push_of_some _ z5
  refine wpAny_bind (wpAny_setField_rec z6 (by simp) fun g7 z7 b7 => ?_)
  replace z7 : IsZip g7 z TI TO (rawInt g5.objs.size) := z7
  refine wpAny_setField_rec z7 (by simp) fun g8 z8 b8 => ?_
  replace z8 : IsZip g8 z TI TO (rawInt g5.objs.size) := z8
  have up : ∀ c o, c ≠ z → g5.get? c = some o → g8.get? c = some o := fun c o e1 e => b8.extBut _ _ e1 (b7.extBut _ _ e1 (Heap.get?_push_of_some _ e))
  have T8 : IsPair g8 g5.objs.size x y := b8.extBut _ _ (Nat.ne_of_gt zl) (b7.extBut _ _ (Nat.ne_of_gt zl) (Heap.get?_push_size _ rfl))
  rw [sz] at z8 T8
  refine wpAny_pure ⟨_, rfl, ?_⟩
  show Q (.ref g5.objs.size) _
  rw [sz]
  refine q x y g8 t4 hx hy z8 (up _ _ p.TOz O5) (D1.frame _ _ _ f2 fun c hc o e => up _ _ (ne1 c hc).1 (b5.extBut _ _ (ne1 c hc).2.1 (b4.extBut _ _ (ne1 c hc).2.2 (b3.extBut _ _ (ne1 c hc).2.1 e))))
    (D2.frame _ _ _ f4 fun c hc o e => up _ _ (ne2 c hc).1 (b5.extBut _ _ (ne2 c hc).2.1 e)) T8 fun c o e1 e2 e3 e4 e => up _ _ e1 (b5.extBut _ _ e2 (b4.extBut _ _ e4 (b3.extBut _ _ e2 (b2.extBut _ _ e3 (b1.extBut _ _ e1 e)))))
/-- the first source is at its end -/
theorem zip_stop (D1 : Draws prog w A i1 fp1 n1 P1 S1) (p : Ap z TI TO i1 i2 fp1 fp2) {a b : Value} {Q : Fin → Shared → Prop} (cz : IsZip s.heap z TI TO .none) (cI : IsPair s.heap TI (.ref i1) (.ref i2)) (cO : IsPair s.heap TO a b) (c1 : S1 n1 s.heap)
    (q : ∀ g e, (∀ c o, c ≠ z → c ≠ i1 → s.heap.get? c = some o → g.get? c = some o) → (∃ o, g.get? e = some o ∧ o.cls = .type "StopIteration") → E (.ref e) { s with heap := g }) :
    wpAny (model prog w) A (Builtin.«zip.__next__» ⟨[.ref z], []⟩) Q E s := by
  have ne1 : ∀ c ∈ fp1, c ≠ z := fun c hc e => p.z1 (e ▸ hc)
  show wpAny _ _ (field (.ref z) 2 >>= _) _ _ _
  refine wpAny_bind (wpAny_field cz rfl (x := .bool false) rfl ?_)
  show wpAny _ _ (field (.ref z) 3 >>= _) _ _ _
  refine wpAny_bind (wpAny_field cz rfl (x := .ref TI) rfl ?_)
  refine wpAny_bind (wpAny_seqItems cI rfl ?_)
  show wpAny _ _ (Builtin.SmallTypes.ownedTupleIsFree (.ref z) >>= _) _ _ _
  refine wpAny_bind ?_
  unfold Builtin.SmallTypes.ownedTupleIsFree
  refine wpAny_bind (wpAny_field cz rfl (x := .none) rfl (wpAny_pure ?_))
  simp only [if_true]
  refine wpAny_bind (wpAny_rule ?_)
  refine wpAny_bind (wpAny_field cz rfl (x := .ref TO) rfl ?_)
  refine wpAny_bind (wpAny_setField_rec cz (by simp) fun g1 z1 b1 => ?_)
  replace z1 : IsZip g1 z TI TO .ellipsis := z1
  refine wpAny_bind ?_
  simp only [List.zipIdx_cons, List.zipIdx_nil, List.forIn_cons, List.forIn_nil]
  refine wpAny_bind (wpAny_bind (wpAny_onRaise ?_))
  show wpAny _ _ (Builtin.SmallTypes.nextOf (.ref i1) >>= _) _ _ _
  refine wpAny_bind (D1.done _ _ _ (D1.frame _ _ _ c1 fun c hc o e => b1.extBut _ _ (ne1 c hc) e) fun g2 e b2 he => ?_)
  obtain ⟨oe, eo, ec⟩ := he
  have z2 : IsZip g2 z TI TO .ellipsis := b2 _ _ (ne1 _ p.m1).symm z1
  have hez : e ≠ z := fun x => by subst x; rw [z2] at eo; cases eo; simp at ec
  exact wpAny_setField_rec z2 (by simp) fun g3 _ b3 => q g3 e (fun c o e1 e3 x => b3.extBut _ _ e1 (b2 _ _ e3 (b1.extBut _ _ e1 x))) ⟨oe, b3.extBut _ _ hez eo, ec⟩
end
end Z

/-! ### for .. in zip(a, b), in enumerate(a): tuples made turn by turn -/
namespace L2
open PySem PySem.Spec PyProof.Rows
theorem Inv.turnedNew {X : Cx} {pins : List (Addr × Obj)} {σ : St} {H : Hp} {s : Shared} {g : Heap} {t' : Nat} {fp : List Addr} {T : Addr} {o : HO} (I : Inv X pins σ H s) (hf : ∀ b ∈ fp, FpOk X pins H b)
    (k : ∀ b u, b ∉ fp → s.heap.get? b = some u → g.get? b = some u) (hT : s.heap.objs.size ≤ T) (nf : ∀ b ∈ fp, ∃ u, s.heap.get? b = some u) (new : ObjOk X.prog X.w (upd H T o) g T o) : Inv X pins σ (upd H T o) { s with heap := g, toks := t' } := by
  have hn : H T = none := I.hok.fresh hT
  have trk : ∀ b u, H b = some u → b ∉ fp := fun b u e z => by rw [(hf b z).1] at e; cases e
  refine I.step (g' := s.gens) (d' := s.drawn) (ch := fp) (fun b hb => ⟨(hf b hb).2.2.2.1, (hf b hb).2.1, (hf b hb).2.2.2.2.1, (hf b hb).2.2.2.2.2⟩) (fun b u _ _ hc e _ => k b u hc e) (fun b u _ _ hc e _ => ⟨u.slots, k b u hc e⟩) (fun b u _ e n => ?_)
    (fun b u hc e => ⟨u, k b u hc e⟩) (fun b xs e => ?_) (fun b u xs e => ?_) (fun b ps e => ⟨#[], ?_⟩) (fun m hm => ?_) (fun b u e => ?_) I.bare
  · rw [upd_ne (Nat.ne_of_lt (Nat.lt_of_lt_of_le (Heap.lt_size e) hT))]
    exact n
  · rw [upd_ne (ne_of_none e hn)]
    exact e
  · rw [upd_ne (ne_of_none e hn)]
    exact e
  · rw [upd_ne (ne_of_none e hn), e]
    simp
  · obtain ⟨ob, es, ep, ho, r⟩ := hm
    exact ⟨ob, es, ep, k _ ob (fun z => (hf _ z).2.1 rfl) ho, r⟩
  · by_cases hb : b = T
    · subst hb
      rw [upd_same] at e
      cases e
      exact new
    · rw [upd_ne hb] at e
      refine (I.hok b u e).stay (fun c v hc q => k c v ?_ q) (fun c q => by rw [upd_ne (ne_of_none q hn)]; exact q) fun c xs q => by rw [upd_ne (ne_of_none q hn)]; exact q
      rcases hc with rfl | hc
      · exact trk c u e
      · exact trk c _ hc
theorem Inv.turnedOld {X : Cx} {pins : List (Addr × Obj)} {σ : St} {H : Hp} {s : Shared} {g : Heap} {t' : Nat} {fp : List Addr} (I : Inv X pins σ H s) (hf : ∀ b ∈ fp, FpOk X pins H b)
    (k : ∀ b u, b ∉ fp → s.heap.get? b = some u → g.get? b = some u) : Inv X pins σ H { s with heap := g, toks := t' } := by
  have trk : ∀ b u, H b = some u → b ∉ fp := fun b u e z => by rw [(hf b z).1] at e; cases e
  refine I.step (g' := s.gens) (d' := s.drawn) (ch := fp) (fun b hb => ⟨(hf b hb).2.2.2.1, (hf b hb).2.1, (hf b hb).2.2.2.2.1, (hf b hb).2.2.2.2.2⟩) (fun b u _ _ hc e _ => k b u hc e) (fun b u _ _ hc e _ => ⟨u.slots, k b u hc e⟩) (fun _ _ _ _ n => n)
    (fun b u hc e => ⟨u, k b u hc e⟩) (fun _ _ e => e) (fun _ _ _ e => e) (fun b ps e => ⟨#[], by rw [e]; simp⟩) (fun m hm => ?_) (fun b u e => ?_) I.bare
  · obtain ⟨ob, es, ep, ho, r⟩ := hm
    exact ⟨ob, es, ep, k _ ob (fun z => (hf _ z).2.1 rfl) ho, r⟩
  · refine (I.hok b u e).stay (fun c v hc q => k c v ?_ q) (fun _ q => q) fun _ _ q => q
    rcases hc with rfl | hc
    · exact trk c u e
    · exact trk c _ hc
/-! a list (true) or a tuple (false) -/
def sqAt (q : Bool) (K : PySem.W.Frag) (H : Hp) (a : Addr) (xs : List V) : Prop := match q with
  | true => SqL K H a xs
  | false => SqT K H a xs
def itAt (q : Bool) (h : Heap) (it a : Addr) (i : Nat) : Prop := match q with
  | true => h.IsListIter it a i
  | false => h.IsTupleIter it a i
def isAt (q : Bool) (h : Heap) (a : Addr) (its : Array Value) : Prop := match q with
  | true => h.IsList a its
  | false => h.IsTuple a its
def itName (q : Bool) : String := match q with
  | true => "list_iterator"
  | false => "tuple_iterator"
theorem itAt_obj {q : Bool} {h : Heap} {it a : Addr} {i : Nat} (p : itAt q h it a i) : ∃ o, h.get? it = some o ∧ ∀ v, o.data ≠ .cell v := by
  cases q with
  | true => obtain ⟨o, e, c, d⟩ := p; exact ⟨o, e, fun v z => by rw [d] at z; cases z⟩
  | false => obtain ⟨o, e, c, d⟩ := p; exact ⟨o, e, fun v z => by rw [d] at z; cases z⟩
theorem itAt_keep {q : Bool} {h g : Heap} {it a : Addr} {i : Nat} (p : itAt q h it a i) (k : ∀ o, h.get? it = some o → g.get? it = some o) : itAt q g it a i := by
  cases q with
  | true => obtain ⟨o, e, r⟩ := p; exact ⟨o, k o e, r⟩
  | false => obtain ⟨o, e, r⟩ := p; exact ⟨o, k o e, r⟩
theorem sqAt_inj {X : Cx} {pins : List (Addr × Obj)} {σ : St} {H : Hp} {s : Shared} {q : Bool} {a : Addr} {xs ys : List V} (I : Inv X pins σ H s) (h : sqAt q X.K H a xs) (h' : sqAt q X.K H a ys) : xs = ys := by
  cases q with
  | true => exact I.list_inj h h'
  | false => exact I.tuple_inj h h'
theorem sqAt_is {X : Cx} {pins : List (Addr × Obj)} {σ : St} {H : Hp} {s : Shared} {q : Bool} {a : Addr} {xs : List V} (I : Inv X pins σ H s) (h : sqAt q X.K H a xs) : ∃ its : List Value, Vals xs its ∧ isAt q s.heap a its.toArray ∧ xs.length ≤ sizeLine := by
  cases q with
  | true => obtain ⟨its, r, p, z⟩ := I.list h; exact ⟨its, r, p.isList, z⟩
  | false => obtain ⟨its, r, p, z⟩ := I.tuple h; exact ⟨its, r, p, z⟩
theorem draws_at {prog : Program} {w : World} {A : Around} (q : Bool) (hh : A.handled = none) (it a : Addr) (ne : a ≠ it) (its : Array Value) :
    Draws prog w A it [it, a] its.size (fun i v => its[i]? = some v) (fun i h => itAt q h it a i ∧ isAt q h a its) := by
  cases q with
  | true => exact Draws.list hh it a ne its
  | false => exact Z.tupDraws hh it a ne its
/-! zip -/
def Itz (K : PySem.W.Frag) (q1 q2 : Bool) (a1 a2 : Addr) : It :=
  ⟨fun i H => ∃ xs ys x y, sqAt q1 K H a1 xs ∧ sqAt q2 K H a2 ys ∧ xs[i]? = some x ∧ ys[i]? = some y,
   fun i H v H' => ∃ p x y, H p = none ∧ v = .ref p ∧ H' = upd H p (.tup [x, y]) ∧ (∀ xs, sqAt q1 K H a1 xs → xs[i]? = some x) ∧ (∀ ys, sqAt q2 K H a2 ys → ys[i]? = some y),
   fun i H => ∃ xs, sqAt q1 K H a1 xs ∧ xs.length = i⟩
theorem five {x a b c d e : Addr} (h : x ∈ [a, b, c, d, e]) : x = a ∨ x = b ∨ x = c ∨ x = d ∨ x = e := by simpa using h
theorem five_not {x a b c d e : Addr} (h : x ∉ [a, b, c, d, e]) : x ≠ a ∧ x ≠ b ∧ x ≠ c ∧ x ≠ d ∧ x ≠ e := by simpa using h
theorem five_nd {a b c d e : Addr} (h : [a, b, c, d, e].Nodup) : (a ≠ b ∧ a ≠ c ∧ a ≠ d ∧ a ≠ e) ∧ (b ≠ c ∧ b ≠ d ∧ b ≠ e) ∧ (c ≠ d ∧ c ≠ e) ∧ d ≠ e := by simpa using h
theorem turn_zip {P : Program} {w : World} {K : PySem.W.Frag} {es : List Expr} {kk : Nat} {tp : Pos} {q1 q2 : Bool} {a1 a2 : Addr} (z TI TO i1 i2 : Addr) (nd : [z, TI, TO, i1, i2].Nodup) (n1 : a1 ∉ [z, TI, TO, i1, i2]) (n2 : a2 ∉ [z, TI, TO, i1, i2]) :
    Turn P w K (.Tuple es kk tp) (Itz K q1 q2 a1 a2) [z, TI, TO, i1, i2] z (fun i h => IsZip h z TI TO .none ∧ IsPair h TI (.ref i1) (.ref i2) ∧ (∃ a b, IsPair h TO a b) ∧ itAt q1 h i1 a1 i ∧ itAt q2 h i2 a2 i) := by
  replace nd := five_nd nd
  replace n1 := five_not n1
  replace n2 := five_not n2
  obtain ⟨⟨d1, d2, d3, d4⟩, ⟨d5, d6, d7⟩, ⟨d8, d9⟩, d10⟩ := nd
  have ap : Z.Ap z TI TO i1 i2 [i1, a1] [i2, a2] := ⟨Ne.symm d1, Ne.symm d2, d5, d6, d7, by simp [d3, Ne.symm n1.1], by simp [d4, Ne.symm n2.1], by simp [d8, Ne.symm n1.2.2.1], by simp [d9, Ne.symm n2.2.2.1], by simp, by simp, by simp [d10, Ne.symm n2.2.2.2.1], by simp [Ne.symm d10, Ne.symm n1.2.2.2.2]⟩
  refine ⟨by simp, fun i h st b hb => ?_, fun i h g st k => ?_, ?_, ?_, fun A i s Q E st h => wpAny_pyIter_zip st.1 h⟩
  · obtain ⟨cz, cI, ⟨x, y, cO⟩, c1, c2⟩ := st
    replace hb := five hb
    rcases hb with rfl | rfl | rfl | rfl | rfl
    · exact ⟨_, cz, fun v e => by cases e⟩
    · exact ⟨_, cI, fun v e => by cases e⟩
    · exact ⟨_, cO, fun v e => by cases e⟩
    · exact itAt_obj c1
    · exact itAt_obj c2
  · obtain ⟨cz, cI, ⟨x, y, cO⟩, c1, c2⟩ := st
    exact ⟨k _ (by simp) _ cz, k _ (by simp) _ cI, ⟨x, y, k _ (by simp) _ cO⟩, itAt_keep c1 fun o e => k _ (by simp) o e, itAt_keep c2 fun o e => k _ (by simp) o e⟩
  · intro X hP hw hK hc i pins s σ H E I hf st hg
    subst hP hw hK
    obtain ⟨cz, cI, ⟨x0, y0, cO⟩, c1, c2⟩ := st
    obtain ⟨xs, ys, x, y, hx, hy, ex, ey⟩ := hg
    obtain ⟨its1, r1, p1, l1⟩ := sqAt_is I hx
    obtain ⟨its2, r2, p2, l2⟩ := sqAt_is I hy
    obtain ⟨u1, e1, ru1⟩ := r1.get ex
    obtain ⟨u2, e2, ru2⟩ := r2.get ey
    have hh : X.A.handled = none := I.ok.hd hc
    have D1 : Draws X.prog X.w X.A.in1 i1 [i1, a1] its1.toArray.size (fun i v => its1.toArray[i]? = some v) _ := draws_at q1 (A := X.A.in1) hh i1 a1 n1.2.2.2.1 its1.toArray
    have D2 : Draws X.prog X.w X.A.in1 i2 [i2, a2] its2.toArray.size (fun i v => its2.toArray[i]? = some v) _ := draws_at q2 (A := X.A.in1) hh i2 a2 n2.2.2.2.2 its2.toArray
    have hT : s.TypeIs (.ref z) "zip" := ⟨_, cz, rfl⟩
    have k1 : i < its1.toArray.size := by
      have := (List.getElem?_eq_some_iff.mp e1).1
      simpa using this
    have k2 : i < its2.toArray.size := by
      have := (List.getElem?_eq_some_iff.mp e2).1
      simpa using this
    unfold pyNext
    refine wpAny_bind (wpAny_attempt (wpAny_callSpecial?_slot (name := Str.ofString "__next__") hT PySem.F.slot_zip_next (wpAny_call_entry PySem.F.slot_zip_next hT PySem.F.entry_zip_next
      (Z.zip_step D1 D2 ap k1 k2 cz cI cO ⟨c1, p1⟩ ⟨c2, p2⟩ fun v1 v2 g tk w1 w2 bz bO b1 b2 bT kp => ?_) (PySem.F.args_zip_next_1 _))))
    have v1e : v1 = u1 := by
      have : its1[i]? = some v1 := by simpa using w1
      rw [e1] at this
      exact (Option.some.inj this).symm
    have v2e : v2 = u2 := by
      have : its2[i]? = some v2 := by simpa using w2
      rw [e2] at this
      exact (Option.some.inj this).symm
    subst v1e v2e
    refine wpAny_pure ⟨_, rfl, ?_⟩
    refine wpAny_letOwnedTupleGo_zip bz fun g2 cz2 sb => ?_
    have zlt : z < s.heap.objs.size := Heap.lt_size cz
    have T2 : IsPair g2 s.heap.objs.size v1 v2 := sb.extBut _ _ (Nat.ne_of_gt zlt) bT
    have lt : ∀ {c : Addr} {o : Obj}, s.heap.get? c = some o → c ≠ s.heap.objs.size := fun e => Nat.ne_of_lt (Heap.lt_size e)
    have kk : ∀ b u, b ∉ [z, TI, TO, i1, i2] → s.heap.get? b = some u → g2.get? b = some u := fun b u hb e => by
      replace hb := five_not hb
      exact sb.extBut _ _ hb.1 (kp b u hb.1 hb.2.2.1 hb.2.2.2.1 hb.2.2.2.2 e)
    have I2 : Inv X pins σ (upd H s.heap.objs.size (.tup [x, y])) { s with heap := g2, toks := tk } := by
      refine I.turnedNew hf kk (Nat.le_refl _) (fun b hb => ?_) ⟨by show 2 ≤ sizeLine; decide, [v1, v2], .cons ru1 (.cons ru2 .nil), ⟨_, T2, rfl, _, rfl⟩⟩
      replace hb := five hb
      rcases hb with rfl | rfl | rfl | rfl | rfl
      · exact ⟨_, cz⟩
      · exact ⟨_, cI⟩
      · exact ⟨_, cO⟩
      · obtain ⟨o, e, _⟩ := itAt_obj c1; exact ⟨o, e⟩
      · obtain ⟨o, e, _⟩ := itAt_obj c2; exact ⟨o, e⟩
    have hn : H s.heap.objs.size = none := I.hok.fresh (Nat.le_refl _)
    refine ⟨.ref s.heap.objs.size, _, I2, rfl, ⟨_, x, y, hn, rfl, rfl, fun zs hz => by rw [sqAt_inj I hz hx]; exact ex, fun zs hz => by rw [sqAt_inj I hz hy]; exact ey⟩,
      ⟨cz2, sb.extBut _ _ (Ne.symm d1) (kp _ _ (Ne.symm d1) d5 d6 d7 cI), ⟨_, _, sb.extBut _ _ (Ne.symm d2) bO⟩, itAt_keep b1.1 fun o e => sb.extBut _ _ (Ne.symm d3) e, itAt_keep b2.1 fun o e => sb.extBut _ _ (Ne.symm d4) e⟩, fun b hb => ?_⟩
    have hb' := hb
    replace hb' := five hb'
    have : b ≠ s.heap.objs.size := by
      rcases hb' with rfl | rfl | rfl | rfl | rfl
      · exact lt cz
      · exact lt cI
      · exact lt cO
      · obtain ⟨o, e, _⟩ := itAt_obj c1; exact lt e
      · obtain ⟨o, e, _⟩ := itAt_obj c2; exact lt e
    rw [upd_ne this]
    exact (hf b hb).1
  · intro X hP hw hK hc i pins s σ H E I hf st hg
    subst hP hw hK
    obtain ⟨cz, cI, ⟨x0, y0, cO⟩, c1, c2⟩ := st
    obtain ⟨xs, hx, rfl⟩ := hg
    obtain ⟨its1, r1, p1, l1⟩ := sqAt_is I hx
    have hh : X.A.handled = none := I.ok.hd hc
    have D1 : Draws X.prog X.w X.A.in1 i1 [i1, a1] its1.toArray.size (fun i v => its1.toArray[i]? = some v) _ := draws_at q1 (A := X.A.in1) hh i1 a1 n1.2.2.2.1 its1.toArray
    have hT : s.TypeIs (.ref z) "zip" := ⟨_, cz, rfl⟩
    have e : xs.length = its1.toArray.size := by rw [List.size_toArray]; exact r1.length
    rw [e] at c1
    unfold pyNext
    refine wpAny_bind (wpAny_attempt (wpAny_callSpecial?_slot (name := Str.ofString "__next__") hT PySem.F.slot_zip_next (wpAny_call_entry PySem.F.slot_zip_next hT PySem.F.entry_zip_next
      (Z.zip_stop D1 ap cz cI cO ⟨c1, p1⟩ fun g ex kp he => ?_) (PySem.F.args_zip_next_1 _))))
    obtain ⟨o, ho, hco⟩ := he
    refine wpAny_bind (wpAny_isInstance (T := "StopIteration") (b := true) ⟨o, ho, hco⟩ isSubtype_stop ?_)
    exact wpAny_pure ⟨rfl, I.turnedOld (t' := s.toks) hf fun b u hb e => by
      replace hb := five_not hb
      exact kp b u hb.1 hb.2.2.2.1 e⟩
end L2

namespace L2
open PySem PySem.Spec PyProof.Rows
/-! zip: the call -/
abbrev zq1 (q : Bool) (h : Heap) (a : Addr) : Heap := h.push { cls := .type (itName q), data := .fields #[.ref a, .int 0 0] }
abbrev zq3 (q1 q2 : Bool) (h : Heap) (a b : Addr) : Heap := (zq1 q2 (zq1 q1 h a) b).push { cls := .type "tuple", data := .seq #[.ref h.objs.size, .ref (zq1 q1 h a).objs.size] }
abbrev zq4 (q1 q2 : Bool) (h : Heap) (a b : Addr) : Heap := (zq3 q1 q2 h a b).push { cls := .type "tuple", data := .seq #[.none, .none] }
abbrev zq5 (q1 q2 : Bool) (h : Heap) (a b : Addr) : Heap := (zq4 q1 q2 h a b).push { cls := .type "zip", data := .fields #[.none, .bool false, .bool false, .ref (zq1 q2 (zq1 q1 h a) b).objs.size, .ref (zq3 q1 q2 h a b).objs.size] }
theorem isAt_push {q : Bool} {h : Heap} {a : Addr} {its : Array Value} (p : isAt q h a its) (o : Obj) : isAt q (h.push o) a its := by
  cases q with
  | true => obtain ⟨u, e, r⟩ := p; exact ⟨u, Heap.get?_push_of_some _ e, r⟩
  | false => obtain ⟨u, e, r⟩ := p; exact ⟨u, Heap.get?_push_of_some _ e, r⟩
theorem zip_new (q : Bool) (a b : Addr) (xs ys : Array Value) : Meets (Builtin.«zip.__new__» ⟨[.type "zip", .ref a, .ref b], []⟩) (fun _ R s => isAt q s.heap a xs ∧ isAt q s.heap b ys ∧
    R (.ok (.ret (.ref (zq4 q q s.heap a b).objs.size))) { s with heap := zq5 q q s.heap a b }) := by
  cases q
  all_goals
    refine .of_wp fun prog w A R s h => ?_
    obtain ⟨hp, g, d, tk, os⟩ := s
    obtain ⟨m1, m2, h⟩ := h
    have hsub := sub_zip
  · have M1 : Heap.IsTuple (Shared.heap ⟨hp, g, d, tk, os⟩) a xs := m1
    have M2 : Heap.IsTuple (Shared.heap ⟨hp.push { cls := .type "tuple_iterator", data := .fields #[.ref a, .int 0 0] }, g, d, tk, os⟩) b ys := isAt_push (q := false) m2 _
    wp_walk using wpAny_pyIter_tuple M1, wpAny_pyIter_tuple M2
    exact ⟨_, rfl, h⟩
  · have M1 : Heap.IsList (Shared.heap ⟨hp, g, d, tk, os⟩) a xs := m1
    have M2 : Heap.IsList (Shared.heap ⟨hp.push { cls := .type "list_iterator", data := .fields #[.ref a, .int 0 0] }, g, d, tk, os⟩) b ys := isAt_push (q := true) m2 _
    wp_walk using wpAny_pyIter_list M1, wpAny_pyIter_list M2
    exact ⟨_, rfl, h⟩
theorem zn (n a : Nat) (h : a < n) : a ∉ [n + 4, n + 2, n + 3, n, n + 1] := by
  simp only [List.mem_cons, List.not_mem_nil, or_false, not_or]
  omega
theorem znd (n : Nat) : [n + 4, n + 2, n + 3, n, n + 1].Nodup := by
  simp only [List.nodup_cons, List.mem_cons, List.not_mem_nil, or_false, not_or, not_false_eq_true, List.nodup_nil, and_true]
  omega
theorem zle (n b : Nat) (h : b ∈ [n + 4, n + 2, n + 3, n, n + 1]) : n ≤ b := by
  simp only [List.mem_cons, List.not_mem_nil, or_false] at h
  omega
theorem zle2 (n b : Nat) (h : b ∈ [n + 1, n]) : n ≤ b := by
  simp only [List.mem_cons, List.not_mem_nil, or_false] at h
  omega
theorem itAt_new {q : Bool} {h : Heap} {a it : Addr} (e : h.get? it = some { cls := .type (itName q), data := .fields #[.ref a, .int 0 0] }) : itAt q h it a 0 := by
  cases q with
  | true => exact ⟨_, e, rfl, rfl⟩
  | false => exact ⟨_, e, rfl, rfl⟩
theorem call_zipAt {prog : Program} {w : World} {A : Around} {E : Value → Shared → Prop} {s : Shared} (q : Bool) {a b : Addr} {xs ys : Array Value} {Q : Value → Shared → Prop} (m1 : isAt q s.heap a xs) (m2 : isAt q s.heap b ys)
    (h : ∀ g, IsZip g (s.heap.objs.size + 4) (s.heap.objs.size + 2) (s.heap.objs.size + 3) .none → IsPair g (s.heap.objs.size + 2) (.ref s.heap.objs.size) (.ref (s.heap.objs.size + 1)) → IsPair g (s.heap.objs.size + 3) .none .none →
      itAt q g s.heap.objs.size a 0 → itAt q g (s.heap.objs.size + 1) b 0 → (∀ c o, s.heap.get? c = some o → g.get? c = some o) → Q (.ref (s.heap.objs.size + 4)) { s with heap := g }) :
    wpAny (model prog w) A (call (.type "zip") [.ref a, .ref b]) Q E s := by
  refine callType_new PySem.F.called_zip (by decide) (PySem.F.typeCall_zip_2 _ _) (PySem.F.newCall_zip_2 _ _) (fun obj => PySem.F.args_object_init_3 obj _ _) PySem.F.entry_zip_new (zip_new q a b xs ys) ⟨m1, m2, ?_⟩
  have y1 : (zq1 q s.heap a).objs.size = s.heap.objs.size + 1 := Heap.size_push ..
  have y2 : (zq1 q (zq1 q s.heap a) b).objs.size = s.heap.objs.size + 2 := by rw [Heap.size_push, y1]
  have y3 : (zq3 q q s.heap a b).objs.size = s.heap.objs.size + 3 := by rw [Heap.size_push, y2]
  have y4 : (zq4 q q s.heap a b).objs.size = s.heap.objs.size + 4 := by rw [Heap.size_push, y3]
  have g5 : (zq5 q q s.heap a b).get? (zq4 q q s.heap a b).objs.size = some _ := Heap.get?_push_size _ rfl
  have g4 : (zq5 q q s.heap a b).get? (zq3 q q s.heap a b).objs.size = some _ := Heap.get?_push_of_some _ (Heap.get?_push_size _ rfl)
  have g3 : (zq5 q q s.heap a b).get? (zq1 q (zq1 q s.heap a) b).objs.size = some _ := Heap.get?_push_of_some _ (Heap.get?_push_of_some _ (Heap.get?_push_size _ rfl))
  have g2 : (zq5 q q s.heap a b).get? (zq1 q s.heap a).objs.size = some _ := Heap.get?_push_of_some _ (Heap.get?_push_of_some _ (Heap.get?_push_of_some _ (Heap.get?_push_size _ rfl)))
  have g1 : (zq5 q q s.heap a b).get? s.heap.objs.size = some _ := Heap.get?_push_of_some _ (Heap.get?_push_of_some _ (Heap.get?_push_of_some _ (Heap.get?_push_of_some _ (Heap.get?_push_size _ rfl))))
  show _ ∧ _
  rw [y2, y3, y4] at g5
  rw [y1, y2] at g3
  rw [y3] at g4
  rw [y1] at g2
  rw [y4]
  exact ⟨⟨_, g5, rfl⟩, h _ g5 g3 g4 (itAt_new g1) (itAt_new g2) fun c o x => Heap.get?_push_of_some _ (Heap.get?_push_of_some _ (Heap.get?_push_of_some _ (Heap.get?_push_of_some _ (Heap.get?_push_of_some _ x))))⟩
theorem bb_zip : bootBuiltins "zip" = some (.type "zip") := by decide +kernel
theorem bb_enumerate : bootBuiltins "enumerate" = some (.type "enumerate") := by decide +kernel
def iZip (K : PySem.W.Frag) (ta : TA) : TI := fun σ H R => ta σ H fun vs H1 => ∃ q a1 a2, vs = [.ref a1, .ref a2] ∧ (∃ xs, sqAt q K H1 a1 xs) ∧ (∃ ys, sqAt q K H1 a2 ys) ∧ R (Itz K q q a1 a2) H1
theorem sqAt_lt {X : Cx} {pins : List (Addr × Obj)} {σ : St} {H : Hp} {s : Shared} {q : Bool} {a : Addr} {xs : List V} (I : Inv X pins σ H s) (h : sqAt q X.K H a xs) : a < s.heap.objs.size := by
  cases q with
  | true => obtain ⟨its, r, ⟨o, n, e, _⟩, z⟩ := I.list h; exact Heap.lt_size e
  | false => obtain ⟨its, r, ⟨o, e, _⟩, z⟩ := I.tuple h; exact Heap.lt_size e
section
variable {X : Cx}
theorem pi_zip {e1 e2 : Expr} {es : List Expr} {kk : Nat} {tp p pos : Pos} {ta : TA} (B : Bt X "zip") (ha : PA X [e1, e2] ta) (h1 : notStar e1 = true := by rfl) (h2 : [e2].all notStar = true := by rfl) : PI X (.Tuple es kk tp) (.Call (.Name "zip" p) [e1, e2] [] pos) (iZip X.K ta) := by
  intro pins s σ H R I h
  refine wpAny_Call_Name_kw (ld_blt I B.gl B.nm bb_zip ?_ B.hn B.db)
  refine PyProof.Rows.callWith_type1 (thn (ha pos pins s σ H _ I h) fun us s1 hpat => ?_) (star_plain h1) (star_none h2)
  obtain ⟨vs, H1, I1, r1, qk, a1, a2, e, ⟨xs, m1⟩, ⟨ys, m2⟩, q⟩ := hpat
  subst e
  obtain ⟨u1, u2, rfl, rx, ry⟩ := vals2 r1
  cases rx
  cases ry
  obtain ⟨its1, v1, p1, l1⟩ := sqAt_is I1 m1
  obtain ⟨its2, v2, p2, l2⟩ := sqAt_is I1 m2
  have b1 := sqAt_lt I1 m1
  have b2 := sqAt_lt I1 m2
  refine call_zipAt qk p1 p2 fun g gz gI gO t1 t2 kp => ?_
  refine wpAny_pyIter_zip gz ?_
  refine ⟨_, _, _, _, H1, rfl, I1.kept (t' := s1.toks) kp, turn_zip (q1 := qk) (q2 := qk) (a1 := a1) (a2 := a2) (s1.heap.objs.size + 4) (s1.heap.objs.size + 2) (s1.heap.objs.size + 3) s1.heap.objs.size (s1.heap.objs.size + 1) (znd _) (zn _ _ b1) (zn _ _ b2),
    ⟨gz, gI, ⟨_, _, gO⟩, t1, t2⟩, fun b hb => ?_, q⟩
  have hle : s1.heap.objs.size ≤ b := zle _ _ hb
  exact I1.fpOk hle (I1.hok.fresh hle)
end
theorem for_zip {K : PySem.W.Frag} {q1 q2 : Bool} {a1 a2 : Addr} {xs ys : List V} {g : TG} {tb : TS} {D : Ends} {σ : St} {H : Hp} (hl : xs.length = ys.length) (Pv : Nat → St → Hp → Prop) (h0 : Pv 0 σ H) (hq : ∀ i σ H, Pv i σ H → sqAt q1 K H a1 xs ∧ sqAt q2 K H a2 ys)
    (hs : ∀ i x y p σ H, xs[i]? = some x → ys[i]? = some y → H p = none → Pv i σ H → g (.ref p) σ (upd H p (.tup [x, y])) fun σ2 H2 => tb { D with nx := Pv (i + 1), ct := Pv (i + 1), bk := D.nx } σ2 H2) (hd : ∀ σ H, Pv xs.length σ H → D.nx σ H) :
    ∃ W : Nat → Nat → St → Hp → Prop, (∃ m, W 0 m σ H) ∧ ∀ i m σ H, W i m σ H →
      ((Itz K q1 q2 a1 a2).stop i H ∧ D.nx σ H) ∨ ((Itz K q1 q2 a1 a2).go i H ∧ ∃ N : St → Hp → Prop, (∀ σ' H', N σ' H' → ∃ m', m' < m ∧ W (i + 1) m' σ' H') ∧ ∀ x H', (Itz K q1 q2 a1 a2).yld i H x H' → g x σ H' fun σ2 H2 => tb { D with nx := N, ct := N, bk := D.nx } σ2 H2) := by
  refine ⟨fun i m σ H => m = xs.length - i ∧ i ≤ xs.length ∧ Pv i σ H, ⟨xs.length, by simp, Nat.zero_le _, h0⟩, ?_⟩
  rintro i m σ H ⟨rfl, hi, p⟩
  obtain ⟨m1, m2⟩ := hq i σ H p
  by_cases hlt : i < xs.length
  · have hlt2 : i < ys.length := by omega
    refine .inr ⟨⟨xs, ys, xs[i], ys[i], m1, m2, by simp [hlt], by simp [hlt2]⟩, Pv (i + 1), fun σ' H' p' => ⟨xs.length - (i + 1), by omega, rfl, hlt, p'⟩, fun v H' y => ?_⟩
    obtain ⟨pp, x, y, hn, rfl, rfl, e1, e2⟩ := y
    exact hs i x y pp σ H (e1 xs m1) (e2 ys m2) hn p
  · have e : i = xs.length := by omega
    subst e
    exact .inl ⟨⟨xs, m1, rfl⟩, hd σ H p⟩
/-! enumerate -/
def Ite (K : PySem.W.Frag) (a : Addr) : It :=
  ⟨fun i H => ∃ xs x, SqL K H a xs ∧ xs[i]? = some x, fun i H v H' => ∃ p x, H p = none ∧ v = .ref p ∧ H' = upd H p (.tup [.int i, x]) ∧ ∀ xs, SqL K H a xs → xs[i]? = some x, fun i H => ∃ xs, SqL K H a xs ∧ xs.length = i⟩
theorem turn_enum {P : Program} {w : World} {K : PySem.W.Frag} {es : List Expr} {kk : Nat} {tp : Pos} {a : Addr} (e it : Addr) (ne : e ≠ it) (n1 : a ≠ e) (n2 : a ≠ it) :
    Turn P w K (.Tuple es kk tp) (Ite K a) [e, it] e (fun i h => (∃ old, IsEnum h e it i old) ∧ h.IsListIter it a i) := by
  refine ⟨by simp, fun i h st b hb => ?_, fun i h g st k => ?_, ?_, ?_, fun A i s Q E st h => ?_⟩
  · obtain ⟨⟨old, ce⟩, c1⟩ := st
    simp only [List.mem_cons, List.not_mem_nil, or_false] at hb
    rcases hb with rfl | rfl
    · exact ⟨_, ce, fun v e => by cases e⟩
    · exact itAt_obj (q := true) c1
  · obtain ⟨⟨old, ce⟩, c1⟩ := st
    exact ⟨⟨old, k _ (by simp) _ ce⟩, itAt_keep (q := true) c1 fun o e => k _ (by simp) o e⟩
  · intro X hP hw hK hc i pins s σ H E I hf st hg
    subst hP hw hK
    obtain ⟨⟨old, ce⟩, c1⟩ := st
    obtain ⟨xs, x, hx, ex⟩ := hg
    obtain ⟨its, r, p, l⟩ := I.list hx
    obtain ⟨u, eu, ru⟩ := r.get ex
    have W := WalksT.enumerate (prog := X.prog) (w := X.w) (A := X.A) (I.ok.hd hc) e it a ne n1 n2 its.toArray
    have hi : i < its.toArray.size := by
      have := (List.getElem?_eq_some_iff.mp eu).1
      simpa using this
    refine W.item i s _ _ hi ⟨⟨old, ce⟩, c1, p.isList⟩ fun T vals g tk hP hT hTup hM kp => ?_
    obtain ⟨t, v, hv, rfl⟩ := hP
    have hvu : v = u := by
      have : its[i]? = some v := by simpa using hv
      rw [eu] at this
      exact (Option.some.inj this).symm
    subst hvu
    have hTw : T ∉ [e, it] := W.apart i T g hM
    refine ⟨_, rfl, W.go es kk tp i T { s with heap := g, toks := tk } _ _ hM fun g2 st2 kp2 => ?_⟩
    have hn : H T = none := I.hok.fresh hT
    have kk2 : ∀ b u, b ∉ [e, it] → s.heap.get? b = some u → g2.get? b = some u := fun b u hb q => kp2 b u hb (kp b u hb q)
    have I2 : Inv X pins σ (upd H T (.tup [.int i, x])) { s with heap := g2, toks := tk } := by
      refine I.turnedNew hf kk2 hT (fun b hb => ?_) ⟨by show 2 ≤ sizeLine; decide, [.int i t, v], .cons ⟨t, rfl⟩ (.cons ru .nil), ?_⟩
      · simp only [List.mem_cons, List.not_mem_nil, or_false] at hb
        rcases hb with rfl | rfl
        · exact ⟨_, ce⟩
        · obtain ⟨o, q, _⟩ := itAt_obj (q := true) c1; exact ⟨o, q⟩
      · obtain ⟨o, q, rest⟩ := hTup
        exact ⟨o, kp2 T o hTw q, rest⟩
    refine ⟨.ref T, _, I2, rfl, ⟨T, x, hn, rfl, rfl, fun zs hz => by rw [I.list_inj hz hx]; exact ex⟩, ⟨by simpa using st2.1, st2.2.1⟩, fun b hb => ?_⟩
    have hbT : b ≠ T := by
      rintro rfl
      exact hTw hb
    rw [upd_ne hbT]
    exact (hf b hb).1
  · intro X hP hw hK hc i pins s σ H E I hf st hg
    subst hP hw hK
    obtain ⟨⟨old, ce⟩, c1⟩ := st
    obtain ⟨xs, hx, rfl⟩ := hg
    obtain ⟨its, r, p, l⟩ := I.list hx
    have W := WalksT.enumerate (prog := X.prog) (w := X.w) (A := X.A) (I.ok.hd hc) e it a ne n1 n2 its.toArray
    have e1 : xs.length = its.toArray.size := by rw [List.size_toArray]; exact r.length
    rw [e1] at ce c1
    exact W.done s _ _ ⟨⟨old, ce⟩, c1, p.isList⟩ fun g tk kp => ⟨rfl, I.turnedOld hf kp⟩
  · obtain ⟨⟨old, ce⟩, c1⟩ := st
    exact wpAny_pyIter_enum ce h
def iEnum (K : PySem.W.Frag) (ta : TA) : TI := fun σ H R => ta σ H fun vs H1 => ∃ a, vs = [.ref a] ∧ (∃ xs, SqL K H1 a xs) ∧ R (Ite K a) H1
section
variable {X : Cx}
theorem pi_enum {e1 : Expr} {es : List Expr} {kk : Nat} {tp p pos : Pos} {ta : TA} (B : Bt X "enumerate") (ha : PA X [e1] ta) (h1 : notStar e1 = true := by rfl) : PI X (.Tuple es kk tp) (.Call (.Name "enumerate" p) [e1] [] pos) (iEnum X.K ta) := by
  intro pins s σ H R I h
  refine wpAny_Call_Name_kw (ld_blt I B.gl B.nm bb_enumerate ?_ B.hn B.db)
  refine PyProof.Rows.callWith_type1 (thn (ha pos pins s σ H _ I h) fun us s1 hpat => ?_) (star_plain h1) (star_none rfl)
  obtain ⟨vs, H1, I1, r1, a, e, ⟨xs, m1⟩, q⟩ := hpat
  subst e
  obtain ⟨u1, rfl, rx⟩ := vals1 r1
  cases rx
  obtain ⟨its, v1, p1, l1⟩ := I1.list m1
  have b1 : a < s1.heap.objs.size := sqAt_lt (q := true) I1 m1
  refine call_enumerate_list p1.isList fun g ge gi _ kp => ?_
  refine wpAny_pyIter_enum ge ?_
  refine ⟨_, _, _, _, H1, rfl, I1.kept (t' := s1.toks) kp, turn_enum (a := a) (s1.heap.objs.size + 1) s1.heap.objs.size (Nat.ne_of_gt (Nat.lt_succ_self _)) (Nat.ne_of_lt (Nat.lt_succ_of_lt b1)) (Nat.ne_of_lt b1), ⟨⟨_, ge⟩, gi⟩, fun b hb => ?_, q⟩
  have hle : s1.heap.objs.size ≤ b := zle2 _ _ hb
  exact I1.fpOk hle (I1.hok.fresh hle)
end
theorem for_enum {K : PySem.W.Frag} {a : Addr} {xs : List V} {g : TG} {tb : TS} {D : Ends} {σ : St} {H : Hp} (Pv : Nat → St → Hp → Prop) (h0 : Pv 0 σ H) (hq : ∀ i σ H, Pv i σ H → SqL K H a xs)
    (hs : ∀ (i : Nat) x p σ H, xs[i]? = some x → H p = none → Pv i σ H → g (.ref p) σ (upd H p (.tup [.int i, x])) fun σ2 H2 => tb { D with nx := Pv (i + 1), ct := Pv (i + 1), bk := D.nx } σ2 H2) (hd : ∀ σ H, Pv xs.length σ H → D.nx σ H) :
    ∃ W : Nat → Nat → St → Hp → Prop, (∃ m, W 0 m σ H) ∧ ∀ i m σ H, W i m σ H →
      ((Ite K a).stop i H ∧ D.nx σ H) ∨ ((Ite K a).go i H ∧ ∃ N : St → Hp → Prop, (∀ σ' H', N σ' H' → ∃ m', m' < m ∧ W (i + 1) m' σ' H') ∧ ∀ x H', (Ite K a).yld i H x H' → g x σ H' fun σ2 H2 => tb { D with nx := N, ct := N, bk := D.nx } σ2 H2) := by
  refine ⟨fun i m σ H => m = xs.length - i ∧ i ≤ xs.length ∧ Pv i σ H, ⟨xs.length, by simp, Nat.zero_le _, h0⟩, ?_⟩
  rintro i m σ H ⟨rfl, hi, p⟩
  have m1 := hq i σ H p
  by_cases hlt : i < xs.length
  · refine .inr ⟨⟨xs, xs[i], m1, by simp [hlt]⟩, Pv (i + 1), fun σ' H' p' => ⟨xs.length - (i + 1), by omega, rfl, hlt, p'⟩, fun v H' y => ?_⟩
    obtain ⟨pp, x, hn, rfl, rfl, e1⟩ := y
    exact hs i x pp σ H (e1 xs m1) hn p
  · have e : i = xs.length := by omega
    subst e
    exact .inl ⟨⟨xs, m1, rfl⟩, hd σ H p⟩
/-! x.join(list of texts) -/
theorem strsAre_of : ∀ {zs : List Str} {us : List Value}, Vals (zs.map V.str) us → StrsAre us zs
  | [], _, r => by cases r; exact .nil
  | z :: zs, _, r => by
    cases r with
    | cons r1 r2 =>
      obtain ⟨t, rfl⟩ := r1
      exact .cons z t (strsAre_of r2)
theorem mt_join {X : Cx} : MtR X "str.join" (fun x vs H Q => ∃ (sep : Str) (p : Addr) (zs : List Str), x = .str sep ∧ vs = [.ref p] ∧ SqL X.K H p (zs.map V.str) ∧ (zs.map (·.length)).sum + zs.length * sep.length ≤ 16777216 ∧ Q (.str (Txt.join sep zs)) H) := by
  intro pins s σ H x xs v us Q I rx rs h
  obtain ⟨sep, p, zs, rfl, rfl, hq, hz, q⟩ := h
  obtain ⟨t, rfl⟩ := rx
  obtain ⟨u, rfl, ru⟩ := vals1 rs
  cases ru
  obtain ⟨its, r, pl, _⟩ := I.list hq
  exact join_list pl.isList (by simpa using strsAre_of r) hz fun t' k => ⟨.str _, H, I.tok _, ⟨_, rfl⟩, q⟩
end L2



/-! ### set(list of unlike texts), its len -/
namespace L2
open PySem PySem.Spec PyProof.Rows
local instance keyBEq : BEq Key := instBEqOfDecidableEq
local instance keyLBEq : @LawfulBEq Key keyBEq := inferInstanceAs (@LawfulBEq Key instBEqOfDecidableEq)
theorem setOfK_congr {prog : Program} {w : World} {h : Heap} {a : Addr} {S S' : Key → Bool} {n n' : Nat} (hS : h.SetOf (mixKind prog w) a S n) (e : ∀ k, S k = S' k) (en : n = n') : h.SetOf (mixKind prog w) a S' n' := by
  have : S = S' := funext e
  subst this
  subst en
  exact hS
section
variable {prog : Program} {w : World} {A : Around} {R : Result → Shared → Prop} {I : Addr} {fp wr : List Addr} {G : Array GenState → Array GenState → Prop} {n : Nat} {P : Nat → Value → Prop} {St : Nat → Shared → Prop}
theorem setLoop (W : WalksS prog w A.in1 I fp wr G n P St) (S : Addr) (hSf : S ∉ fp) (key : Nat → Key) (hval : ∀ i v, P i v → keyIs (key i) v = true ∧ v.scannable = true)
    (hnd : ∀ i j, i < j → j < n → key i ≠ key j) (hb : n + 1 < scanBound) : ∀ (k i : Nat) (s : Shared), n - i = k → i ≤ n → St i s → s.heap.SetOf (mixKind prog w) S (fun c => (List.range i).any fun j => decide (c = key j)) i →
      (∀ s', Moved (S :: wr) G s s' → s'.heap.SetOf (mixKind prog w) S (fun c => (List.range n).any fun j => decide (c = key j)) n → R (.ok (.ret .none)) s') →
      codeAny (model prog w) A (.builtin "set.update.loop" ⟨[.ref S, .ref I], []⟩) R s := by
  have hSw : S ∉ wr := fun h => hSf (W.sub _ h)
  have hsub : ∀ b ∈ wr, b ∈ S :: wr := fun b hb => List.mem_cons_of_mem _ hb
  have stay : ∀ {s s' : Shared} {T : Key → Bool} {m : Nat}, Moved wr G s s' → s.heap.SetOf (mixKind prog w) S T m → s'.heap.SetOf (mixKind prog w) S T m := fun hm ⟨o, es, ep, tb, ho, rest⟩ => ⟨o, es, ep, tb, hm.heap S _ hSw ho, rest⟩
  intro k
  induction k with
  | zero =>
    intro i s hk hi hst hS hR
    obtain rfl : i = n := by omega
    refine codeAny_builtin PyProof.Rows.F.entry_set_update_loop ?_
    rw [Around.under_plainId PyProof.Rows.F.plain_set_update_loop _]
    show wpAny _ A.in1 (pyNext (.ref I) >>= _) _ _ s
    refine wpAny_bind (W.done s _ _ hst fun s' hm => ?_)
    show wpAny _ A.in1 (ret Value.none) _ _ s'
    exact wpAny_pure (hR s' (hm.mono hsub) (stay hm hS))
  | succ k ih =>
    intro i s hk hi hst hS hR
    have hlt : i < n := by omega
    refine codeAny_builtin PyProof.Rows.F.entry_set_update_loop ?_
    rw [Around.under_plainId PyProof.Rows.F.plain_set_update_loop _]
    show wpAny _ A.in1 (pyNext (.ref I) >>= _) _ _ s
    refine wpAny_bind (W.item i s _ _ hlt hst fun v s' hP hst' hm => ?_)
    obtain ⟨hkv, hsc⟩ := hval i v hP
    have hS1 := stay hm hS
    show wpAny _ A.in1 (holding [v] (setAdd S v) >>= _) _ _ s'
    refine wpAny_bind (wpAny_holding ?_)
    unfold setAdd
    refine wpAny_holding ?_
    refine wpAny_bind ((mixKind prog w).pyHash (k := key i) hkv ?_)
    refine wpAny_setAddHashed_of (knd := mixKind prog w) (s := { s' with toks := s'.toks + 1 }) hkv hsc hS1 (by omega) fun g hsb hS2 => ?_
    have hno : ((List.range i).any fun j => decide (key i = key j)) = false := by
      rw [List.any_eq_false]
      intro j hj
      have hj' := List.mem_range.mp hj
      simp only [decide_eq_true_eq]
      exact fun e => hnd j i hj' hlt e.symm
    have hS3 : g.SetOf (mixKind prog w) S (fun c => (List.range (i + 1)).any fun j => decide (c = key j)) (i + 1) := by
      refine setOfK_congr hS2 (fun c => ?_) (by rw [hno]; rfl)
      rw [List.range_succ, List.any_append]
      simp
    refine wpAny_pure ⟨plainId_quiet PyProof.Rows.F.plain_set_update_loop _, ih (i + 1) _ (by omega) hlt (W.frame _ s' _ _ hst' (Nat.le_succ _) fun b hb o e => ?_) hS3 fun s'' hm'' hS'' => ?_⟩
    · rw [hsb.2 b (by rintro rfl; exact hSf hb)]
      exact e
    · refine hR s'' (Moved.trans W.gtrans ((hm.mono hsub).then_heap (Nat.le_succ _) fun b o hb e => ?_) hm'') hS''
      rw [hsb.2 b (by rintro rfl; exact hb List.mem_cons_self)]
      exact e
end
section
variable {prog : Program} {w : World} {A : Around} {E : Value → Shared → Prop} {s : Shared}
theorem call_setK {l : Addr} {items : Array Value} {key : Nat → Key} {Q : Value → Shared → Prop} (hh : A.handled = none) (hl : s.heap.IsList l items) (hv : ∀ i v, items[i]? = some v → keyIs (key i) v = true ∧ v.scannable = true)
    (hnd : ∀ i j, i < j → j < items.size → key i ≠ key j) (hb : items.size + 1 < scanBound)
    (h : ∀ (g : Heap) (tk : Nat) (T : Key → Bool), g.SetOf (mixKind prog w) s.heap.objs.size T items.size → (∀ b o, b < s.heap.objs.size → s.heap.get? b = some o → g.get? b = some o) → Q (.ref s.heap.objs.size) { s with heap := g, toks := tk }) :
    wpAny (model prog w) A (call (.type "set") [.ref l]) Q E s := by
  obtain ⟨c, tl, hmro⟩ := PySem.F.called_set.mro
  have hmade := PySem.F.called_set.made
  have hsub := PySem.F.called_set.sub
  refine wpAny_call (codeAny_of_tree ?_)
  show wpAny _ _ (callAny (.type "set") _) _ _ _
  refine wpAny_pure ⟨Code.quiet_builtin _ (by decide +kernel), codeAny_builtin PySem.F.entry_type_call ?_⟩
  rw [Around.under_plain (weight_type_call_type "set" [.ref l] []) rfl]
  have f1 := PySem.F.called_set.notType
  have f2 := PySem.F.called_set.canCreate
  have f3 := PySem.F.typeCall_set_1 (.ref l)
  repeat (any_goals (first | assumption | wp_step))
  refine codeAny_mono (code_set_new_1 (.ref l) (E := E) (Q₁ := fun obj u => ∃ led : Bool, obj = .ref s.heap.objs.size ∧ u = { s with heap := s.heap.push { cls := .type "set", dict := none, data := .set #[] 0 (.fresh 0 0 led) } }) fun led => ⟨led, rfl, rfl⟩) fun r u hr => ?_
  cases r with
  | error e => exact hr
  | ok fl =>
    cases fl with
    | ret obj =>
      obtain ⟨led, rfl, rfl⟩ := hr
      have hS : (s.heap.push { cls := .type "set", dict := none, data := .set #[] 0 (.fresh 0 0 led) }).get? s.heap.objs.size = some { cls := .type "set", dict := none, data := .set #[] 0 (.fresh 0 0 led) } := Heap.get?_push_size _ rfl
      have hT : Shared.TypeIs { s with heap := s.heap.push { cls := .type "set", dict := none, data := .set #[] 0 (.fresh 0 0 led) } } (.ref s.heap.objs.size) "set" := ⟨_, hS, rfl⟩
      have hli := PySem.F.called_set.init.lookup
      have hbi := PySem.F.called_set.init.bind (.ref s.heap.objs.size)
      repeat (any_goals (first | assumption | wp_step))
      refine codeAny_mono (codeAny_call_builtin (R := wants (fun r u => r = .none ∧ ∃ g tk T, u = { s with heap := g, toks := tk } ∧ g.SetOf (mixKind prog w) s.heap.objs.size T items.size ∧ (∀ b o, b < s.heap.objs.size → s.heap.get? b = some o → g.get? b = some o)) E)
        PySem.F.called_set.init.plain PySem.F.entry_set_init (check_set_init_1 hT ?_)) fun r2 u hr2 => ?_
      · obtain ⟨⟨ocls, odict, odata, oslots⟩, hol, hcl, nl, hdl⟩ := hl
        simp only at hcl hdl
        subst hcl
        subst hdl
        have hol' : (s.heap.push { cls := .type "set", dict := none, data := .set #[] 0 (.fresh 0 0 led) }).get? l = some { cls := .type "list", dict := odict, data := .seq items nl, slots := oslots } := Heap.get?_push_of_some _ hol
        have k1 := PySem.F.sub_list_set
        have k2 := PySem.F.sub_list_frozenset
        have k3 : (Value.type "list" == Value.type "dict") = false := by decide
        have hl1 : (s.heap.push { cls := .type "set", dict := none, data := .set #[] 0 (.fresh 0 0 led) }).IsList l items := ⟨_, hol', rfl, nl, rfl⟩
        unfold Builtin.«set.__init__» noKeywords Builtin.Frozenset.updateFrom
        generalize hPI : pyIter = PI
        wp_walk
        subst hPI
        refine wpAny_pyIter_list hl1 ?_
        refine wpAny_bind (wpAny_runValue ?_)
        have hlS : l < s.heap.objs.size := Heap.lt_size hol
        have hneI : l ≠ (s.heap.push { cls := .type "set", dict := none, data := .set #[] 0 (.fresh 0 0 led) }).objs.size := by
          rw [Heap.size_push]
          exact Nat.ne_of_lt (Nat.lt_succ_of_lt hlS)
        have hSf : s.heap.objs.size ∉ [(s.heap.push { cls := .type "set", dict := none, data := .set #[] 0 (.fresh 0 0 led) }).objs.size, l] := by
          rw [Heap.size_push]
          simp only [List.mem_cons, List.not_mem_nil, or_false, not_or]
          exact ⟨Nat.ne_of_lt (Nat.lt_succ_self _), Nat.ne_of_gt hlS⟩
        refine setLoop ((Walks.list (show A.in1.in1.in1.handled = none by simp [hh]) _ l hneI items).toS) s.heap.objs.size hSf key hv hnd hb (items.size - 0) 0 _ (by omega) (Nat.zero_le _) ⟨⟨_, Heap.get?_push_size _ rfl, rfl, rfl⟩, (hl1.push _)⟩ ?_ ?_
        · refine setOfK_congr ((PyProof.Rows.setObjOf_fresh (knd := mixKind prog w) led).setOf (Heap.get?_push_of_some _ hS) (by unfold scanBound; omega)) (fun _ => rfl) rfl
        · intro s' hm hS'
          obtain ⟨g, g', d', tk', os'⟩ := s'
          have eg : g' = s.gens := hm.gens
          have ed : d' = s.drawn := hm.drawn
          have eo : os' = s.os := hm.os
          subst eg ed eo
          show wpAny _ _ _ _ _ _
          refine wpAny_pure ?_
          show wpAny _ _ (ret Value.none) _ _ _
          refine wpAny_pure ⟨rfl, g, tk', _, rfl, hS', fun b o hb e => ?_⟩
          have hb2 : b ≠ (s.heap.push { cls := .type "set", dict := none, data := .set #[] 0 (.fresh 0 0 led) }).objs.size := by
            rw [Heap.size_push]
            exact Nat.ne_of_lt (Nat.lt_succ_of_lt hb)
          exact hm.heap b o (by simp only [List.mem_cons, List.not_mem_nil, or_false, not_or]; exact ⟨Nat.ne_of_lt hb, hb2⟩) (Heap.get?_push_of_some _ (Heap.get?_push_of_some _ e))
      · cases r2 with
        | error e => exact hr2
        | ok fl2 =>
          cases fl2 with
          | ret r =>
            obtain ⟨rfl, g, tk, T, rfl, hS', hk'⟩ := hr2
            repeat (any_goals (first | assumption | wp_step))
            exact h _ _ _ hS' hk'
          | _ => exact hr2.elim
    | _ => exact hr.elim
end
/-- a set of n texts or ints -/
def setM (P : Program) (w : World) (a : Addr) (n : Nat) : HO := .ext fun h => ∃ T, h.SetOf (mixKind P w) a T n
theorem call_setT {X : Cx} (hc : X.calm = true) : CallR X (.type "set") (fun xs H Q => ∃ (p : Addr) (zs : List Str), xs = [.ref p] ∧ SqL X.K H p (zs.map V.str) ∧ zs.Nodup ∧ zs.length < 1000 ∧ ∀ q, H q = none → Q (.ref q) (upd H q (setM X.prog X.w q zs.length))) := by
  intro pins s σ H xs us Q I r h
  obtain ⟨p, zs, rfl, hq, nd, hz, q⟩ := h
  obtain ⟨u, rfl, rx⟩ := vals1 r
  cases rx
  obtain ⟨its, rv, pl, _⟩ := I.list hq
  have hl := rv.length
  rw [List.length_map] at hl
  refine call_setK (key := fun i => Sum.inr (zs.getD i "")) (I.ok.hd hc) pl.isList (fun i v e => ?_) (fun i j hij hj => ?_) (by rw [List.size_toArray, ← hl]; unfold scanBound; omega) fun g tk T hS kp => ?_
  · have e' : its[i]? = some v := by simpa using e
    have hi : i < zs.length := by
      have := (List.getElem?_eq_some_iff.mp e').1
      omega
    obtain ⟨u, eu, t, rfl⟩ := rv.get (show (zs.map V.str)[i]? = some (V.str zs[i]) by simp [hi])
    rw [eu] at e'
    cases e'
    have e2 : zs.getD i "" = zs[i] := by simp [List.getD, hi]
    show keyIs (Sum.inr (zs.getD i "")) _ = true ∧ _
    rw [e2]
    exact ⟨keyIs_str _ _, rfl⟩
  · have hj' : j < zs.length := by
      rw [List.size_toArray, ← hl] at hj
      exact hj
    have hi' : i < zs.length := by omega
    intro e
    have e1 : zs.getD i "" = zs.getD j "" := Sum.inr.inj e
    have e2 : zs[i] = zs[j] := by simpa [List.getD, hi', hj'] using e1
    exact absurd ((List.getElem_inj nd).mp e2) (by omega)
  · have hn : H s.heap.objs.size = none := I.hok.fresh (Nat.le_refl _)
    have e3 : its.toArray.size = zs.length := by rw [List.size_toArray, hl]
    rw [e3] at hS
    refine ⟨.ref s.heap.objs.size, _, I.laid (t' := tk) (o := setM X.prog X.w s.heap.objs.size zs.length) (fun b o e => kp b o (Heap.lt_size e) e) (Nat.le_refl _) ⟨⟨T, hS⟩, ?_, fun h1 h2 p k => ?_⟩, rfl, q _ hn⟩
    · obtain ⟨o, _, _, _, e, _⟩ := hS
      exact ⟨o, e⟩
    · obtain ⟨T, o, es, ep, t, e, rest⟩ := p
      exact ⟨T, o, es, ep, t, k o e, rest⟩
theorem call_len_setM {X : Cx} : CallR X (.builtin "len") (fun xs H Q => ∃ (p : Addr) (n : Nat), xs = [.ref p] ∧ H p = some (setM X.prog X.w p n) ∧ Q (.int n) H) := by
  intro pins s σ H xs us Q I r h
  obtain ⟨p, n, rfl, hp, q⟩ := h
  obtain ⟨u, rfl, rx⟩ := vals1 r
  cases rx
  obtain ⟨⟨T, o, es, ep, t, e, ex, d, _, _, hsz, hf, rfl⟩, _⟩ := I.hok p _ hp
  have hb : es.size < 4096 := hsz
  exact call_len_set e ex d hf (by omega) ⟨.int es.size, H, I.tok _, ⟨_, rfl⟩, q⟩
end L2

/-! ### comprehensions by an invariant; elements that grow the heap -/
namespace L2
open PySem PySem.Spec PyProof.Rows
section
variable {K : PySem.W.Frag} {is : List Nat} {te : TE} {σ : St} {H : Hp} {Q : VK}
theorem lc_inv {J : It} {n : Nat} (Pv : Addr → Nat → List V → Hp → Prop) (hz : n ≤ sizeLine) (h0 : ∀ D, H D = none → Pv D 0 [] (upd H D (.lst [])))
    (hD : ∀ D i ys H2, Pv D i ys H2 → H2 D = some (.lst ys) ∧ ys.length = i) (hgo : ∀ D i ys H2, Pv D i ys H2 → i < n → J.go i H2) (hstop : ∀ D ys H2, Pv D n ys H2 → J.stop n H2)
    (he : ∀ D i ys H2 v H3 (Q' : VK), Pv D i ys H2 → i < n → J.yld i H2 v H3 → (∀ y H4, H4 D = some (.lst ys) → Pv D (i + 1) (ys ++ [y]) (upd H4 D (.lst (ys ++ [y]))) → Q' y H4) → te (some v :: caps is σ) H3 Q')
    (q : ∀ D ys H2, H D = none → Pv D n ys H2 → Q (.ref D) H2) : lcGoal J is te σ H Q := by
  intro D hDn
  refine ⟨fun i m ys H2 => m = n - i ∧ i ≤ n ∧ Pv D i ys H2, ⟨_, rfl, Nat.zero_le _, h0 D hDn⟩, ?_⟩
  rintro i m ys H2 ⟨rfl, hi, p⟩
  obtain ⟨d1, d2⟩ := hD D i ys H2 p
  refine ⟨d1, ?_⟩
  by_cases hlt : i < n
  · refine .inr ⟨hgo D i ys H2 p hlt, fun v H3 y => ?_⟩
    refine he D i ys H2 v H3 _ p hlt y fun y' H4 e4 p4 => ⟨e4, by omega, n - (i + 1), by omega, rfl, hlt, p4⟩
  · have e : i = n := by omega
    subst e
    exact .inl ⟨hstop D ys H2 p, q D ys H2 hDn p⟩
theorem lc_grow {J : It} {xs : List V} (f : V → V) (hz : xs.length ≤ sizeLine) (hgo : ∀ i H2, Same H H2 → i < xs.length → J.go i H2) (hstop : ∀ H2, Same H H2 → J.stop xs.length H2)
    (hy : ∀ i H2 v H3, Same H H2 → i < xs.length → J.yld i H2 v H3 → H3 = H2 ∧ xs[i]? = some v)
    (he : ∀ v H2 (Q' : VK), v ∈ xs → Same H H2 → (∀ H3, Same H2 H3 → Q' (f v) H3) → te (some v :: caps is σ) H2 Q')
    (q : ∀ D H', H D = none → Same H H' → H' D = some (.lst (xs.map f)) → Q (.ref D) H') : lcGoal J is te σ H Q := by
  refine lc_inv (n := xs.length) (fun D i ys H2 => H D = none ∧ Same H H2 ∧ H2 D = some (.lst ys) ∧ i ≤ xs.length ∧ ys = (xs.take i).map f) hz (fun D hD => ⟨hD, Same.upd hD, upd_same, Nat.zero_le _, by simp⟩)
    (fun D i ys H2 p => ⟨p.2.2.1, by rw [p.2.2.2.2, List.length_map, List.length_take]; have := p.2.2.2.1; omega⟩) (fun D i ys H2 p hi => hgo i H2 p.2.1 hi) (fun D ys H2 p => hstop H2 p.2.1) ?_ ?_
  · rintro D i ys H2 v H3 Q' ⟨hD, sm, hl, hi, hys⟩ hlt y k
    obtain ⟨rfl, hv⟩ := hy i H2 v H3 sm hlt y
    refine he v _ _ (List.mem_of_getElem? hv) sm fun H4 s4 => ?_
    refine k _ _ (s4 _ _ hl) ⟨hD, fun b o e => ?_, upd_same, hlt, ?_⟩
    · rw [upd_ne (ne_of_none e hD)]
      exact s4 _ _ (sm _ _ e)
    · rw [hys, List.take_add_one, hv, List.map_append]
      rfl
  · rintro D ys H2 hD ⟨_, sm, hl, _, hys⟩
    rw [List.take_length] at hys
    rw [hys] at hl
    exact q D H2 hD sm hl
theorem lcg_list {a : Addr} {xs : List V} (f : V → V) (hq : SqL K H a xs) (hz : xs.length ≤ sizeLine) (he : ∀ v H2 (Q' : VK), v ∈ xs → Same H H2 → (∀ H3, Same H2 H3 → Q' (f v) H3) → te (some v :: caps is σ) H2 Q')
    (q : ∀ D H', H D = none → Same H H' → H' D = some (.lst (xs.map f)) → Q (.ref D) H') : lcGoal (Itl K a) is te σ H Q :=
  lc_grow f hz (fun i H2 sm hi => ⟨xs, xs[i], sm.seq hq, by simp [hi]⟩) (fun H2 sm => ⟨xs, sm.seq hq, Nat.le_refl _⟩) (fun i H2 v H3 sm hi y => ⟨y.1, y.2 xs (sm.seq hq)⟩) he q
theorem lcg_tup {a : Addr} {xs : List V} (f : V → V) (hq : SqT K H a xs) (hz : xs.length ≤ sizeLine) (he : ∀ v H2 (Q' : VK), v ∈ xs → Same H H2 → (∀ H3, Same H2 H3 → Q' (f v) H3) → te (some v :: caps is σ) H2 Q')
    (q : ∀ D H', H D = none → Same H H' → H' D = some (.lst (xs.map f)) → Q (.ref D) H') : lcGoal (Itt K a) is te σ H Q :=
  lc_grow f hz (fun i H2 sm hi => ⟨xs, xs[i], sm.seqT hq, by simp [hi]⟩) (fun H2 sm => ⟨xs, sm.seqT hq, Nat.le_refl _⟩) (fun i H2 v H3 sm hi y => ⟨y.1, y.2 xs (sm.seqT hq)⟩) he q
end
/-! ### a comprehension's own context: names, what is called -/
theorem relabel_keep {env : Env} {k : NameKind} (hk : k ≠ .free) : ∀ {names : List (Str × NameKind)} {x : Str}, names.lookup x = some k →
    (names.map fun (n, k) => if (k == NameKind.free && env.scope.kind == .function && env.kindOf n == some .cell) then (n, NameKind.cell) else (n, k)).lookup x = some k
  | [], _, h => by simp at h
  | (n, j) :: r, x, h => by
    have ih := @relabel_keep env k hk r x
    show List.lookup x ((if (j == NameKind.free && env.scope.kind == .function && env.kindOf n == some .cell) = true then (n, NameKind.cell) else (n, j)) :: _) = _
    cases hx : x == n with
    | true =>
      simp only [List.lookup_cons, hx] at h
      cases h
      rw [if_neg (by simp [hk])]
      simp only [List.lookup_cons, hx]
    | false =>
      simp only [List.lookup_cons, hx] at h
      by_cases hc' : (j == NameKind.free && env.scope.kind == .function && env.kindOf n == some .cell) = true
      · rw [if_pos hc']; simp only [List.lookup_cons, hx]; exact ih h
      · rw [if_neg hc']; simp only [List.lookup_cons, hx]; exact ih h
theorem relabel_vis {env : Env} : ∀ {names : List (Str × NameKind)} {x : Str}, names.lookup x = some .free →
    (names.map fun (n, k) => if (k == NameKind.free && env.scope.kind == .function && env.kindOf n == some .cell) then (n, NameKind.cell) else (n, k)).lookup x = some .cell ∨
    (names.map fun (n, k) => if (k == NameKind.free && env.scope.kind == .function && env.kindOf n == some .cell) then (n, NameKind.cell) else (n, k)).lookup x = some .free
  | [], _, h => by simp at h
  | (n, j) :: r, x, h => by
    have ih := @relabel_vis env r x
    show List.lookup x ((if (j == NameKind.free && env.scope.kind == .function && env.kindOf n == some .cell) = true then (n, NameKind.cell) else (n, j)) :: _) = _ ∨ List.lookup x ((if (j == NameKind.free && env.scope.kind == .function && env.kindOf n == some .cell) = true then (n, NameKind.cell) else (n, j)) :: _) = _
    cases hx : x == n with
    | true =>
      simp only [List.lookup_cons, hx] at h
      cases h
      by_cases hc' : (NameKind.free == NameKind.free && env.scope.kind == .function && env.kindOf n == some .cell) = true
      · rw [if_pos hc']; simp only [List.lookup_cons, hx]; first | exact .inl rfl | exact .inl trivial
      · rw [if_neg hc']; simp only [List.lookup_cons, hx]; first | exact .inr rfl | exact .inr trivial
    | false =>
      simp only [List.lookup_cons, hx] at h
      by_cases hc' : (j == NameKind.free && env.scope.kind == .function && env.kindOf n == some .cell) = true
      · rw [if_pos hc']; simp only [List.lookup_cons, hx]; exact ih h
      · rw [if_neg hc']; simp only [List.lookup_cons, hx]; exact ih h
section
variable {X : Cx} {x y : Str} {ns : List Str} {scope : Scope} {cl : List (Str × Addr)} {fp : List Addr} {s3 : Shared} {H3 : Hp} {C : Addr} {sp : Sp}
structure CalI (X : Cx) (x : Str) (sp : Sp) : Prop where
  ex : ∃ (k : Nat) (f : Addr) (fd : FuncData) (ps : List Str), FnOk X.prog X.w X.K X.mg X.base CX0 k f fd ps sp ∧ Room k X.A ∧ X.mg x = some (.ref f) ∧ PySem.W.keepIn X.K (.ref f) = true ∧ Binds X.K fd ps []
  db : (x == ("__debug__" : Str)) = false
structure BtI (X : Cx) (x : Str) : Prop where
  nm : X.mg x = none
  hn : x ≠ "__name__"
  db : (x == ("__debug__" : Str)) = false
theorem CalI.lc (B : CalI X y sp) (h : scope.names.lookup y = some .globalImplicit) : Cal (lcCx X (x :: ns) scope cl fp s3 H3 C) y sp := ⟨B.ex, relabel_keep (by decide) h, B.db⟩
end
/-! ### a def, a method, a class by what they promise -/
structure Gd (P : Program) (w : World) (K : PySem.W.Frag) (mg : Str → Option Value) (base : Heap) (k : Nat) (x : Str) (sp : Sp) : Prop where
  ex : ∃ (f : Addr) (fd : FuncData) (ps : List Str), FnOk P w K mg base CX0 k f fd ps sp ∧ mg x = some (.ref f) ∧ PySem.W.keepIn K (.ref f) = true ∧ Binds K fd ps []
structure Md (P : Program) (w : World) (K : PySem.W.Frag) (mg : Str → Option Value) (base : Heap) (k : Nat) (C : Addr) (m : Str) (sp : Sp) : Prop where
  ex : ∃ (f : Addr) (fd : FuncData) (ps : List Str), FnOk P w K mg base CX0 k f fd ps sp ∧ Meth K C m f ∧ Binds K fd ps []
  cl : Cls K C
structure Kd (P : Program) (w : World) (K : PySem.W.Frag) (mg : Str → Option Value) (base : Heap) (k : Nat) (x : Str) (C : Addr) (sp : Sp) : Prop where
  ex : ∃ (f : Addr) (fd : FuncData) (ps : List Str), FnOk P w K mg base CX0 k f fd ps sp ∧ Mk K C f ∧ Binds K fd ps []
  nm : mg x = some (.ref C)
structure Mak (X : Cx) (x : Str) (C : Addr) (sp : Sp) : Prop where
  ex : ∃ (k : Nat) (f : Addr) (fd : FuncData) (ps : List Str), FnOk X.prog X.w X.K X.mg X.base CX0 k f fd ps sp ∧ Room (k + 1) X.A ∧ Mk X.K C f ∧ Binds X.K fd ps []
  nm : X.mg x = some (.ref C)
  gl : Gl X x
  db : (x == ("__debug__" : Str)) = false
structure Met (X : Cx) (C : Addr) (m : Str) (sp : Sp) : Prop where
  ex : ∃ (k : Nat) (f : Addr) (fd : FuncData) (ps : List Str), FnOk X.prog X.w X.K X.mg X.base CX0 k f fd ps sp ∧ Room k X.A ∧ Meth X.K C m f ∧ Binds X.K fd ps []
  cl : Cls X.K C
/-- what is known of the context of a body -/
structure Here (X : Cx) (P : Program) (w : World) (K : PySem.W.Frag) (mg : Str → Option Value) (base : Heap) (sc : Scope) (N : List Str) (k : Nat) : Prop where
  pr : X.prog = P
  wd : X.w = w
  fK : X.K = K
  gm : X.mg = mg
  bs : X.base = base
  calm : X.calm = true
  own : PassesOwn (model X.prog X.w) X.A X.env X.xe
  hsc : X.env.scope = sc
  hN : X.N = N
  nd : X.N.Nodup
  room : Room k X.A
  fn : ∀ x, X.fn x = true
section
variable {X : Cx} {P : Program} {w : World} {K : PySem.W.Frag} {mg : Str → Option Value} {base : Heap} {sc : Scope} {N : List Str} {k j : Nat} {x m : Str} {sp : Sp} {C : Addr}
theorem Here.slot (h : Here X P w K mg base sc N k) (i : Nat) (hN : N[i]? = some x) (lc : Loc sc x) (db : (x == ("__debug__" : Str)) = false) (cd : (x == ("__classdict__" : Str)) = false) : Slot X i x :=
  ⟨by rw [h.hN]; exact hN, by rw [h.hsc]; exact lc, .inl (h.fn x), db, cd⟩
theorem Here.gl (h : Here X P w K mg base sc N k) (hg : sc.names.lookup x = some .globalImplicit) : Gl X x := by
  show X.env.scope.names.lookup x = _
  rw [h.hsc]
  exact hg
theorem Here.bt (h : Here X P w K mg base sc N k) (hm : mg x = none) (hg : sc.names.lookup x = some .globalImplicit) (hn : x ≠ "__name__") (db : (x == ("__debug__" : Str)) = false) : Bt X x := ⟨h.gl hg, by rw [h.gm]; exact hm, hn, db⟩
theorem Here.cal (h : Here X P w K mg base sc N k) (G : Gd P w K mg base j x sp) (hg : sc.names.lookup x = some .globalImplicit) (hj : j ≤ k) (db : (x == ("__debug__" : Str)) = false) : Cal X x sp := by
  obtain ⟨f, fd, ps, h1, h2, h3, h4⟩ := G.ex
  obtain ⟨rfl, rfl, rfl, rfl, rfl⟩ := And.intro h.pr (And.intro h.wd (And.intro h.fK (And.intro h.gm h.bs)))
  exact ⟨⟨j, f, fd, ps, h1, h.room.mono hj, h2, h3, h4⟩, h.gl hg, db⟩
theorem Here.cali (h : Here X P w K mg base sc N k) (G : Gd P w K mg base j x sp) (hj : j ≤ k) (db : (x == ("__debug__" : Str)) = false) : CalI X x sp := by
  obtain ⟨f, fd, ps, h1, h2, h3, h4⟩ := G.ex
  obtain ⟨rfl, rfl, rfl, rfl, rfl⟩ := And.intro h.pr (And.intro h.wd (And.intro h.fK (And.intro h.gm h.bs)))
  exact ⟨⟨j, f, fd, ps, h1, h.room.mono hj, h2, h3, h4⟩, db⟩
theorem Here.mak (h : Here X P w K mg base sc N k) (G : Kd P w K mg base j x C sp) (hg : sc.names.lookup x = some .globalImplicit) (hj : j + 1 ≤ k) (db : (x == ("__debug__" : Str)) = false) : Mak X x C sp := by
  obtain ⟨f, fd, ps, h1, h2, h3⟩ := G.ex
  have nm := G.nm
  obtain ⟨rfl, rfl, rfl, rfl, rfl⟩ := And.intro h.pr (And.intro h.wd (And.intro h.fK (And.intro h.gm h.bs)))
  exact ⟨⟨j, f, fd, ps, h1, h.room.mono hj, h2, h3⟩, nm, h.gl hg, db⟩
theorem Here.met (h : Here X P w K mg base sc N k) (G : Md P w K mg base j C m sp) (hj : j ≤ k) : Met X C m sp := by
  obtain ⟨f, fd, ps, h1, h2, h3⟩ := G.ex
  have c := G.cl
  obtain ⟨rfl, rfl, rfl, rfl, rfl⟩ := And.intro h.pr (And.intro h.wd (And.intro h.fK (And.intro h.gm h.bs)))
  exact ⟨⟨j, f, fd, ps, h1, h.room.mono hj, h2, h3⟩, c⟩
end
section
variable {X : Cx} {x y : Str} {ns : List Str} {scope : Scope} {cl : List (Str × Addr)} {fp : List Addr} {s3 : Shared} {H3 : Hp} {C D : Addr} {sp : Sp} {m : Str}
end
theorem bb_set : bootBuiltins "set" = some (.type "set") := by decide +kernel
theorem bb_min : bootBuiltins "min" = some (.builtin "min") := by decide +kernel
theorem bb_max : bootBuiltins "max" = some (.builtin "max") := by decide +kernel
theorem iteP {c A B : Prop} [Decidable c] (hc : c) (h : A) : if c then A else B := by
  rw [if_pos hc]
  exact h
theorem iteN {c A B : Prop} [Decidable c] (hc : ¬ c) (h : B) : if c then A else B := by
  rw [if_neg hc]
  exact h
/-- list + list, each tracked or the script -/
inductive CatP (K : PySem.W.Frag) (x y : V) (H : Hp) (Q : VK) : Prop
  | mk (l b : Addr) (xs zs : List V) (hx : x = .ref l) (hy : y = .ref b) (s : SqL K H l xs) (t : SqL K H b zs) (e : xs.length + zs.length ≤ sizeLine) (q : ∀ p, H p = none → Q (.ref p) (upd H p (.lst (xs ++ zs))))
def rCatS (K : PySem.W.Frag) : R2 := fun x y H Q => CatP K x y H Q
theorem op_catS {X : Cx} : OpR X (binaryOp .Add) (rCatS X.K) := by
  intro pins s σ H x y v u Q I rx ry h
  obtain ⟨l, b, xs, zs, rfl, rfl, hH, hB, hz, q⟩ := h
  cases rx
  cases ry
  obtain ⟨its, r, pl, z⟩ := I.list hH
  obtain ⟨its2, r2, pl2, z2⟩ := I.list hB
  have hl := r.length
  have hl2 := r2.length
  obtain ⟨⟨cls, dd, data, sl⟩, ho, hc, n, hd⟩ := pl.isList
  obtain ⟨⟨cls2, dd2, data2, sl2⟩, ho2, hc2, n2, hd2⟩ := pl2.isList
  simp only at hc hd hc2 hd2
  subst hc hd hc2 hd2
  have e : its.toArray ++ its2.toArray = (its ++ its2).toArray := by simp
  refine concat_meets ⟨_, ho, rfl⟩ ⟨_, ho2, rfl⟩ noFill_list_add seq_list_add PySem.F.slot_list_add PySem.F.entry_list_add (PySem.F.args_list_add_2 _ _) (list_addW l b its.toArray its2.toArray n n2 dd dd2 sl sl2 (by simp only [List.size_toArray]; omega)) ⟨ho, ho2, ?_⟩
  rw [e]
  exact ⟨.ref _, _, I.lnew (t' := s.toks) (r.append r2) (by rw [List.length_append]; omega), rfl, q _ I.fresh⟩
end L2
namespace J
open PySem PySem.Spec PyProof.Rows
open L2 (Cx V Hp St VK TE TT TA TS TG TGs TI TO R2 Sp XK E0 CX0 FnOk Room Gl Binds RelV Vals SqL SqT TyOf Here Gd Md Kd Mak Met Df Fun FnScope Meth Mk Cls)
structure JMt (X : Cx) (id : String) (r : V → List V → Hp → VK → Prop) : Prop where
  out : L2.MtR X id r
section
variable {X : Cx} {x y : Str} {ns : List Str} {scope : Scope} {cl : List (Str × Addr)} {fp : List Addr} {s3 : Shared} {H3 : Hp} {C : Addr} {sp : Sp} {p pos apos pos' : Pos} {e o value : Expr} {es : List Expr} {ta te tv : TE} {t : TA} {m f : Str} {tg : Expr}
/-- the comprehension's own name; one that it takes from around -/
theorem lc0 (h : scope.names.lookup x = some .local) (db : (x == ("__debug__" : Str)) = false) (cd : (x == ("__classdict__" : Str)) = false) : JE (L2.lcCx X (x :: ns) scope cl fp s3 H3 C) (.Name x p) (L2.tVar 0) :=
  ⟨L2.pe_var (i := 0) rfl (.inl (PySem.lookup_relabel_local h)) db cd⟩
theorem lcc {i : Nat} (h : scope.names.lookup y = some .free) (hi : ns[i]? = some y) (db : (y == ("__debug__" : Str)) = false) (cd : (y == ("__classdict__" : Str)) = false) : JE (L2.lcCx X (x :: ns) scope cl fp s3 H3 C) (.Name y p) (L2.tVar (i + 1)) :=
  ⟨L2.pe_var (i := i + 1) hi (.inr (L2.relabel_vis h)) db cd⟩
theorem mak (M : Mak X x C sp) (ha : JA X (e :: es) t) (h1 : L2.notStar e = true := by rfl) (h2 : es.all L2.notStar = true := by rfl) : JE X (.Call (.Name x p) (e :: es) [] pos) (L2.tMake C sp [] E0 t) := by
  obtain ⟨k, f, fd, ps, F, hr, mk, bi⟩ := M.ex
  exact ⟨L2.pe_make mk F hr M.gl M.nm bi .nil L2.pass0 ha.out M.db (L2.star_plain h1) (L2.star_none h2)⟩
theorem met0 {pl : Sem Bool} (M : Met X C m sp) (he : JE X o ta) (ht : eval (.Call (.Attribute o m apos) [] [] pos) X.env = (do
      let ov ← eval o X.env
      standAt apos.atName
      let (f, first) ← holding [ov] (getMethod ov m pl)
      callWith pos f first (backTo pos (starEach [] X.env)) (backToKw pos (keywordEach [] X.env)))) : JE X (.Call (.Attribute o m apos) [] [] pos) (L2.tMeth C m sp [] E0 ta L2.tNil) := by
  obtain ⟨k, f, fd, ps, F, hr, me, bi⟩ := M.ex
  exact ⟨L2.pe_meth0 he.out M.cl me F hr bi .nil L2.pass0 ht⟩
theorem fld (he : JE X (.Name x p) ta) : JE X (.Attribute (.Name x p) f pos) (L2.tFld X.K ta f) := ⟨L2.pe_fld he.out rfl⟩
theorem ps_fld (ha : JE X o ta) (hv : JE X value tv) (h : L2.isComp value = false := by rfl) : JS X (.Assign [.Attribute o f pos'] value pos) (L2.sFld X.K ta tv f) := ⟨L2.ps_fld ha.out hv.out (L2.swaps_no h)⟩
theorem mt_append : JMt X "list.append" L2.rAppend := ⟨L2.mt_append⟩
theorem mt_join : JMt X "str.join" (fun x vs H Q => ∃ (sep : Str) (p : Addr) (zs : List Str), x = .str sep ∧ vs = [.ref p] ∧ SqL X.K H p (zs.map V.str) ∧ (zs.map (·.length)).sum + zs.length * sep.length ≤ 16777216 ∧ Q (.str (Txt.join sep zs)) H) := ⟨L2.mt_join⟩
def plainO (o : Expr) : Bool := match o with
  | .Call .. => false
  | _ => true
theorem plainO_base {o : Expr} {name : Str} {env : Env} {v : Sem Value} (h : plainO o = true) : attributeBase o name env v = v := by
  cases o <;> first | rfl | cases h
theorem few {cpos : Pos} {env : Env} (h1 : L2.notStar e = true) : ((backTo cpos (starEach [e] env)).all (fun x => !x.1) && (backToKw cpos (keywordEach [] env)).all (fun x => x.1.isSome)
      && decide ([e].length + ([] : List Keyword).length + (if ([] : List Keyword).isEmpty then 0 else 1) < 30)) = true := by
  rw [L2.star_plain h1]
  rfl
theorem bm {T id : String} {r : V → List V → Hp → VK → Prop} {name : Str} (pa : PlainAttrs T) (slot : Slot T name id) (hty : typeOf (.builtin id) = pure (.type "method_descriptor")) (hm : JMt X id r) (ho : JE X o te) (ha : JA X [e] t)
    (h : plainO o = true := by rfl) (h1 : L2.notStar e = true := by rfl) (hline : (apos.endLine == pos.line) = true := by rfl) : JE X (.Call (.Attribute o name apos) [e] [] pos) (L2.tBM X.K T r te t) :=
  ⟨L2.pe_bm pa slot hty hm.out ho.out ha.out (plainO_base h) (few h1) hline (L2.star_plain h1) rfl⟩
theorem pi_zip {e1 e2 : Expr} {kk : Nat} {tp : Pos} (B : L2.Bt X "zip") (ha : JA X [e1, e2] t) (h1 : L2.notStar e1 = true := by rfl) (h2 : [e2].all L2.notStar = true := by rfl) : JI X (.Tuple es kk tp) (.Call (.Name "zip" p) [e1, e2] [] pos) (L2.iZip X.K t) := ⟨L2.pi_zip B ha.out h1 h2⟩
theorem pi_enum {e1 : Expr} {kk : Nat} {tp : Pos} (B : L2.Bt X "enumerate") (ha : JA X [e1] t) (h1 : L2.notStar e1 = true := by rfl) : JI X (.Tuple es kk tp) (.Call (.Name "enumerate" p) [e1] [] pos) (L2.iEnum X.K t) := ⟨L2.pi_enum B ha.out h1⟩
theorem call_setT (hc : X.calm = true) : JF X (.type "set") (fun xs H Q => ∃ (p : Addr) (zs : List Str), xs = [.ref p] ∧ SqL X.K H p (zs.map V.str) ∧ zs.Nodup ∧ zs.length < 1000 ∧ ∀ q, H q = none → Q (.ref q) (L2.upd H q (L2.setM X.prog X.w q zs.length))) := ⟨L2.call_setT hc⟩
theorem call_len_setM : JF X (.builtin "len") (fun xs H Q => ∃ (p : Addr) (n : Nat), xs = [.ref p] ∧ H p = some (L2.setM X.prog X.w p n) ∧ Q (.int n) H) := ⟨L2.call_len_setM⟩
theorem pgs_nil : JGs X [] L2.gNil := ⟨L2.pgs_nil⟩
theorem pgs_c {g : TG} {u : TGs} (S : JG X (.Name x p) g) (h : JGs X es u) : JGs X (.Name x p :: es) (L2.gCons g u) := ⟨L2.pgs_cons S.out h.out rfl⟩
theorem pg_tup {k n : Nat} {u : TGs} (hc : X.calm = true) (h : JGs X es u) (hn : (assignEach es X.env).length = n := by rfl) (hst : (assignEach es X.env).findIdx? (·.1) = none := by rfl) : JG X (.Tuple es k pos) (L2.gTup X.K n u) := ⟨L2.pg_tup hc h.out hn hst⟩
theorem asg {g : TG} (he : JE X e te) (hg : JG X tg g) (hs : swapsWithSole [tg] e pos.line X.env = pure false := by rfl) (hw : swappedStores [tg] e X.env = pure none := by rfl)
    (h1 : (assignEach [tg] X.env).map (·.2) = [assign tg X.env] := by rfl) : JS X (.Assign [tg] e pos) (L2.tAsg te g) := ⟨L2.ps_asg he.out hg.out hs hw h1⟩
theorem ix_listC : JX (L2.lcCx X (x :: ns) scope cl fp s3 H3 C) (L2.rIxL X.K) := ⟨L2.ix_list⟩
theorem op_catS : JB X .Add (L2.rCatS X.K) := ⟨L2.op_catS⟩
theorem pt_name (h : JE X (.Name x p) te) : JT X (.Name x p) (L2.tB te) := ⟨L2.pt_val h.out (fun _ => rfl)⟩
theorem ix_sub {a b : Expr} : PlainIx (.Subscript a b p) := ⟨fun _ _ => rfl⟩
theorem glob {P : Program} {w : World} {K : PySem.W.Frag} {mg : Str → Option Value} {base : Heap} {sc : Scope} {N : List Str} {k : Nat} {v : V} (hh : Here X P w K mg base sc N k) (hm : ∃ u, mg x = some u ∧ RelV v u) (hg : sc.names.lookup x = some .globalImplicit)
    (db : (x == ("__debug__" : Str)) = false) : JE X (.Name x p) (L2.tC v) := by
  obtain ⟨u, h1, h2⟩ := hm
  exact J.pe_glob (hh.gl hg) (by rw [hh.gm]; exact h1) h2 db
end
section
variable {P : Program} {w : World} {K : PySem.W.Frag} {mg : Str → Option Value} {base : Heap} {x qual m : Str} {st : Stmt} {f C : Addr} {fd : FuncData} {N ps : List Str} {k : Nat} {sp : Sp}
theorem here_fn (F : Fun K x qual st f fd) (S : FnScope N ps (L2.defScope st)) (len : ∀ vs H Q E, sp vs H Q E → vs.length = ps.length)
    (hbody : ∀ (X : Cx) (H : Hp) (vs : List V) (Q : VK) (E : XK), Here X P w K mg base (L2.defScope st) N k → sp vs H Q E → ∃ t, JSs X (L2.defBody st) t ∧ t { nx := fun _ H' => Q .non H', rt := Q } (L2.start N vs) H) : FnOk P w K mg base CX0 (k + 1) f fd ps sp := by
  refine fn_ok F S len fun X cdv A outer s H vs Q E hX hr h => ?_
  subst hX
  exact hbody _ H vs Q E ⟨rfl, rfl, rfl, rfl, rfl, rfl, PassesOwn.never, rfl, rfl, S.nd, hr, fun _ => rfl⟩ h
theorem def_ok (D : Df K mg x st ps f fd) (S : FnScope N ps (L2.defScope st)) (len : ∀ vs H Q E, sp vs H Q E → vs.length = ps.length)
    (hbody : ∀ (X : Cx) (H : Hp) (vs : List V) (Q : VK) (E : XK), Here X P w K mg base (L2.defScope st) N k → sp vs H Q E → ∃ t, JSs X (L2.defBody st) t ∧ t { nx := fun _ H' => Q .non H', rt := Q } (L2.start N vs) H) : Gd P w K mg base (k + 1) x sp :=
  ⟨f, fd, ps, here_fn D.fn S len hbody, D.nm, D.fn.kp, D.bi⟩
theorem meth_ok (F : Fun K m qual st f fd) (me : Meth K C m f) (bi : Binds K fd ps []) (cl : Cls K C) (S : FnScope N ps (L2.defScope st)) (len : ∀ vs H Q E, sp vs H Q E → vs.length = ps.length)
    (hbody : ∀ (X : Cx) (H : Hp) (vs : List V) (Q : VK) (E : XK), Here X P w K mg base (L2.defScope st) N k → sp vs H Q E → ∃ t, JSs X (L2.defBody st) t ∧ t { nx := fun _ H' => Q .non H', rt := Q } (L2.start N vs) H) : Md P w K mg base (k + 1) C m sp :=
  ⟨⟨f, fd, ps, here_fn F S len hbody, me, bi⟩, cl⟩
theorem init_ok {y : Str} (F : Fun K m qual st f fd) (mk : Mk K C f) (bi : Binds K fd ps []) (nm : mg y = some (.ref C)) (S : FnScope N ps (L2.defScope st)) (len : ∀ vs H Q E, sp vs H Q E → vs.length = ps.length)
    (hbody : ∀ (X : Cx) (H : Hp) (vs : List V) (Q : VK) (E : XK), Here X P w K mg base (L2.defScope st) N k → sp vs H Q E → ∃ t, JSs X (L2.defBody st) t ∧ t { nx := fun _ H' => Q .non H', rt := Q } (L2.start N vs) H) : Kd P w K mg base (k + 1) y C sp :=
  ⟨⟨f, fd, ps, here_fn F S len hbody, mk, bi⟩, nm⟩
end
end J

/-! ### list != list: lists of lists whose items are the same -/
namespace L2
open PySem PySem.Spec PyProof.Rows
theorem all_range_true (n : Nat) : (List.range n).all (fun _ => true) = true := by
  rw [List.all_eq_true]
  intro _ _
  rfl
def rNeL (K : PySem.W.Frag) : R2 := fun x y H Q => ∃ a b xs ys, x = .ref a ∧ y = .ref b ∧ SqL K H a xs ∧ SqL K H b ys ∧ xs.length = ys.length ∧
  (∀ (i : Nat) u v, xs[i]? = some u → ys[i]? = some v → ∃ p q zs, u = .ref p ∧ v = .ref q ∧ p ≠ q ∧ SqL K H p zs ∧ SqL K H q zs ∧ ∀ z ∈ zs, (∃ t, z = V.str t) ∨ ∃ c, z = V.ref c) ∧ Q (.bl false) H
end L2
namespace J
open PySem PySem.Spec PyProof.Rows
end J

/-! ### name = [.. for ..]: the store ahead of the comprehension's end -/
namespace L2
open PySem PySem.Spec PyProof.Rows
section
variable {X : Cx} {x : Str} {px pos : Pos} {elt iter : Expr} {scope : Scope} {wi : TI} {te : TE} {is : List Nat} {ns : List Str}
end
theorem swaps_yes {elt : Expr} {gs : List Comprehension} {scope : Scope} {pos py : Pos} {y : Str} {n : Nat} {env : Env} {sc : Scope} (hsc : env.scope = sc)
    (h : ((if sc.kind.isAnnotationScope then ScopeKind.function else sc.kind) == .function && sc.names.lookup y == some .local && py.line == pos.line && !(scope.names.any fun (n, k) => n == y && (k == .local || k == .cell))) = true) :
    swapsWith (.ListComp elt gs scope pos) (some (.Name y py)) n env = pure true := by
  subst hsc
  show (pure _ : Sem Bool) = pure true
  exact congrArg pure h
end L2
namespace J
open PySem PySem.Spec PyProof.Rows
open L2 (Cx V Hp St VK TE TT TA TS TG TGs TI TO)
end J

/-! ### name = [.. for .. if ..]; xs[i] = v -/
namespace L2
open PySem PySem.Spec PyProof.Rows
def lcGoalI (J : It) (is : List Nat) (tc : TT) (te : TE) (σ : St) (H1 : Hp) (Q : VK) : Prop := ∀ D, H1 D = none → ∃ W : Nat → Nat → List V → Hp → Prop, (∃ m, W 0 m [] (upd H1 D (.lst []))) ∧
  ∀ i m ys H2, W i m ys H2 → H2 D = some (.lst ys) ∧ ((J.stop i H2 ∧ Q (.ref D) H2) ∨ (J.go i H2 ∧ ∀ v H3, J.yld i H2 v H3 → tc (some v :: caps is σ) H3 fun b H4 => if b = true then te (some v :: caps is σ) H4 (fun y H5 =>
    H5 D = some (.lst ys) ∧ ys.length < sizeLine ∧ ∃ m', m' < m ∧ W (i + 1) m' (ys ++ [y]) (upd H5 D (.lst (ys ++ [y])))) else ∃ m', m' < m ∧ W (i + 1) m' ys H4))
def tLCI (wi : TI) (is : List Nat) (tc : TT) (te : TE) : TE := fun σ H Q => wi σ H fun J H1 => lcGoalI J is tc te σ H1 Q
section
variable {X : Cx} {x : Str} {px pos : Pos} {elt iter ct : Expr} {scope : Scope} {wi : TI} {te : TE} {tc : TT} {is : List Nat} {ns : List Str}
end
end L2
namespace J
open PySem PySem.Spec PyProof.Rows
open L2 (Cx V Hp St VK TE TT TA TS TG TGs TI TO)
end J

/-! ### max, min, sum of a list of ints; list == list, tuple == tuple -/
namespace L2
open PySem PySem.Spec PyProof.Rows
section
variable {X : Cx} {pins : List (Addr × Obj)} {σ : St} {H : Hp} {s : Shared} {p : Addr} {ns : List Int}
/-- two lists of flat things, or of the same objects -/
def sameV : V → V → Option Bool
  | .ref a, .ref b => if a = b then some true else none
  | x, y => if flatV x = true ∧ flatV y = true then some (eqV x y) else none
theorem eqAt_same {A : Around} {s : Shared} {x y : V} {u v : Value} {b : Bool} (ru : RelV x u) (rv : RelV y v) (h : sameV x y = some b) : SeqAt.EqAt A s u v b := by
  have flat : (if flatV x = true ∧ flatV y = true then some (eqV x y) else none) = some b → SeqAt.EqAt A s u v b := fun h => by
    by_cases c : flatV x = true ∧ flatV y = true
    · rw [if_pos c] at h
      cases h
      exact eqAt_V ru rv c.1 c.2
    · rw [if_neg c] at h
      cases h
  cases x with
  | ref a =>
    cases y with
    | ref c =>
      have h' : (if a = c then some true else none) = some b := h
      by_cases e : a = c
      · rw [if_pos e] at h'
        cases h'
        cases ru
        cases rv
        rw [e]
        exact SeqAt.EqAt.same _
      · rw [if_neg e] at h'
        cases h'
    | _ => exact flat h
  | _ => exact flat h
def eqL (bs : List Bool) : Bool := (List.range bs.length).all fun i => bs.getD i false
/-- list == list of the same length -/
def rEqL (K : PySem.W.Frag) : R2 := fun x y H Q => ∃ a b xs ys bs, x = .ref a ∧ y = .ref b ∧ SqL K H a xs ∧ SqL K H b ys ∧ xs.length = bs.length ∧ ys.length = bs.length ∧ (∀ (i : Nat) u v c, xs[i]? = some u → ys[i]? = some v → bs[i]? = some c → sameV u v = some c) ∧ Q (.bl (eqL bs)) H
theorem items_at {its : List Value} {xs : List V} {j : Nat} (r : Vals xs its) (h : j < its.length) : ∃ x, xs[j]? = some x ∧ RelV x its[j] := by
  have hl := r.length
  have e : xs[j]? = some xs[j] := List.getElem?_eq_getElem (by omega)
  obtain ⟨u, eu, ru⟩ := r.get e
  rw [List.getElem?_eq_getElem h] at eu
  cases eu
  exact ⟨_, e, ru⟩
end
end L2
namespace J
open PySem PySem.Spec PyProof.Rows
open L2 (Cx V SqL)
end J

/-! ### list(range(n)) -/
namespace L2
open PySem PySem.Spec PyProof.Rows
section
variable {X : Cx}
/-- what list(range(j)) leaves -/
inductive LRngP (vs : List V) (H : Hp) (Q : VK) : Prop
  | mk (j : Int) (e : vs = [.int j]) (lo : -(2 ^ 62) ≤ j) (hi : j ≤ sizeLine) (q : ∀ l, H l = none → Q (.ref l) (upd H l (.lst ((List.range j.toNat).map fun (i : Nat) => V.int (i : Int)))))
def tLRng (ta : TA) : TE := fun σ H Q => ta σ H fun vs H1 => LRngP vs H1 Q
/-- list == list of another length -/
inductive NeLenP (K : PySem.W.Frag) (x y : V) (H : Hp) (Q : VK) : Prop
  | mk (a b : Addr) (xs ys : List V) (hx : x = .ref a) (hy : y = .ref b) (s : SqL K H a xs) (t : SqL K H b ys) (n : xs.length ≠ ys.length) (q : Q (.bl false) H)
/-- tuple == tuple, the same length -/
inductive EqTP (K : PySem.W.Frag) (x y : V) (H : Hp) (Q : VK) : Prop
  | mk (a b : Addr) (xs ys : List V) (bs : List Bool) (hx : x = .ref a) (hy : y = .ref b) (s : SqT K H a xs) (t : SqT K H b ys) (l1 : xs.length = bs.length) (l2 : ys.length = bs.length)
      (e : ∀ (i : Nat) u v c, xs[i]? = some u → ys[i]? = some v → bs[i]? = some c → sameV u v = some c) (q : Q (.bl (eqL bs)) H)
theorem op_eqT (hu : X.A.units + 1 < cLine) : OpR X (compareOp .Eq) (fun x y H Q => EqTP X.K x y H Q) := by
  intro pins s σ H x y v u Q I rx ry h
  obtain ⟨a, b, xs, ys, bs, rfl, rfl, ha, hb, l1, l2, he, q⟩ := h
  cases rx
  cases ry
  obtain ⟨its, r, pl, _⟩ := I.tuple ha
  obtain ⟨its2, r2, pl2, _⟩ := I.tuple hb
  have m1 := r.length
  have m2 := r2.length
  have hz : its.toArray.size = bs.length := by simp only [List.size_toArray]; omega
  have hz2 : its2.toArray.size = bs.length := by simp only [List.size_toArray]; omega
  refine SeqAt.eq_tupleAt (e := fun i => bs.getD i false) pl pl2 (by omega) (fun j h1 h2 => ?_) ?_
  · simp only [List.size_toArray] at h1 h2
    obtain ⟨x1, e1, r1⟩ := items_at r h1
    obtain ⟨x2, e2, r2'⟩ := items_at r2 h2
    have hj : j < bs.length := by omega
    have e3 : bs[j]? = some bs[j] := List.getElem?_eq_getElem hj
    have e4 : bs.getD j false = bs[j] := by rw [List.getD_eq_getElem?_getD, e3]; rfl
    show SeqAt.EqAt X.A.in1 s its.toArray[j] its2.toArray[j] (bs.getD j false)
    rw [e4]
    simp only [List.getElem_toArray]
    exact eqAt_same r1 r2' (he j x1 x2 _ e1 e2 e3)
  · rw [hz, hz2, Nat.min_self, beq_self_eq_true, Bool.and_true]
    exact ⟨.bl _, H, I, rfl, q⟩
end
end L2
namespace J
open PySem PySem.Spec PyProof.Rows
open L2 (Cx V SqL SqT)
theorem op_eqT {X : Cx} (hu : X.A.units + 1 < cLine) : JC X .Eq (fun x y H Q => L2.EqTP X.K x y H Q) := ⟨L2.op_eqT hu⟩
theorem sl_tup {X : Cx} : JL X (L2.rSlT X.K) := ⟨L2.sl_tup⟩
end J

/-! ### comprehensions with any target and any tests -/
namespace L2
open PySem PySem.Spec PyProof.Rows
theorem compLoop_tests {prog : Program} {w : World} {A : Around} {R : Result → Shared → Prop} {s : Shared} {elt target iter : Expr} {cts : List Expr} {scope : Scope} {pos : Pos} {it acc : Value} {env : Env} (I : Nat → Shared → Prop)
    (turn : ∀ n s, I n s → wpAny (model prog w) A (pyNext it) (fun r s₁ => match r with
      | none => R (.ok .next) s₁
      | some v => wpAny (model prog w) A (letOwnedTupleGo target it v) (fun _ s₁' => wpAny (model prog w) A (assign target env v) (fun _ s₂ => wpAny (model prog w) A (forIn cts true fun c r => if r = true then do let ok ← isTrue c env (eval c env); pure (ForInStep.yield ok) else pure (ForInStep.yield r)) (fun ok s₂' => if ok = true then wpAny (model prog w) A (eval elt env) (fun x s₃ =>
          wpAny (model prog w) A (call (.builtin "list.append") [acc, x]) (fun _ s₄ => ∃ m, m < n ∧ I m s₄) (notedBy (model prog w) A env fun e s' => R (.error e) s') s₃)
          (notedBy (model prog w) A env fun e s' => R (.error e) s') s₂' else ∃ m, m < n ∧ I m s₂') (notedBy (model prog w) A env fun e s' => R (.error e) s') s₂) (notedBy (model prog w) A env fun e s' => R (.error e) s') s₁') (notedBy (model prog w) A env fun e s' => R (.error e) s') s₁) (notedBy (model prog w) A env fun e s' => R (.error e) s') s)
    (n : Nat) (h : I n s) :
    codeAny (model prog w) A (.compLoop (.ListComp elt [⟨target, iter, cts, 0⟩] scope pos) 0 it acc env) R s := by
  refine codeAny_loop rfl I (fun n s hI => ?_) n h
  show wpAny _ _ ((compTurn (.ListComp elt [⟨target, iter, cts, 0⟩] scope pos) 0 it acc env).onRaise (fun x => do noteFrame x env; theTreesLotGoes x)) _ _ s
  refine wpAny_noted ?_
  rw [compTurn_list]
  refine wpAny_bind (wpAny_standAt (wpAny_bind (wpAny_mono (turn n s hI) (fun r s₁ h₁ => ?_) fun _ _ h' => h')))
  cases r with
  | none => exact wpAny_pure h₁
  | some v =>
    refine wpAny_bind (wpAny_mono h₁ (fun _ s₁' h₁' => ?_) fun _ _ h' => h')
    refine wpAny_bind (wpAny_mono h₁' (fun _ s₂ h₂ => wpAny_bind (wpAny_mono h₂ (fun ok s₃ h₃ => ?_) fun _ _ h' => h')) fun _ _ h' => h')
    cases ok with
    | false => exact wpAny_pure ⟨rfl, h₃⟩
    | true =>
      exact wpAny_bind (wpAny_bind (wpAny_mono h₃ (fun x s₄ h₄ => wpAny_bind (wpAny_mono h₄ (fun _ s₅ h₅ => wpAny_pure (wpAny_pure ⟨rfl, h₅⟩)) fun _ _ h' => h')) fun _ _ h' => h'))
def PTs (X : Cx) (cts : List Expr) (t : TT) : Prop :=
  ∀ (pins : List (Addr × Obj)) (s : Shared) (σ : St) (H : Hp) (Q : Bool → Hp → Prop), Inv X pins σ H s → t σ H Q → wpAny (model X.prog X.w) X.A (forIn cts true fun c r => if r = true then do let ok ← isTrue c X.env (eval c X.env); pure (ForInStep.yield ok) else pure (ForInStep.yield r)) (TP X pins σ Q) X.xe s
def tTru : TT := fun _ H Q => Q true H
theorem pts_nil {X : Cx} : PTs X [] tTru := fun _ _ _ H _ I h => wpAny_tests_nil ⟨H, I, h⟩
theorem pts_one {X : Cx} {ct : Expr} {t : TT} (h : PT X ct t) : PTs X [ct] t := fun pins s σ H Q I q => wpAny_tests_one (h pins s σ H Q I q)
inductive TurnP (J : It) (n : Nat) (is : List Nat) (g : TG) (tc : TT) (te : TE) (σ : St) (W : Nat → Nat → List V → Hp → Prop) (D : Addr) (i m : Nat) (ys : List V) (H2 : Hp) : Prop
  | mk (go : J.go i H2) (nx : ∀ (os : St) v H3, os.length = n → J.yld i H2 v H3 → g v (os ++ caps is σ) H3 fun σ' H4 => (∃ os' : St, os'.length = n ∧ σ' = os' ++ caps is σ) ∧ tc σ' H4 fun b H5 => if b = true then te σ' H5 (fun y H6 =>
    H6 D = some (.lst ys) ∧ ys.length < sizeLine ∧ ∃ m', m' < m ∧ W (i + 1) m' (ys ++ [y]) (upd H6 D (.lst (ys ++ [y])))) else ∃ m', m' < m ∧ W (i + 1) m' ys H5)
def lcGoalG (J : It) (n : Nat) (is : List Nat) (g : TG) (tc : TT) (te : TE) (σ : St) (H1 : Hp) (Q : VK) : Prop := ∀ D, H1 D = none → ∃ W : Nat → Nat → List V → Hp → Prop, (∃ m, W 0 m [] (upd H1 D (.lst []))) ∧
  ∀ i m ys H2, W i m ys H2 → H2 D = some (.lst ys) ∧ ((J.stop i H2 ∧ Q (.ref D) H2) ∨ TurnP J n is g tc te σ W D i m ys H2)
def tLCG (wi : TI) (n : Nat) (is : List Nat) (g : TG) (tc : TT) (te : TE) : TE := fun σ H Q => wi σ H fun J H1 => lcGoalG J n is g tc te σ H1 Q
structure LcOkG (sc : Scope) (N : List Str) (xs : List Str) (scope : Scope) (is : List Nat) (ns : List Str) : Prop where
  kind : scope.kind = .function
  nocell : ∀ y ∈ scope.names, y.2 ≠ .cell
  names : ∀ y ∈ scope.names, y.2 = .local → scope.names.lookup y.1 = some .local
  free : ∀ y ∈ scope.names, y.2 = .free → sc.names.lookup y.1 = some .cell
  cap : ns.map some = is.map fun i => N[i]?
  capf : ∀ y ∈ ns, scope.names.lookup y = some .free ∧ sc.names.lookup y = some .cell
section
variable {X : Cx} {xs : List Str} {tg : Expr} {pos : Pos} {elt iter : Expr} {cts : List Expr} {scope : Scope} {wi : TI} {g : TG} {tc : TT} {te : TE} {is : List Nat} {ns : List Str}
/-- what is behind a comprehension's last turn -/
def LcEnd (X : Cx) (pins : List (Addr × Obj)) (σ : St) (Qs : VK) (use : Option (Value → Sem Unit)) (Qv : Value → Shared → Prop) : Prop :=
  ∀ (D C : Addr) (H5 : Hp) (s6 : Shared) (m : Str → Option Value), Qs (.ref D) H5 → Inv X pins σ H5 s6 → FpOk X pins H5 C → s6.heap.Ns C m → compPost (model X.prog X.w) X.A X.xe use Qv (.ref D) C (.ok .next) s6
theorem comp_core {sc : Scope} {N : List Str} {use : Option (Value → Sem Unit)} {Qv : Value → Shared → Prop} {Gf : It → Hp → Prop} {Qs : VK} {cp : Pos} {pins : List (Addr × Obj)} {s : Shared} {σ : St} {H : Hp} (I : Inv X pins σ H s) (h : wi σ H Gf) (hG : ∀ J H1, Gf J H1 → lcGoalG J xs.length is g tc te σ H1 Qs)
    (fin : LcEnd X pins σ Qs use Qv) (hc : X.calm = true) (hi : PI X tg iter wi) (L : LcOkG sc N xs scope is ns) (hg : ∀ cl fp s3 H3 C, PG (lcCx X (xs ++ ns) scope cl fp s3 H3 C) tg g) (hct : ∀ cl fp s3 H3 C, PTs (lcCx X (xs ++ ns) scope cl fp s3 H3 C) cts tc) (he : ∀ cl fp s3 H3 C, PE (lcCx X (xs ++ ns) scope cl fp s3 H3 C) elt te)
    (hsc : X.env.scope = sc) (hN : X.N = N) (hs : ∀ x, foldedSetIterable iter X.env x = pure x) :
    wpAny (model X.prog X.w) X.A (comprehension (.ListComp elt [⟨tg, iter, cts, 0⟩] scope pos) scope X.env cp (newList []) false (eval iter X.env) use) Qv X.xe s := by
  subst hsc hN
  obtain ⟨cl, hcl, cl1, cl2⟩ := closure_ok (env := X.env) (scope := scope) (fun y hy hf => I.ok.has y.1 (.inl (L.free y hy hf)))
  refine wpAny_comprehension_free rfl hs hcl L.kind L.names (thn (hi pins s σ H _ I h) fun v s1 h1 => thn h1 fun itv s2 h2 => ?_)
  obtain ⟨it, fp, tn, J, H2, e, I2, T, st2, f2, h2⟩ := h2
  subst e
  refine wpAny_newObj_type (wpAny_newFunctionEnv L.nocell (by intro y hy; simp at hy) (fun h₁ hns₁ hsb₁ => ?_) L.kind)
  have hD : H2 s2.heap.objs.size = none := I2.hok.fresh (Nat.le_refl _)
  have I3 : Inv X pins σ (upd H2 s2.heap.objs.size (.lst [])) { s2 with heap := s2.heap.push { cls := .type "list", dict := none, data := .seq ([] : List Value).toArray } } :=
    I2.laid (t' := s2.toks) (fun b u e => Heap.get?_push_of_some _ e) (Nat.le_refl _) ⟨Nat.zero_le _, [], 0, .nil, Heap.get?_push_size _ rfl⟩
  have kp23 : ∀ b u, s2.heap.get? b = some u → (s2.heap.push { cls := .type "list", dict := none, data := .seq ([] : List Value).toArray }).get? b = some u := fun b u e => Heap.get?_push_of_some _ e
  obtain ⟨W, ⟨m0, w0⟩, turn⟩ := hG J H2 h2 s2.heap.objs.size hD
  dsimp only at hns₁ hsb₁ ⊢
  generalize hD0 : s2.heap.objs.size = D at *
  generalize hp3 : s2.heap.push { cls := .type "list", dict := none, data := .seq ([] : List Value).toArray } = p3 at *
  generalize hH3 : upd H2 D (.lst []) = H3 at *
  have fpD : ∀ b ∈ fp, b ≠ D := fun b hb => by
    obtain ⟨o, e, _⟩ := T.obj 0 s2.heap st2 b hb
    rw [← hD0]
    exact Nat.ne_of_lt (Heap.lt_size e)
  have fp3 : ∀ b ∈ fp, FpOk X pins H3 b := fun b hb => ⟨by rw [← hH3, upd_ne (fpD b hb)]; exact (f2 b hb).1, (f2 b hb).2⟩
  have st3 : tn 0 p3 := T.keep 0 s2.heap p3 st2 fun b _ o e => kp23 b o e
  have fplt : ∀ b ∈ fp, b < p3.objs.size := fun b hb => by
    obtain ⟨o, e, _⟩ := T.obj 0 p3 st3 b hb
    exact Heap.lt_size e
  have old : ∀ b u, p3.get? b = some u → h₁.get? b = some u := fun b u e => hsb₁.extBut b u (Nat.ne_of_lt (Heap.lt_size e)) (Heap.get?_push_of_some _ e)
  generalize hC : p3.objs.size = C at *
  have hfree : ∀ b ∈ fp, H3 b = none := fun b hb => (fp3 b hb).1
  have okX : (lcCx X (xs ++ ns) scope cl fp { s2 with heap := p3 } H3 C).Ok := by
    refine ⟨I.ok.mod, L.kind, I.ok.glob, I.ok.blt, Nat.le_of_eq hC, fun y z c e1 e2 => I.ok.inj y z c (cl1 y c e1) (cl1 z c e2), fun y hy => ?_, fun _ _ z => (by cases z), I.ok.hd, I.ok.frames, .inl rfl, fun b hb => ⟨Nat.ne_of_lt (fplt b hb), fun y c e => (fp3 b hb).2.2.2.2.1 y c (cl1 y c e)⟩, I3.bs, Nat.le_trans I3.ok.bsz I3.sz, fun b o e hb => ?_, fun b hb z => ?_, I3.stack, I3.stkFree⟩
    · have hm : (y, NameKind.free) ∈ scope.names := by
        rcases hy with hy | hy
        · exact relabel_back hy (.inl rfl) L.nocell
        · exact relabel_back hy (.inr rfl) L.nocell
      obtain ⟨c, hc'⟩ := I.ok.has y (.inl (L.free _ hm rfl))
      exact ⟨c, (cl2 _ hm rfl).trans hc'⟩
    · rcases (fp3 b hb).2.2.2.1 with z | z
      · exact I.ok.noex b o e z
      · exact absurd (Nat.lt_of_lt_of_le (Heap.lt_size e) (Nat.le_trans I.ok.bsz z)) (Nat.lt_irrefl _)
    · exact (List.mem_cons.mp (I3.stkSub b z)).elim (fp3 b hb).2.1 (fp3 b hb).2.2.1
  have hlen : (caps is σ).length = ns.length := by
    have := congrArg List.length L.cap
    rw [List.length_map, List.length_map] at this
    rw [caps, List.length_map]
    exact this.symm
  have rl : (List.replicate xs.length (none : Option V)).length = xs.length := List.length_replicate ..
  have I4 : Inv (lcCx X (xs ++ ns) scope cl fp { s2 with heap := p3 } H3 C) [] (List.replicate xs.length none ++ caps is σ) H3 { s2 with heap := h₁, toks := s2.toks + 0 } := by
    refine ⟨okX, rfl, I3.bare, Un.kept old, ⟨_, hns₁, fun i y v e1 e2 e3 => ?_⟩, fun y c e => ?_, ?_, fun y c e => I3.freeC y c (cl1 y c e), fun p hp => absurd (show p ∈ ([] : List (Addr × Obj)) from hp) (by simp), I3.hok.kept old, by show (List.replicate xs.length none ++ caps is σ).length = (xs ++ ns).length; rw [List.length_append, List.length_append, hlen, rl]⟩
    · have e1 : (xs ++ ns)[i]? = some y := e1
      by_cases hi : i < xs.length
      · rw [List.getElem?_append_left (by rw [rl]; exact hi), List.getElem?_replicate, if_pos hi] at e2
        cases e2
      · rw [List.getElem?_append_right (by rw [rl]; omega), rl] at e2
        rw [List.getElem?_append_right (by omega)] at e1
        generalize i - xs.length = j at e1 e2
        have e1' : ns[j]? = some y := e1
        have e2' : (caps is σ)[j]? = some (some v) := e2
        have hy := L.capf y (List.mem_of_getElem? e1')
        have hcap : (ns.map some)[j]? = (is.map fun i => X.N[i]?)[j]? := by rw [L.cap]
        rw [List.getElem?_map, List.getElem?_map, e1'] at hcap
        rw [caps, List.getElem?_map] at e2'
        cases hk : is[j]? with
        | none => rw [hk] at e2'; cases e2'
        | some k =>
          rw [hk] at hcap e2'
          have hN : X.N[k]? = some y := (Option.some.inj hcap).symm
          have hσ : σ[k]? = some (some v) := by
            have q : (σ[k]?).join = some v := Option.some.inj e2'
            cases z : σ[k]? with
            | none => rw [z] at q; cases q
            | some o => rw [z] at q; exact congrArg some q
          obtain ⟨m, hn, hl⟩ := I3.loc
          obtain ⟨u, r, l⟩ := hl k y v hN hσ (.inr (.inl hy.2))
          refine ⟨u, r, ?_⟩
          rcases l with ⟨hk', _⟩ | ⟨hk', c, ec, o, ho, hd⟩
          · have hk2 : X.env.scope.names.lookup y = some .local := hk'
            rw [hy.2] at hk2; cases hk2
          · exact .inr ⟨.inl (relabel_free I.ok.kind hy.1 hy.2), c, (cl2 _ (PySem.mem_of_lookup hy.1) rfl).trans ec, o, old c o ho, hd⟩
    · obtain ⟨v, o, ho, hd⟩ := I3.cell y c (cl1 y c e)
      exact ⟨v, o, old c o ho, hd⟩
    · show H3 C = none
      rw [← hC]
      exact I3.hok.fresh (Nat.le_refl _)
  have st4 : tn 0 h₁ := T.keep 0 p3 h₁ st3 fun b _ o e => old b o e
  -- what stays true of the iterator's objects
  have stat : ∀ {H' : Hp}, (∀ b ∈ fp, H' b = none) → ∀ b ∈ fp, FpOk (lcCx X (xs ++ ns) scope cl fp { s2 with heap := p3 } H3 C) [] H' b := fun {H'} hn b hb =>
    ⟨hn b hb, Nat.ne_of_lt (fplt b hb), okX.exfs b hb, .inl hb, fun y c e => (fp3 b hb).2.2.2.2.1 y c (cl1 y c e), fun p hp => absurd (show p ∈ ([] : List (Addr × Obj)) from hp) (by simp)⟩
  have loop : codeAny (model X.prog X.w) X.A (.compLoop (.ListComp elt [⟨tg, iter, cts, 0⟩] scope pos) 0 (.ref it) (.ref D) (compEnvC scope cl C X.env))
      (compPost (model X.prog X.w) X.A X.xe use Qv (.ref D) C) { s2 with heap := h₁, toks := s2.toks + 0 } := by
    refine compLoop_tests (fun n s' => ∃ i os ys H', os.length = xs.length ∧ Inv (lcCx X (xs ++ ns) scope cl fp { s2 with heap := p3 } H3 C) [] (os ++ caps is σ) H' s' ∧ tn i s'.heap ∧ (∀ b ∈ fp, H' b = none) ∧ W i n ys H') ?_ m0 ⟨0, List.replicate xs.length none, [], H3, rl, I4, st4, hfree, w0⟩
    rintro n s5 ⟨i, os, ys, H5, hos, I5, st5, fr5, w5⟩
    obtain ⟨hD5, ⟨stop, q⟩ | ⟨go, step⟩⟩ := turn i n ys H5 w5
    · refine thn (T.done (lcCx X (xs ++ ns) scope cl fp { s2 with heap := p3 } H3 C) rfl rfl rfl hc i [] s5 _ H5 _ I5 (stat fr5) st5 stop) fun r s6 ⟨hr, I6⟩ => ?_
      subst hr
      obtain ⟨m, hn, _⟩ := id I6.loc
      have neC : ∀ b o, p3.get? b = some o → b ≠ C := fun b o e => by rw [← hC]; exact Nat.ne_of_lt (Heap.lt_size e)
      have fC : H5 C = none := I6.free
      have I6X : Inv X pins σ H5 s6 := by
        refine I3.call' (s' := s6) (ch := fp) I6.os ⟨fun b o e nn hb hx => ?_, fun b o e nn hb hx => ?_, I6.base.free, fun b o e hx => ?_, I6.base.tups, I6.base.frzs, I6.base.tbls⟩ (fun b ob e => I6.hok b ob e) I6.bare fun b hb => ⟨(fp3 b hb).2.2.2.1, (fp3 b hb).2.1, (fp3 b hb).2.2.2.2.1, (fp3 b hb).2.2.2.2.2⟩
        · exact I6.base.keep b o e nn hb hx
        · exact I6.base.slot b o e nn hb hx
        · exact I6.base.there b o e hx
      exact fin D C H5 s6 m q I6X (I3.fpOk (Nat.le_of_eq hC) fC) hn
    · refine thn (T.item (lcCx X (xs ++ ns) scope cl fp { s2 with heap := p3 } H3 C) rfl rfl rfl hc i [] s5 _ H5 _ I5 (stat fr5) st5 go) fun r s6 ⟨u, hr, h6⟩ => ?_
      subst hr
      refine thn h6 fun _ s7 hpat => ?_
      obtain ⟨v, H7, I7, r7, y7, st7, fr7⟩ := hpat
      have I7' := I7.pinned (stat fr7) (T.obj _ _ st7)
      refine wpAny_mono (hg cl fp { s2 with heap := p3 } H3 C _ s7 (os ++ caps is σ) H7 v u _ I7' r7 (step os v H7 hos y7)) (fun _ s8 ⟨σ8, H8, I8, ⟨os', hos', e8⟩, q8⟩ => ?_) fun _ _ z => False.elim z
      subst e8
      refine wpAny_mono (hct cl fp { s2 with heap := p3 } H3 C _ s8 _ H8 _ I8 q8) (fun bb sb ⟨Hb, Ib, qb⟩ => ?_) fun _ _ z => False.elim z
      cases bb with
      | false =>
        rw [if_neg Bool.false_ne_true] at qb
        rw [if_neg Bool.false_ne_true]
        obtain ⟨m', hm', w9⟩ := qb
        refine ⟨m', hm', i + 1, os', ys, _, hos', Ib.unpinned, T.keep _ _ _ st7 fun b hb o e => (Ib.pin (b, o) (List.mem_append_right _ (List.mem_append_right _ (mem_pinsAt hb e)))).1, fun b hb => ?_, w9⟩
        obtain ⟨o', e, d⟩ := T.obj _ _ st7 b hb
        exact (Ib.pin (b, o') (List.mem_append_right _ (List.mem_append_right _ (mem_pinsAt hb e)))).2.1
      | true =>
        rw [if_pos rfl] at qb
        rw [if_pos rfl]
        refine wpAny_mono (he cl fp { s2 with heap := p3 } H3 C _ sb _ Hb _ Ib qb) (fun uy s9 ⟨y, H9, I9, r9, hD9, hl9, m', hm', w9⟩ => ?_) fun _ _ z => False.elim z
        refine wpAny_mono (mt_append (X := lcCx X (xs ++ ns) scope cl fp { s2 with heap := p3 } H3 C) _ s9 _ H9 (.ref D) [y] (.ref D) [uy] (fun _ H' => H' = upd H9 D (.lst (ys ++ [y]))) I9 rfl (.cons r9 .nil) ⟨D, ys, y, rfl, rfl, hD9, hl9, rfl⟩) (fun _ s10 ⟨_, H10, I10, _, e10⟩ => ?_) fun _ _ z => False.elim z
        subst e10
        refine ⟨m', hm', i + 1, os', ys ++ [y], _, hos', I10.unpinned, T.keep _ _ _ st7 fun b hb o e => (I10.pin (b, o) (List.mem_append_right _ (List.mem_append_right _ (mem_pinsAt hb e)))).1, fun b hb => ?_, w9⟩
        obtain ⟨o', e, d⟩ := T.obj _ _ st7 b hb
        exact (I10.pin (b, o') (List.mem_append_right _ (List.mem_append_right _ (mem_pinsAt hb e)))).2.1
  exact codeAny_compStart_list loop (T.self X.A 0 _ _ _ st4 loop)
theorem end_plain {pins : List (Addr × Obj)} {σ : St} {Q : VK} : LcEnd X pins σ Q none (EP X pins σ Q) := by
  intro D C H5 s6 m q I6 fC hn
  refine ⟨m, hn, fun h' sb => ⟨.ref D, H5, I6.turnedOld (t' := s6.toks) (fp := [C]) (fun b hb => ?_) (fun b u nb e => (sb.2 b (fun z => nb (List.mem_singleton.mpr z))).trans e), rfl, q⟩⟩
  rw [List.mem_singleton] at hb
  subst hb
  exact fC
theorem end_store {pins : List (Addr × Obj)} {σ : St} {Dn : Ends} {y : Str} {py : Pos} {iy : Nat} (hnd : X.N.Nodup) (hiy : X.N[iy]? = some y) (hly : Loc X.env.scope y) (hfy : X.fn y = true ∨ X.env.scope.names.lookup y = some .local) :
    LcEnd X pins σ (fun v H' => Dn.nx (σ.set iy (some v)) H') (some (assign (.Name y py) X.env)) (fun _ s' => SP X pins Dn .next s') := by
  intro D C H5 s6 m q I6X fC hn
  have fpC : ∀ b ∈ [C], FpOk X pins H5 b := fun b hb => by
    rw [List.mem_singleton] at hb
    subst hb
    exact fC
  obtain ⟨oC, esC, epC, hoC, rC⟩ := id hn
  have obC : ∀ b ∈ [C], ∃ o, s6.heap.get? b = some o ∧ ∀ v, o.data ≠ .cell v := fun b hb => by
    rw [List.mem_singleton] at hb
    subst hb
    exact ⟨oC, hoC, fun v z => by rw [z] at rC; exact absurd rC.1 (fun w => nomatch w)⟩
  have IP := I6X.pinned fpC obC
  have hgy : PG X (.Name y py) (gName iy) := pg_name hnd hiy hly hfy
  show wpAny _ _ (assign (.Name y py) X.env (.ref D)) _ _ s6
  refine thn (hgy _ s6 σ H5 (.ref D) (.ref D) (fun σ' H' => σ' = σ.set iy (some (.ref D)) ∧ H' = H5) IP rfl ⟨rfl, rfl⟩) fun _ s7 hpat => ?_
  obtain ⟨σ7, H7, I7, e1, e2⟩ := hpat
  subst e1
  subst e2
  have hC7 : s7.heap.get? C = some oC := (I7.pin (C, oC) (List.mem_append_right _ (List.mem_append_right _ (mem_pinsAt (List.mem_singleton.mpr rfl) hoC)))).1
  exact ⟨m, ⟨oC, esC, epC, hC7, rC⟩, fun h' sb => ⟨_, H7, I7.unpinned.turnedOld (t' := s7.toks) (fp := [C]) fpC (fun b u nb e => (sb.2 b (fun z => nb (List.mem_singleton.mpr z))).trans e), q⟩⟩
theorem pe_lcG {sc : Scope} {N : List Str} (hc : X.calm = true) (hi : PI X tg iter wi) (L : LcOkG sc N xs scope is ns) (hg : ∀ cl fp s3 H3 C, PG (lcCx X (xs ++ ns) scope cl fp s3 H3 C) tg g) (hct : ∀ cl fp s3 H3 C, PTs (lcCx X (xs ++ ns) scope cl fp s3 H3 C) cts tc) (he : ∀ cl fp s3 H3 C, PE (lcCx X (xs ++ ns) scope cl fp s3 H3 C) elt te)
    (hsc : X.env.scope = sc) (hN : X.N = N) (hs : ∀ x, foldedSetIterable iter X.env x = pure x) : PE X (.ListComp elt [⟨tg, iter, cts, 0⟩] scope pos) (tLCG wi xs.length is g tc te) := by
  intro pins s σ H Q I h
  rw [eval_ListComp]
  exact comp_core I h (fun _ _ z => z) end_plain hc hi L hg hct he hsc hN hs
theorem ps_setlcG {sc : Scope} {N : List Str} {y : Str} {py spos : Pos} {iy : Nat} (hnd : X.N.Nodup) (hiy : X.N[iy]? = some y) (hly : Loc X.env.scope y) (hfy : X.fn y = true ∨ X.env.scope.names.lookup y = some .local) (hsw : swapsWith (.ListComp elt [⟨tg, iter, cts, 0⟩] scope pos) (some (.Name y py)) spos.line X.env = pure true)
    (hc : X.calm = true) (hi : PI X tg iter wi) (L : LcOkG sc N xs scope is ns) (hg : ∀ cl fp s3 H3 C, PG (lcCx X (xs ++ ns) scope cl fp s3 H3 C) tg g) (hct : ∀ cl fp s3 H3 C, PTs (lcCx X (xs ++ ns) scope cl fp s3 H3 C) cts tc) (he : ∀ cl fp s3 H3 C, PE (lcCx X (xs ++ ns) scope cl fp s3 H3 C) elt te)
    (hsc : X.env.scope = sc) (hN : X.N = N) (hs : ∀ x, foldedSetIterable iter X.env x = pure x) : PS X (.Assign [.Name y py] (.ListComp elt [⟨tg, iter, cts, 0⟩] scope pos) spos) (tAsg (tLCG wi xs.length is g tc te) (gName iy)) := by
  intro pins s σ H Dn I h
  rw [exec_Assign_Name_used _ _ _ _ hsw]
  refine wpAny_bind (wpAny_standAt (wpAny_bind ?_))
  show wpAny _ X.A (do let _ ← comprehension (.ListComp elt [⟨tg, iter, cts, 0⟩] scope pos) scope X.env _ (newList []) false (eval iter X.env) (some (assign (.Name y py) X.env))) _ _ s
  exact wpAny_bind (thn (Q := fun _ s' => SP X pins Dn .next s') (comp_core I h (fun _ _ z => z) (end_store hnd hiy hly hfy) hc hi L hg hct he hsc hN hs) fun _ s' hq => wpAny_pure (wpAny_pure hq))
/-- one name, no test: as it was -/
theorem lc_of {J : It} {te : TE} {is : List Nat} {σ : St} {H1 : Hp} {Q : VK} (h : lcGoal J is te σ H1 Q) : lcGoalG J 1 is (gName 0) tTru te σ H1 Q := by
  intro D hD
  obtain ⟨W, w0, k⟩ := h D hD
  refine ⟨W, w0, fun i m ys H2 w => ?_⟩
  obtain ⟨e, z | ⟨go, nx⟩⟩ := k i m ys H2 w
  · exact ⟨e, .inl z⟩
  · refine ⟨e, .inr ⟨go, fun os v H3 hos y => ?_⟩⟩
    match os, hos with
    | [o], _ => exact ⟨⟨[some v], rfl, rfl⟩, iteT (B := ∃ m', m' < m ∧ W (i + 1) m' ys H3) (nx v H3 y)⟩
theorem pe_lcB {sc : Scope} {N : List Str} {x : Str} {px : Pos} (hc : X.calm = true) (hi : PI X (.Name x px) iter wi) (L : LcOk sc N x scope is ns) (he : ∀ cl fp s3 H3 C, PE (lcCx X (x :: ns) scope cl fp s3 H3 C) elt te)
    (hsc : X.env.scope = sc := by rfl) (hN : X.N = N := by rfl) (hs : ∀ x, foldedSetIterable iter X.env x = pure x := by intro _; rfl) : PE X (.ListComp elt [⟨.Name x px, iter, [], 0⟩] scope pos) (tLC wi is te) := by
  intro pins s σ H Q I h
  rw [eval_ListComp]
  exact comp_core (xs := [x]) (g := gName 0) (tc := tTru) I h (fun _ _ z => lc_of z) end_plain hc hi ⟨L.kind, L.nocell, L.names, L.free, L.cap, L.capf⟩ (fun _ _ _ _ _ => pg_name (i := 0) L.nd rfl (.inl (lookup_relabel_local L.hx)) (.inr (lookup_relabel_local L.hx))) (fun _ _ _ _ _ => pts_nil) he hsc hN hs
end
section
variable {K : PySem.W.Frag} {n : Nat} {is : List Nat} {g : TG} {tc : TT} {te : TE} {σ : St} {H : Hp} {Q : VK}
theorem range_filter_snoc (p : Nat → Bool) (f : Nat → V) (i : Nat) : ((List.range (i + 1)).filter p).map f = ((List.range i).filter p).map f ++ if p i = true then [f i] else [] := by
  rw [List.range_succ, List.filter_append, List.map_append]
  cases h : p i <;> simp [List.filter, h]
theorem lcG_pf {J : It} {N : Nat} (p : Nat → Bool) (f : Nat → V) (hz : N ≤ sizeLine) (hgo : ∀ i H2, Same H H2 → i < N → J.go i H2) (hstop : ∀ H2, Same H H2 → J.stop N H2)
    (he : ∀ (i : Nat) (os : St) v H2 H3 (K1 : VK) (K2 : Hp → Prop), i < N → os.length = n → Same H H2 → J.yld i H2 v H3 → (p i = true → ∀ H6, Same H2 H6 → K1 (f i) H6) → (p i = false → ∀ H5, Same H2 H5 → K2 H5) →
      g v (os ++ caps is σ) H3 fun σ' H4 => (∃ os' : St, os'.length = n ∧ σ' = os' ++ caps is σ) ∧ tc σ' H4 fun b H5 => if b = true then te σ' H5 K1 else K2 H5)
    (q : ∀ D H', H D = none → Same H H' → H' D = some (.lst (((List.range N).filter p).map f)) → Q (.ref D) H') : lcGoalG J n is g tc te σ H Q := by
  intro D hDn
  refine ⟨fun i m ys H2 => m = N - i ∧ i ≤ N ∧ Same H H2 ∧ H2 D = some (.lst ys) ∧ ys = ((List.range i).filter p).map f, ⟨_, rfl, Nat.zero_le _, Same.upd hDn, upd_same, rfl⟩, ?_⟩
  rintro i m ys H2 ⟨rfl, hi, sm, hd, rfl⟩
  refine ⟨hd, ?_⟩
  by_cases hlt : i < N
  · refine .inr ⟨hgo i H2 sm hlt, fun os v H3 hos y => ?_⟩
    have hl : (((List.range i).filter p).map f).length ≤ i := by
      rw [List.length_map]
      have := List.length_filter_le p (List.range i)
      rw [List.length_range] at this
      exact this
    refine he i os v H2 H3 _ _ hlt hos sm y (fun hp H6 s6 => ⟨s6 _ _ hd, by omega, N - (i + 1), by omega, rfl, hlt, fun b o e => ?_, upd_same, ?_⟩) (fun hp H5 s5 => ⟨N - (i + 1), by omega, rfl, hlt, sm.trans s5, s5 _ _ hd, ?_⟩)
    · rw [upd_ne (ne_of_none e hDn)]
      exact s6 _ _ (sm _ _ e)
    · rw [range_filter_snoc, if_pos hp]
    · rw [range_filter_snoc, if_neg (by rw [hp]; exact Bool.false_ne_true), List.append_nil]
  · have e : i = N := by omega
    subst e
    exact .inl ⟨hstop H2 sm, q D H2 hDn sm hd⟩
theorem lcG_list {a : Addr} {xs : List V} (p : Nat → Bool) (f : Nat → V) (hq : SqL K H a xs) (hz : xs.length ≤ sizeLine)
    (he : ∀ (i : Nat) (os : St) v H2 (K1 : VK) (K2 : Hp → Prop), xs[i]? = some v → os.length = n → Same H H2 → (p i = true → ∀ H6, Same H2 H6 → K1 (f i) H6) → (p i = false → ∀ H5, Same H2 H5 → K2 H5) →
      g v (os ++ caps is σ) H2 fun σ' H4 => (∃ os' : St, os'.length = n ∧ σ' = os' ++ caps is σ) ∧ tc σ' H4 fun b H5 => if b = true then te σ' H5 K1 else K2 H5)
    (q : ∀ D H', H D = none → Same H H' → H' D = some (.lst (((List.range xs.length).filter p).map f)) → Q (.ref D) H') : lcGoalG (Itl K a) n is g tc te σ H Q :=
  lcG_pf p f hz (fun i H2 sm hi => ⟨xs, xs[i], sm.seq hq, by simp [hi]⟩) (fun H2 sm => ⟨xs, sm.seq hq, Nat.le_refl _⟩) (fun i os v H2 H3 K1 K2 hi hos sm y k1 k2 => by
    obtain ⟨rfl, y⟩ := y
    exact he i os v _ K1 K2 (y xs (sm.seq hq)) hos sm k1 k2) q
theorem lcG_range {lo : Int} {N : Nat} (p : Nat → Bool) (f : Nat → V) (hz : N ≤ sizeLine)
    (he : ∀ (i : Nat) (os : St) H2 (K1 : VK) (K2 : Hp → Prop), i < N → os.length = n → Same H H2 → (p i = true → ∀ H6, Same H2 H6 → K1 (f i) H6) → (p i = false → ∀ H5, Same H2 H5 → K2 H5) →
      g (.int (lo + i)) (os ++ caps is σ) H2 fun σ' H4 => (∃ os' : St, os'.length = n ∧ σ' = os' ++ caps is σ) ∧ tc σ' H4 fun b H5 => if b = true then te σ' H5 K1 else K2 H5)
    (q : ∀ D H', H D = none → Same H H' → H' D = some (.lst (((List.range N).filter p).map f)) → Q (.ref D) H') : lcGoalG (Itr lo N) n is g tc te σ H Q :=
  lcG_pf p f hz (fun i H2 _ hi => hi) (fun H2 _ => Nat.le_refl N) (fun i os v H2 H3 K1 K2 hi hos sm y k1 k2 => by
    obtain ⟨rfl, rfl⟩ := y
    exact he i os _ K1 K2 hi hos sm k1 k2) q
theorem lcG_enum {a : Addr} {xs : List V} (p : Nat → Bool) (f : Nat → V) (hq : SqL K H a xs) (hz : xs.length ≤ sizeLine)
    (he : ∀ (i : Nat) (os : St) v (t : Addr) H2 (K1 : VK) (K2 : Hp → Prop), xs[i]? = some v → os.length = n → Same H H2 → H2 t = none → (p i = true → ∀ H6, Same H2 H6 → K1 (f i) H6) → (p i = false → ∀ H5, Same H2 H5 → K2 H5) →
      g (.ref t) (os ++ caps is σ) (upd H2 t (.tup [.int i, v])) fun σ' H4 => (∃ os' : St, os'.length = n ∧ σ' = os' ++ caps is σ) ∧ tc σ' H4 fun b H5 => if b = true then te σ' H5 K1 else K2 H5)
    (q : ∀ D H', H D = none → Same H H' → H' D = some (.lst (((List.range xs.length).filter p).map f)) → Q (.ref D) H') : lcGoalG (Ite K a) n is g tc te σ H Q :=
  lcG_pf p f hz (fun i H2 sm hi => ⟨xs, xs[i], sm.seq hq, by simp [hi]⟩) (fun H2 sm => ⟨xs, sm.seq hq, rfl⟩) (fun i os v H2 H3 K1 K2 hi hos sm y k1 k2 => by
    obtain ⟨t, x, ht, rfl, rfl, y⟩ := y
    exact he i os x t _ K1 K2 (y xs (sm.seq hq)) hos sm ht k1 k2) q
end
/-! ### any of a list of truths -/
section
variable {X : Cx}
theorem any_getD : ∀ bs : List Bool, ((List.range bs.length).any fun i => bs.getD i false) = bs.any id
  | [] => rfl
  | b :: r => by
    rw [List.length_cons, List.range_succ_eq_map, List.any_cons, List.any_map, List.any_cons, ← any_getD r]
    rfl
theorem call_anyB (hc : X.calm = true) : CallR X (.builtin "any") (fun xs H Q => ∃ (p : Addr) (bs : List Bool), xs = [.ref p] ∧ SqL X.K H p (bs.map V.bl) ∧ Q (.bl (bs.any id)) H) := by
  intro pins s σ H xs us Q I r h
  obtain ⟨p, bs, rfl, hq, q⟩ := h
  obtain ⟨u, rfl, rx⟩ := vals1 r
  cases rx
  obtain ⟨its, rv, pl, hz⟩ := I.list hq
  have hl := rv.length
  rw [List.length_map] at hl
  have hlt : p < s.heap.objs.size := by obtain ⟨o, n, e, _⟩ := pl; exact Heap.lt_size e
  refine call_any_walk (wpAny_pyIter_list pl.isList ?_)
  refine ⟨s.heap.objs.size, [s.heap.objs.size, p], [s.heap.objs.size], its.toArray.size, _, _, fun i => bs.getD i false, rfl, Walks.list (show X.A.in1.handled = none from I.ok.hd hc) s.heap.objs.size p (Nat.ne_of_lt hlt) its.toArray,
    ⟨⟨_, Heap.get?_push_size _ rfl, rfl, rfl⟩, ?_⟩, fun i v s' Q' E' hv hQ => ?_, fun h' tk kk => ?_⟩
  · obtain ⟨o, e, r⟩ := pl.isList
    exact ⟨o, Heap.get?_push_of_some _ e, r⟩
  · have hi : i < bs.length := by
      have : i < its.length := by
        have := (Array.getElem?_eq_some_iff.mp hv).1
        simpa using this
      omega
    have hb : (bs.map V.bl)[i]? = some (V.bl bs[i]) := by simp [hi]
    obtain ⟨u, hu, ru⟩ := rv.get hb
    have hv' : its[i]? = some v := by simpa using hv
    rw [hu] at hv'
    cases hv'
    obtain rfl : v = Value.bool bs[i] := ru
    refine wpAny_truthy_bool ?_
    have e : bs.getD i false = bs[i] := by simp [List.getD, hi]
    rw [← e]
    exact hQ
  · refine ⟨.bl (bs.any id), H, ?_, ?_, q⟩
    · have I1 : Inv X pins σ H { s with heap := s.heap.push { cls := .type "list_iterator", data := .fields #[.ref p, .int 0 0] } } := I.kept (t' := s.toks) fun b o e => Heap.get?_push_of_some _ e
      have I2 : Inv X pins σ H { s with heap := h', toks := tk } := I.kept (t' := tk) fun b o e => kk b o (by
        intro z
        have z' : b = s.heap.objs.size := by simpa using z
        exact absurd (Heap.lt_size e) (by rw [z']; exact Nat.lt_irrefl _)) (Heap.get?_push_of_some _ e)
      exact I2
    · show Value.bool _ = Value.bool _
      congr 1
      rw [List.size_toArray, ← hl]
      exact any_getD bs
end
end L2
namespace J
open PySem PySem.Spec PyProof.Rows
open L2 (Cx V Hp St VK TE TT TA TS TG TGs TI TO SqL)
structure JTs (X : Cx) (cts : List Expr) (t : TT) : Prop where
  out : L2.PTs X cts t
section
variable {X : Cx} {x y : Str} {xs ns : List Str} {scope : Scope} {cl : List (Str × Addr)} {fp : List Addr} {s3 : Shared} {H3 : Hp} {C : Addr} {p pos spos py : Pos} {ct tg it elt : Expr} {cts : List Expr} {tc : TT} {te : TE} {wi : TI} {g : TG} {is : List Nat} {sc : Scope} {N : List Str} {iy : Nat}
theorem pe_lcB {x : Str} {px : Pos} (hc : X.calm = true) (hi : JI X (.Name x px) it wi) (L : L2.LcOk sc N x scope is ns) (he : ∀ cl fp s3 H3 C, JE (L2.lcCx X (x :: ns) scope cl fp s3 H3 C) elt te) (hsc : X.env.scope = sc) (hN : X.N = N) (hs : ∀ x, foldedSetIterable it X.env x = pure x := by intro _; rfl) :
    JE X (.ListComp elt [⟨.Name x px, it, [], 0⟩] scope pos) (L2.tLC wi is te) := ⟨L2.pe_lcB hc hi.out L (fun cl fp s3 H3 C => (he cl fp s3 H3 C).out) hsc hN hs⟩
theorem pts_nil : JTs X [] L2.tTru := ⟨L2.pts_nil⟩
theorem pts_one (h : JT X ct tc) : JTs X [ct] tc := ⟨L2.pts_one h.out⟩
theorem lcv {i : Nat} (h : scope.names.lookup y = some .local) (hi : xs[i]? = some y) (db : (y == ("__debug__" : Str)) = false) (cd : (y == ("__classdict__" : Str)) = false) : JE (L2.lcCx X xs scope cl fp s3 H3 C) (.Name y p) (L2.tVar i) :=
  ⟨L2.pe_var (i := i) hi (.inl (PySem.lookup_relabel_local h)) db cd⟩
theorem lcf {i : Nat} (h : scope.names.lookup y = some .free) (hi : xs[i]? = some y) (db : (y == ("__debug__" : Str)) = false) (cd : (y == ("__classdict__" : Str)) = false) : JE (L2.lcCx X xs scope cl fp s3 H3 C) (.Name y p) (L2.tVar i) :=
  ⟨L2.pe_var (i := i) hi (.inr (L2.relabel_vis h)) db cd⟩
theorem lct {i : Nat} (nd : xs.Nodup) (h : scope.names.lookup y = some .local) (hi : xs[i]? = some y) : JG (L2.lcCx X xs scope cl fp s3 H3 C) (.Name y p) (L2.gName i) :=
  ⟨L2.pg_name (i := i) nd hi (.inl (PySem.lookup_relabel_local h)) (.inr (PySem.lookup_relabel_local h))⟩
theorem lcG (hc : X.calm = true) (hi : JI X tg it wi) (L : L2.LcOkG sc N xs scope is ns) (hg : ∀ cl fp s3 H3 C, JG (L2.lcCx X (xs ++ ns) scope cl fp s3 H3 C) tg g) (hct : ∀ cl fp s3 H3 C, JTs (L2.lcCx X (xs ++ ns) scope cl fp s3 H3 C) cts tc) (he : ∀ cl fp s3 H3 C, JE (L2.lcCx X (xs ++ ns) scope cl fp s3 H3 C) elt te)
    (hsc : X.env.scope = sc) (hN : X.N = N) (hs : ∀ x, foldedSetIterable it X.env x = pure x := by intro _; rfl) : JE X (.ListComp elt [⟨tg, it, cts, 0⟩] scope pos) (L2.tLCG wi xs.length is g tc te) :=
  ⟨L2.pe_lcG hc hi.out L (fun cl fp s3 H3 C => (hg cl fp s3 H3 C).out) (fun cl fp s3 H3 C => (hct cl fp s3 H3 C).out) (fun cl fp s3 H3 C => (he cl fp s3 H3 C).out) hsc hN hs⟩
theorem setlcG (S : L2.Slot X iy y) (hnd : X.N.Nodup) (hc : X.calm = true) (hi : JI X tg it wi) (L : L2.LcOkG sc N xs scope is ns) (hg : ∀ cl fp s3 H3 C, JG (L2.lcCx X (xs ++ ns) scope cl fp s3 H3 C) tg g) (hct : ∀ cl fp s3 H3 C, JTs (L2.lcCx X (xs ++ ns) scope cl fp s3 H3 C) cts tc) (he : ∀ cl fp s3 H3 C, JE (L2.lcCx X (xs ++ ns) scope cl fp s3 H3 C) elt te)
    (hsc : X.env.scope = sc) (hN : X.N = N)
    (hw : ((if sc.kind.isAnnotationScope then ScopeKind.function else sc.kind) == .function && sc.names.lookup y == some .local && py.line == pos.line && !(scope.names.any fun (n, k) => n == y && (k == .local || k == .cell))) = true)
    (hs : ∀ x, foldedSetIterable it X.env x = pure x := by intro _; rfl) :
    JS X (.Assign [.Name y py] (.ListComp elt [⟨tg, it, cts, 0⟩] scope pos) spos) (L2.tAsg (L2.tLCG wi xs.length is g tc te) (L2.gName iy)) :=
  ⟨L2.ps_setlcG hnd S.hN S.lc S.fn (L2.swaps_yes hsc hw) hc hi.out L (fun cl fp s3 H3 C => (hg cl fp s3 H3 C).out) (fun cl fp s3 H3 C => (hct cl fp s3 H3 C).out) (fun cl fp s3 H3 C => (he cl fp s3 H3 C).out) hsc hN hs⟩
theorem call_anyB (hc : X.calm = true) : JF X (.builtin "any") (fun xs H Q => ∃ (p : Addr) (bs : List Bool), xs = [.ref p] ∧ SqL X.K H p (bs.map V.bl) ∧ Q (.bl (bs.any id)) H) := ⟨L2.call_anyB hc⟩
end
end J

namespace L2
open PySem PySem.Spec PyProof.Rows

/-! ### lists of pairs as tables -/
section
variable {κ : Type} [DecidableEq κ]
def valV (kvs : List (κ × V)) (k : κ) : Option V := (kvs.find? fun kv => decide (kv.1 = k)).map (·.2)
/-- in its place, or at the end -/
def putK (kvs : List (κ × V)) (k : κ) (v : V) : List (κ × V) :=
  if (kvs.any fun kv => decide (kv.1 = k)) = true then kvs.map (fun kv => if kv.1 = k then (kv.1, v) else kv) else kvs ++ [(k, v)]
def dropK (kvs : List (κ × V)) (k : κ) : List (κ × V) := kvs.filter fun kv => decide (kv.1 ≠ k)

theorem valV_pos {p : κ × V} {r : List (κ × V)} {k : κ} (e : p.1 = k) : valV (p :: r) k = some p.2 := by simp [valV, List.find?_cons, e]
theorem valV_neg {p : κ × V} {r : List (κ × V)} {k : κ} (e : ¬ p.1 = k) : valV (p :: r) k = valV r k := by simp [valV, List.find?_cons, e]
theorem valV_any (k : κ) : ∀ kvs : List (κ × V), (kvs.any fun kv => decide (kv.1 = k)) = (valV kvs k).isSome
  | [] => rfl
  | p :: r => by
    rw [List.any_cons]
    by_cases e : p.1 = k
    · simp only [valV_pos e, decide_eq_true e, Bool.true_or, Option.isSome_some]
    · rw [valV_neg e, decide_eq_false e, Bool.false_or]; exact valV_any k r
theorem length_putK (kvs : List (κ × V)) (k : κ) (v : V) : (putK kvs k v).length ≤ kvs.length + 1 := by
  unfold putK
  split
  · rw [List.length_map]; omega
  · rw [List.length_append, List.length_cons, List.length_nil]; omega

theorem RelO.isSome_eq {o : Option V} {u : Option Value} (r : RelO o u) : o.isSome = u.isSome := by
  cases o with
  | none => cases u with
    | none => rfl
    | some _ => exact (show False from r).elim
  | some _ => cases u with
    | none => exact (show False from r).elim
    | some _ => rfl
theorem RelO.getD {o : Option V} {u : Option Value} {d : V} {d' : Value} (r : RelO o u) (rd : RelV d d') : RelV (o.getD d) (u.getD d') := by
  cases o with
  | none => cases u with
    | none => exact rd
    | some _ => exact (show False from r).elim
  | some _ => cases u with
    | none => exact (show False from r).elim
    | some _ => exact r

/-- raw tables of the same keys -/
theorem KV.val {kvs : List (κ × V)} {vs : List (κ × Value)} (r : KV kvs vs) (k : κ) : RelO (valV kvs k) (valueAt vs k) := by
  unfold KV at r
  induction r with
  | nil => exact True.intro
  | @cons p q ps qs h t ih =>
    obtain ⟨h1, h2⟩ := h
    by_cases e : p.1 = k
    · have e' : q.1 = k := h1.symm.trans e
      have b : valueAt (q :: qs) k = some q.2 := by simp [valueAt, List.find?_cons, e']
      rw [valV_pos e, b]; exact h2
    · have e' : ¬ q.1 = k := fun z => e (h1.trans z)
      have b : valueAt (q :: qs) k = valueAt qs k := by simp [valueAt, List.find?_cons, e']
      rw [valV_neg e, b]; exact ih
theorem KV.any {kvs : List (κ × V)} {vs : List (κ × Value)} (r : KV kvs vs) (k : κ) : (kvs.any fun kv => decide (kv.1 = k)) = vs.any fun kv => decide (kv.1 = k) := by
  unfold KV at r
  induction r with
  | nil => rfl
  | cons h t ih => rw [List.any_cons, List.any_cons, ih, h.1]
theorem KV.repl {kvs : List (κ × V)} {vs : List (κ × Value)} (r : KV kvs vs) (k : κ) {y : V} {u : Value} (ry : RelV y u) :
    KV (kvs.map fun kv => if kv.1 = k then (kv.1, y) else kv) (vs.map fun kv => if kv.1 = k then (kv.1, u) else kv) := by
  unfold KV at r ⊢
  induction r with
  | nil => exact .nil
  | @cons p q ps qs h t ih =>
    rw [List.map_cons, List.map_cons]
    refine .cons ?_ ih
    obtain ⟨h1, h2⟩ := h
    by_cases e : p.1 = k
    · rw [if_pos e, if_pos (h1.symm.trans e)]; exact ⟨h1, ry⟩
    · rw [if_neg e, if_neg (fun z => e (h1.trans z))]; exact ⟨h1, h2⟩
theorem KV.put {kvs : List (κ × V)} {vs : List (κ × Value)} (r : KV kvs vs) (k : κ) {y : V} {u : Value} (ry : RelV y u) : KV (putK kvs k y) (stored vs k u) := by
  unfold putK stored
  rw [r.any k]
  by_cases e : (vs.any fun kv => decide (kv.1 = k)) = true
  · rw [if_pos e, if_pos e]; exact r.repl k ry
  · rw [if_neg e, if_neg e]; exact Paired.snoc r ⟨rfl, ry⟩
theorem KV.keys {kvs : List (κ × V)} {vs : List (κ × Value)} (r : KV kvs vs) : kvs.map (·.1) = vs.map (·.1) := by
  unfold KV at r
  induction r with
  | nil => rfl
  | cons h t ih => rw [List.map_cons, List.map_cons, ih, h.1]
theorem KV.length {kvs : List (κ × V)} {vs : List (κ × Value)} (r : KV kvs vs) : kvs.length = vs.length := Paired.length r
end


/-! ### a tracked dict, its keys ints and texts or tuples of these -/
theorem kV_is {P : Program} {w : World} {k : Key} {u : Value} (r : RelV (kV k) u) : (mixKind P w).is k u = true := by
  cases k with
  | inl i => obtain ⟨t, e⟩ := (show ∃ t, u = Value.int i t from r); subst e; exact mixKind_int P w i t
  | inr x => obtain ⟨t, e⟩ := (show ∃ t, u = Value.str x t from r); subst e; exact mixKind_str P w x t
theorem items_are {P : Program} {w : World} : ∀ {ks : List Key} {us : List Value}, Vals (ks.map kV) us → ItemsAre (mixKind P w) ks us
  | [], _, r => by rw [List.map_nil] at r; cases r; exact .nil
  | k :: ks, _, r => by
    rw [List.map_cons] at r
    cases r with
    | cons h t => exact .cons (kV_is h) (items_are t)

/-- raw entries of a dict with tuple keys -/
abbrev KT (H : Hp) : List (List Key × V) → List (List Key × Addr × Value) → Prop := Paired fun p q => p.1 = q.1 ∧ H q.2.1 = some (.tup (p.1.map kV)) ∧ RelV p.2 q.2.2
theorem KT.val {H : Hp} {kvs : List (List Key × V)} {xs : List (List Key × Addr × Value)} (r : KT H kvs xs) (k : List Key) : RelO (valV kvs k) ((atKey xs k).map (·.2)) := by
  induction r with
  | nil => exact True.intro
  | @cons p q ps qs h t ih =>
    obtain ⟨h1, _, h2⟩ := h
    by_cases e : p.1 = k
    · have e' : q.1 = k := h1.symm.trans e
      have b : atKey (q :: qs) k = some q.2 := by simp [atKey, List.find?_cons, e']
      rw [valV_pos e, b]; exact h2
    · have e' : ¬ q.1 = k := fun z => e (h1.trans z)
      have b : atKey (q :: qs) k = atKey qs k := by simp [atKey, List.find?_cons, e']
      rw [valV_neg e, b]; exact ih
theorem KT.repl {H : Hp} {kvs : List (List Key × V)} {xs : List (List Key × Addr × Value)} (r : KT H kvs xs) (k : List Key) {y : V} {u : Value} (ry : RelV y u) :
    KT H (kvs.map fun kv => if kv.1 = k then (kv.1, y) else kv) (xs.map (putAt k u)) := by
  induction r with
  | nil => exact .nil
  | @cons p q ps qs h t ih =>
    rw [List.map_cons, List.map_cons]
    refine .cons ?_ ih
    obtain ⟨h1, h2, h3⟩ := h
    unfold putAt
    by_cases e : p.1 = k
    · rw [if_pos e, if_pos (h1.symm.trans e)]; exact ⟨h1, h2, ry⟩
    · rw [if_neg e, if_neg (fun z => e (h1.trans z))]; exact ⟨h1, h2, h3⟩
theorem KT.put {H : Hp} {kvs : List (List Key × V)} {xs : List (List Key × Addr × Value)} (r : KT H kvs xs) (k : List Key) {b : Addr} {y : V} {u : Value} (hb : H b = some (.tup (k.map kV))) (ry : RelV y u) :
    KT H (putK kvs k y) (storedH xs k b u) := by
  have e : (kvs.any fun kv => decide (kv.1 = k)) = (atKey xs k).isSome := by
    rw [valV_any, (r.val k).isSome_eq, Option.isSome_map]
  unfold putK storedH
  rw [e]
  by_cases q : (atKey xs k).isSome = true
  · rw [if_pos q, if_pos q]; exact r.repl k ry
  · rw [if_neg q, if_neg q]; exact Paired.snoc r ⟨rfl, hb, ry⟩
theorem KT.keeps {H H' : Hp} {kvs : List (List Key × V)} {xs : List (List Key × Addr × Value)} (r : KT H kvs xs) (ht : ∀ b ys, H b = some (.tup ys) → H' b = some (.tup ys)) : KT H' kvs xs :=
  Paired.mapP r fun _ _ z => ⟨z.1, ht _ _ z.2.1, z.2.2⟩

section
variable {P : Program} {w : World} {H : Hp} {h : Heap} {a : Addr}
theorem rd_of {u : HO} (ok : HOk P w H h) (e : Rd H a u) : ObjOk P w H h a u := e.ok ok
theorem dk_rd {kvs : List (Key × V)} (ok : HOk P w H h) (e : Rd H a (.dK kvs)) : kvs.length ≤ sizeLine ∧ (a == sysModules) = false ∧ ∃ vs, KV kvs vs ∧ h.DictOf (mixKind P w) a vs :=
  show ObjOk P w H h a (.dK kvs) from rd_of ok e
theorem dk_of {kvs : List (Key × V)} (ok : HOk P w H h) (e : H a = some (.dK kvs)) : kvs.length ≤ sizeLine ∧ (a == sysModules) = false ∧ ∃ vs, KV kvs vs ∧ h.DictOf (mixKind P w) a vs := dk_rd ok (.inl e)
/-- a tracked tuple of ints and texts is a key -/
theorem key_of {ks : List Key} (ok : HOk P w H h) (e : H a = some (.tup (ks.map kV))) : (tupleKind (mixKind P w)).is h ks a := by
  obtain ⟨_, its, r, o, h1, h2, n, h3⟩ := (show ObjOk P w H h a (.tup (ks.map kV)) from ok a _ e)
  exact ⟨o, its.toArray, n, h1, h2, h3, by simpa using items_are r⟩
theorem dt_rd {kvs : List (List Key × V)} (ok : HOk P w H h) (e : Rd H a (.dT kvs)) : kvs.length ≤ sizeLine ∧ (a == sysModules) = false ∧
    ∃ xs, KT H kvs xs ∧ h.DictOfH (tupleKind (mixKind P w)) a xs := by
  obtain ⟨z, y, xs, r, o, es, ep, h1, h2, h3, h4, h5⟩ := (show ObjOk P w H h a (.dT kvs) from rd_of ok e)
  refine ⟨z, y, xs, r, o, es, ep, h1, h2, h3, h4, fun x hx => ?_, h5⟩
  have all : ∀ {l : List (List Key × V)} {m : List (List Key × Addr × Value)}, KT H l m → ∀ x ∈ m, (tupleKind (mixKind P w)).is h x.1 x.2.1 := by
    intro l m q
    induction q with
    | nil => intro x hx; exact nomatch hx
    | @cons p q ps qs hq t ih =>
      intro x hx
      rcases List.mem_cons.mp hx with e | hx
      · subst e
        exact key_of ok (by rw [← hq.1]; exact hq.2.1)
      · exact ih x hx
  exact all r x hx
theorem dt_of {kvs : List (List Key × V)} (ok : HOk P w H h) (e : H a = some (.dT kvs)) : kvs.length ≤ sizeLine ∧ (a == sysModules) = false ∧
    ∃ xs, KT H kvs xs ∧ h.DictOfH (tupleKind (mixKind P w)) a xs := dt_rd ok (.inl e)
end

/-- what the dict at a holds at the key y -/
def DGet (H : Hp) (a : Addr) (y : V) (r : Option V) : Prop :=
  (∃ kvs k, Rd H a (.dK kvs) ∧ y = kV k ∧ r = valV kvs k) ∨ ∃ kvs k b, Rd H a (.dT kvs) ∧ y = .ref b ∧ H b = some (.tup (k.map kV)) ∧ r = valV kvs k
/-- the heap behind a[y] = v -/
def DPut (H : Hp) (a : Addr) (y v : V) (H' : Hp) : Prop :=
  (∃ kvs k, H a = some (.dK kvs) ∧ y = kV k ∧ kvs.length < sizeLine ∧ H' = upd H a (.dK (putK kvs k v))) ∨
  ∃ kvs k b, H a = some (.dT kvs) ∧ y = .ref b ∧ H b = some (.tup (k.map kV)) ∧ kvs.length < sizeLine ∧ H' = upd H a (.dT (putK kvs k v))
theorem DGet.k {H : Hp} {a : Addr} {kvs : List (Key × V)} {k : Key} (e : H a = some (.dK kvs)) : DGet H a (kV k) (valV kvs k) := .inl ⟨kvs, k, .inl e, rfl, rfl⟩
theorem DPut.k {H : Hp} {a : Addr} {kvs : List (Key × V)} {k : Key} {v : V} (e : H a = some (.dK kvs)) (hl : kvs.length < sizeLine) : DPut H a (kV k) v (upd H a (.dK (putK kvs k v))) := .inl ⟨kvs, k, e, rfl, hl, rfl⟩


section
variable {X : Cx} {pins : List (Addr × Obj)} {σ : St} {H : Hp} {s : Shared} {a : Addr} {y v : V} {u r : Value} {o : Option V} {A : Around} {E : Value → Shared → Prop}


/-- d[y], there -/
theorem d_getItem {Q : Value → Shared → Prop} (hu : A.units + 1 < cLine) (I : Inv X pins σ H s) (g : DGet H a y (some v)) (ry : RelV y u) (h : ∀ w' s', Inv X pins σ H s' → RelV v w' → Q w' s') :
    wpAny (model X.prog X.w) A (getItem (.ref a) u) Q E s := by
  rcases g with ⟨kvs, k, e, ey, l⟩ | ⟨kvs, k, b, e, ey, eb, l⟩
  · subst ey
    obtain ⟨z, hd, vs, rel, dd⟩ := dk_rd I.hok e
    obtain ⟨w', hw, rw'⟩ := RelO.some_of (v := v) (o := valueAt vs k) (by rw [l]; exact rel.val k)
    exact wpAny_getItem_of (kV_is ry) dd.mapOf hw (h w' _ (I.tok _) rw')
  · subst ey
    cases (show u = Value.ref b from ry)
    obtain ⟨z, hd, xs, rel, dd⟩ := dt_rd I.hok e
    obtain ⟨w', hw, rw'⟩ := RelO.some_of (v := v) (o := (atKey xs k).map (·.2)) (by rw [l]; exact rel.val k)
    obtain ⟨p, hp, hp2⟩ := Option.map_eq_some_iff.mp hw
    refine wpAny_getItem_heap (tupleKind_room_in1 hu) (key_of I.hok eb) dd hp ?_
    rw [hp2]
    exact h w' _ (I.tok _) rw'
/-- y in d -/
theorem d_in {Q : Value → Shared → Prop} (hu : A.units + 1 < cLine) (I : Inv X pins σ H s) (g : DGet H a y o) (ry : RelV y u) (h : ∀ s', Inv X pins σ H s' → Q (.bool o.isSome) s') :
    wpAny (model X.prog X.w) A (compareOp .In u (.ref a)) Q E s := by
  rcases g with ⟨kvs, k, e, ey, l⟩ | ⟨kvs, k, b, e, ey, eb, l⟩
  · subst ey
    obtain ⟨z, hd, vs, rel, dd⟩ := dk_rd I.hok e
    refine wpAny_in_of (kV_is ry) hd dd.mapOf ?_
    rw [← (rel.val k).isSome_eq, ← l]
    exact h _ (I.tok _)
  · subst ey
    cases (show u = Value.ref b from ry)
    obtain ⟨z, hd, xs, rel, dd⟩ := dt_rd I.hok e
    refine wpAny_in_heap (tupleKind_room_in1 hu) (key_of I.hok eb) hd dd ?_
    have q := (rel.val k).isSome_eq
    rw [Option.isSome_map] at q
    rw [← q, ← l]
    exact h _ (I.tok _)
theorem d_notIn {Q : Value → Shared → Prop} (hu : A.units + 1 < cLine) (I : Inv X pins σ H s) (g : DGet H a y o) (ry : RelV y u) (h : ∀ s', Inv X pins σ H s' → Q (.bool (!o.isSome)) s') :
    wpAny (model X.prog X.w) A (compareOp .NotIn u (.ref a)) Q E s := by
  rcases g with ⟨kvs, k, e, ey, l⟩ | ⟨kvs, k, b, e, ey, eb, l⟩
  · subst ey
    obtain ⟨z, hd, vs, rel, dd⟩ := dk_rd I.hok e
    refine wpAny_notIn_of (kV_is ry) hd dd.mapOf ?_
    rw [← (rel.val k).isSome_eq, ← l]
    exact h _ (I.tok _)
  · subst ey
    cases (show u = Value.ref b from ry)
    obtain ⟨z, hd, xs, rel, dd⟩ := dt_rd I.hok e
    refine wpAny_notIn_heap (tupleKind_room_in1 hu) (key_of I.hok eb) hd dd ?_
    have q := (rel.val k).isSome_eq
    rw [Option.isSome_map] at q
    rw [← q, ← l]
    exact h _ (I.tok _)
/-- a dict's object is replaced -/
theorem d_write {h' : Heap} {t' : Nat} {ob : HO} (I : Inv X pins σ H s) (mu : Mut (H a)) (hs : Heap.SameBut a s.heap h') (he : ∃ q, h'.get? a = some q) (new : ObjOk X.prog X.w (upd H a ob) h' a ob) :
    Inv X pins σ (upd H a ob) { s with heap := h', toks := t' } :=
  I.write (x := a) (e := a) mu (.inl rfl) (fun b q hb z => (hs.2 b hb).trans z) he new
theorem dk_new {P : Program} {w : World} {H' : Hp} {h' : Heap} {kvs : List (Key × V)} {vs : List (Key × Value)} (z : kvs.length ≤ sizeLine) (hd : (a == sysModules) = false) (rel : KV kvs vs) (dd : h'.DictOf (mixKind P w) a vs) :
    ObjOk P w H' h' a (.dK kvs) := ⟨z, hd, vs, rel, dd⟩
/-- d[y] = v -/
theorem d_setItem {H' : Hp} {Q : Unit → Shared → Prop} (hu : A.units + 1 < cLine) (I : Inv X pins σ H s) (g : DPut H a y v H') (ry : RelV y u) (rv : RelV v r) (h : ∀ s', Inv X pins σ H' s' → Q () s') :
    wpAny (model X.prog X.w) A (setItem (.ref a) u r) Q E s := by
  rcases g with ⟨kvs, k, e, ey, l, eH⟩ | ⟨kvs, k, b, e, ey, eb, l, eH⟩
  · subst ey eH
    obtain ⟨z, hd, vs, rel, dd⟩ := dk_of I.hok e
    have hz : vs.length ≤ sizeLine := by rw [← rel.length]; exact z
    have hl : (putK kvs k v).length ≤ sizeLine := by have := length_putK kvs k v; omega
    refine wpAny_setItem_pairs (hsz := hz) (kV_is ry) dd fun h' dd' hs => h _ ?_
    have he : ∃ q, h'.get? a = some q := let ⟨q, _, _, hq, _⟩ := dd'; ⟨q, hq⟩
    exact d_write I (by rw [e]; exact True.intro) hs he (dk_new hl hd (rel.put k rv) dd')
  · subst ey eH
    cases (show u = Value.ref b from ry)
    obtain ⟨z, hd, xs, rel, dd⟩ := dt_of I.hok e
    have hz : xs.length ≤ sizeLine := by rw [← Paired.length rel]; exact z
    have hl : (putK kvs k v).length ≤ sizeLine := by have := length_putK kvs k v; omega
    refine wpAny_setItem_heap (hsz := hz) (tupleKind_room_in1 hu) (key_of I.hok eb) dd fun h' dd' hs => h _ ?_
    obtain ⟨q, es, ep, hq, h2, h3, h4, _, h5⟩ := dd'
    refine d_write I (by rw [e]; exact True.intro) hs ⟨q, hq⟩ ⟨hl, hd, _, (rel.put k eb rv).keeps fun c ys ec => ?_, q, es, ep, hq, h2, h3, h4, h5⟩
    rw [upd_ne (ne_of ec e (fun z => nomatch z))]
    exact ec
end

section
variable {X : Cx} {pins : List (Addr × Obj)} {σ : St} {H : Hp} {s : Shared} {a : Addr} {kvs : List (Key × V)} {k : Key} {u : Value} {A : Around} {E : Value → Shared → Prop}
end


/-! ### readings and rules -/
/-- the element of a subscription, not a slice -/
def NoSl (i : Expr) : Prop := ∀ ov iv, subscripted i false ov iv = operate [ov, iv] (getItem ov iv)
theorem subD_of {prog : Program} {w : World} {A : Around} {E : Value → Shared → Prop} {s : Shared} {env : Env} {value slice : Expr} {pos : Pos} {T id : String} {Q : Value → Shared → Prop}
    (hl : typeLookup (.type T) "__getitem__" = pure (some (.builtin id))) (hs : NoSl slice)
    (h : wpAny (model prog w) A (eval value env) (fun o s₁ => wpAny (model prog w) A (eval slice env) (fun i s₂ => s₂.TypeIs o T ∧ wpAny (model prog w) A (getItem o i) Q E s₂) E s₁) E s) :
    wpAny (model prog w) A (eval (.Subscript value slice pos) env) Q E s := by
  refine Subscript_ (wpAny_mono h (fun o s₁ h₁ => wpAny_mono h₁ (fun i s₂ h₂ => ?_) fun _ _ x => x) fun _ _ x => x)
  obtain ⟨hT, h₂⟩ := h₂
  unfold subscriptTail
  refine wpAny_bind ?_
  rw [getitemInPython_of_ne hT.not_modules]
  refine wpAny_bind (wpAny_specialOf hT hl ?_)
  have fin : wpAny (model prog w) A (subscripted slice false o i) (fun r s₃ => wpAny (model prog w) A (letTemporaryGo value o r >>= fun _ => pure r) Q E s₃) E s₂ := by
    rw [hs o i]
    exact wpAny_operating (wpAny_mono h₂ (fun r s₃ h₃ => wpAny_bind (wpAny_letTemporaryGo (wpAny_pure h₃))) fun _ _ x => x)
  first
    | exact wpAny_pure (wpAny_bind fin)
    | exact wpAny_bind (wpAny_pure (wpAny_bind fin))
    | exact wpAny_bind fin

theorem dict_typeIs {X : Cx} {pins : List (Addr × Obj)} {σ : St} {H : Hp} {s : Shared} {a : Addr} {y : V} {o : Option V} (I : Inv X pins σ H s) (g : DGet H a y o) : s.TypeIs (.ref a) "dict" := by
  rcases g with ⟨kvs, k, e, _, _⟩ | ⟨kvs, k, b, e, _, _, _⟩
  · obtain ⟨_, _, vs, _, dd⟩ := dk_rd I.hok e
    exact dd.typeIs
  · obtain ⟨_, _, xs, _, dd⟩ := dt_rd I.hok e
    exact dd.typeIs

/-- d[y] -/
def tDGet (td ty : TE) : TE := fun σ H Q => td σ H fun x H1 => ty σ H1 fun y H2 => ∃ a v, x = .ref a ∧ DGet H2 a y (some v) ∧ Q v H2
/-- y in d, y not in d -/
def tDIn (ty td : TE) : TE := fun σ H Q => ty σ H fun y H1 => td σ H1 fun x H2 => ∃ a o, x = .ref a ∧ DGet H2 a y o ∧ Q (.bl o.isSome) H2
def tDNotIn (ty td : TE) : TE := fun σ H Q => ty σ H fun y H1 => td σ H1 fun x H2 => ∃ a o, x = .ref a ∧ DGet H2 a y o ∧ Q (.bl (!o.isSome)) H2
/-- d[y] = v -/
def sDPut (td ty tv : TE) : TS := fun D σ H => tv σ H fun v H1 => td σ H1 fun x H2 => ty σ H2 fun y H3 => ∃ a H4, x = .ref a ∧ DPut H3 a y v H4 ∧ D.nx σ H4
/-- d[y] op= v -/
def sDAug (td ty tv : TE) (rd : V → V → Hp → VK → Prop) : TS := fun D σ H => td σ H fun x H1 => ty σ H1 fun y H2 => ∃ a v, x = .ref a ∧ DGet H2 a y (some v) ∧
  tv σ H2 fun y2 H3 => rd v y2 H3 fun z H4 => ∃ H5, DPut H4 a y z H5 ∧ D.nx σ H5
/-- del d[y] -/
def sDDel (td ty : TE) : TS := fun D σ H => td σ H fun x H1 => ty σ H1 fun y H2 => ∃ a kvs k, x = .ref a ∧ H2 a = some (.dK kvs) ∧ y = kV k ∧ (valV kvs k).isSome = true ∧ D.nx σ (upd H2 a (.dK (dropK kvs k)))

section
variable {X : Cx} {o i e value : Expr} {pos pos' tpos : Pos} {td ty tv : TE}
theorem pe_dget (hu : X.A.units + 1 < cLine) (ho : PE X o td) (hi : PE X i ty) (hs : NoSl i) : PE X (.Subscript o i pos) (tDGet td ty) := by
  intro pins s σ H Q I h
  refine subD_of PySem.F.slot_dict_getitem.lookup hs (thn (ho pins s σ H _ I h) fun u s1 ⟨x, H1, I1, rx, q1⟩ => thn (hi pins s1 σ H1 _ I1 q1) fun iv s2 hpat => ?_)
  obtain ⟨y, H2, I2, ry, a, v, ex, g, q2⟩ := hpat
  subst ex
  obtain rfl : u = Value.ref a := rx
  exact ⟨dict_typeIs I2 g, d_getItem hu I2 g ry fun w' s3 I3 rw' => ⟨v, H2, I3, rw', q2⟩⟩
theorem pc_din (hu : X.A.units + 1 < cLine) (hi : PE X i ty) (ho : PE X o td) : PC X .In i o (tDIn ty td) := by
  intro pins s σ H Q I h
  refine thn (hi pins s σ H _ I h) fun iv s1 ⟨y, H1, I1, ry, q1⟩ => thn (ho pins s1 σ H1 _ I1 q1) fun u s2 hpat => ?_
  obtain ⟨x, H2, I2, rx, a, ov, ex, g, q2⟩ := hpat
  subst ex
  obtain rfl : u = Value.ref a := rx
  exact d_in hu I2 g ry fun s3 I3 => ⟨.bl ov.isSome, H2, I3, rfl, q2⟩
theorem pc_dnotin (hu : X.A.units + 1 < cLine) (hi : PE X i ty) (ho : PE X o td) : PC X .NotIn i o (tDNotIn ty td) := by
  intro pins s σ H Q I h
  refine thn (hi pins s σ H _ I h) fun iv s1 ⟨y, H1, I1, ry, q1⟩ => thn (ho pins s1 σ H1 _ I1 q1) fun u s2 hpat => ?_
  obtain ⟨x, H2, I2, rx, a, ov, ex, g, q2⟩ := hpat
  subst ex
  obtain rfl : u = Value.ref a := rx
  exact d_notIn hu I2 g ry fun s3 I3 => ⟨.bl (!ov.isSome), H2, I3, rfl, q2⟩
theorem ps_dput (hu : X.A.units + 1 < cLine) (ho : PE X o td) (hi : PE X i ty) (hv : PE X value tv) (hs : swapsWith value (some (.Subscript o i pos')) pos.line X.env = pure false) :
    PS X (.Assign [.Subscript o i pos'] value pos) (sDPut td ty tv) := by
  intro pins s σ H D I h
  refine wpAny_Assign_Subscript (thn (hv pins s σ H _ I h) fun r s1 ⟨v, H1, I1, rv, q1⟩ => thn (ho pins s1 σ H1 _ I1 q1) fun u s2 ⟨x, H2, I2, rx, q2⟩ => thn (hi pins s2 σ H2 _ I2 q2) fun iv s3 hpat => ?_) hs
  obtain ⟨y, H3, I3, ry, a, H4, ex, g, q3⟩ := hpat
  subst ex
  obtain rfl : u = Value.ref a := rx
  exact d_setItem hu I3 g ry rv fun s4 I4 => ⟨σ, H4, I4, q3⟩
end


/-! ### displays -/
/-- {}, to be a dict of the kind that is wanted -/
def tDNewK : TE := fun _ H Q => ∀ p, H p = none → Q (.ref p) (upd H p (.dK []))
def tDNewT : TE := fun _ H Q => ∀ p, H p = none → Q (.ref p) (upd H p (.dT []))
section
variable {X : Cx} {pos : Pos}
end

/-- the pairs of a display, from the left -/
def tPairs : List (TE × TE) → St → Hp → (List (V × V) → Hp → Prop) → Prop
  | [], _, H, Q => Q [] H
  | (tk, tv) :: r, σ, H, Q => tk σ H fun x H1 => tv σ H1 fun y H2 => tPairs r σ H2 fun ps H3 => Q ((x, y) :: ps) H3
abbrev VV : List (V × V) → List (Value × Value) → Prop := Paired fun p q => RelV p.1 q.1 ∧ RelV p.2 q.2
def PPs (X : Cx) (pos : Pos) (keys : List (Option Expr)) (values : List Expr) (trs : List (TE × TE)) : Prop :=
  ∀ (pins : List (Addr × Obj)) (s : Shared) (σ : St) (H : Hp) (Q : List (V × V) → Hp → Prop), Inv X pins σ H s → tPairs trs σ H Q →
    wpAny (model X.prog X.w) X.A (evalPairs (pairTrees keys values X.env pos)) (fun vs s' => ∃ ps H', Inv X pins σ H' s' ∧ VV ps vs ∧ Q ps H') X.xe s

def mergeK (kvs more : List (Key × V)) : List (Key × V) := more.foldl (fun acc kv => putK acc kv.1 kv.2) kvs
/-- {k: v, ..} with keys ints and texts; the new dict stands empty while the pairs are made -/
def tDisp (trs : List (TE × TE)) : TE := fun σ H Q => ∀ p, H p = none → tPairs trs σ (upd H p (.dK [])) fun ps H2 => H2 p = some (.dK []) ∧ ∃ kvs : List (Key × V), ps = kvs.map (fun kv => (kV kv.1, kv.2)) ∧ kvs.length ≤ 15 ∧ Q (.ref p) (upd H2 p (.dK (mergeK [] kvs)))


/-! ### methods -/
/-- a method call o.m(e) of a built-in, with one argument: what must be seen of the text -/
structure M1 (X : Cx) (o : Expr) (m : Str) (apos : Pos) (e : Expr) (cpos : Pos) : Prop where
  base : attributeBase o m X.env (eval o X.env) = eval o X.env
  few : ((backTo cpos (starEach [e] X.env)).all (fun x => !x.1) && (backToKw cpos (keywordEach [] X.env)).all (fun x => x.1.isSome)
    && decide (([e] : List Expr).length + ([] : List Keyword).length + (if ([] : List Keyword).isEmpty then 0 else 1) < 30)) = true
  line : (apos.endLine == cpos.line) = true
  trees : backTo cpos (starEach [e] X.env) = [(false, eval e X.env)]
structure M2 (X : Cx) (o : Expr) (m : Str) (apos : Pos) (e f : Expr) (cpos : Pos) : Prop where
  base : attributeBase o m X.env (eval o X.env) = eval o X.env
  few : ((backTo cpos (starEach [e, f] X.env)).all (fun x => !x.1) && (backToKw cpos (keywordEach [] X.env)).all (fun x => x.1.isSome)
    && decide (([e, f] : List Expr).length + ([] : List Keyword).length + (if ([] : List Keyword).isEmpty then 0 else 1) < 30)) = true
  line : (apos.endLine == cpos.line) = true
  trees : backTo cpos (starEach [e, f] X.env) = [(false, eval e X.env), (false, eval f X.env)]

/-- a is a dict, whatever its keys -/
def IsD (H : Hp) (a : Addr) : Prop := (∃ kvs, Rd H a (.dK kvs)) ∨ ∃ kvs, Rd H a (.dT kvs)
theorem isD_at {X : Cx} {pins : List (Addr × Obj)} {σ : St} {H : Hp} {s : Shared} {a : Addr} (I : Inv X pins σ H s) (d : IsD H a) :
    s.TypeIs (.ref a) "dict" ∧ (∀ b, Value.ref a = .ref b → ∃ ob, s.heap.get? b = some ob ∧ ob.dict = none) ∧ (a == sysModules) = false := by
  rcases d with ⟨kvs, e⟩ | ⟨kvs, e⟩
  · obtain ⟨_, hd, vs, _, dd⟩ := dk_rd I.hok e
    refine ⟨dd.typeIs, fun b q => ?_, hd⟩
    cases q
    obtain ⟨ob, _, _, h1, h2, _⟩ := dd
    exact ⟨ob, h1, h2.2.1⟩
  · obtain ⟨_, hd, xs, _, dd⟩ := dt_rd I.hok e
    refine ⟨dd.typeIs, fun b q => ?_, hd⟩
    cases q
    obtain ⟨ob, _, _, h1, h2, _⟩ := dd
    exact ⟨ob, h1, h2.2.1⟩

section
variable {X : Cx} {pins : List (Addr × Obj)} {σ : St} {H : Hp} {s : Shared} {a : Addr} {y d : V} {u r : Value} {o : Option V} {A : Around} {E : Value → Shared → Prop}
/-- d.get(y, x) -/
theorem d_get2 {Q : Value → Shared → Prop} (hu : A.units + 1 < cLine) (I : Inv X pins σ H s) (g : DGet H a y o) (ry : RelV y u) (rd : RelV d r) (h : ∀ w' s', Inv X pins σ H s' → RelV (o.getD d) w' → Q w' s') :
    wpAny (model X.prog X.w) A (call (.builtin "dict.get") [.ref a, u, r]) Q E s := by
  rcases g with ⟨kvs, k, e, ey, l⟩ | ⟨kvs, k, b, e, ey, eb, l⟩
  · subst ey
    obtain ⟨z, hd, vs, rel, dd⟩ := dk_rd I.hok e
    refine call_meetsIn PySem.F.slot_dict_get dd.typeIs PySem.F.entry_dict_get (PySem.F.args_dict_get_3 _ _ _) (meets_dict_get_default (mixKind X.prog X.w) a (kV_is ry) hd r) ⟨_, dd.mapOf, h _ _ (I.tok _) ?_⟩
    rw [l]
    exact (rel.val k).getD rd
  · subst ey
    cases (show u = Value.ref b from ry)
    obtain ⟨z, hd, xs, rel, dd⟩ := dt_rd I.hok e
    refine call_meetsIn PySem.F.slot_dict_get dd.typeIs PySem.F.entry_dict_get (PySem.F.args_dict_get_3 _ _ _) (meetsH_dict_get_default (tupleKind (mixKind X.prog X.w)) a b hd r) ⟨tupleKind_room_in1 hu, k, xs, key_of I.hok eb, dd, h _ _ (I.tok _) ?_⟩
    rw [l]
    exact (rel.val k).getD rd
end

def tDGet1 (td ty : TE) : TE := fun σ H Q => td σ H fun x H1 => ∃ a, x = .ref a ∧ IsD H1 a ∧ ty σ H1 fun y H2 => ∃ o, DGet H2 a y o ∧ Q (o.getD .non) H2
def tDGet2 (td ty tx : TE) : TE := fun σ H Q => td σ H fun x H1 => ∃ a, x = .ref a ∧ IsD H1 a ∧ ty σ H1 fun y H2 => tx σ H2 fun z H3 => ∃ o, DGet H3 a y o ∧ Q (o.getD z) H3
/-- d.pop(k): there; d.pop(k, x): there or not -/
def tDPop1 (td ty : TE) : TE := fun σ H Q => td σ H fun x H1 => ∃ a, x = .ref a ∧ IsD H1 a ∧ ty σ H1 fun y H2 => ∃ kvs k v, H2 a = some (.dK kvs) ∧ y = kV k ∧ valV kvs k = some v ∧ Q v (upd H2 a (.dK (dropK kvs k)))
def tDPop2 (td ty tx : TE) : TE := fun σ H Q => td σ H fun x H1 => ∃ a, x = .ref a ∧ IsD H1 a ∧ ty σ H1 fun y H2 => tx σ H2 fun z H3 => ∃ kvs k, H3 a = some (.dK kvs) ∧ y = kV k ∧
  (∀ v, valV kvs k = some v → Q v (upd H3 a (.dK (dropK kvs k)))) ∧ (valV kvs k = none → Q z H3)
section
variable {X : Cx} {o e f : Expr} {apos cpos : Pos} {td ty tx : TE}
theorem pe_dget2 (hu : X.A.units + 1 < cLine) (ho : PE X o td) (he : PE X e ty) (hf : PE X f tx) (m : M2 X o "get" apos e f cpos) : PE X (.Call (.Attribute o "get" apos) [e, f] [] cpos) (tDGet2 td ty tx) := by
  intro pins s σ H Q I h
  refine wpAny_Call_method m.base m.few m.line PySem.F.plainAttrs_dict PySem.F.slot_dict_get PySem.F.type_dict_get (thn (ho pins s σ H _ I h) fun u s1 hpat => ?_)
  obtain ⟨x, H1, I1, rx, a, ex, d, q1⟩ := hpat
  subst ex
  obtain rfl : u = Value.ref a := rx
  obtain ⟨t1, t2, _⟩ := isD_at I1 d
  refine ⟨t1, t2, ?_⟩
  rw [m.trees]
  refine Calls.callWith_builtin rfl (Calls.evalArgs_plain (Calls.spliced_cons (thn (he pins s1 σ H1 _ I1 q1) fun iv s2 ⟨y, H2, I2, ry, q2⟩ =>
    Calls.spliced_cons (thn (hf pins s2 σ H2 _ I2 q2) fun fv s3 ⟨z, H3, I3, rz, ov, g, q3⟩ => Calls.spliced_nil ?_))))
  exact d_get2 hu I3 g ry rz fun w' s4 I4 rw' => ⟨_, H3, I4, rw', q3⟩
end

/-! ### dict(d): a copy -/
section
variable {X : Cx} {pins : List (Addr × Obj)} {σ : St} {H : Hp} {s : Shared} {a : Addr} {kvs : List (Key × V)} {A : Around} {E : Value → Shared → Prop}
end


section
variable {X : Cx} {pins : List (Addr × Obj)} {σ : St} {H : Hp} {s : Shared} {a : Addr} {y : V} {u : Value} {A : Around} {E : Value → Shared → Prop}
end
end L2

/-! ### in a comprehension's block whose names are any list; dicts as structures; a tuple in a list of tuples -/
namespace L2
open PySem PySem.Spec PyProof.Rows
theorem bb_any : bootBuiltins "any" = some (.builtin "any") := by decide +kernel
section
variable {X : Cx} {y m : Str} {N' : List Str} {scope : Scope} {cl : List (Str × Addr)} {fp : List Addr} {s3 : Shared} {H3 : Hp} {C D : Addr} {sp : Sp}
theorem CalI.lg (B : CalI X y sp) (h : scope.names.lookup y = some .globalImplicit) : Cal (lcCx X N' scope cl fp s3 H3 C) y sp := ⟨B.ex, relabel_keep (by decide) h, B.db⟩
end
/-- two tuples of flat things -/
def teq (zs xs : List V) : Bool := (List.range (min zs.length xs.length)).all (fun i => eqV (zs.getD i .non) (xs.getD i .non)) && zs.length == xs.length
def inT (H : Hp) (xs : List V) (v : V) : Bool := match v with
  | .ref c => match H c with
    | some (.tup zs) => teq zs xs
    | _ => false
  | _ => false
inductive InTP (K : PySem.W.Frag) (x y : V) (H : Hp) (Q : VK) : Prop
  | mk (a b : Addr) (xs ys : List V) (hx : x = .ref a) (hy : y = .ref b) (s : H a = some (.tup xs)) (t : SqL K H b ys) (f : xs.all flatV = true) (g : ∀ v ∈ ys, ∃ c zs, v = .ref c ∧ H c = some (.tup zs) ∧ zs.all flatV = true) (q : Q (.bl (ys.any (inT H xs))) H)
def inU (H : Hp) (xs : List V) (u : Value) : Bool := match u with
  | .ref c => inT H xs (.ref c)
  | _ => false
end L2
namespace J
open PySem PySem.Spec PyProof.Rows
open L2 (Cx V Hp St VK TE TT TA TS TG TGs TI TO SqL SqT)
section
variable {X : Cx} {N' : List Str} {scope : Scope} {cl : List (Str × Addr)} {fp : List Addr} {s3 : Shared} {H3 : Hp} {C : Addr} {o i e value : Expr} {es : List Expr} {pos pos' : Pos} {td ty tv : TE}
theorem ix_listG : JX (L2.lcCx X N' scope cl fp s3 H3 C) (L2.rIxL X.K) := ⟨L2.ix_list⟩
theorem ix_tupG : JX (L2.lcCx X N' scope cl fp s3 H3 C) (L2.rIxT X.K) := ⟨L2.ix_tup⟩
theorem pg_tupG {k n : Nat} {u : TGs} (hc : X.calm = true) (h : JGs (L2.lcCx X N' scope cl fp s3 H3 C) es u) (hn : (assignEach es (L2.lcCx X N' scope cl fp s3 H3 C).env).length = n := by rfl) (hst : (assignEach es (L2.lcCx X N' scope cl fp s3 H3 C).env).findIdx? (·.1) = none := by rfl) :
    JG (L2.lcCx X N' scope cl fp s3 H3 C) (.Tuple es k pos) (L2.gTup X.K n u) := ⟨L2.pg_tup (X := L2.lcCx X N' scope cl fp s3 H3 C) hc h.out hn hst⟩
theorem dget (hu : X.A.units + 1 < cLine) (ho : JE X o td) (hi : JE X i ty) (hs : PlainIx i) : JE X (.Subscript o i pos) (L2.tDGet td ty) := ⟨L2.pe_dget hu ho.out hi.out (fun ov iv => hs.out ov iv)⟩
theorem pt_dnotin (hu : X.A.units + 1 < cLine) (hi : JE X i ty) (ho : JE X o td) (hm : behindInMarks .NotIn o = false := by rfl) : JT X (.Compare i [.NotIn] [o] pos) (L2.tB (L2.tDNotIn ty td)) := ⟨L2.pt_cmp (L2.pc_dnotin hu hi.out ho.out) hm⟩
theorem dput (hu : X.A.units + 1 < cLine) (ho : JE X o td) (hi : JE X i ty) (hv : JE X value tv) (h : L2.isComp value = false := by rfl) : JS X (.Assign [.Subscript o i pos'] value pos) (L2.sDPut td ty tv) := ⟨L2.ps_dput hu ho.out hi.out hv.out (L2.swaps_no h)⟩
end
end J

/-! ### tuple == tuple of any lengths; text * int; d.get; while -/
namespace L2
open PySem PySem.Spec PyProof.Rows
section
variable {X : Cx}
inductive EqTTP (x y : V) (H : Hp) (Q : VK) : Prop
  | mk (a b : Addr) (xs ys : List V) (hx : x = .ref a) (hy : y = .ref b) (s : H a = some (.tup xs)) (t : H b = some (.tup ys)) (f : xs.all flatV = true) (g : ys.all flatV = true) (q : Q (.bl (teq xs ys)) H)
inductive RepSP (x y : V) (H : Hp) (Q : VK) : Prop
  | mk (z : Str) (n : Int) (hx : x = .str z) (hy : y = .int n) (n01 : n = 0 ∨ n = 1) (q : Q (.str (Txt.mul z n)) H)
end
end L2
namespace J
open PySem PySem.Spec PyProof.Rows
open L2 (Cx V Hp St VK TE TT TA TS TG TGs TI TO)
section
variable {X : Cx} {o e f c : Expr} {body : List Stmt} {apos cpos pos : Pos} {td ty tx : TE} {tc : TT} {tb : TS}
theorem few2 {env : Env} (h1 : L2.notStar e = true) (h2 : L2.notStar f = true) : backTo cpos (starEach [e, f] env) = [(false, eval e env), (false, eval f env)] := by
  rw [L2.star_plain h1, L2.star_plain h2]
  rfl
end
end J

/-! ### sorted of texts; list != list; dict(list of pairs); list(reversed(l)) -/
namespace L2
open PySem PySem.Spec PyProof.Rows
section
variable {X : Cx}
theorem vals_strs : ∀ {us : List Value} {zs : List Str}, StrsAre us zs → Vals (zs.map V.str) us
  | _, _, .nil => .nil
  | _, _, .cons _ _ r => .cons ⟨_, rfl⟩ (vals_strs r)
inductive SrtP (K : PySem.W.Frag) (xs : List V) (H : Hp) (Q : VK) : Prop
  | mk (p : Addr) (zs : List Str) (e : xs = [.ref p]) (s : SqL K H p (zs.map V.str)) (l : zs.length < 64) (q : ∀ l zs', H l = none → zs'.Perm zs → sortedS zs' = true → Q (.ref l) (upd H l (.lst (zs'.map V.str))))
/-- list != list, of the same length -/
inductive NeLP (K : PySem.W.Frag) (x y : V) (H : Hp) (Q : VK) : Prop
  | same (a b : Addr) (xs ys : List V) (bs : List Bool) (hx : x = .ref a) (hy : y = .ref b) (s : SqL K H a xs) (t : SqL K H b ys) (l1 : xs.length = bs.length) (l2 : ys.length = bs.length) (e : ∀ (i : Nat) u v c, xs[i]? = some u → ys[i]? = some v → bs[i]? = some c → sameV u v = some c) (q : Q (.bl (!(eqL bs))) H)
  | other (a b : Addr) (xs ys : List V) (hx : x = .ref a) (hy : y = .ref b) (s : SqL K H a xs) (t : SqL K H b ys) (n : xs.length ≠ ys.length) (q : Q (.bl true) H)
/-! #### dict(list of pairs) -/
end
section
variable {prog : Program} {w : World} {A : Around} {E : Value → Shared → Prop} {s : Shared}
end
section
variable {prog : Program} {w : World} {A : Around} {R : Result → Shared → Prop} {I : Addr} {fp wr : List Addr} {G : Array GenState → Array GenState → Prop} {n : Nat} {P : Nat → Value → Prop} {St : Nat → Shared → Prop}
end
section
variable {prog : Program} {w : World} {A : Around} {E : Value → Shared → Prop} {s : Shared}
end
section
variable {X : Cx}
/-- dict(list of pairs), the firsts ints and texts -/
inductive DctP (K : PySem.W.Frag) (vs : List V) (H : Hp) (Q : VK) : Prop
  | mk (p : Addr) (xs : List V) (kvs : List (Key × V)) (e : vs = [.ref p]) (s : SqL K H p xs) (l : xs.length = kvs.length) (t : ∀ (i : Nat) x kv, xs[i]? = some x → kvs[i]? = some kv → ∃ a, x = .ref a ∧ H a = some (.tup [kV kv.1, kv.2])) (q : ∀ d, H d = none → Q (.ref d) (upd H d (.dK (mergeK [] kvs))))
end
/-! #### list(reversed(l)) -/
section
variable {prog : Program} {w : World} {A : Around} {E : Value → Shared → Prop} {s : Shared}
end
section
variable {X : Cx}
inductive LRevP (K : PySem.W.Frag) (vs : List V) (H : Hp) (Q : VK) : Prop
  | mk (p : Addr) (xs : List V) (e : vs = [.ref p]) (s : SqL K H p xs) (q : ∀ l, H l = none → Q (.ref l) (upd H l (.lst xs.reverse)))
def tLRev (K : PySem.W.Frag) (ta : TA) : TE := fun σ H Q => ta σ H fun vs H1 => LRevP K vs H1 Q
theorem bb_sorted : bootBuiltins "sorted" = some (.builtin "sorted") := by decide +kernel
end
end L2
namespace J
open PySem PySem.Spec PyProof.Rows
open L2 (Cx V SqL SqT)
end J

/-! ### list == list; a tuple not in a list; x is not b; l[::-1]; dict(list of pairs) with tuples as keys; k in d as a value; a dict written out -/
namespace L2
open PySem PySem.Spec PyProof.Rows
section
variable {X : Cx}
inductive EqLP (K : PySem.W.Frag) (x y : V) (H : Hp) (Q : VK) : Prop
  | same (a b : Addr) (xs ys : List V) (bs : List Bool) (hx : x = .ref a) (hy : y = .ref b) (s : SqL K H a xs) (t : SqL K H b ys) (l1 : xs.length = bs.length) (l2 : ys.length = bs.length) (e : ∀ (i : Nat) u v c, xs[i]? = some u → ys[i]? = some v → bs[i]? = some c → sameV u v = some c) (q : Q (.bl (eqL bs)) H)
  | other (a b : Addr) (xs ys : List V) (hx : x = .ref a) (hy : y = .ref b) (s : SqL K H a xs) (t : SqL K H b ys) (n : xs.length ≠ ys.length) (q : Q (.bl false) H)
inductive NinTP (K : PySem.W.Frag) (x y : V) (H : Hp) (Q : VK) : Prop
  | mk (a b : Addr) (xs ys : List V) (hx : x = .ref a) (hy : y = .ref b) (s : H a = some (.tup xs)) (t : SqL K H b ys) (f : xs.all flatV = true) (g : ∀ v ∈ ys, ∃ c zs, v = .ref c ∧ H c = some (.tup zs) ∧ zs.all flatV = true) (q : Q (.bl (!(ys.any (inT H xs)))) H)
inductive SlRevP (K : PySem.W.Frag) (x : V) (st : Option Int) (H : Hp) (Q : VK) : Prop
  | mk (a : Addr) (xs : List V) (hx : x = .ref a) (hst : st = some (-1)) (s : SqL K H a xs) (q : ∀ p ys, H p = none → ys.length ≤ xs.length → (∀ v ∈ ys, v ∈ xs) → Q (.ref p) (upd H p (.lst ys)))
def tSlRev (K : PySem.W.Frag) (te : TE) (ts : TO) : TE := fun σ H Q => te σ H fun x H1 => ts σ H1 fun st H2 => SlRevP K x st H2 Q
theorem pe_din {e d : Expr} {ty td : TE} {pos : Pos} (hu : X.A.units + 1 < cLine) (hi : PE X e ty) (ho : PE X d td) (hm : behindInMarks .In d = false := by rfl) : PE X (.Compare e [.In] [d] pos) (tDIn ty td) := pe_cmp (pc_din hu hi ho) hm
end
/-! #### dict(list of pairs), the firsts tuples -/
section
variable {prog : Program} {w : World} {A : Around} {R : Result → Shared → Prop} {I : Addr} {fp wr : List Addr} {G : Array GenState → Array GenState → Prop} {n : Nat} {P : Nat → Value → Prop} {St : Nat → Shared → Prop}
def mergedH (xs ps : List (List Key × Addr × Value)) : List (List Key × Addr × Value) := ps.foldl (fun acc q => storedH acc q.1 q.2.1 q.2.2) xs
end
section
variable {prog : Program} {w : World} {A : Around} {E : Value → Shared → Prop} {s : Shared}
end
def mergeT (kvs more : List (List Key × V)) : List (List Key × V) := more.foldl (fun acc kv => putK acc kv.1 kv.2) kvs
section
variable {X : Cx}
inductive DctTP (K : PySem.W.Frag) (vs : List V) (H : Hp) (Q : VK) : Prop
  | mk (p : Addr) (xs : List V) (kvs : List (List Key × V)) (e : vs = [.ref p]) (s : SqL K H p xs) (l : xs.length = kvs.length) (t : ∀ (i : Nat) x kv, xs[i]? = some x → kvs[i]? = some kv → ∃ a b, x = .ref a ∧ H a = some (.tup [.ref b, kv.2]) ∧ H b = some (.tup (kv.1.map kV))) (q : ∀ d, H d = none → Q (.ref d) (upd H d (.dT (mergeT [] kvs))))
theorem hu2_of {A : Around} {k : Nat} (hr : Room k A) : A.units + 2 < cLine := by
  have := hr.un
  omega
end
end L2
namespace J
open PySem PySem.Spec PyProof.Rows
open L2 (Cx V Hp St VK TE TT TA TS TG TGs TI TO SqL SqT)
section
variable {X : Cx} {e d st : Expr} {ty td te : TE} {ts : TO} {pos p2 : Pos}
theorem get2 {o f : Expr} {apos cpos : Pos} {tx : TE} (hu : X.A.units + 1 < cLine) (ho : JE X o td) (he : JE X e ty) (hf : JE X f tx) (h : plainO o = true := by rfl) (h1 : L2.notStar e = true := by rfl) (h2 : L2.notStar f = true := by rfl) (hline : (apos.endLine == cpos.line) = true := by rfl) : JE X (.Call (.Attribute o "get" apos) [e, f] [] cpos) (L2.tDGet2 td ty tx) :=
  ⟨L2.pe_dget2 hu ho.out he.out hf.out ⟨plainO_base h, by rw [few2 h1 h2]; rfl, hline, few2 h1 h2⟩⟩
theorem pe_din (hu : X.A.units + 1 < cLine) (hi : JE X e ty) (ho : JE X d td) (hm : behindInMarks .In d = false := by rfl) : JE X (.Compare e [.In] [d] pos) (L2.tDIn ty td) := ⟨L2.pe_din hu hi.out ho.out hm⟩
end
end J

/-! ### sorted: runs, gallops and merges, for lists of any length -/
namespace TS
open PySem PyProof.Rows
def gallop' : Bool → Keyed → Array Keyed → Nat → Nat → Nat → StateT SortSt Sem (Option Nat) := sortPriv% PySem.Builtin.gallop
def key (κ : KeyKind) (p : Keyed) : κ.α := (κ.keyOf p.1).getD κ.dflt
def Kyd (κ : KeyKind) (p : Keyed) : Prop := ∃ a, κ.keyOf p.1 = some a
/-- how two keys are compared, at a heap -/
def LtOk (prog : Program) (w : World) (A : Around) (E : Value → Shared → Prop) (s : Shared) (κ : KeyKind) (kd : SortKind) : Prop :=
  ∀ (x y : Keyed) (st : SortSt) (Q : Option Bool → SortSt → Prop), kindOf st = kd → Kyd κ x → Kyd κ y → Q (some (κ.blt (key κ x) (key κ y))) st → wpS (model prog w) A E s (lt' x y) Q st
section
variable {prog : Program} {w : World} {A : Around} {E : Value → Shared → Prop} {s : Shared} {κ : KeyKind} {kd : SortKind}
theorem wpS_elem {arr : Array Keyed} {i : Nat} {x : Keyed} {st : SortSt} {Q : Keyed → SortSt → Prop} (h : arr[i]? = some x) (q : Q x st) : wpS (model prog w) A E s (elem' arr i) Q st := by
  rw [elem'_eq, h]
  exact wpS_pure q
def byd (κ : KeyKind) (left : Bool) (k x : Keyed) : Bool := if left then κ.blt (key κ x) (key κ k) else !(κ.blt (key κ k) (key κ x))
theorem wpS_byd (hL : LtOk prog w A E s κ kd) {left : Bool} {k x : Keyed} {arr : Array Keyed} {i : Nat} {st : SortSt} {Q : Option Bool → SortSt → Prop} (hk : kindOf st = kd) (kk : Kyd κ k) (hx : arr[i]? = some x) (kx : Kyd κ x) (q : Q (some (byd κ left k x)) st) :
    wpS (model prog w) A E s (elem' arr i >>= fun x => if left = true then lt' x k else lt' k x >>= fun r => pure (Option.map (fun y => !y) r)) Q st := by
  refine wpS_bind (wpS_elem hx ?_)
  cases left with
  | true =>
    rw [if_pos rfl]
    exact hL x k st Q hk kx kk q
  | false =>
    rw [if_neg Bool.false_ne_true]
    exact wpS_bind (hL k x st _ hk kk kx (wpS_pure q))
theorem wpS_gallop (hL : LtOk prog w A E s κ kd) {left : Bool} {k : Keyed} {arr : Array Keyed} {base n hint : Nat} {st : SortSt} {Q : Option Nat → SortSt → Prop} (hk : kindOf st = kd) (kk : Kyd κ k) (f : Nat → Bool) (hf : ∀ i, i < n → ∃ x, arr[base + i]? = some x ∧ Kyd κ x ∧ byd κ left k x = f i) (mono : ∀ i j, i ≤ j → j < n → f j = true → f i = true) (hh : hint < n)
    (q : ∀ m, m ≤ n → (∀ i, i < m → f i = true) → (∀ i, m ≤ i → i < n → f i = false) → Q (some m) st) : wpS (model prog w) A E s (gallop' left k arr base n hint) Q st := by
  have beyond : ∀ {i : Nat} {R : Option Bool → SortSt → Prop}, i < n → R (some (f i)) st → wpS (model prog w) A E s (elem' arr (base + i) >>= fun x => if left = true then lt' x k else lt' k x >>= fun r => pure (Option.map (fun y => !y) r)) R st := fun {i R} hi hR => by
    obtain ⟨x, hx, kx, e⟩ := hf i hi
    exact wpS_byd hL hk kk hx kx (e ▸ hR)
  have up : ∀ i j, i ≤ j → j < n → f i = false → f j = false := fun i j h1 h2 h3 => by
    cases h : f j with
    | false => rfl
    | true => rw [mono i j h1 h2 h] at h3; cases h3
  refine wpS_bind (beyond hh ?_)
  dsimp only
  by_cases hr : f hint = true
  · rw [if_pos hr]
    refine wpS_bind (wpS_mono (wpS_forRange (I := fun x c st' => st' = st ∧ ∃ la o, c = (none, la, o) ∧ la < o ∧ x + 1 ≤ o ∧ hint + la < n ∧ f (hint + la) = true)
      (Q := fun c st' => st' = st ∧ ∃ la o, c = (none, la, o) ∧ la < o ∧ hint + la < n ∧ f (hint + la) = true ∧ (n - hint ≤ o ∨ (hint + o < n ∧ f (hint + o) = false))) ?step ?fin ⟨rfl, 0, 1, rfl, by omega, by omega, by omega, hr⟩) ?post)
    case step =>
      rintro x c st' _ hx ⟨rfl, la, o, rfl, h1, h2, h3, h4⟩
      dsimp only
      by_cases c1 : o ≥ n - hint
      · rw [if_pos c1]
        exact wpS_pure ⟨rfl, la, o, rfl, h1, h3, h4, .inl c1⟩
      · rw [if_neg c1]
        refine wpS_bind (beyond (by omega) ?_)
        dsimp only
        cases hm : f (hint + o) with
        | false => exact wpS_pure ⟨rfl, la, o, rfl, h1, h3, h4, .inr ⟨by omega, hm⟩⟩
        | true => exact wpS_pure ⟨rfl, o, 2 * o + 1, rfl, by omega, by omega, by omega, hm⟩
    case fin =>
      rintro c st' ⟨rfl, la, o, rfl, h1, h2, h3, h4⟩
      exact ⟨rfl, la, o, rfl, h1, h3, h4, .inl (by omega)⟩
    case post =>
      rintro c st' ⟨e0, la, o, rfl, h1, h3, h4, h5⟩
      rw [e0]; clear e0 st'
      dsimp only
      have d : ∀ i, hint + min o (n - hint) ≤ i → i < n → f i = false := fun i i1 i2 => by
        rcases h5 with h5 | ⟨h5, h6⟩
        · omega
        · exact up _ i (by omega) i2 h6
      refine wpS_bind (wpS_mono (wpS_forRange (I := fun x c st'' => st'' = st ∧ ∃ lo hi, c = (none, lo, hi) ∧ lo ≤ hi ∧ hi ≤ n ∧ hi - lo ≤ n - x ∧ (∀ i, i < lo → f i = true) ∧ (∀ i, hi ≤ i → i < n → f i = false))
        (Q := fun c st'' => st'' = st ∧ ∃ hi, c = (none, hi, hi) ∧ hi ≤ n ∧ (∀ i, i < hi → f i = true) ∧ (∀ i, hi ≤ i → i < n → f i = false)) ?sstep ?sfin ⟨rfl, _, _, rfl, (by omega), (by omega), by omega, (fun i hi => mono i _ (by omega) h3 h4), d⟩) ?spost)
      case sstep =>
        rintro x c st'' _ hx ⟨rfl, lo, hi, rfl, g1, g2, g3, g4, g5⟩
        dsimp only
        by_cases c1 : lo ≥ hi
        · rw [if_pos c1]
          have e : lo = hi := by omega
          subst e
          exact wpS_pure ⟨rfl, lo, rfl, g2, g4, g5⟩
        · rw [if_neg c1]
          refine wpS_bind (beyond (by omega) ?_)
          dsimp only
          cases hm : f (lo + (hi - lo) / 2) with
          | true => exact wpS_pure ⟨rfl, _, _, rfl, by omega, by omega, by omega, fun i hi' => mono i _ (by omega) (by omega) hm, g5⟩
          | false => exact wpS_pure ⟨rfl, _, _, rfl, by omega, by omega, by omega, g4, fun i h1 h2 => up _ i h1 h2 hm⟩
      case sfin =>
        rintro c st'' ⟨rfl, lo, hi, rfl, g1, g2, g3, g4, g5⟩
        have e : lo = hi := by omega
        subst e
        exact ⟨rfl, lo, rfl, g2, g4, g5⟩
      case spost =>
        rintro c st'' ⟨rfl, hi, rfl, g2, g4, g5⟩
        exact wpS_pure (q hi g2 g4 g5)
  · rw [if_neg hr]
    have hr' : f hint = false := eq_false_of_ne_true hr
    refine wpS_bind (wpS_mono (wpS_forRange (I := fun x c st' => st' = st ∧ ∃ la o, c = (none, la, o) ∧ la < o ∧ x + 1 ≤ o ∧ la ≤ hint ∧ f (hint - la) = false)
      (Q := fun c st' => st' = st ∧ ∃ la o, c = (none, la, o) ∧ la < o ∧ la ≤ hint ∧ f (hint - la) = false ∧ (hint + 1 ≤ o ∨ (o ≤ hint ∧ f (hint - o) = true))) ?step ?fin ⟨rfl, 0, 1, rfl, by omega, by omega, by omega, hr'⟩) ?post)
    case step =>
      rintro x c st' _ hx ⟨rfl, la, o, rfl, h1, h2, h3, h4⟩
      dsimp only
      by_cases c1 : o ≥ hint + 1
      · rw [if_pos c1]
        exact wpS_pure ⟨rfl, la, o, rfl, h1, h3, h4, .inl c1⟩
      · rw [if_neg c1]
        refine wpS_bind (beyond (by omega) ?_)
        dsimp only
        cases hm : f (hint - o) with
        | true => exact wpS_pure ⟨rfl, la, o, rfl, h1, h3, h4, .inr ⟨by omega, hm⟩⟩
        | false => exact wpS_pure ⟨rfl, o, 2 * o + 1, rfl, by omega, by omega, by omega, hm⟩
    case fin =>
      rintro c st' ⟨rfl, la, o, rfl, h1, h2, h3, h4⟩
      exact ⟨rfl, la, o, rfl, h1, h3, h4, .inl (by omega)⟩
    case post =>
      rintro c st' ⟨e0, la, o, rfl, h1, h3, h4, h5⟩
      rw [e0]; clear e0 st'
      dsimp only
      have d : ∀ i, i < hint + 1 - min o (hint + 1) → f i = true := fun i i1 => by
        rcases h5 with h5 | ⟨h5, h6⟩
        · omega
        · exact mono i _ (by omega) (by omega) h6
      refine wpS_bind (wpS_mono (wpS_forRange (I := fun x c st'' => st'' = st ∧ ∃ lo hi, c = (none, lo, hi) ∧ lo ≤ hi ∧ hi ≤ n ∧ hi - lo ≤ n - x ∧ (∀ i, i < lo → f i = true) ∧ (∀ i, hi ≤ i → i < n → f i = false))
        (Q := fun c st'' => st'' = st ∧ ∃ hi, c = (none, hi, hi) ∧ hi ≤ n ∧ (∀ i, i < hi → f i = true) ∧ (∀ i, hi ≤ i → i < n → f i = false)) ?sstep ?sfin ⟨rfl, _, _, rfl, (by omega), (by omega), by omega, d, (fun i i1 i2 => up _ i i1 i2 h4)⟩) ?spost)
      case sstep =>
        rintro x c st'' _ hx ⟨rfl, lo, hi, rfl, g1, g2, g3, g4, g5⟩
        dsimp only
        by_cases c1 : lo ≥ hi
        · rw [if_pos c1]
          have e : lo = hi := by omega
          subst e
          exact wpS_pure ⟨rfl, lo, rfl, g2, g4, g5⟩
        · rw [if_neg c1]
          refine wpS_bind (beyond (by omega) ?_)
          dsimp only
          cases hm : f (lo + (hi - lo) / 2) with
          | true => exact wpS_pure ⟨rfl, _, _, rfl, by omega, by omega, by omega, fun i hi' => mono i _ (by omega) (by omega) hm, g5⟩
          | false => exact wpS_pure ⟨rfl, _, _, rfl, by omega, by omega, by omega, g4, fun i h1 h2 => up _ i h1 h2 hm⟩
      case sfin =>
        rintro c st'' ⟨rfl, lo, hi, rfl, g1, g2, g3, g4, g5⟩
        have e : lo = hi := by omega
        subst e
        exact ⟨rfl, lo, rfl, g2, g4, g5⟩
      case spost =>
        rintro c st'' ⟨rfl, hi, rfl, g2, g4, g5⟩
        exact wpS_pure (q hi g2 g4 g5)
end
end TS

namespace TS
open PySem PyProof.Rows
variable {κ : KeyKind}
/-! ### what a merge keeps: the order, and for each key the items in their order -/
def Srt (κ : KeyKind) (l : List Keyed) : Prop := l.Pairwise fun x y => κ.kle (key κ x) (key κ y)
def eqk (κ : KeyKind) (v : κ.α) (p : Keyed) : Bool := !κ.blt (key κ p) v && !κ.blt v (key κ p)
def fk (κ : KeyKind) (v : κ.α) (l : List Keyed) : List Keyed := l.filter (eqk κ v)
def Below (κ : KeyKind) (l m : List Keyed) : Prop := ∀ x ∈ l, ∀ y ∈ m, κ.kle (key κ x) (key κ y)
def Under (κ : KeyKind) (l m : List Keyed) : Prop := ∀ x ∈ l, ∀ y ∈ m, κ.klt (key κ x) (key κ y)
def Stab (κ : KeyKind) (l m : List Keyed) : Prop := ∀ v, fk κ v l = fk κ v m
theorem Under.below {l m : List Keyed} (h : Under κ l m) : Below κ l m := fun x hx y hy => KeyOrd.kle_of_klt (h x hx y hy)
theorem fk_append (v : κ.α) (l m : List Keyed) : fk κ v (l ++ m) = fk κ v l ++ fk κ v m := List.filter_append ..
theorem eqk_self (p : Keyed) : eqk κ (key κ p) p = true := by
  unfold eqk
  rw [κ.irrefl]
  rfl
theorem eqk_eq {v : κ.α} {p : Keyed} (h : eqk κ v p = true) : key κ p = v := by
  unfold eqk at h
  rw [Bool.and_eq_true, Bool.not_eq_true', Bool.not_eq_true'] at h
  exact κ.total _ _ h.1 h.2
theorem Stab.refl (l : List Keyed) : Stab κ l l := fun _ => rfl
theorem Stab.trans {l m n : List Keyed} (h : Stab κ l m) (h' : Stab κ m n) : Stab κ l n := fun v => (h v).trans (h' v)
theorem Stab.append {l m l' m' : List Keyed} (h : Stab κ l l') (h' : Stab κ m m') : Stab κ (l ++ m) (l' ++ m') := fun v => by
  rw [fk_append, fk_append, h v, h' v]
theorem Stab.perm {l m : List Keyed} (h : Stab κ l m) : l.Perm m := by
  classical
  refine List.perm_iff_count.mpr fun x => ?_
  have e := congrArg (List.count x) (h (key κ x))
  unfold fk at e
  rwa [List.count_filter (eqk_self x), List.count_filter (eqk_self x)] at e
theorem Stab.mem {l m : List Keyed} (h : Stab κ l m) {x : Keyed} : x ∈ l ↔ x ∈ m := h.perm.mem_iff
theorem Stab.swap {l m : List Keyed} (h : Under κ l m) : Stab κ (l ++ m) (m ++ l) := fun v => by
  rw [fk_append, fk_append]
  by_cases e : fk κ v l = []
  · rw [e, List.append_nil, List.nil_append]
  · obtain ⟨x, hx⟩ := List.exists_mem_of_ne_nil _ e
    obtain ⟨x1, x2⟩ := List.mem_filter.mp hx
    have e2 : fk κ v m = [] := List.eq_nil_iff_forall_not_mem.mpr fun y hy => by
      obtain ⟨y1, y2⟩ := List.mem_filter.mp hy
      have := h x x1 y y1
      rw [eqk_eq x2, eqk_eq y2] at this
      unfold KeyOrd.klt at this
      rw [κ.irrefl] at this
      cases this
    rw [e2, List.append_nil, List.nil_append]
theorem Srt.append {l m : List Keyed} (h : Srt κ l) (h' : Srt κ m) (b : Below κ l m) : Srt κ (l ++ m) := List.pairwise_append.mpr ⟨h, h', b⟩
theorem Srt.left {l m : List Keyed} (h : Srt κ (l ++ m)) : Srt κ l := (List.pairwise_append.mp h).1
theorem Srt.right {l m : List Keyed} (h : Srt κ (l ++ m)) : Srt κ m := (List.pairwise_append.mp h).2.1
theorem Srt.mid {l m : List Keyed} (h : Srt κ (l ++ m)) : Below κ l m := (List.pairwise_append.mp h).2.2
theorem Srt.drop {l : List Keyed} (h : Srt κ l) (i : Nat) : Srt κ (l.drop i) := List.Pairwise.sublist (List.drop_sublist i l) h
theorem Below.append {l m n : List Keyed} (h : Below κ l n) (h' : Below κ m n) : Below κ (l ++ m) n := fun x hx => (List.mem_append.mp hx).elim (h x) (h' x)
theorem Below.left {l m n : List Keyed} (h : Below κ l (m ++ n)) : Below κ l m := fun x hx y hy => h x hx y (List.mem_append_left _ hy)
theorem Below.right {l m n : List Keyed} (h : Below κ l (m ++ n)) : Below κ l n := fun x hx y hy => h x hx y (List.mem_append_right _ hy)
theorem Below.nil {l : List Keyed} : Below κ l [] := fun _ _ _ h => by cases h
theorem drop_split (l : List Keyed) (i k : Nat) : l.drop i = (l.drop i).take k ++ l.drop (i + k) := by
  rw [← List.drop_drop, List.take_append_drop]
/-- a merge from the left: what is out, and what is left of each -/
structure MLo (κ : KeyKind) (al bl out : List Keyed) (ia ib : Nat) : Prop where
  so : Srt κ out
  oa : Below κ out (al.drop ia)
  ob : Below κ out (bl.drop ib)
  st : Stab κ (out ++ (al.drop ia ++ bl.drop ib)) (al ++ bl)
theorem MLo.runA {al bl out : List Keyed} {ia ib k : Nat} (sa : Srt κ al) (h : MLo κ al bl out ia ib) (b : Below κ ((al.drop ia).take k) (bl.drop ib)) : MLo κ al bl (out ++ (al.drop ia).take k) (ia + k) ib := by
  have e := drop_split al ia k
  have s := sa.drop ia
  have oa := h.oa
  have st := h.st
  rw [e] at s oa st
  refine ⟨h.so.append s.left oa.left, oa.right.append s.mid, h.ob.append b, ?_⟩
  rw [List.append_assoc, ← List.append_assoc _ (al.drop (ia + k))]
  exact st
theorem MLo.runB {al bl out : List Keyed} {ia ib k : Nat} (sb : Srt κ bl) (h : MLo κ al bl out ia ib) (b : Under κ ((bl.drop ib).take k) (al.drop ia)) : MLo κ al bl (out ++ (bl.drop ib).take k) ia (ib + k) := by
  have e := drop_split bl ib k
  have s := sb.drop ib
  have ob := h.ob
  have st := h.st
  rw [e] at s ob st
  refine ⟨h.so.append s.left ob.left, h.oa.append b.below, ob.right.append s.mid, ?_⟩
  refine Stab.trans ?_ st
  rw [List.append_assoc]
  refine (Stab.refl _).append ?_
  rw [← List.append_assoc, ← List.append_assoc]
  exact (Stab.swap b).append (Stab.refl _)
theorem MLo.done {al bl out : List Keyed} {ia ib : Nat} (sa : Srt κ al) (sb : Srt κ bl) (h : MLo κ al bl out ia ib) (e : al.drop ia = [] ∨ bl.drop ib = []) : Srt κ (out ++ al.drop ia ++ bl.drop ib) ∧ Stab κ (out ++ al.drop ia ++ bl.drop ib) (al ++ bl) := by
  refine ⟨?_, by rw [List.append_assoc]; exact h.st⟩
  rcases e with e | e
  · rw [e, List.append_nil]
    exact h.so.append (sb.drop ib) h.ob
  · rw [e, List.append_nil]
    exact h.so.append (sa.drop ia) h.oa
theorem MLo.last {al bl out : List Keyed} {ia ib : Nat} (sa : Srt κ al) (sb : Srt κ bl) (h : MLo κ al bl out ia ib) (u : Under κ (bl.drop ib) (al.drop ia)) : Srt κ (out ++ bl.drop ib ++ al.drop ia) ∧ Stab κ (out ++ bl.drop ib ++ al.drop ia) (al ++ bl) := by
  refine ⟨(h.so.append (sb.drop ib) h.ob).append (sa.drop ia) (h.oa.append u.below), Stab.trans ?_ h.st⟩
  rw [List.append_assoc]
  exact (Stab.refl _).append (Stab.swap u)
def mergeLo' : Array Keyed → Array Keyed → StateT SortSt Sem (Array Keyed) := sortPriv% PySem.Builtin.mergeLo
section
variable {prog : Program} {w : World} {A : Around} {E : Value → Shared → Prop} {s : Shared} {kd : SortKind}
structure Kept (st st' : SortSt) : Prop where
  kind : kindOf st' = kindOf st
  arr : arrOf st' = arrOf st
  pend : pendingOf st' = pendingOf st
  failed : failedOf st' = failedOf st
theorem Kept.refl (st : SortSt) : Kept st st := ⟨rfl, rfl, rfl, rfl⟩
theorem Kept.trans {a b c : SortSt} (h : Kept a b) (h' : Kept b c) : Kept a c := ⟨h'.kind.trans h.kind, h'.arr.trans h.arr, h'.pend.trans h.pend, h'.failed.trans h.failed⟩
def setMinGallop' : Nat → StateT SortSt Sem Unit := sortPriv% PySem.Builtin.setMinGallop
theorem wpS_setG {g : Nat} {st : SortSt} {Q : Unit → SortSt → Prop} (q : ∀ st', Kept st st' → Q () st') : wpS (model prog w) A E s (setMinGallop' g) Q st := by
  exact wpS_modify (q _ ⟨rfl, rfl, rfl, rfl⟩)
theorem mem_seg {l : List Keyed} {b m : Nat} {x : Keyed} : x ∈ (l.drop b).take m ↔ ∃ i, i < m ∧ l[b + i]? = some x := by
  constructor
  · intro h
    obtain ⟨i, hi⟩ := List.getElem?_of_mem h
    have hl := (List.getElem?_eq_some_iff.mp hi).1
    rw [List.length_take] at hl
    rw [List.getElem?_take_of_lt (by omega), List.getElem?_drop] at hi
    exact ⟨i, by omega, hi⟩
  · rintro ⟨i, h1, h2⟩
    refine List.mem_of_getElem? (i := i) ?_
    rw [List.getElem?_take_of_lt h1, List.getElem?_drop]
    exact h2
theorem Srt.at {l : List Keyed} {b n i j : Nat} {x y : Keyed} (h : Srt κ ((l.drop b).take n)) (ij : i ≤ j) (jn : j < n) (hx : l[b + i]? = some x) (hy : l[b + j]? = some y) : κ.kle (key κ x) (key κ y) := by
  by_cases e : i = j
  · subst e
    rw [hx] at hy
    cases hy
    exact KeyOrd.kle_refl _
  · have h1 : ((l.drop b).take n)[i]? = some x := by rw [List.getElem?_take_of_lt (by omega), List.getElem?_drop]; exact hx
    have h2 : ((l.drop b).take n)[j]? = some y := by rw [List.getElem?_take_of_lt jn, List.getElem?_drop]; exact hy
    obtain ⟨i1, e1⟩ := List.getElem?_eq_some_iff.mp h1
    obtain ⟨j1, e2⟩ := List.getElem?_eq_some_iff.mp h2
    have := List.pairwise_iff_getElem.mp h i j i1 j1 (by omega)
    rwa [e1, e2] at this
theorem wpS_gal (hL : LtOk prog w A E s κ kd) {left : Bool} {k : Keyed} {arr : Array Keyed} {base n hint : Nat} {st : SortSt} {Q : Option Nat → SortSt → Prop} (hk : kindOf st = kd) (kk : Kyd κ k) (ks : ∀ x ∈ arr.toList, Kyd κ x) (sz : base + n ≤ arr.size) (ss : Srt κ ((arr.toList.drop base).take n)) (hh : hint < n)
    (q : ∀ m, m ≤ n → (∀ x ∈ (arr.toList.drop base).take m, byd κ left k x = true) → (∀ x ∈ (arr.toList.drop (base + m)).take (n - m), byd κ left k x = false) → Q (some m) st) : wpS (model prog w) A E s (gallop' left k arr base n hint) Q st := by
  have ex : ∀ i, i < n → ∃ x, arr.toList[base + i]? = some x ∧ Kyd κ x := fun i hi => by
    have : base + i < arr.toList.length := by rw [Array.length_toList]; omega
    exact ⟨_, List.getElem?_eq_getElem this, ks _ (List.getElem_mem this)⟩
  refine wpS_gallop hL hk kk (fun i => match arr.toList[base + i]? with | some x => byd κ left k x | none => false) (fun i hi => ?_) (fun i j ij jn hj => ?_) hh fun m hm m1 m2 => q m hm (fun x hx => ?_) (fun x hx => ?_)
  · obtain ⟨x, hx, kx⟩ := ex i hi
    exact ⟨x, by rw [← hx, Array.getElem?_toList], kx, by rw [hx]⟩
  · obtain ⟨x, hx, kx⟩ := ex i (by omega)
    obtain ⟨y, hy, ky⟩ := ex j jn
    have le := ss.at ij jn hx hy
    rw [hy] at hj
    rw [hx]
    dsimp only at hj ⊢
    cases left with
    | true => exact KeyOrd.klt_of_kle_of_klt le (show κ.klt _ _ from hj)
    | false =>
      have hj' : κ.blt (key κ k) (key κ y) = false := by
        have : (!κ.blt (key κ k) (key κ y)) = true := hj
        rwa [Bool.not_eq_true'] at this
      have : κ.kle (key κ x) (key κ k) := KeyOrd.kle_trans le hj'
      show (!κ.blt (key κ k) (key κ x)) = true
      rw [Bool.not_eq_true']
      exact this
  · obtain ⟨i, hi, hx'⟩ := mem_seg.mp hx
    have := m1 i hi
    rwa [hx'] at this
  · obtain ⟨i, hi, hx'⟩ := mem_seg.mp hx
    rw [Nat.add_assoc] at hx'
    have := m2 (m + i) (by omega) (by omega)
    rwa [hx'] at this
theorem take_drop_all (l : List Keyed) (b : Nat) {n : Nat} (h : l.length - b ≤ n) : (l.drop b).take n = l.drop b := List.take_of_length_le (by rw [List.length_drop]; exact h)
theorem wpS_galR (hL : LtOk prog w A E s κ kd) {k : Keyed} {arr : Array Keyed} {base n hint : Nat} {st : SortSt} {Q : Option Nat → SortSt → Prop} (hk : kindOf st = kd) (kk : Kyd κ k) (ks : ∀ x ∈ arr.toList, Kyd κ x) (sz : base + n ≤ arr.size) (ss : Srt κ ((arr.toList.drop base).take n)) (hh : hint < n)
    (q : ∀ m, m ≤ n → Below κ ((arr.toList.drop base).take m) [k] → Under κ [k] ((arr.toList.drop (base + m)).take (n - m)) → Q (some m) st) : wpS (model prog w) A E s (gallop' false k arr base n hint) Q st :=
  wpS_gal hL hk kk ks sz ss hh fun m hm m1 m2 => q m hm (fun x hx y hy => by
    cases List.mem_singleton.mp hy
    have := m1 x hx
    unfold byd at this
    rw [if_neg Bool.false_ne_true, Bool.not_eq_true'] at this
    exact this) (fun y hy x hx => by
    cases List.mem_singleton.mp hy
    have := m2 x hx
    unfold byd at this
    rw [if_neg Bool.false_ne_true, Bool.not_eq_false'] at this
    exact this)
theorem wpS_galL (hL : LtOk prog w A E s κ kd) {k : Keyed} {arr : Array Keyed} {base n hint : Nat} {st : SortSt} {Q : Option Nat → SortSt → Prop} (hk : kindOf st = kd) (kk : Kyd κ k) (ks : ∀ x ∈ arr.toList, Kyd κ x) (sz : base + n ≤ arr.size) (ss : Srt κ ((arr.toList.drop base).take n)) (hh : hint < n)
    (q : ∀ m, m ≤ n → Under κ ((arr.toList.drop base).take m) [k] → Below κ [k] ((arr.toList.drop (base + m)).take (n - m)) → Q (some m) st) : wpS (model prog w) A E s (gallop' true k arr base n hint) Q st :=
  wpS_gal hL hk kk ks sz ss hh fun m hm m1 m2 => q m hm (fun x hx y hy => by
    cases List.mem_singleton.mp hy
    exact m1 x hx) (fun y hy x hx => by
    cases List.mem_singleton.mp hy
    exact m2 x hx)
def MRes (κ : KeyKind) (a b r : Array Keyed) : Prop := Srt κ r.toList ∧ Stab κ r.toList (a.toList ++ b.toList)
theorem ext_drop (a : Array Keyed) (i : Nat) : (a.extract i a.size).toList = a.toList.drop i := by
  rw [Array.toList_extract]
  exact take_drop_all _ _ (by rw [Array.length_toList]; exact Nat.le_refl _)
theorem ext_take (a : Array Keyed) (i k : Nat) : (a.extract i (i + k)).toList = (a.toList.drop i).take k := by
  rw [Array.toList_extract]
  show (a.toList.drop i).take (i + k - i) = _
  rw [Nat.add_sub_cancel_left]
theorem drop_at {a : Array Keyed} {i : Nat} {x : Keyed} (h : a[i]? = some x) : a.toList.drop i = x :: a.toList.drop (i + 1) := by
  rw [← Array.getElem?_toList] at h
  obtain ⟨h1, h2⟩ := List.getElem?_eq_some_iff.mp h
  rw [List.drop_eq_getElem_cons h1, h2]
theorem Srt.head {x : Keyed} {l : List Keyed} (h : Srt κ (x :: l)) : Below κ [x] (x :: l) := fun a ha b hb => by
  cases List.mem_singleton.mp ha
  rcases List.mem_cons.mp hb with rfl | hb
  · exact KeyOrd.kle_refl _
  · exact (List.pairwise_cons.mp h).1 b hb
theorem Under.over {k : Keyed} {l m : List Keyed} (h : Under κ l [k]) (b : Below κ [k] m) : Under κ l m := fun x hx y hy => KeyOrd.klt_of_klt_of_kle (h x hx k (List.mem_singleton_self _)) (b k (List.mem_singleton_self _) y hy)
theorem Below.over {k : Keyed} {l m : List Keyed} (h : Below κ l [k]) (b : Below κ [k] m) : Below κ l m := fun x hx y hy => KeyOrd.kle_trans (h x hx k (List.mem_singleton_self _)) (b k (List.mem_singleton_self _) y hy)
section
variable {a b out : Array Keyed} {ia ib : Nat} (sa : Srt κ a.toList) (sb : Srt κ b.toList)
include sa sb
theorem MLo.resD (h : MLo κ a.toList b.toList out.toList ia ib) (e : a.size ≤ ia ∨ b.size ≤ ib) : MRes κ a b (out ++ a.extract ia a.size ++ b.extract ib b.size) := by
  unfold MRes
  rw [Array.toList_append, Array.toList_append, ext_drop, ext_drop]
  exact h.done sa sb (e.imp (fun e => List.drop_eq_nil_of_le (by rw [Array.length_toList]; exact e)) (fun e => List.drop_eq_nil_of_le (by rw [Array.length_toList]; exact e)))
theorem MLo.resL (h : MLo κ a.toList b.toList out.toList ia ib) (u : Under κ (b.toList.drop ib) (a.toList.drop ia)) : MRes κ a b (out ++ b.extract ib b.size ++ a.extract ia a.size) := by
  unfold MRes
  rw [Array.toList_append, Array.toList_append, ext_drop, ext_drop]
  exact h.last sa sb u
omit sa in
theorem MLo.pushB {x : Keyed} (h : MLo κ a.toList b.toList out.toList ia ib) (hx : b[ib]? = some x) (u : Under κ [x] (a.toList.drop ia)) : MLo κ a.toList b.toList (out.push x).toList ia (ib + 1) := by
  rw [Array.toList_push]
  have e : (b.toList.drop ib).take 1 = [x] := by rw [drop_at hx]; rfl
  have := h.runB (k := 1) sb (by rw [e]; exact u)
  rwa [e] at this
omit sb in
theorem MLo.pushA {x : Keyed} (h : MLo κ a.toList b.toList out.toList ia ib) (hx : a[ia]? = some x) (u : Below κ [x] (b.toList.drop ib)) : MLo κ a.toList b.toList (out.push x).toList (ia + 1) ib := by
  rw [Array.toList_push]
  have e : (a.toList.drop ia).take 1 = [x] := by rw [drop_at hx]; rfl
  have := h.runA (k := 1) sa (by rw [e]; exact u)
  rwa [e] at this
end
/-- a merge's state: what is kept, what is out -/
structure LI (κ : KeyKind) (a b : Array Keyed) (st : SortSt) (out : Array Keyed) (ia ib t : Nat) (st' : SortSt) : Prop where
  kp : Kept st st'
  m : MLo κ a.toList b.toList out.toList ia ib
  la : ia + 1 < a.size
  lb : ib < b.size
  t : t ≤ ia + ib
theorem arr_at {a : Array Keyed} {i : Nat} (h : i < a.size) : ∃ x, a[i]? = some x ∧ x ∈ a.toList := ⟨_, getElem?_pos a i h, by simp⟩
theorem wpS_ite {α : Type} {c : Prop} [Decidable c] {m1 m2 : StateT SortSt Sem α} {Q : α → SortSt → Prop} {st : SortSt} (h1 : c → wpS (model prog w) A E s m1 Q st) (h2 : ¬ c → wpS (model prog w) A E s m2 Q st) : wpS (model prog w) A E s (if c then m1 else m2) Q st := by
  by_cases h : c
  · rw [if_pos h]
    exact h1 h
  · rw [if_neg h]
    exact h2 h
theorem MLo.extA {a b out : Array Keyed} {ia ib k : Nat} (sa : Srt κ a.toList) (h : MLo κ a.toList b.toList out.toList ia ib) (u : Below κ ((a.toList.drop ia).take k) (b.toList.drop ib)) : MLo κ a.toList b.toList (out ++ a.extract ia (ia + k)).toList (ia + k) ib := by
  rw [Array.toList_append, ext_take]
  exact h.runA sa u
theorem MLo.extB {a b out : Array Keyed} {ia ib k : Nat} (sb : Srt κ b.toList) (h : MLo κ a.toList b.toList out.toList ia ib) (u : Under κ ((b.toList.drop ib).take k) (a.toList.drop ia)) : MLo κ a.toList b.toList (out ++ b.extract ib (ib + k)).toList ia (ib + k) := by
  rw [Array.toList_append, ext_take]
  exact h.runB sb u
theorem all_rest (a : Array Keyed) {i m n : Nat} (h : a.size - i ≤ n) (hm : m ≤ n) : (a.toList.drop (i + m)).take (n - m) = a.toList.drop (i + m) := take_drop_all _ _ (by rw [Array.length_toList]; omega)
theorem wpS_mergeLo (hL : LtOk prog w A E s κ kd) {a b : Array Keyed} {st : SortSt} {Q : Array Keyed → SortSt → Prop} (hk : kindOf st = kd) (ka : ∀ x ∈ a.toList, Kyd κ x) (kb : ∀ x ∈ b.toList, Kyd κ x) (sa : Srt κ a.toList) (sb : Srt κ b.toList) (a1 : 1 ≤ a.size) (b1 : 1 ≤ b.size) (u1 : Under κ (b.toList.take 1) a.toList) (u2 : Under κ b.toList (a.toList.drop (a.size - 1)))
    (q : ∀ r st', Kept st st' → MRes κ a b r → Q r st') : wpS (model prog w) A E s (mergeLo' a b) Q st := by
  refine wpS_bind (wpS_lift (wpAny_rule ⟨rfl, ?_⟩))
  obtain ⟨b0, hb0, mb0⟩ := arr_at b1
  refine wpS_bind (wpS_elem hb0 ?_)
  have ub : ∀ ib, Under κ (b.toList.drop ib) (a.toList.drop (a.size - 1)) := fun ib x hx y hy => u2 x (List.mem_of_mem_drop hx) y hy
  have m0 : MLo κ a.toList b.toList (#[b0] : Array Keyed).toList 0 1 := by
    have h0 : MLo κ a.toList b.toList (#[] : Array Keyed).toList 0 0 := ⟨List.Pairwise.nil, (fun _ h => by cases h), (fun _ h => by cases h), Stab.refl _⟩
    refine h0.pushB sb hb0 ?_
    have e : b.toList.take 1 = [b0] := by
      have := drop_at hb0
      rw [List.drop_zero] at this
      rw [this]
      rfl
    rw [e] at u1
    exact u1
  by_cases c1 : (1 == b.size) = true
  · rw [if_pos c1]
    exact wpS_pure (q _ st (Kept.refl _) (m0.resD sa sb (.inr (by rw [beq_iff_eq] at c1; omega))))
  rw [if_neg c1]
  by_cases c2 : (0 + 1 == a.size) = true
  · rw [if_pos c2]
    exact wpS_pure (q _ st (Kept.refl _) (m0.resL sa sb (by rw [beq_iff_eq] at c2; have := ub 1; rwa [show a.size - 1 = 0 by omega] at this)))
  rw [if_neg c2]
  rw [beq_iff_eq] at c1 c2
  refine wpS_bind (wpS_get ?_)
  refine wpS_bind (wpS_mono (wpS_forRange (I := fun x c st' => ∃ out ia ib mg, c = (none, out, ia, ib, mg) ∧ LI κ a b st out ia ib x st')
    (Q := fun c st' => ∃ r c', c = (some r, c') ∧ Kept st st' ∧ MRes κ a b r) ?step ?fin ⟨_, _, _, _, rfl, Kept.refl _, m0, by omega, by omega, Nat.zero_le _⟩) ?post)
  case post =>
    rintro c st' ⟨r, c', rfl, kp, mr⟩
    exact wpS_pure (q r st' kp mr)
  case fin =>
    rintro c st' ⟨out, ia, ib, mg, rfl, li⟩
    have := li.t
    have := li.la
    have := li.lb
    omega
  case step =>
    rintro x c st1 _ hx ⟨out, ia, ib, mg, rfl, li⟩
    dsimp only
    refine wpS_bind (wpS_mono (wpS_forRange (I := fun y c st' => ∃ out ia ib ac bc, c = (none, out, ia, ib, ac, bc) ∧ LI κ a b st out ia ib (x + y) st')
      (Q := fun c st' => (∃ r c', c = (some r, c') ∧ Kept st st' ∧ MRes κ a b r) ∨ ∃ out ia ib ac bc, c = (none, out, ia, ib, ac, bc) ∧ LI κ a b st out ia ib (x + 1) st') ?istep ?ifin ⟨_, _, _, _, _, rfl, li⟩) ?ipost)
    case ifin =>
      rintro c st' ⟨out, ia, ib, ac, bc, rfl, li⟩
      have := li.t
      have := li.la
      have := li.lb
      omega
    case istep =>
      rintro y c st2 _ hy ⟨out, ia, ib, ac, bc, rfl, li⟩
      dsimp only
      obtain ⟨xb, hxb, mxb⟩ := arr_at li.lb
      obtain ⟨xa, hxa, mxa⟩ := arr_at (show ia < a.size by have := li.la; omega)
      refine wpS_bind (wpS_elem hxb (wpS_bind (wpS_elem hxa (wpS_bind (hL xb xa st2 _ (li.kp.kind.trans hk) (kb xb mxb) (ka xa mxa) ?_)))))
      dsimp only
      have ha' := (sa.drop ia)
      rw [drop_at hxa] at ha'
      have hb' := (sb.drop ib)
      rw [drop_at hxb] at hb'
      have bela : Below κ [xa] (a.toList.drop ia) := by rw [drop_at hxa]; exact ha'.head
      have belb : Below κ [xb] (b.toList.drop ib) := by rw [drop_at hxb]; exact hb'.head
      have lla := li.la
      have llb := li.lb
      have llt := li.t
      cases hc : κ.blt (key κ xb) (key κ xa) with
      | true =>
        rw [if_pos rfl]
        have m' := li.m.pushB sb hxb (Under.over (k := xa) (fun x hx y hy => by cases List.mem_singleton.mp hx; cases List.mem_singleton.mp hy; exact hc) bela)
        refine wpS_bind (wpS_elem hxb ?_)
        by_cases c3 : (ib + 1 == b.size) = true
        · rw [if_pos c3]
          exact wpS_pure (.inl ⟨_, _, rfl, li.kp, m'.resD sa sb (.inr (by rw [beq_iff_eq] at c3; omega))⟩)
        rw [if_neg c3]
        rw [beq_iff_eq] at c3
        by_cases c4 : bc + 1 ≥ mg
        · rw [if_pos c4]
          exact wpS_pure (.inr ⟨_, _, _, _, _, rfl, li.kp, m', lla, by omega, by omega⟩)
        · rw [if_neg c4]
          exact wpS_pure ⟨_, _, _, _, _, rfl, li.kp, m', lla, by omega, by omega⟩
      | false =>
        rw [if_neg Bool.false_ne_true]
        have m' := li.m.pushA sa hxa (Below.over (k := xb) (fun x hx y hy => by cases List.mem_singleton.mp hx; cases List.mem_singleton.mp hy; exact hc) belb)
        refine wpS_bind (wpS_elem hxa ?_)
        by_cases c3 : (ia + 1 + 1 == a.size) = true
        · rw [if_pos c3]
          exact wpS_pure (.inl ⟨_, _, rfl, li.kp, m'.resL sa sb (by rw [beq_iff_eq] at c3; have := ub ib; rwa [show a.size - 1 = ia + 1 by omega] at this)⟩)
        rw [if_neg c3]
        rw [beq_iff_eq] at c3
        by_cases c4 : ac + 1 ≥ mg
        · rw [if_pos c4]
          exact wpS_pure (.inr ⟨_, _, _, _, _, rfl, li.kp, m', by omega, by omega, by omega⟩)
        · rw [if_neg c4]
          exact wpS_pure ⟨_, _, _, _, _, rfl, li.kp, m', by omega, by omega, by omega⟩
    case ipost =>
      rintro c st2 (⟨r, c', rfl, kp, mr⟩ | ⟨out, ia, ib, ac, bc, rfl, li⟩)
      · exact wpS_pure ⟨r, _, rfl, kp, mr⟩
      dsimp only
      refine wpS_bind (wpS_lift (wpAny_rule ⟨rfl, ?_⟩))
      refine wpS_bind (wpS_mono (wpS_forRange (I := fun y c st' => ∃ out ia ib mg ac bc, c = (none, out, ia, ib, mg, ac, bc) ∧ LI κ a b st out ia ib (x + 1 + y) st')
        (Q := fun c st' => (∃ r c', c = (some r, c') ∧ Kept st st' ∧ MRes κ a b r) ∨ ∃ out ia ib mg ac bc, c = (none, out, ia, ib, mg, ac, bc) ∧ LI κ a b st out ia ib (x + 1) st') ?gstep ?gfin ⟨_, _, _, _, _, _, rfl, li⟩) ?gpost)
      case gfin =>
        rintro c st' ⟨out, ia, ib, mg, ac, bc, rfl, li⟩
        have := li.t
        have := li.la
        have := li.lb
        omega
      case gpost =>
        rintro c st3 (⟨r, c', rfl, kp, mr⟩ | ⟨out, ia, ib, mg, ac, bc, rfl, li⟩)
        · exact wpS_pure ⟨r, _, rfl, kp, mr⟩
        dsimp only
        exact wpS_bind (wpS_setG fun st4 kp4 => wpS_pure ⟨_, _, _, _, rfl, li.kp.trans kp4, li.m, li.la, li.lb, li.t⟩)
      case gstep =>
        rintro y c st3 _ hy ⟨out, ia, ib, mg, ac, bc, rfl, li⟩
        dsimp only
        obtain ⟨xb, hxb, mxb⟩ := arr_at li.lb
        have hb' := (sb.drop ib)
        rw [drop_at hxb] at hb'
        have belb : Below κ [xb] (b.toList.drop ib) := by rw [drop_at hxb]; exact hb'.head
        clear hb'
        have belA : ∀ {i : Nat} {x : Keyed}, a[i]? = some x → Below κ [x] (a.toList.drop i) := fun {i x} hx => by
          have h := sa.drop i
          rw [drop_at hx] at h ⊢
          exact h.head
        have ubl : ∀ {i : Nat} (j : Nat), i + 1 = a.size → Under κ (b.toList.drop j) (a.toList.drop i) := fun {i} j e => by
          have := ub j
          rwa [show a.size - 1 = i by omega] at this
        have lla := li.la
        have llb := li.lb
        have llt := li.t
        refine wpS_ite (fun _ => ?_) (fun _ => ?_)
        all_goals
          refine wpS_bind (wpS_setG fun st4 kp4 => ?_)
          have kp3 := li.kp.trans kp4
          refine wpS_bind (wpS_elem hxb (wpS_bind (wpS_galR hL (kp3.kind.trans hk) (kb xb mxb) ka (by omega) (by rw [take_drop_all _ _ (by rw [Array.length_toList]; exact Nat.le_refl _)]; exact sa.drop _) (by omega) fun k1 hk1 bl1 un1 => ?_)))
          dsimp only
          rw [all_rest a (Nat.le_refl _) hk1] at un1
          have m2 := MLo.extA sa li.m (Below.over bl1 belb)
          refine wpS_ite (fun c1 => wpS_ite (fun c2 => ?_) (fun c2 => wpS_ite (fun c7 => ?_) (fun c7 => ?_))) (fun c1 => ?_)
          · rw [beq_iff_eq] at c2
            exact wpS_pure (.inl ⟨_, _, rfl, kp3, m2.resL sa sb (ubl _ (by omega))⟩)
          · rw [beq_iff_eq] at c7
            exact wpS_pure (.inl ⟨_, _, rfl, kp3, m2.resD sa sb (.inl (by omega))⟩)
          rw [beq_iff_eq] at c2 c7
          have lt := show ia + k1 < a.size by omega
          rotate_left
          have e : k1 = 0 := by omega
          subst e
          have m2 := li.m
          have lt := show ia < a.size by omega
          all_goals
            have m3 := MLo.pushB sb m2 hxb un1
            refine wpS_bind (wpS_elem hxb ?_)
            refine wpS_ite (fun c3 => ?_) (fun c3 => ?_)
            · rw [beq_iff_eq] at c3
              exact wpS_pure (.inl ⟨_, _, rfl, kp3, m3.resD sa sb (.inr (by omega))⟩)
            rw [beq_iff_eq] at c3
            obtain ⟨xc, hxc, mxc⟩ := arr_at lt
            have belc := belA hxc
            refine wpS_bind (wpS_elem hxc (wpS_bind (wpS_galL hL (kp3.kind.trans hk) (ka xc mxc) kb (by omega) (by rw [take_drop_all _ _ (by rw [Array.length_toList]; omega)]; exact sb.drop _) (by omega) fun k2 hk2 ul bl => ?_)))
            dsimp only
            rw [all_rest b (by omega) hk2] at bl
            have m4 := MLo.extB sb m3 (Under.over ul belc)
            refine wpS_ite (fun c4 => wpS_ite (fun c6 => ?_) (fun c6 => ?_)) (fun c4 => ?_)
            · rw [beq_iff_eq] at c6
              exact wpS_pure (.inl ⟨_, _, rfl, kp3, m4.resD sa sb (.inr (by omega))⟩)
            rw [beq_iff_eq] at c6
            rotate_left
            have e : k2 = 0 := by omega
            subst e
            have m4 := m3
            all_goals
              have m5 := MLo.pushA sa m4 hxc bl
              refine wpS_bind (wpS_elem hxc ?_)
              refine wpS_ite (fun c5 => ?_) (fun c5 => ?_)
              · rw [beq_iff_eq] at c5
                exact wpS_pure (.inl ⟨_, _, rfl, kp3, m5.resL sa sb (ubl _ (by omega))⟩)
              · rw [beq_iff_eq] at c5
                exact wpS_ite (fun _ => wpS_pure (.inr ⟨_, _, _, _, _, _, rfl, kp3, m5, by omega, by omega, by omega⟩)) (fun _ => wpS_pure ⟨_, _, _, _, _, _, rfl, kp3, m5, by omega, by omega, by omega⟩)
end
end TS

namespace TS
open PySem PyProof.Rows
variable {κ : KeyKind}
/-! ### a merge from the right -/
theorem take_split (l : List Keyed) {m n : Nat} (h : m ≤ n) : l.take n = l.take m ++ (l.drop m).take (n - m) := by
  rw [← List.drop_take]
  have := List.take_append_drop m (l.take n)
  rw [List.take_take, Nat.min_eq_left h] at this
  exact this.symm
theorem Srt.take {l : List Keyed} (h : Srt κ l) (i : Nat) : Srt κ (l.take i) := List.Pairwise.sublist (List.take_sublist i l) h
structure MHi (κ : KeyKind) (al bl o : List Keyed) (na nb : Nat) : Prop where
  so : Srt κ o
  oa : Below κ (al.take na) o
  ob : Below κ (bl.take nb) o
  st : Stab κ (al.take na ++ (bl.take nb ++ o)) (al ++ bl)
theorem Below.appR {l m n : List Keyed} (h : Below κ l m) (h' : Below κ l n) : Below κ l (m ++ n) := fun x hx y hy => (List.mem_append.mp hy).elim (h x hx y) (h' x hx y)
theorem Below.lefts {l m n : List Keyed} (h : Below κ (l ++ m) n) : Below κ l n := fun x hx y hy => h x (List.mem_append_left _ hx) y hy
theorem Below.rights {l m n : List Keyed} (h : Below κ (l ++ m) n) : Below κ m n := fun x hx y hy => h x (List.mem_append_right _ hx) y hy
theorem MHi.runA {al bl o : List Keyed} {na nb m : Nat} (sa : Srt κ al) (h : MHi κ al bl o na nb) (hm : m ≤ na) (u : Under κ (bl.take nb) ((al.drop m).take (na - m))) : MHi κ al bl ((al.drop m).take (na - m) ++ o) m nb := by
  have e := take_split al hm
  have s := sa.take na
  have oa := h.oa
  have st := h.st
  rw [e] at s oa st
  refine ⟨s.right.append h.so oa.rights, s.mid.appR oa.lefts, u.below.appR h.ob, Stab.trans ?_ st⟩
  rw [List.append_assoc]
  refine (Stab.refl _).append ?_
  rw [← List.append_assoc, ← List.append_assoc]
  exact (Stab.swap u).append (Stab.refl _)
theorem MHi.runB {al bl o : List Keyed} {na nb m : Nat} (sb : Srt κ bl) (h : MHi κ al bl o na nb) (hm : m ≤ nb) (u : Below κ (al.take na) ((bl.drop m).take (nb - m))) : MHi κ al bl ((bl.drop m).take (nb - m) ++ o) na m := by
  have e := take_split bl hm
  have s := sb.take nb
  have ob := h.ob
  have st := h.st
  rw [e] at s ob st
  refine ⟨s.right.append h.so ob.rights, u.appR h.oa, s.mid.appR ob.lefts, ?_⟩
  rw [← List.append_assoc (bl.take m)]
  exact st
theorem MHi.done {al bl o : List Keyed} {na nb : Nat} (sa : Srt κ al) (sb : Srt κ bl) (h : MHi κ al bl o na nb) (e : na = 0 ∨ nb = 0) : Srt κ (al.take na ++ bl.take nb ++ o) ∧ Stab κ (al.take na ++ bl.take nb ++ o) (al ++ bl) := by
  refine ⟨?_, by rw [List.append_assoc]; exact h.st⟩
  rcases e with e | e
  · rw [e, List.take_zero, List.nil_append]
    exact (sb.take nb).append h.so h.ob
  · rw [e, List.take_zero, List.append_nil]
    exact (sa.take na).append h.so h.oa
theorem MHi.first {al bl o : List Keyed} {na nb : Nat} (sa : Srt κ al) (sb : Srt κ bl) (h : MHi κ al bl o na nb) (u : Under κ (bl.take nb) (al.take na)) : Srt κ (bl.take nb ++ al.take na ++ o) ∧ Stab κ (bl.take nb ++ al.take na ++ o) (al ++ bl) := by
  refine ⟨?_, Stab.trans ?_ h.st⟩
  · rw [List.append_assoc]
    exact (sb.take nb).append ((sa.take na).append h.so h.oa) (u.below.appR h.ob)
  · rw [← List.append_assoc]
    exact (Stab.swap u).append (Stab.refl _)
def mergeHi' : Array Keyed → Array Keyed → StateT SortSt Sem (Array Keyed) := sortPriv% PySem.Builtin.mergeHi
section
variable {prog : Program} {w : World} {A : Around} {E : Value → Shared → Prop} {s : Shared} {kd : SortKind}
/-- what is out, the other way about -/
abbrev bk (out : Array Keyed) : List Keyed := out.toList.reverse
section
variable {a b out : Array Keyed} {na nb : Nat} (sa : Srt κ a.toList) (sb : Srt κ b.toList)
include sa sb
theorem MHi.resD (h : MHi κ a.toList b.toList (bk out) na nb) (e : na = 0 ∨ nb = 0) : MRes κ a b (a.extract 0 na ++ b.extract 0 nb ++ out.reverse) := by
  unfold MRes
  rw [Array.toList_append, Array.toList_append, Array.toList_extract, Array.toList_extract, Array.toList_reverse]
  exact h.done sa sb e
theorem MHi.resF (h : MHi κ a.toList b.toList (bk out) na nb) (u : Under κ (b.toList.take nb) (a.toList.take na)) : MRes κ a b (b.extract 0 nb ++ a.extract 0 na ++ out.reverse) := by
  unfold MRes
  rw [Array.toList_append, Array.toList_append, Array.toList_extract, Array.toList_extract, Array.toList_reverse]
  exact h.first sa sb u
omit sa in
theorem MHi.extB {m : Nat} (h : MHi κ a.toList b.toList (bk out) na nb) (hm : m ≤ nb) (u : Below κ (a.toList.take na) ((b.toList.drop m).take (nb - m))) : MHi κ a.toList b.toList (bk (out ++ (b.extract m nb).reverse)) na m := by
  have e : bk (out ++ (b.extract m nb).reverse) = (b.toList.drop m).take (nb - m) ++ bk out := by
    show (out ++ (b.extract m nb).reverse).toList.reverse = _
    rw [Array.toList_append, Array.toList_reverse, Array.toList_extract, List.reverse_append, List.reverse_reverse]
  rw [e]
  exact h.runB sb hm u
omit sb in
theorem MHi.extA {m : Nat} (h : MHi κ a.toList b.toList (bk out) na nb) (hm : m ≤ na) (u : Under κ (b.toList.take nb) ((a.toList.drop m).take (na - m))) : MHi κ a.toList b.toList (bk (out ++ (a.extract m na).reverse)) m nb := by
  have e : bk (out ++ (a.extract m na).reverse) = (a.toList.drop m).take (na - m) ++ bk out := by
    show (out ++ (a.extract m na).reverse).toList.reverse = _
    rw [Array.toList_append, Array.toList_reverse, Array.toList_extract, List.reverse_append, List.reverse_reverse]
  rw [e]
  exact h.runA sa hm u
end
theorem seg_one {a : Array Keyed} {m n : Nat} {x : Keyed} (hx : a[m]? = some x) (h : n = m + 1) : (a.toList.drop m).take (n - m) = [x] := by
  rw [drop_at hx, show n - m = 1 by omega]
  rfl
theorem bk_push (out : Array Keyed) (x : Keyed) : bk (out.push x) = [x] ++ bk out := by
  show (out.push x).toList.reverse = _
  rw [Array.toList_push, List.reverse_append]
  rfl
theorem MHi.pushA {a b out : Array Keyed} {na nb m : Nat} {x : Keyed} (sa : Srt κ a.toList) (h : MHi κ a.toList b.toList (bk out) na nb) (hx : a[m]? = some x) (hm : na = m + 1) (u : Under κ (b.toList.take nb) [x]) : MHi κ a.toList b.toList (bk (out.push x)) m nb := by
  have e := seg_one hx hm
  have := h.runA (m := m) sa (by omega) (by rw [e]; exact u)
  rw [e] at this
  rw [bk_push]
  exact this
theorem MHi.pushB {a b out : Array Keyed} {na nb m : Nat} {x : Keyed} (sb : Srt κ b.toList) (h : MHi κ a.toList b.toList (bk out) na nb) (hx : b[m]? = some x) (hm : nb = m + 1) (u : Below κ (a.toList.take na) [x]) : MHi κ a.toList b.toList (bk (out.push x)) na m := by
  have e := seg_one hx hm
  have := h.runB (m := m) sb (by omega) (by rw [e]; exact u)
  rw [e] at this
  rw [bk_push]
  exact this
theorem Srt.last {a : Array Keyed} (h : Srt κ a.toList) {m n : Nat} {x : Keyed} (hx : a[m]? = some x) (hn : n = m + 1) : Below κ (a.toList.take n) [x] := by
  have s := h.take n
  have e := take_split a.toList (show m ≤ n by omega)
  rw [seg_one hx hn] at e
  rw [e] at s ⊢
  exact s.mid.append fun y hy z hz => by
    cases List.mem_singleton.mp hy
    cases List.mem_singleton.mp hz
    exact KeyOrd.kle_refl _
theorem Below.under {k : Keyed} {l m : List Keyed} (h : Below κ l [k]) (u : Under κ [k] m) : Under κ l m := fun x hx y hy => KeyOrd.klt_of_kle_of_klt (h x hx k (List.mem_singleton_self _)) (u k (List.mem_singleton_self _) y hy)
structure HI (κ : KeyKind) (a b : Array Keyed) (st : SortSt) (out : Array Keyed) (na nb t : Nat) (st' : SortSt) : Prop where
  kp : Kept st st'
  m : MHi κ a.toList b.toList (bk out) na nb
  la : 1 ≤ na
  lb : 2 ≤ nb
  ha : na ≤ a.size
  hb : nb ≤ b.size
  t : na + nb + t ≤ a.size + b.size
theorem wpS_mergeHi (hL : LtOk prog w A E s κ kd) {a b : Array Keyed} {st : SortSt} {Q : Array Keyed → SortSt → Prop} (hk : kindOf st = kd) (ka : ∀ x ∈ a.toList, Kyd κ x) (kb : ∀ x ∈ b.toList, Kyd κ x) (sa : Srt κ a.toList) (sb : Srt κ b.toList) (a1 : 1 ≤ a.size) (b1 : 1 ≤ b.size) (u1 : Under κ (b.toList.take 1) a.toList) (u2 : Under κ b.toList (a.toList.drop (a.size - 1)))
    (q : ∀ r st', Kept st st' → MRes κ a b r → Q r st') : wpS (model prog w) A E s (mergeHi' a b) Q st := by
  refine wpS_bind (wpS_lift (wpAny_rule ⟨rfl, ?_⟩))
  obtain ⟨a0, ha0, ma0⟩ := arr_at (show a.size - 1 < a.size by omega)
  refine wpS_bind (wpS_elem ha0 ?_)
  have ubf : ∀ {nb : Nat} (na : Nat), nb = 1 → Under κ (b.toList.take nb) (a.toList.take na) := fun {nb} na e x hx y hy => by
    subst e
    exact u1 x hx y (List.mem_of_mem_take hy)
  have m0 : MHi κ a.toList b.toList (bk #[a0]) (a.size - 1) b.size := by
    have h0 : MHi κ a.toList b.toList (bk #[]) a.size b.size := ⟨List.Pairwise.nil, Below.nil, Below.nil, by
      rw [List.take_of_length_le (by rw [Array.length_toList]; exact Nat.le_refl _), List.take_of_length_le (by rw [Array.length_toList]; exact Nat.le_refl _)]
      show Stab κ (_ ++ (_ ++ [])) _
      rw [List.append_nil]
      exact Stab.refl _⟩
    refine h0.pushA sa ha0 (by omega) fun x hx y hy => u2 x (List.mem_of_mem_take hx) y ?_
    rw [drop_at ha0]
    cases List.mem_singleton.mp hy
    exact List.mem_cons_self
  refine wpS_ite (fun c1 => ?_) (fun c1 => ?_)
  · rw [beq_iff_eq] at c1
    exact wpS_pure (q _ st (Kept.refl _) (m0.resD sa sb (.inl c1)))
  refine wpS_ite (fun c2 => ?_) (fun c2 => ?_)
  · rw [beq_iff_eq] at c2
    exact wpS_pure (q _ st (Kept.refl _) (m0.resF sa sb (ubf _ c2)))
  rw [beq_iff_eq] at c1 c2
  refine wpS_bind (wpS_get ?_)
  refine wpS_bind (wpS_mono (wpS_forRange (I := fun x c st' => ∃ na nb out mg, c = (none, na, nb, out, mg) ∧ HI κ a b st out na nb x st')
    (Q := fun c st' => ∃ r c', c = (some r, c') ∧ Kept st st' ∧ MRes κ a b r) ?step ?fin ⟨_, _, _, _, rfl, Kept.refl _, m0, by omega, by omega, by omega, by omega, by omega⟩) ?post)
  case post =>
    rintro c st' ⟨r, c', rfl, kp, mr⟩
    exact wpS_pure (q r st' kp mr)
  case fin =>
    rintro c st' ⟨na, nb, out, mg, rfl, li⟩
    have := li.t
    have := li.la
    have := li.lb
    omega
  case step =>
    rintro x c st1 _ hx ⟨na, nb, out, mg, rfl, li⟩
    dsimp only
    refine wpS_bind (wpS_mono (wpS_forRange (I := fun y c st' => ∃ na nb out ac bc, c = (none, na, nb, out, ac, bc) ∧ HI κ a b st out na nb (x + y) st')
      (Q := fun c st' => (∃ r c', c = (some r, c') ∧ Kept st st' ∧ MRes κ a b r) ∨ ∃ na nb out ac bc, c = (none, na, nb, out, ac, bc) ∧ HI κ a b st out na nb (x + 1) st') ?istep ?ifin ⟨_, _, _, _, _, rfl, li⟩) ?ipost)
    case ifin =>
      rintro c st' ⟨na, nb, out, ac, bc, rfl, li⟩
      have := li.t
      have := li.la
      have := li.lb
      omega
    case istep =>
      rintro y c st2 _ hy ⟨na, nb, out, ac, bc, rfl, li⟩
      dsimp only
      have lla := li.la
      have llb := li.lb
      have lha := li.ha
      have lhb := li.hb
      have llt := li.t
      obtain ⟨xb, hxb, mxb⟩ := arr_at (show nb - 1 < b.size by omega)
      obtain ⟨xa, hxa, mxa⟩ := arr_at (show na - 1 < a.size by omega)
      have belb := sb.last hxb (show nb = _ by omega)
      have bela := sa.last hxa (show na = _ by omega)
      refine wpS_bind (wpS_elem hxb (wpS_bind (wpS_elem hxa (wpS_bind (hL xb xa st2 _ (li.kp.kind.trans hk) (kb xb mxb) (ka xa mxa) ?_)))))
      dsimp only
      cases hc : κ.blt (key κ xb) (key κ xa) with
      | true =>
        rw [if_pos rfl]
        have m' := li.m.pushA sa hxa (by omega) (Below.under (k := xb) belb (fun x hx y hy => by cases List.mem_singleton.mp hx; cases List.mem_singleton.mp hy; exact hc))
        refine wpS_bind (wpS_elem hxa ?_)
        refine wpS_ite (fun c3 => ?_) (fun c3 => ?_)
        · rw [beq_iff_eq] at c3
          exact wpS_pure (.inl ⟨_, _, rfl, li.kp, m'.resD sa sb (.inl c3)⟩)
        rw [beq_iff_eq] at c3
        exact wpS_ite (fun _ => wpS_pure (.inr ⟨_, _, _, _, _, rfl, li.kp, m', by omega, by omega, by omega, by omega, by omega⟩)) (fun _ => wpS_pure ⟨_, _, _, _, _, rfl, li.kp, m', by omega, by omega, by omega, by omega, by omega⟩)
      | false =>
        rw [if_neg Bool.false_ne_true]
        have m' := li.m.pushB sb hxb (by omega) (Below.over (k := xa) bela (fun x hx y hy => by cases List.mem_singleton.mp hx; cases List.mem_singleton.mp hy; exact hc))
        refine wpS_bind (wpS_elem hxb ?_)
        refine wpS_ite (fun c3 => ?_) (fun c3 => ?_)
        · rw [beq_iff_eq] at c3
          exact wpS_pure (.inl ⟨_, _, rfl, li.kp, m'.resF sa sb (ubf _ c3)⟩)
        rw [beq_iff_eq] at c3
        exact wpS_ite (fun _ => wpS_pure (.inr ⟨_, _, _, _, _, rfl, li.kp, m', by omega, by omega, by omega, by omega, by omega⟩)) (fun _ => wpS_pure ⟨_, _, _, _, _, rfl, li.kp, m', by omega, by omega, by omega, by omega, by omega⟩)
    case ipost =>
      rintro c st2 (⟨r, c', rfl, kp, mr⟩ | ⟨na, nb, out, ac, bc, rfl, li⟩)
      · exact wpS_pure ⟨r, _, rfl, kp, mr⟩
      dsimp only
      refine wpS_bind (wpS_lift (wpAny_rule ⟨rfl, ?_⟩))
      refine wpS_bind (wpS_mono (wpS_forRange (I := fun y c st' => ∃ na nb out mg ac bc, c = (none, na, nb, out, mg, ac, bc) ∧ HI κ a b st out na nb (x + 1 + y) st')
        (Q := fun c st' => (∃ r c', c = (some r, c') ∧ Kept st st' ∧ MRes κ a b r) ∨ ∃ na nb out mg ac bc, c = (none, na, nb, out, mg, ac, bc) ∧ HI κ a b st out na nb (x + 1) st') ?gstep ?gfin ⟨_, _, _, _, _, _, rfl, li⟩) ?gpost)
      case gfin =>
        rintro c st' ⟨na, nb, out, mg, ac, bc, rfl, li⟩
        have := li.t
        have := li.la
        have := li.lb
        omega
      case gpost =>
        rintro c st3 (⟨r, c', rfl, kp, mr⟩ | ⟨na, nb, out, mg, ac, bc, rfl, li⟩)
        · exact wpS_pure ⟨r, _, rfl, kp, mr⟩
        dsimp only
        exact wpS_bind (wpS_setG fun st4 kp4 => wpS_pure ⟨_, _, _, _, rfl, li.kp.trans kp4, li.m, li.la, li.lb, li.ha, li.hb, li.t⟩)
      case gstep =>
        rintro y c st3 _ hy ⟨na, nb, out, mg, ac, bc, rfl, li⟩
        dsimp only
        have lla := li.la
        have llb := li.lb
        have lha := li.ha
        have lhb := li.hb
        have llt := li.t
        obtain ⟨xb, hxb, mxb⟩ := arr_at (show nb - 1 < b.size by omega)
        have belb := sb.last hxb (show nb = _ by omega)
        refine wpS_ite (fun _ => ?_) (fun _ => ?_)
        all_goals
          refine wpS_bind (wpS_setG fun st4 kp4 => ?_)
          have kp3 := li.kp.trans kp4
          refine wpS_bind (wpS_elem hxb (wpS_bind (wpS_galR hL (kp3.kind.trans hk) (kb xb mxb) ka (by omega) (by rw [List.drop_zero]; exact sa.take _) (by omega) fun k1 hk1 bl1 un1 => ?_)))
          dsimp only
          rw [List.drop_zero] at bl1
          rw [Nat.zero_add] at un1
          have m2 := MHi.extA sa li.m hk1 (Below.under belb un1)
          refine wpS_ite (fun c1 => wpS_ite (fun c2 => ?_) (fun c2 => ?_)) (fun c1 => ?_)
          · rw [beq_iff_eq] at c2
            exact wpS_pure (.inl ⟨_, _, rfl, kp3, m2.resD sa sb (.inl (by omega))⟩)
          rw [beq_iff_eq] at c2
          rotate_left
          have e : k1 = na := by omega
          subst e
          have m2 := li.m
          all_goals
            have m3 := MHi.pushB sb m2 hxb (by omega) bl1
            refine wpS_bind (wpS_elem hxb ?_)
            refine wpS_ite (fun c3 => ?_) (fun c3 => ?_)
            · rw [beq_iff_eq] at c3
              exact wpS_pure (.inl ⟨_, _, rfl, kp3, m3.resF sa sb (ubf _ (by omega))⟩)
            rw [beq_iff_eq] at c3
            obtain ⟨xc, hxc, mxc⟩ := arr_at (show k1 - 1 < a.size by omega)
            have belc := sa.last hxc (show k1 = _ by omega)
            refine wpS_bind (wpS_elem hxc (wpS_bind (wpS_galL hL (kp3.kind.trans hk) (ka xc mxc) kb (by omega) (by rw [List.drop_zero]; exact sb.take _) (by omega) fun k2 hk2 ul bl => ?_)))
            dsimp only
            rw [List.drop_zero] at ul
            rw [Nat.zero_add] at bl
            have m4 := MHi.extB sb m3 hk2 (Below.over belc bl)
            refine wpS_ite (fun c4 => wpS_ite (fun c6 => ?_) (fun c6 => wpS_ite (fun c7 => ?_) (fun c7 => ?_))) (fun c4 => ?_)
            · rw [beq_iff_eq] at c6
              exact wpS_pure (.inl ⟨_, _, rfl, kp3, m4.resF sa sb (ubf _ (by omega))⟩)
            · rw [beq_iff_eq] at c7
              exact wpS_pure (.inl ⟨_, _, rfl, kp3, m4.resD sa sb (.inr (by omega))⟩)
            rw [beq_iff_eq] at c6 c7
            rotate_left
            have e : k2 = nb - 1 := by omega
            subst e
            have m4 := m3
            all_goals
              have m5 := MHi.pushA sa m4 hxc (by omega) ul
              refine wpS_bind (wpS_elem hxc ?_)
              refine wpS_ite (fun c5 => ?_) (fun c5 => ?_)
              · rw [beq_iff_eq] at c5
                exact wpS_pure (.inl ⟨_, _, rfl, kp3, m5.resD sa sb (.inl (by omega))⟩)
              · rw [beq_iff_eq] at c5
                exact wpS_ite (fun _ => wpS_pure (.inr ⟨_, _, _, _, _, _, rfl, kp3, m5, by omega, by omega, by omega, by omega, by omega⟩)) (fun _ => wpS_pure ⟨_, _, _, _, _, _, rfl, kp3, m5, by omega, by omega, by omega, by omega, by omega⟩)
end
end TS

namespace TS
open PySem PyProof.Rows
variable {κ : KeyKind}
/-! ### what the sort's own deeds do to the list; runs -/
def countRun'' : Nat → Nat → StateT SortSt Sem (Option Nat) := sortPriv% PySem.Builtin.countRun
def binarySort'' : Nat → Nat → Nat → StateT SortSt Sem Bool := sortPriv% PySem.Builtin.binarySort
theorem mirror_list {xs : Array Keyed} {P G R : List Keyed} (e : xs.toList = P ++ (G ++ R)) {i j : Nat} (hi : i = P.length) (hj : j = i + G.length) : (mirror xs i j ((j - i) / 2)).toList = P ++ (G.reverse ++ R) := by
  have hs : xs.size = P.length + (G.length + R.length) := by rw [← Array.length_toList, e, List.length_append, List.length_append]
  apply List.ext_getElem?
  intro k
  rw [Array.getElem?_toList, getElem?_mirror_all (by omega), ← Array.getElem?_toList, ← Array.getElem?_toList, e]
  by_cases h : i ≤ k ∧ k < j
  · rw [if_pos h, List.getElem?_append_right (by omega), List.getElem?_append_left (by omega), List.getElem?_append_right (by omega), List.getElem?_append_left (by rw [List.length_reverse]; omega), List.getElem?_reverse (by omega)]
    congr 1
    omega
  · rw [if_neg h]
    by_cases h1 : k < i
    · rw [List.getElem?_append_left (by omega), List.getElem?_append_left (by omega)]
    · rw [List.getElem?_append_right (by omega), List.getElem?_append_right (by omega), List.getElem?_append_right (by omega), List.getElem?_append_right (by rw [List.length_reverse]; omega), List.length_reverse]
theorem bubble_list {xs : Array Keyed} {P T R : List Keyed} {x : Keyed} (e : xs.toList = P ++ (T ++ x :: R)) {src d : Nat} (hi : src = P.length + T.length) (hd : d = T.length) : (bubble xs src d).toList = P ++ (x :: T ++ R) := by
  have hs : xs.size = P.length + (T.length + (R.length + 1)) := by rw [← Array.length_toList, e, List.length_append, List.length_append]; rfl
  apply List.ext_getElem?
  intro k
  rw [Array.getElem?_toList, getElem?_bubble (by omega) d (by omega), ← Array.getElem?_toList, ← Array.getElem?_toList, ← Array.getElem?_toList, e]
  by_cases h : k = src - d
  · rw [if_pos h, List.getElem?_append_right (by omega), List.getElem?_append_right (by omega), List.getElem?_append_right (by omega), show src - P.length - T.length = 0 by omega, show k - P.length = 0 by omega]
    rfl
  · rw [if_neg h]
    by_cases h1 : src - d < k ∧ k ≤ src
    · rw [if_pos h1, List.getElem?_append_right (by omega), List.getElem?_append_left (by omega), List.getElem?_append_right (by omega), List.getElem?_append_left (by show _ < T.length + 1; omega), show k - P.length = (k - 1 - P.length) + 1 by omega, List.getElem?_cons_succ]
    · rw [if_neg h1]
      by_cases h2 : k < P.length
      · rw [List.getElem?_append_left h2, List.getElem?_append_left h2]
      · rw [List.getElem?_append_right (by omega), List.getElem?_append_right (by omega), List.getElem?_append_right (by omega), List.getElem?_append_right (by show T.length + 1 ≤ _; omega), show k - P.length - T.length = (k - P.length - (T.length + 1)) + 1 by omega, List.getElem?_cons_succ]
        rfl
theorem write_list : ∀ (m : List Keyed) (j off : Nat) (xs : Array Keyed) (P Y R : List Keyed), xs.toList = P ++ (Y ++ R) → m.length = Y.length → off + j = P.length →
    ((m.zipIdx j).foldl (fun (a : Array Keyed) (x : Keyed × Nat) => a.setIfInBounds (off + x.2) x.1) xs).toList = P ++ (m ++ R)
  | [], j, off, xs, P, Y, R, e, l, _ => by
    rw [List.zipIdx_nil, List.foldl_nil, e, List.eq_nil_of_length_eq_zero l.symm]
  | x :: m, j, off, xs, P, [], R, e, l, _ => by cases l
  | x :: m, j, off, xs, P, y :: Y, R, e, l, h => by
    rw [List.zipIdx_cons, List.foldl_cons]
    have ih := write_list m (j + 1) off (xs.setIfInBounds (off + j) x) (P ++ [x]) Y R (by
      rw [Array.toList_setIfInBounds, e, h, List.set_append_right _ _ (Nat.le_refl _), Nat.sub_self, List.append_assoc]
      rfl) (Nat.succ.inj l) (by rw [List.length_append, ← h]; rfl)
    rw [ih, List.append_assoc]
    rfl
structure Chg (st st' : SortSt) : Prop where
  kind : kindOf st' = kindOf st
  pend : pendingOf st' = pendingOf st
  failed : failedOf st' = failedOf st
theorem Chg.refl (st : SortSt) : Chg st st := ⟨rfl, rfl, rfl⟩
theorem Chg.trans {a b c : SortSt} (h : Chg a b) (h' : Chg b c) : Chg a c := ⟨h'.kind.trans h.kind, h'.pend.trans h.pend, h'.failed.trans h.failed⟩
section
variable {prog : Program} {w : World} {A : Around} {E : Value → Shared → Prop} {s : Shared} {kd : SortKind}
theorem wpS_rev {st : SortSt} {P G R : List Keyed} (e : (arrOf st).toList = P ++ (G ++ R)) {i j : Nat} (hi : i = P.length) (hj : j = i + G.length) {Q : Unit → SortSt → Prop} (q : ∀ st', Chg st st' → (arrOf st').toList = P ++ (G.reverse ++ R) → Q () st') : wpS (model prog w) A E s (reverseSlice' i j) Q st := by
  rw [reverseSlice'_eq]
  exact wpS_modify (q _ ⟨rfl, rfl, rfl⟩ (mirror_list e hi hj))
theorem wpS_down {st : SortSt} {P T R : List Keyed} {x : Keyed} (e : (arrOf st).toList = P ++ (T ++ x :: R)) {src dst : Nat} (hi : src = P.length + T.length) (hd : dst = P.length) {Q : Unit → SortSt → Prop} (q : ∀ st', Chg st st' → (arrOf st').toList = P ++ (x :: T ++ R) → Q () st') : wpS (model prog w) A E s (moveDown' src dst) Q st := by
  rw [moveDown'_eq]
  exact wpS_modify (q _ ⟨rfl, rfl, rfl⟩ (bubble_list e hi (by omega)))
theorem wpS_ltat (hL : LtOk prog w A E s κ kd) {st : SortSt} {i j : Nat} {x y : Keyed} {Q : Option Bool → SortSt → Prop} (hk : kindOf st = kd) (hx : (arrOf st).toList[i]? = some x) (hy : (arrOf st).toList[j]? = some y) (kx : Kyd κ x) (ky : Kyd κ y) (q : Q (some (κ.blt (key κ x) (key κ y))) st) : wpS (model prog w) A E s (ltAt' i j) Q st := by
  rw [ltAt'_eq]
  refine wpS_bind (wpS_get ?_)
  rw [Array.getElem?_toList] at hx hy
  exact wpS_bind (wpS_elem hx (wpS_bind (wpS_elem hy (hL x y st Q hk kx ky q))))
theorem at_head {P R : List Keyed} {x : Keyed} {i : Nat} (h : i = P.length) : (P ++ x :: R)[i]? = some x := by
  rw [List.getElem?_append_right (by omega), h, Nat.sub_self]
  rfl
theorem at_last {P C R : List Keyed} {x : Keyed} {i : Nat} (h : i = P.length + C.length) : (P ++ ((C ++ [x]) ++ R))[i]? = some x := by
  rw [List.append_assoc, ← List.append_assoc P]
  exact at_head (by rw [List.length_append]; exact h)
theorem at_next {P C R : List Keyed} {x : Keyed} {i : Nat} (h : i = P.length + C.length) : (P ++ (C ++ x :: R))[i]? = some x := by
  rw [← List.append_assoc]
  exact at_head (by rw [List.length_append]; exact h)
theorem Srt.snoc {l : List Keyed} {x : Keyed} (h : Srt κ l) (b : Below κ l [x]) : Srt κ (l ++ [x]) := h.append (List.pairwise_singleton _ _) b
theorem snoc_of {l : List Keyed} (h : 1 ≤ l.length) : ∃ c x, l = c ++ [x] := ⟨l.dropLast, l.getLast (by intro e; rw [e] at h; cases h), (List.dropLast_concat_getLast _).symm⟩
theorem Srt.lastb {c : List Keyed} {x y : Keyed} (h : Srt κ (c ++ [x])) (b : κ.kle (key κ x) (key κ y)) : Below κ (c ++ [x]) [y] := fun u hu v hv => by
  cases List.mem_singleton.mp hv
  rcases List.mem_append.mp hu with hu | hu
  · exact KeyOrd.kle_trans (h.mid u hu x (List.mem_singleton_self _)) b
  · cases List.mem_singleton.mp hu
    exact b
/-- the run goes on upwards -/
structure Asc (κ : KeyKind) (st0 : SortSt) (P S : List Keyed) (n : Nat) (M O R : List Keyed) (st : SortSt) : Prop where
  e : (arrOf st).toList = P ++ (M ++ R)
  s : S = O ++ R
  m : M.length = n
  o : O.length = n
  sm : Srt κ M
  tm : Stab κ M O
  cg : Chg st0 st
/-- the run goes on downwards; the last ones are alike -/
structure Dsc (κ : KeyKind) (st0 : SortSt) (P S : List Keyed) (n neq : Nat) (C G O R : List Keyed) (st : SortSt) : Prop where
  e : (arrOf st).toList = P ++ ((C ++ G) ++ R)
  s : S = O ++ R
  o : O.length = n
  m : C.length + G.length = n
  g : G.length = neq + 1
  sc : Srt κ C.reverse
  un : Under κ G C
  gg : Below κ G G
  t : Stab κ (C.reverse ++ G) O
  cg : Chg st0 st
theorem app3 {P C G R : List Keyed} : P ++ ((C ++ G) ++ R) = (P ++ C) ++ (G ++ R) := by rw [List.append_assoc, List.append_assoc]
theorem srt_of_all {G : List Keyed} (h : Below κ G G) : Srt κ G := List.pairwise_iff_forall_sublist.mpr fun {a b} hs => h a (hs.subset List.mem_cons_self) b (hs.subset (List.mem_cons_of_mem _ (List.mem_singleton_self _)))
theorem Under.rev {G C : List Keyed} (h : Under κ G C) : Under κ G C.reverse := fun x hx y hy => h x hx y (List.mem_reverse.mp hy)
theorem Dsc.up {st0 : SortSt} {P S C G O R : List Keyed} {n neq : Nat} {st st' : SortSt} (d : Dsc κ st0 P S n neq C G O R st) (cg : Chg st st') (e : (arrOf st').toList = P ++ ((G ++ C.reverse) ++ R)) : Asc κ st0 P S n (G ++ C.reverse) O R st' :=
  ⟨e, d.s, by have := d.m; rw [List.length_append, List.length_reverse]; omega, d.o, (srt_of_all d.gg).append d.sc d.un.rev.below, (Stab.swap d.un.rev).trans d.t, d.cg.trans cg⟩
theorem Dsc.less {st0 : SortSt} {P S C G O R : List Keyed} {n neq : Nat} {st st' : SortSt} {y : Keyed} (d : Dsc κ st0 P S n neq C G O (y :: R) st) (u : Under κ [y] G) (g1 : 1 ≤ G.length) (cg : Chg st st') (e : (arrOf st').toList = (P ++ C) ++ (G.reverse ++ y :: R)) : Dsc κ st0 P S (n + 1) 0 (C ++ G.reverse) [y] (O ++ [y]) R st' := by
  have m := d.m
  have r : (C ++ G.reverse).reverse = G ++ C.reverse := by rw [List.reverse_append, List.reverse_reverse]
  refine ⟨by rw [e, List.append_assoc, List.append_assoc, List.append_assoc]; rfl, by rw [d.s, List.append_assoc]; rfl, by rw [List.length_append, d.o]; rfl, by rw [List.length_append, List.length_reverse]; show _ + 1 = _; omega, rfl, ?_, ?_, ?_, ?_, d.cg.trans cg⟩
  · rw [r]
    exact (srt_of_all d.gg).append d.sc d.un.rev.below
  · intro x hx z hz
    rcases List.mem_append.mp hz with hz | hz
    · obtain ⟨g, hg⟩ := List.exists_mem_of_length_pos g1
      exact KeyOrd.klt_of_klt_of_kle (u x hx g hg) (d.un.below g hg z hz)
    · exact u x hx z (List.mem_reverse.mp hz)
  · intro x hx z hz
    cases List.mem_singleton.mp hx
    cases List.mem_singleton.mp hz
    exact KeyOrd.kle_refl _
  · rw [r]
    exact ((Stab.swap d.un.rev).trans d.t).append (Stab.refl _)
theorem Dsc.same {st0 : SortSt} {P S C G O R : List Keyed} {n neq : Nat} {st : SortSt} {y z : Keyed} (d : Dsc κ st0 P S n neq C G O (y :: R) st) (hz : z ∈ G) (h1 : κ.kle (key κ z) (key κ y)) (h2 : κ.kle (key κ y) (key κ z)) : Dsc κ st0 P S (n + 1) (neq + 1) C (G ++ [y]) (O ++ [y]) R st := by
  have m := d.m
  have g := d.g
  refine ⟨by rw [d.e, ← List.append_assoc C, List.append_assoc _ [y]]; rfl, by rw [d.s, List.append_assoc]; rfl, by rw [List.length_append, d.o]; rfl, by rw [List.length_append]; show _ + (_ + 1) = _; omega, by rw [List.length_append, g]; rfl, d.sc, ?_, ?_, ?_, d.cg⟩
  · intro u hu v hv
    rcases List.mem_append.mp hu with hu | hu
    · exact d.un u hu v hv
    · cases List.mem_singleton.mp hu
      exact KeyOrd.klt_of_kle_of_klt h2 (d.un z hz v hv)
  · intro u hu v hv
    have a1 : κ.kle (key κ u) (key κ z) := by
      rcases List.mem_append.mp hu with hu | hu
      · exact d.gg u hu z hz
      · cases List.mem_singleton.mp hu
        exact h2
    refine KeyOrd.kle_trans a1 ?_
    rcases List.mem_append.mp hv with hv | hv
    · exact d.gg z hz v hv
    · cases List.mem_singleton.mp hv
      exact h1
  · rw [← List.append_assoc]
    exact d.t.append (Stab.refl _)
theorem wpS_countRun'' (hL : LtOk prog w A E s κ kd) {lo nrem : Nat} {st : SortSt} {Q : Option Nat → SortSt → Prop} {P S : List Keyed} (hk : kindOf st = kd) (ks : ∀ x ∈ S, Kyd κ x) (he0 : (arrOf st).toList = P ++ S) (hlo : lo = P.length) (hn : S.length = nrem) (h1 : 1 ≤ nrem)
    (q : ∀ n st' M O R, 1 ≤ n → n ≤ nrem → Asc κ st P S n M O R st' → Q (some n) st') : wpS (model prog w) A E s (countRun'' lo nrem) Q st := by
  have a0 : ∃ M O R, Asc κ st P S 1 M O R st := by
    cases S with
    | nil => rw [← hn] at h1; cases h1
    | cons x R => exact ⟨[x], [x], R, he0, rfl, rfl, rfl, List.pairwise_singleton _ _, Stab.refl _, Chg.refl _⟩
  refine wpS_bind (wpS_mono (wpS_forRange (I := fun x c st' => c = (none, x) ∧ ∃ M O R, Asc κ st P S x M O R st')
    (Q := fun c st' => ∃ n, c = (none, n) ∧ (1 ≤ n ∧ n ≤ nrem) ∧ ∃ M O R, Asc κ st P S n M O R st' ∧ (R = [] ∨ ∃ c z y R', M = c ++ [z] ∧ R = y :: R' ∧ κ.klt (key κ y) (key κ z))) ?step ?fin ⟨rfl, a0⟩) ?post)
  case step =>
    rintro x c st' hx0 hx ⟨rfl, M, O, R, he, hS, hM, hO, sM, tM, cg⟩
    dsimp only
    cases R with
    | nil => rw [hS, List.append_nil, hO] at hn; omega
    | cons y R =>
    obtain ⟨c, z, rfl⟩ := snoc_of (show 1 ≤ M.length by omega)
    have kM : Kyd κ z := ks z (by rw [hS]; exact List.mem_append_left _ (tM.mem.mp (List.mem_append_right _ (List.mem_singleton_self _))))
    have ky : Kyd κ y := ks y (by rw [hS]; exact List.mem_append_right _ List.mem_cons_self)
    rw [List.length_append] at hM
    have hM' : c.length + 1 = x := hM
    refine wpS_bind (wpS_ltat hL (cg.kind.trans hk) (by rw [he]; exact at_next (by rw [List.length_append]; show _ = _ + (c.length + 1); omega)) (by rw [he]; exact at_last (by omega)) ky kM ?_)
    dsimp only
    cases hb : κ.blt (key κ y) (key κ z) with
    | true => exact wpS_pure ⟨x, rfl, ⟨by omega, by omega⟩, c ++ [z], O, y :: R, ⟨he, hS, by rw [List.length_append]; exact hM, hO, sM, tM, cg⟩, .inr ⟨c, z, y, R, rfl, rfl, hb⟩⟩
    | false => exact wpS_pure ⟨rfl, (c ++ [z]) ++ [y], O ++ [y], R, by rw [he, List.append_assoc _ [y]]; rfl, by rw [hS, List.append_assoc]; rfl, by rw [List.length_append, List.length_append]; show c.length + 1 + 1 = _; omega, by rw [List.length_append]; show O.length + 1 = _; omega, sM.snoc (sM.lastb hb), tM.append (Stab.refl _), cg⟩
  case fin =>
    rintro c st' ⟨rfl, M, O, R, h⟩
    have hR : R = [] := by
      have h3 := h.s
      rw [h3, List.length_append, h.o] at hn
      exact List.eq_nil_of_length_eq_zero (by omega)
    exact ⟨_, rfl, ⟨by omega, by omega⟩, M, O, R, h, .inl hR⟩
  case post =>
    rintro c st1 ⟨n, rfl, nn, M, O, R, h, hR⟩
    dsimp only
    refine wpS_ite (fun c1 => wpS_pure (q n st1 M O R nn.1 nn.2 h)) (fun c1 => ?_)
    rw [beq_iff_eq] at c1
    rcases hR with rfl | ⟨c, z, y, R, rfl, rfl, lt⟩
    · exfalso
      rw [h.s, List.append_nil, h.o] at hn
      exact c1 hn
    have nn1 := nn.1
    have nn2 := nn.2
    have hm := h.m
    rw [List.length_append] at hm
    have hm' : c.length + 1 = n := hm
    have hz : z ∈ c ++ [z] := List.mem_append_right _ (List.mem_singleton_self _)
    have kof : ∀ u ∈ c ++ [z], Kyd κ u := fun u hu => ks u (by rw [h.s]; exact List.mem_append_left _ (h.tm.mem.mp hu))
    have start : ∀ {C : List Keyed} {st2 : SortSt}, Chg st st2 → (arrOf st2).toList = P ++ (C ++ y :: R) → C.reverse = c ++ [z] → (∀ u ∈ c ++ [z], κ.kle (key κ z) (key κ u)) → Dsc κ st P S (n + 1) 0 C [y] (O ++ [y]) R st2 := fun {C st2} cg e r al => by
      have cl : C.length = n := by rw [← List.length_reverse, r, List.length_append]; exact hm'
      refine ⟨by rw [e, List.append_assoc]; rfl, by rw [h.s, List.append_assoc]; rfl, by rw [List.length_append, h.o]; rfl, by rw [cl]; rfl, rfl, by rw [r]; exact h.sm, fun a ha b hb => ?_, fun a ha b hb => ?_, by rw [r]; exact h.tm.append (Stab.refl _), cg⟩
      · cases List.mem_singleton.mp ha
        exact KeyOrd.klt_of_klt_of_kle lt (al b (by rw [← r]; exact List.mem_reverse.mpr hb))
      · cases List.mem_singleton.mp ha
        cases List.mem_singleton.mp hb
        exact KeyOrd.kle_refl _
    refine wpS_ite (fun c2 => ?_) (fun c2 => ?_)
    obtain ⟨f, c', rfl⟩ : ∃ f c', c = f :: c' := by
      cases c with
      | nil => have : 0 + 1 = n := hm'; omega
      | cons f c' => exact ⟨f, c', rfl⟩
    refine wpS_bind (wpS_ltat hL (h.cg.kind.trans hk) (x := f) (y := z) (by rw [h.e]; exact at_head hlo) (by rw [h.e]; exact at_last (by omega)) (kof f List.mem_cons_self) (kof z hz) ?_)
    dsimp only
    refine wpS_ite (fun hb => wpS_pure (q n st1 _ _ _ nn1 nn2 h)) (fun hb => ?_)
    refine wpS_bind (wpS_rev h.e hlo (by rw [List.length_append]; show _ = _ + (_ + 1); omega) fun st2 cg2 e2 => ?_)
    have d0 := start (h.cg.trans cg2) e2 (List.reverse_reverse _) fun u hu => KeyOrd.kle_trans (show κ.kle (key κ z) (key κ f) from Bool.eq_false_iff.mpr hb) (Srt.head (x := f) (l := c' ++ [z]) h.sm f (List.mem_singleton_self _) u hu)
    rotate_left
    have c0 : c = [] := List.eq_nil_of_length_eq_zero (by omega)
    subst c0
    have d0 := start (C := [z]) h.cg h.e rfl fun u hu => by
      cases List.mem_singleton.mp hu
      exact KeyOrd.kle_refl _
    all_goals
      refine wpS_bind (wpS_lift (wpAny_rule ⟨rfl, ?_⟩))
      refine wpS_bind (wpS_mono (wpS_forRange (I := fun x c st' => ∃ neq, c = (none, x, neq) ∧ ∃ C G O R, Dsc κ st P S x neq C G O R st')
        (Q := fun c st' => ∃ m neq, c = (none, m, neq) ∧ (1 ≤ m ∧ m ≤ nrem) ∧ ∃ C G O R, Dsc κ st P S m neq C G O R st') ?_ ?_ ⟨0, rfl, _, _, _, _, d0⟩) ?_)
      · rintro x c st' hx0 hx ⟨neq, rfl, C, G, O, R, d⟩
        dsimp only
        cases R with
        | nil => rw [d.s, List.append_nil, d.o] at hn; omega
        | cons y R =>
        have dg := d.g
        have dm := d.m
        obtain ⟨g, z, rfl⟩ := snoc_of (show 1 ≤ G.length by omega)
        have hz : z ∈ g ++ [z] := List.mem_append_right _ (List.mem_singleton_self _)
        have kz : Kyd κ z := ks z (by rw [d.s]; exact List.mem_append_left _ (d.t.mem.mp (List.mem_append_right _ hz)))
        have ky : Kyd κ y := ks y (by rw [d.s]; exact List.mem_append_right _ List.mem_cons_self)
        rw [List.length_append] at dg dm
        have dg' : g.length + 1 = neq + 1 := dg
        have dm' : C.length + (g.length + 1) = x := dm
        have py : (arrOf st').toList[lo + x]? = some y := by rw [d.e]; exact at_next (by rw [List.length_append, List.length_append]; show _ = _ + (C.length + (g.length + 1)); omega)
        have pz : (arrOf st').toList[lo + x - 1]? = some z := by rw [d.e, ← List.append_assoc C]; exact at_last (by rw [List.length_append]; omega)
        refine wpS_bind (wpS_ltat hL (d.cg.kind.trans hk) py pz ky kz ?_)
        dsimp only
        cases hb : κ.blt (key κ y) (key κ z) with
        | true =>
          have u : Under κ [y] (g ++ [z]) := fun a ha b hb' => by
            cases List.mem_singleton.mp ha
            exact KeyOrd.klt_of_klt_of_kle (show κ.klt _ _ from hb) (d.gg z hz b hb')
          rw [if_pos rfl]
          refine wpS_ite (fun c2 => ?_) (fun c2 => ?_)
          · refine wpS_bind (wpS_rev (P := P ++ C) (G := g ++ [z]) (R := y :: R) (d.e.trans app3) (by rw [List.length_append]; omega) (by rw [List.length_append]; show _ = _ + (g.length + 1); omega) fun st3 cg3 e3 => ?_)
            exact wpS_pure ⟨0, rfl, _, _, _, _, d.less u (by rw [List.length_append]; show 1 ≤ _ + 1; omega) cg3 e3⟩
          · have g0 : g = [] := List.eq_nil_of_length_eq_zero (by omega)
            subst g0
            exact wpS_pure ⟨0, rfl, _, _, _, _, d.less u (Nat.le_refl 1) (Chg.refl _) (d.e.trans app3)⟩
        | false =>
          rw [if_neg Bool.false_ne_true]
          refine wpS_bind (wpS_ltat hL (d.cg.kind.trans hk) pz py kz ky ?_)
          dsimp only
          cases hb2 : κ.blt (key κ z) (key κ y) with
          | true => exact wpS_pure ⟨x, neq, rfl, ⟨by omega, by omega⟩, C, g ++ [z], O, y :: R, d⟩
          | false => exact wpS_pure ⟨neq + 1, rfl, _, _, _, _, d.same hz hb hb2⟩
      · rintro c st' ⟨neq, rfl, C, G, O, R, d⟩
        have := d.s
        have := d.o
        exact ⟨_, neq, rfl, ⟨by omega, by rw [d.s, List.length_append, d.o] at hn; omega⟩, C, G, O, R, d⟩
      · rintro c st3 ⟨m, neq, rfl, mm, C, G, O, R, d⟩
        dsimp only
        have dg := d.g
        have dm := d.m
        have hm1 := mm.1
        have hm2 := mm.2
        refine wpS_ite (fun c2 => ?_) (fun c2 => ?_)
        refine wpS_bind (wpS_rev (P := P ++ C) (G := G) (R := R) (d.e.trans app3) (by rw [List.length_append]; omega) (by omega) fun st4 cg4 e4 => ?_)
        refine wpS_bind (wpS_rev (P := P) (G := C ++ G.reverse) (R := R) (e4.trans app3.symm) hlo (by rw [List.length_append, List.length_reverse]; omega) fun st5 cg5 e5 => ?_)
        have up := d.up (cg4.trans cg5) (by rw [e5, List.reverse_append, List.reverse_reverse])
        rotate_left
        refine wpS_bind (wpS_rev (P := P) (G := C ++ G) (R := R) d.e hlo (by rw [List.length_append]; omega) fun st5 cg5 e5 => ?_)
        have G1 : G.reverse = G := by
          obtain ⟨g, z, rfl⟩ := snoc_of (show 1 ≤ G.length by omega)
          rw [List.length_append] at dg
          rw [List.eq_nil_of_length_eq_zero (show g.length = 0 by have : g.length + 1 = neq + 1 := dg; omega)]
          rfl
        have up := d.up cg5 (by rw [e5, List.reverse_append, G1])
        all_goals
          refine wpS_bind (wpS_mono (wpS_forRange (I := fun x c st' => c = (none, x) ∧ ∃ M O R, Asc κ st P S x M O R st')
            (Q := fun c st' => ∃ n, c = (none, n) ∧ (1 ≤ n ∧ n ≤ nrem) ∧ ∃ M O R, Asc κ st P S n M O R st' ∧ (R = [] ∨ ∃ c z y R', M = c ++ [z] ∧ R = y :: R' ∧ κ.klt (key κ y) (key κ z))) ?_ ?_ ⟨rfl, _, _, _, up⟩) ?_)
          · rintro x c st' hx0 hx ⟨rfl, M, O, R, he, hS, hM, hO, sM, tM, cg⟩
            dsimp only
            cases R with
            | nil => rw [hS, List.append_nil, hO] at hn; omega
            | cons y R =>
            obtain ⟨c, z, rfl⟩ := snoc_of (show 1 ≤ M.length by omega)
            have kM : Kyd κ z := ks z (by rw [hS]; exact List.mem_append_left _ (tM.mem.mp (List.mem_append_right _ (List.mem_singleton_self _))))
            have ky : Kyd κ y := ks y (by rw [hS]; exact List.mem_append_right _ List.mem_cons_self)
            rw [List.length_append] at hM
            have hM' : c.length + 1 = x := hM
            refine wpS_bind (wpS_ltat hL (cg.kind.trans hk) (by rw [he]; exact at_next (by rw [List.length_append]; show _ = _ + (c.length + 1); omega)) (by rw [he]; exact at_last (by omega)) ky kM ?_)
            dsimp only
            cases hb : κ.blt (key κ y) (key κ z) with
            | true => exact wpS_pure ⟨x, rfl, ⟨by omega, by omega⟩, c ++ [z], O, y :: R, ⟨he, hS, by rw [List.length_append]; exact hM, hO, sM, tM, cg⟩, .inr ⟨c, z, y, R, rfl, rfl, hb⟩⟩
            | false => exact wpS_pure ⟨rfl, (c ++ [z]) ++ [y], O ++ [y], R, by rw [he, List.append_assoc _ [y]]; rfl, by rw [hS, List.append_assoc]; rfl, by rw [List.length_append, List.length_append]; show c.length + 1 + 1 = _; omega, by rw [List.length_append]; show O.length + 1 = _; omega, sM.snoc (sM.lastb hb), tM.append (Stab.refl _), cg⟩
          · rintro c st' ⟨rfl, M, O, R, h⟩
            have hR : R = [] := by
              have h3 := h.s
              rw [h3, List.length_append, h.o] at hn
              exact List.eq_nil_of_length_eq_zero (by omega)
            exact ⟨_, rfl, ⟨by omega, by omega⟩, M, O, R, h, .inl hR⟩
          · rintro c st' ⟨n, rfl, nn, M, O, R, h, _⟩
            exact wpS_pure (q n st' M O R nn.1 nn.2 h)
end
end TS

namespace TS
open PySem PyProof.Rows
variable {κ : KeyKind}
/-! ### insertion; the merge of two runs -/
def mergeAt'' : Nat → StateT SortSt Sem Bool := sortPriv% PySem.Builtin.mergeAt
section
variable {prog : Program} {w : World} {A : Around} {E : Value → Shared → Prop} {s : Shared} {kd : SortKind}
theorem Srt.get {l : List Keyed} (h : Srt κ l) {i j : Nat} {x y : Keyed} (ij : i ≤ j) (hx : l[i]? = some x) (hy : l[j]? = some y) : κ.kle (key κ x) (key κ y) := by
  have := Srt.at (κ := κ) (l := l) (b := 0) (n := l.length) (i := i) (j := j) (x := x) (y := y) (by rw [List.drop_zero, List.take_length]; exact h) ij (List.getElem?_eq_some_iff.mp hy).1 (by rw [Nat.zero_add]; exact hx) (by rw [Nat.zero_add]; exact hy)
  exact this
theorem Asc.ins {st0 : SortSt} {P S M O R : List Keyed} {k l : Nat} {st st' : SortSt} {y : Keyed} (h : Asc κ st0 P S k M O (y :: R) st) (b : Below κ (M.take l) [y]) (u : Under κ [y] (M.drop l)) (cg : Chg st st') (e : (arrOf st').toList = (P ++ M.take l) ++ (y :: M.drop l ++ R)) : Asc κ st0 P S (k + 1) (M.take l ++ (y :: M.drop l)) (O ++ [y]) R st' := by
  have ml := h.m
  have sp : M.take l ++ M.drop l = M := List.take_append_drop l M
  have sm := h.sm
  rw [← sp] at sm
  refine ⟨by rw [e, ← app3], by rw [h.s, List.append_assoc]; rfl, ?_, by rw [List.length_append, h.o]; rfl, ?_, ?_, h.cg.trans cg⟩
  · have := congrArg List.length sp
    rw [List.length_append] at this ⊢
    show _ + (_ + 1) = _
    omega
  · refine sm.left.append (List.pairwise_cons.mpr ⟨fun z hz => KeyOrd.kle_of_klt (u y (List.mem_singleton_self _) z hz), sm.right⟩) fun a ha c hc => ?_
    rcases List.mem_cons.mp hc with rfl | hc
    · exact b a ha c (List.mem_singleton_self _)
    · exact sm.mid a ha c hc
  · have t : Stab κ (M.take l ++ (y :: M.drop l)) (M ++ [y]) := by
      have : Stab κ (M.take l ++ ([y] ++ M.drop l)) (M.take l ++ (M.drop l ++ [y])) := (Stab.refl _).append (Stab.swap u)
      rw [← List.append_assoc (M.take l) (M.drop l), sp] at this
      exact this
    exact t.trans (h.tm.append (Stab.refl _))
theorem wpS_binarySort'' (hL : LtOk prog w A E s κ kd) {lo n ok : Nat} {st0 st : SortSt} {Q : Bool → SortSt → Prop} {P S M O R : List Keyed} (hk : kindOf st0 = kd) (ks : ∀ x ∈ S, Kyd κ x) (hlo : lo = P.length) (hn : n ≤ S.length) (h1 : 1 ≤ ok) (hok : ok ≤ n) (h : Asc κ st0 P S ok M O R st)
    (q : ∀ st' M O R, Asc κ st0 P S n M O R st' → Q true st') : wpS (model prog w) A E s (binarySort'' lo n ok) Q st := by
  refine wpS_bind (wpS_mono (wpS_forRange (I := fun k c st' => c = (none, ()) ∧ ∃ M O R, Asc κ st0 P S k M O R st')
    (Q := fun c st' => c = (none, ()) ∧ ∃ M O R, Asc κ st0 P S n M O R st') ?step ?fin ⟨rfl, M, O, R, by rw [show max ok 1 = ok by omega]; exact h⟩) ?post)
  case post =>
    rintro c st' ⟨rfl, M, O, R, h⟩
    exact wpS_pure (q st' M O R h)
  case fin =>
    rintro c st' ⟨rfl, M, O, R, h⟩
    rw [show max (max ok 1) n = n by omega] at h
    exact ⟨rfl, M, O, R, h⟩
  case step =>
    rintro k c st1 hk0 hkn ⟨rfl, M, O, R, h⟩
    cases R with
    | nil => have e := h.s; rw [List.append_nil] at e; rw [e, h.o] at hn; omega
    | cons y R =>
    have hM := h.m
    have ky : Kyd κ y := ks y (by rw [h.s]; exact List.mem_append_right _ List.mem_cons_self)
    refine wpS_bind (wpS_mono (wpS_forRange (I := fun x c st' => st' = st1 ∧ ∃ l r, c = (none, l, r) ∧ l ≤ r ∧ r ≤ k ∧ r - l ≤ k - x ∧ (∀ i u, i < l → M[i]? = some u → κ.kle (key κ u) (key κ y)) ∧ (∀ i u, r ≤ i → M[i]? = some u → κ.klt (key κ y) (key κ u)))
      (Q := fun c st' => st' = st1 ∧ ∃ l, c = (none, l, l) ∧ l ≤ k ∧ (∀ i u, i < l → M[i]? = some u → κ.kle (key κ u) (key κ y)) ∧ (∀ i u, l ≤ i → M[i]? = some u → κ.klt (key κ y) (key κ u))) ?istep ?ifin ⟨rfl, 0, k, rfl, by omega, by omega, by omega, fun i u hi => by omega, fun i u hi hu => by have := (List.getElem?_eq_some_iff.mp hu).1; omega⟩) ?ipost)
    case ifin =>
      rintro c st' ⟨rfl, l, r, rfl, lr, rk, rl, g1, g2⟩
      have e : l = r := by omega
      subst e
      exact ⟨rfl, l, rfl, rk, g1, g2⟩
    case istep =>
      rintro x c st' _ hx ⟨rfl, l, r, rfl, lr, rk, rl, g1, g2⟩
      dsimp only
      refine wpS_ite (fun c1 => ?_) (fun c1 => ?_)
      · have e : l = r := by omega
        subst e
        exact wpS_pure ⟨rfl, l, rfl, rk, g1, g2⟩
      obtain ⟨z, hz⟩ : ∃ z, M[(l + r) / 2]? = some z := ⟨_, List.getElem?_eq_getElem (by omega)⟩
      have kz : Kyd κ z := ks z (by rw [h.s]; exact List.mem_append_left _ (h.tm.mem.mp (List.mem_of_getElem? hz)))
      refine wpS_bind (wpS_ltat hL (h.cg.kind.trans hk) (x := y) (y := z) (by rw [h.e]; exact at_next (by omega)) (by rw [h.e, List.getElem?_append_right (by omega), List.getElem?_append_left (by omega), ← hz]; congr 1; omega) ky kz ?_)
      dsimp only
      cases hb : κ.blt (key κ y) (key κ z) with
      | true => exact wpS_pure ⟨rfl, l, (l + r) / 2, rfl, by omega, by omega, by omega, g1, fun i u hi hu => KeyOrd.klt_of_klt_of_kle (show κ.klt _ _ from hb) (h.sm.get hi hz hu)⟩
      | false => exact wpS_pure ⟨rfl, (l + r) / 2 + 1, r, rfl, by omega, by omega, by omega, fun i u hi hu => KeyOrd.kle_trans (h.sm.get (by omega) hu hz) (show κ.kle _ _ from hb), g2⟩
    case ipost =>
      rintro c st' ⟨rfl, l, rfl, lk, g1, g2⟩
      dsimp only
      have e1 : (arrOf st').toList = (P ++ M.take l) ++ (M.drop l ++ y :: R) := by rw [h.e, ← app3, List.take_append_drop]
      have tl : (M.take l).length = l := by rw [List.length_take]; omega
      have dl : (M.drop l).length = k - l := by rw [List.length_drop]; omega
      refine wpS_bind (wpS_down e1 (by rw [List.length_append]; omega) (by rw [List.length_append]; omega) fun st2 cg2 e2 => wpS_pure ⟨rfl, _, _, _, h.ins (l := l) (fun a ha b hb => ?_) (fun b hb a ha => ?_) cg2 e2⟩)
      · cases List.mem_singleton.mp hb
        obtain ⟨i, hi⟩ := List.getElem?_of_mem ha
        have il := (List.getElem?_eq_some_iff.mp hi).1
        rw [List.getElem?_take_of_lt (by omega)] at hi
        exact g1 i a (by omega) hi
      · cases List.mem_singleton.mp hb
        obtain ⟨i, hi⟩ := List.getElem?_of_mem ha
        rw [List.getElem?_drop] at hi
        exact g2 (l + i) a (by omega) hi
theorem seg1 {L P X Y : List Keyed} (e : L = P ++ (X ++ Y)) {i m : Nat} (hi : i = P.length) (hm : m ≤ X.length) : (L.drop i).take m = X.take m := by
  rw [e, hi, List.drop_left, List.take_append_of_le_length hm]
theorem seg2 {L P X Y : List Keyed} (e : L = P ++ (X ++ Y)) {i k n : Nat} (hi : i = P.length) (hn : n = X.length) (hk : k ≤ n) : (L.drop (i + k)).take (n - k) = X.drop k := by
  have : L = (P ++ X.take k) ++ (X.drop k ++ Y) := by rw [e, ← app3, List.take_append_drop]
  rw [seg1 this (by rw [List.length_append, List.length_take]; omega) (by rw [List.length_drop]; omega)]
  exact List.take_of_length_le (by rw [List.length_drop]; omega)
theorem both_runs {A1 A2 B1 B2 M : List Keyed} (sa : Srt κ (A1 ++ A2)) (sb : Srt κ (B1 ++ B2)) (b1 : Below κ A1 (B1 ++ B2)) (b2 : Below κ (A1 ++ A2) B2) (sm : Srt κ M) (tm : Stab κ M (A2 ++ B1)) : Srt κ (A1 ++ (M ++ B2)) ∧ Stab κ (A1 ++ (M ++ B2)) ((A1 ++ A2) ++ (B1 ++ B2)) := by
  have mm : ∀ x ∈ M, x ∈ A2 ∨ x ∈ B1 := fun x hx => List.mem_append.mp (tm.mem.mp hx)
  refine ⟨sa.left.append (sm.append sb.right fun x hx y hy => ?_) fun x hx y hy => ?_, ?_⟩
  · exact (mm x hx).elim (fun h => b2 x (List.mem_append_right _ h) y hy) (fun h => sb.mid x h y hy)
  · rcases List.mem_append.mp hy with hy | hy
    · exact (mm y hy).elim (fun h => sa.mid x hx y h) (fun h => b1 x hx y (List.mem_append_left _ h))
    · exact b2 x (List.mem_append_left _ hx) y hy
  · have : Stab κ (A1 ++ (M ++ B2)) (A1 ++ ((A2 ++ B1) ++ B2)) := (Stab.refl _).append (tm.append (Stab.refl _))
    rw [List.append_assoc A1 A2, ← List.append_assoc A2 B1 B2]
    exact this
theorem head_of {l : List Keyed} (h : 1 ≤ l.length) : ∃ x r, l = x :: r := by
  cases l with
  | nil => cases h
  | cons x r => exact ⟨x, r, rfl⟩
/-- two runs, one behind the other, become one -/
structure Mg (κ : KeyKind) (st st' : SortSt) (P X Y R : List Keyed) (pend : Array (Nat × Nat × Nat)) : Prop where
  kind : kindOf st' = kindOf st
  failed : failedOf st' = failedOf st
  pend : pendingOf st' = pend
  ex : ∃ M, (arrOf st').toList = P ++ (M ++ R) ∧ Srt κ M ∧ Stab κ M (X ++ Y)
theorem wpS_set {σ : Type} {M : Model} {A : Around} {E : Value → Shared → Prop} {s : Shared} {st' st : σ} {Q : PUnit → σ → Prop} (h : Q ⟨⟩ st') : wpS M A E s (set st' : StateT σ Sem PUnit) Q st := by
  unfold wpS
  rw [StateT.run_set]
  exact wpAny_pure ⟨rfl, h⟩
theorem wpS_mergeAt'' (hL : LtOk prog w A E s κ kd) {st : SortSt} {Q : Bool → SortSt → Prop} {P X Y R : List Keyed} {i sa na pa sb nb pb : Nat} (hk : kindOf st = kd) (hf : failedOf st = none) (ks : ∀ x ∈ (arrOf st).toList, Kyd κ x) (p1 : (pendingOf st)[i]? = some (sa, na, pa)) (p2 : (pendingOf st)[i + 1]? = some (sb, nb, pb))
    (e : (arrOf st).toList = P ++ (X ++ (Y ++ R))) (ha : sa = P.length) (hx : na = X.length) (hb : sb = sa + na) (hy : nb = Y.length) (x1 : 1 ≤ na) (y1 : 1 ≤ nb) (sx : Srt κ X) (sy : Srt κ Y)
    (q : ∀ st', Mg κ st st' P X Y R (((pendingOf st).setIfInBounds i (sa, na + nb, pa)).eraseIdxIfInBounds (i + 1)) → Q true st') : wpS (model prog w) A E s (mergeAt'' i) Q st := by
  refine wpS_bind (wpS_get ?_)
  rw [p1, p2]
  dsimp only
  refine wpS_bind (wpS_set ?_)
  have sz : (arrOf st).size = P.length + (X.length + (Y.length + R.length)) := by rw [← Array.length_toList, e, List.length_append, List.length_append, List.length_append]
  have e' : (arrOf st).toList = (P ++ X) ++ (Y ++ R) := by rw [e, List.append_assoc]
  obtain ⟨y0, Y', hY⟩ := head_of (show 1 ≤ Y.length by omega)
  obtain ⟨c, z, hX⟩ := snoc_of (show 1 ≤ X.length by omega)
  have cl : c.length + 1 = na := by rw [hx, hX, List.length_append]; rfl
  have ey : (arrOf st)[sb]? = some y0 := by
    rw [← Array.getElem?_toList, e', hY]
    exact at_head (by rw [List.length_append]; omega)
  have ez : ∀ k, k ≤ na → 0 < na - k → (arrOf st)[sa + k + (na - k) - 1]? = some z := fun k h1 h2 => by
    rw [← Array.getElem?_toList, e, hX]
    exact at_last (by omega)
  have kX : ∀ u ∈ X, Kyd κ u := fun u hu => ks u (by rw [e]; exact List.mem_append_right _ (List.mem_append_left _ hu))
  have kY : ∀ u ∈ Y, Kyd κ u := fun u hu => ks u (by rw [e]; exact List.mem_append_right _ (List.mem_append_right _ (List.mem_append_left _ hu)))
  have by0 : Below κ [y0] Y := by rw [hY] at sy ⊢; exact sy.head
  have lastz : Below κ X [z] := by rw [hX] at sx ⊢; exact sx.lastb (KeyOrd.kle_refl _)
  refine wpS_bind (wpS_elem ey (wpS_bind (wpS_galR hL hk (kY y0 (by rw [hY]; exact List.mem_cons_self)) ks (show sa + na ≤ (arrOf st).size by omega) (by rw [seg1 e ha (by omega)]; exact sx.take _) (by omega) fun k hk1 bl un => ?_)))
  rw [seg1 e ha (by omega)] at bl
  rw [seg2 e ha hx hk1] at un
  dsimp only
  refine wpS_ite (fun c1 => ?_) (fun c1 => ?_)
  · rw [beq_iff_eq] at c1
    rw [List.take_of_length_le (by omega)] at bl
    exact wpS_pure (q _ ⟨rfl, rfl, rfl, X ++ Y, by rw [List.append_assoc]; exact e, sx.append sy (Below.over bl by0), Stab.refl _⟩)
  rw [beq_iff_eq] at c1
  refine wpS_bind (wpS_elem (ez k hk1 (by omega)) (wpS_bind (wpS_galL hL hk (kX z (by rw [hX]; exact List.mem_append_right _ (List.mem_singleton_self _))) ks (show sb + nb ≤ (arrOf st).size by omega) (by rw [seg1 e' (by rw [List.length_append]; omega) (by omega)]; exact sy.take _) (by omega) fun m hm ul bl2 => ?_)))
  rw [seg1 e' (by rw [List.length_append]; omega) (by omega)] at ul
  rw [seg2 e' (by rw [List.length_append]; omega) hy hm] at bl2
  dsimp only
  refine wpS_ite (fun c2 => ?_) (fun c2 => ?_)
  · rw [beq_iff_eq] at c2
    rw [c2, List.drop_zero] at bl2
    exact wpS_pure (q _ ⟨rfl, rfl, rfl, X ++ Y, by rw [List.append_assoc]; exact e, sx.append sy (Below.over lastz bl2), Stab.refl _⟩)
  rw [beq_iff_eq] at c2
  have hax : ((arrOf st).extract (sa + k) sb).toList = X.drop k := by
    rw [Array.toList_extract]
    have := seg2 e ha hx hk1
    rw [show na - k = sb - (sa + k) by omega] at this
    exact this
  have hay : ((arrOf st).extract sb (sb + m)).toList = Y.take m := by
    rw [ext_take]
    exact seg1 e' (by rw [List.length_append]; omega) (by omega)
  have lax : ((arrOf st).extract (sa + k) sb).size = na - k := by rw [← Array.length_toList, hax, List.length_drop]; omega
  have lay : ((arrOf st).extract sb (sb + m)).size = m := by rw [← Array.length_toList, hay, List.length_take]; omega
  generalize (arrOf st).extract (sa + k) sb = ax at hax lax
  generalize (arrOf st).extract sb (sb + m) = ay at hay lay
  have ka : ∀ u ∈ ax.toList, Kyd κ u := fun u hu => kX u (List.mem_of_mem_drop (by rw [← hax]; exact hu))
  have kb : ∀ u ∈ ay.toList, Kyd κ u := fun u hu => kY u (List.mem_of_mem_take (by rw [← hay]; exact hu))
  have sax : Srt κ ax.toList := by rw [hax]; exact sx.drop k
  have say : Srt κ ay.toList := by rw [hay]; exact sy.take m
  have u1 : Under κ (ay.toList.take 1) ax.toList := by
    rw [hay, hax, List.take_take, hY, Nat.min_eq_left (by omega)]
    exact un
  have u2 : Under κ ay.toList (ax.toList.drop (ax.size - 1)) := by
    rw [hay, hax, lax, List.drop_drop, hX, List.drop_left' (by omega)]
    exact ul
  refine wpS_ite (fun _ => ?_) (fun _ => ?_)
  · refine wpS_bind (wpS_mergeLo hL hk ka kb sax say (by omega) (by omega) u1 u2 ?_)
    intro r st4 kp mr
    have rl : r.toList.length = (X.drop k ++ Y.take m).length := by rw [← hax, ← hay]; exact mr.2.perm.length_eq
    refine wpS_bind (wpS_modify (wpS_bind (wpS_get (wpS_pure ?_))))
    show Q (failedOf st4).isNone _
    rw [kp.failed.trans hf]
    have mr2 := mr.2
    rw [hax, hay] at mr2
    have fin := both_runs (A1 := X.take k) (A2 := X.drop k) (B1 := Y.take m) (B2 := Y.drop m) (by rw [List.take_append_drop]; exact sx) (by rw [List.take_append_drop]; exact sy) (by rw [List.take_append_drop]; exact Below.over bl by0) (by rw [List.take_append_drop]; exact Below.over lastz bl2) mr.1 mr2
    rw [List.take_append_drop, List.take_append_drop] at fin
    refine q _ ⟨kp.kind, kp.failed, kp.pend, _, ?_, fin.1, fin.2⟩
    refine (write_list r.toList 0 (sa + k) (arrOf st4) (P ++ X.take k) (X.drop k ++ Y.take m) (Y.drop m ++ R) ?_ rl ?_).trans ?_
    · rw [kp.arr, ← app3, ← List.append_assoc (X.take k), List.take_append_drop, List.append_assoc X, ← List.append_assoc (Y.take m), List.take_append_drop]
      exact e
    · rw [List.length_append, List.length_take]
      omega
    · rw [List.append_assoc P, List.append_assoc (X.take k), List.append_assoc r.toList]
  · refine wpS_bind (wpS_mergeHi hL hk ka kb sax say (by omega) (by omega) u1 u2 ?_)
    intro r st4 kp mr
    have rl : r.toList.length = (X.drop k ++ Y.take m).length := by rw [← hax, ← hay]; exact mr.2.perm.length_eq
    refine wpS_bind (wpS_modify (wpS_bind (wpS_get (wpS_pure ?_))))
    show Q (failedOf st4).isNone _
    rw [kp.failed.trans hf]
    have mr2 := mr.2
    rw [hax, hay] at mr2
    have fin := both_runs (A1 := X.take k) (A2 := X.drop k) (B1 := Y.take m) (B2 := Y.drop m) (by rw [List.take_append_drop]; exact sx) (by rw [List.take_append_drop]; exact sy) (by rw [List.take_append_drop]; exact Below.over bl by0) (by rw [List.take_append_drop]; exact Below.over lastz bl2) mr.1 mr2
    rw [List.take_append_drop, List.take_append_drop] at fin
    refine q _ ⟨kp.kind, kp.failed, kp.pend, _, ?_, fin.1, fin.2⟩
    refine (write_list r.toList 0 (sa + k) (arrOf st4) (P ++ X.take k) (X.drop k ++ Y.take m) (Y.drop m ++ R) ?_ rl ?_).trans ?_
    · rw [kp.arr, ← app3, ← List.append_assoc (X.take k), List.take_append_drop, List.append_assoc X, ← List.append_assoc (Y.take m), List.take_append_drop]
      exact e
    · rw [List.length_append, List.length_take]
      omega
    · rw [List.append_assoc P, List.append_assoc (X.take k), List.append_assoc r.toList]
end
end TS

namespace TS
open PySem PyProof.Rows
variable {κ : KeyKind}
/-! ### the runs, and all of it -/
def sortRuns'' : StateT SortSt Sem Unit := sortPriv% PySem.Builtin.sortRuns
def Tile (κ : KeyKind) : Nat → List (Nat × Nat × Nat) → List (List Keyed) → Prop
  | _, [], [] => True
  | off, p :: ps, r :: rs => p.1 = off ∧ p.2.1 = r.length ∧ 1 ≤ p.2.1 ∧ Srt κ r ∧ Tile κ (off + p.2.1) ps rs
  | _, _, _ => False
theorem Tile.merge : ∀ (i off : Nat) (ps : List (Nat × Nat × Nat)) (rs : List (List Keyed)), Tile κ off ps rs → i + 1 < ps.length →
    ∃ rs1 X Y rs2 sa na pa sb nb pb, ps[i]? = some (sa, na, pa) ∧ ps[i + 1]? = some (sb, nb, pb) ∧ rs = rs1 ++ (X :: Y :: rs2) ∧ sa = off + rs1.flatten.length ∧ na = X.length ∧ sb = sa + na ∧ nb = Y.length ∧ 1 ≤ na ∧ 1 ≤ nb ∧ Srt κ X ∧ Srt κ Y ∧
      ∀ M, Srt κ M → M.length = na + nb → Tile κ off ((ps.set i (sa, na + nb, pa)).eraseIdx (i + 1)) (rs1 ++ (M :: rs2))
  | 0, off, [], _, _, l => by cases l
  | 0, off, [p], _, _, l => by have : 1 < 1 := l; omega
  | 0, off, (sa, na, pa) :: (sb, nb, pb) :: ps, [], t, _ => t.elim
  | 0, off, (sa, na, pa) :: (sb, nb, pb) :: ps, [X], t, _ => t.2.2.2.2.elim
  | 0, off, (sa, na, pa) :: (sb, nb, pb) :: ps, X :: Y :: rs, ⟨h1, h2, h3, h4, h5, h6, h7, h8, h9⟩, _ => by
    dsimp only at h1 h2 h3 h5 h6 h7 h9
    subst h1
    refine ⟨[], X, Y, rs, sa, na, pa, sb, nb, pb, rfl, rfl, rfl, rfl, h2, h5, h6, h3, h7, h4, h8, fun M sm ml => ⟨rfl, ml.symm, ?_, sm, ?_⟩⟩
    · show 1 ≤ na + nb
      omega
    · show Tile κ (sa + (na + nb)) ps rs
      rw [← Nat.add_assoc]
      exact h9
  | i + 1, off, [], _, _, l => by cases l
  | i + 1, off, p :: ps, [], t, _ => t.elim
  | i + 1, off, p :: ps, r :: rs, ⟨h1, h2, h3, h4, h5⟩, l => by
    obtain ⟨rs1, X, Y, rs2, sa, na, pa, sb, nb, pb, g1, g2, g3, g4, g5, g6, g7, g8, g9, g10, g11, g12⟩ := Tile.merge i _ ps rs h5 (Nat.lt_of_succ_lt_succ l)
    refine ⟨r :: rs1, X, Y, rs2, sa, na, pa, sb, nb, pb, g1, g2, by rw [g3]; rfl, ?_, g5, g6, g7, g8, g9, g10, g11, fun M sm ml => ⟨h1, h2, h3, h4, g12 M sm ml⟩⟩
    rw [List.flatten_cons, List.length_append, ← h2]
    omega
theorem Tile.push : ∀ {off : Nat} {ps : List (Nat × Nat × Nat)} {rs : List (List Keyed)} {M : List Keyed} {pw : Nat}, Tile κ off ps rs → Srt κ M → 1 ≤ M.length → Tile κ off (ps ++ [(off + rs.flatten.length, M.length, pw)]) (rs ++ [M])
  | off, [], [], M, pw, _, sm, ml => ⟨by rw [List.flatten_nil]; rfl, rfl, ml, sm, trivial⟩
  | off, [], _ :: _, M, pw, t, _, _ => t.elim
  | off, _ :: _, [], M, pw, t, _, _ => t.elim
  | off, p :: ps, r :: rs, M, pw, ⟨h1, h2, h3, h4, h5⟩, sm, ml => by
    refine ⟨h1, h2, h3, h4, ?_⟩
    have := Tile.push (pw := pw) h5 sm ml
    rw [List.flatten_cons, List.length_append, ← h2, ← Nat.add_assoc]
    exact this
theorem Tile.power : ∀ (i : Nat) {off : Nat} {ps : List (Nat × Nat × Nat)} {rs : List (List Keyed)} {pw : Nat}, Tile κ off ps rs → Tile κ off (ps.modify i fun p => (p.1, p.2.1, pw)) rs
  | 0, off, [], [], pw, _ => trivial
  | 0, off, [], _ :: _, pw, t => t.elim
  | 0, off, _ :: _, [], pw, t => t.elim
  | 0, off, p :: ps, r :: rs, pw, t => t
  | i + 1, off, [], [], pw, _ => trivial
  | i + 1, off, [], _ :: _, pw, t => t.elim
  | i + 1, off, _ :: _, [], pw, t => t.elim
  | i + 1, off, p :: ps, r :: rs, pw, ⟨h1, h2, h3, h4, h5⟩ => ⟨h1, h2, h3, h4, Tile.power i h5⟩
theorem Tile.len : ∀ {off : Nat} {ps : List (Nat × Nat × Nat)} {rs : List (List Keyed)}, Tile κ off ps rs → ps.length ≤ rs.flatten.length
  | off, [], [], _ => Nat.zero_le _
  | off, [], _ :: _, t => t.elim
  | off, _ :: _, [], t => t.elim
  | off, p :: ps, r :: rs, ⟨h1, h2, h3, h4, h5⟩ => by
    have := Tile.len h5
    rw [List.flatten_cons, List.length_append, ← h2]
    show ps.length + 1 ≤ _
    omega
theorem Tile.one {ps : List (Nat × Nat × Nat)} {rs : List (List Keyed)} {off : Nat} (t : Tile κ off ps rs) (h : ps.length ≤ 1) : Srt κ rs.flatten := by
  cases ps with
  | nil =>
    cases rs with
    | nil => exact List.Pairwise.nil
    | cons r rs => exact t.elim
  | cons p ps =>
    cases ps with
    | cons p' ps => have : ps.length + 1 + 1 ≤ 1 := h; omega
    | nil =>
      cases rs with
      | nil => exact t.elim
      | cons r rs =>
        cases rs with
        | nil => rw [List.flatten_cons, List.flatten_nil, List.append_nil]; exact t.2.2.2.1
        | cons r' rs => exact t.2.2.2.2.elim
section
variable {prog : Program} {w : World} {A : Around} {E : Value → Shared → Prop} {s : Shared} {kd : SortKind}
theorem idx_ok {c : Prop} [Decidable c] {n : Nat} (h : 1 < n) : (if c then n - 2 - 1 else n - 2) + 1 < n := by
  split <;> omega
/-- the runs that stand, and what is left -/
structure RI (κ : KeyKind) (kd : SortKind) (a₀ : List Keyed) (lo : Nat) (S : List Keyed) (st : SortSt) : Prop where
  kind : kindOf st = kd
  failed : failedOf st = none
  stb : Stab κ (arrOf st).toList a₀
  ex : ∃ Rs, Tile κ 0 (pendingOf st).toList Rs ∧ (arrOf st).toList = Rs.flatten ++ S ∧ Rs.flatten.length = lo
theorem RI.keys {a₀ S : List Keyed} {lo : Nat} {st : SortSt} (h : RI κ kd a₀ lo S st) (ks : ∀ x ∈ a₀, Kyd κ x) : ∀ x ∈ (arrOf st).toList, Kyd κ x := fun x hx => ks x (h.stb.mem.mp hx)
theorem wpS_mergeStep (hL : LtOk prog w A E s κ kd) {a₀ S : List Keyed} {lo i : Nat} {st : SortSt} {Q : Bool → SortSt → Prop} (ks : ∀ x ∈ a₀, Kyd κ x) (h : RI κ kd a₀ lo S st) (hi : i + 1 < (pendingOf st).size)
    (q : ∀ st', RI κ kd a₀ lo S st' → (pendingOf st').size + 1 = (pendingOf st).size → Q true st') : wpS (model prog w) A E s (mergeAt'' i) Q st := by
  obtain ⟨Rs, t, e, l⟩ := h.ex
  obtain ⟨rs1, X, Y, rs2, sa, na, pa, sb, nb, pb, g1, g2, rfl, g4, g5, g6, g7, g8, g9, g10, g11, g12⟩ := t.merge i 0 _ _ (by rw [Array.length_toList]; exact hi)
  rw [Nat.zero_add] at g4
  have e' : (arrOf st).toList = rs1.flatten ++ (X ++ (Y ++ (rs2.flatten ++ S))) := by
    rw [e, List.flatten_append, List.flatten_cons, List.flatten_cons, List.append_assoc, List.append_assoc, List.append_assoc]
  refine wpS_mergeAt'' hL h.kind h.failed (h.keys ks) (by rw [← Array.getElem?_toList]; exact g1) (by rw [← Array.getElem?_toList]; exact g2) e' g4 g5 g6 g7 g8 g9 g10 g11 fun st' mg => ?_
  obtain ⟨M, eM, sM, tM⟩ := mg.ex
  have ml : M.length = na + nb := by rw [tM.perm.length_eq, List.length_append, g5, g7]
  have hpl : (pendingOf st').toList = ((pendingOf st).toList.set i (sa, na + nb, pa)).eraseIdx (i + 1) := by
    rw [mg.pend, Array.toList_eraseIdxIfInBounds, Array.toList_setIfInBounds]
  refine q st' ⟨mg.kind.trans h.kind, mg.failed.trans h.failed, Stab.trans ?_ h.stb, rs1 ++ (M :: rs2), by rw [hpl]; exact g12 M sM ml, ?_, ?_⟩ ?_
  · rw [eM, e', ← List.append_assoc X]
    exact (Stab.refl _).append (tM.append (Stab.refl _))
  · rw [eM, List.flatten_append, List.flatten_cons, List.append_assoc, List.append_assoc]
  · rw [← l, List.flatten_append, List.flatten_append, List.flatten_cons, List.flatten_cons, List.flatten_cons, List.length_append, List.length_append, List.length_append, List.length_append, List.length_append]
    omega
  · rw [← Array.length_toList, hpl, List.length_eraseIdx, if_pos (by rw [List.length_set, Array.length_toList]; exact hi), List.length_set, Array.length_toList]
    omega
theorem RI.push {a₀ M R : List Keyed} {lo n : Nat} {st st' : SortSt} (h : RI κ kd a₀ lo (M ++ R) st) (sM : Srt κ M) (ml : M.length = n) (n1 : 1 ≤ n) (k : kindOf st' = kindOf st) (f : failedOf st' = failedOf st) (ar : arrOf st' = arrOf st) (pd : pendingOf st' = (pendingOf st).push (lo, n, 0)) : RI κ kd a₀ (lo + n) R st' := by
  obtain ⟨Rs, t, e, l⟩ := h.ex
  refine ⟨k.trans h.kind, f.trans h.failed, by rw [ar]; exact h.stb, Rs ++ [M], ?_, ?_, ?_⟩
  · rw [pd, Array.toList_push]
    have := t.push (pw := 0) sM (by omega)
    rw [Nat.zero_add, l, ml] at this
    exact this
  · rw [ar, e, List.flatten_append, List.flatten_cons, List.flatten_nil, List.append_nil, List.append_assoc]
  · rw [List.flatten_append, List.flatten_cons, List.flatten_nil, List.append_nil, List.length_append, l, ml]
theorem RI.power {a₀ S : List Keyed} {lo i pw : Nat} {st st' : SortSt} (h : RI κ kd a₀ lo S st) (k : kindOf st' = kindOf st) (f : failedOf st' = failedOf st) (ar : arrOf st' = arrOf st) (pd : pendingOf st' = (pendingOf st).modify i fun p => (p.1, p.2.1, pw)) : RI κ kd a₀ lo S st' := by
  obtain ⟨Rs, t, e, l⟩ := h.ex
  exact ⟨k.trans h.kind, f.trans h.failed, by rw [ar]; exact h.stb, Rs, by rw [pd, Array.toList_modify]; exact t.power i, by rw [ar]; exact e, l⟩
theorem RI.powpush {a₀ M R : List Keyed} {lo n i pw : Nat} {st st' : SortSt} (h : RI κ kd a₀ lo (M ++ R) st) (sM : Srt κ M) (ml : M.length = n) (n1 : 1 ≤ n) (k : kindOf st' = kindOf st) (f : failedOf st' = failedOf st) (ar : arrOf st' = arrOf st) (pd : pendingOf st' = ((pendingOf st).modify i fun p => (p.1, p.2.1, pw)).push (lo, n, 0)) : RI κ kd a₀ (lo + n) R st' :=
  RI.push (st := setPending st ((pendingOf st).modify i fun p => (p.1, p.2.1, pw))) (h.power rfl rfl rfl rfl) sM ml n1 k f ar pd
theorem RI.asc {a₀ S M O R : List Keyed} {lo n : Nat} {st st' : SortSt} {Rs : List (List Keyed)} (h : RI κ kd a₀ lo S st) (t : Tile κ 0 (pendingOf st).toList Rs) (e : (arrOf st).toList = Rs.flatten ++ S) (l : Rs.flatten.length = lo) (as : Asc κ st Rs.flatten S n M O R st') : RI κ kd a₀ lo (M ++ R) st' := by
  refine ⟨as.cg.kind.trans h.kind, as.cg.failed.trans h.failed, Stab.trans ?_ h.stb, Rs, by rw [as.cg.pend]; exact t, as.e, l⟩
  rw [as.e, e, as.s]
  exact (Stab.refl _).append (as.tm.append (Stab.refl _))
theorem wpS_sortRuns'' (hL : LtOk prog w A E s κ kd) {st : SortSt} {Q : Unit → SortSt → Prop} (hk : kindOf st = kd) (hf : failedOf st = none) (hp : pendingOf st = #[]) (ks0 : ∀ x ∈ (arrOf st).toList, Kyd κ x)
    (q : ∀ st', failedOf st' = none → Srt κ (arrOf st').toList → Stab κ (arrOf st').toList (arrOf st).toList → Q () st') : wpS (model prog w) A E s sortRuns'' Q st := by
  refine wpS_bind (wpS_get ?_)
  obtain ⟨a₀, ha₀⟩ : ∃ a₀, a₀ = (arrOf st).toList := ⟨_, rfl⟩
  rw [← ha₀] at ks0 q
  have ks := ks0
  have r0 : RI κ kd a₀ 0 (arrOf st).toList st := ⟨hk, hf, by rw [ha₀]; exact Stab.refl _, [], by rw [hp]; trivial, rfl, rfl⟩
  have hN : (arrOf st).size = a₀.length := by rw [ha₀, Array.length_toList]
  have r0' : ∃ lo S, ((none : Option Unit), 0) = ((none : Option Unit), lo) ∧ RI κ kd a₀ lo S st ∧ 0 ≤ lo := ⟨0, _, rfl, r0, Nat.le_refl 0⟩
  have lens : ∀ {lo S st'}, RI κ kd a₀ lo S st' → lo + S.length = (arrOf st).size := fun {lo S st'} h => by
    obtain ⟨Rs, t, e, l⟩ := h.ex
    rw [hN, ← h.stb.perm.length_eq, e, List.length_append, l]
  refine wpS_bind (wpS_mono (wpS_forRange (I := fun x c st' => ∃ lo S, c = (none, lo) ∧ RI κ kd a₀ lo S st' ∧ x ≤ lo)
    (Q := fun c st' => c.1 = none ∧ ∃ lo, RI κ kd a₀ lo [] st') ?step ?fin r0') ?post)
  case fin =>
    rintro c st' ⟨lo, S, rfl, ri, hx⟩
    have := lens ri
    have hx' : max 0 (arrOf st).size ≤ lo := hx
    have hS : S = [] := List.eq_nil_of_length_eq_zero (by omega)
    subst hS
    exact ⟨rfl, lo, ri⟩
  case step =>
    rintro x c st1 _ hx ⟨lo, S, rfl, ri, hxl⟩
    dsimp only
    have hl := lens ri
    refine wpS_ite (fun c1 => ?_) (fun c1 => ?_)
    · have hS : S = [] := List.eq_nil_of_length_eq_zero (by have : (arrOf st).size ≤ lo := c1; omega)
      subst hS
      exact wpS_pure ⟨rfl, lo, ri⟩
    have c1' : lo < (arrOf st).size := Nat.lt_of_not_le c1
    obtain ⟨Rs, t, e, l⟩ := ri.ex
    have kS : ∀ u ∈ S, Kyd κ u := fun u hu => ri.keys ks u (by rw [e]; exact List.mem_append_right _ hu)
    refine wpS_bind (wpS_countRun'' hL ri.kind kS e l.symm (by show S.length = (arrOf st).size - lo; omega) (by show 1 ≤ (arrOf st).size - lo; omega) fun n st2 M O R n1 nn as => ?_)
    dsimp only
    refine wpS_ite (fun c2 => ?_) (fun c2 => ?_)
    refine wpS_bind (wpS_lift (wpAny_rule ⟨rfl, ?_⟩))
    have hmn : n ≤ min ((arrOf st).size - lo) _ := Nat.le_min.mpr ⟨nn, Nat.le_of_lt c2⟩
    refine wpS_bind (wpS_binarySort'' hL ri.kind kS l.symm (Nat.le_trans (Nat.min_le_left _ _) (by show (arrOf st).size - lo ≤ S.length; omega)) n1 hmn as fun stx M O R as => ?_)
    have n1 := Nat.le_trans n1 hmn
    clear nn hmn c2
    have ri' := ri.asc t e l as
    have sM := as.sm
    have ml := as.m
    simp only [Bool.not_true, Bool.false_eq_true, if_false]
    rotate_left
    clear c2
    obtain ⟨stx, hstx⟩ : ∃ stx, stx = st2 := ⟨_, rfl⟩
    subst hstx
    have ri' := ri.asc t e l as
    have sM := as.sm
    have ml := as.m
    all_goals
      refine wpS_bind (wpS_get ?_)
      cases hbk : (pendingOf stx).back? with
      | none =>
        dsimp only
        exact wpS_bind (wpS_modify (wpS_pure ⟨_, R, rfl, ri'.push sM ml n1 rfl rfl rfl rfl, by omega⟩))
      | some bk =>
        obtain ⟨s1, n1', pw'⟩ := bk
        dsimp only
        refine wpS_bind (wpS_mono (wpS_forRange (I := fun x c st' => c = (none, ()) ∧ RI κ kd a₀ lo (M ++ R) st') (Q := fun c st' => c = (none, ()) ∧ RI κ kd a₀ lo (M ++ R) st') ?cstep (fun _ _ h => h) ⟨rfl, ri'⟩) ?cpost)
        case cpost =>
          rintro c st5 ⟨rfl, ri5⟩
          exact wpS_bind (wpS_modify (wpS_bind (wpS_modify (wpS_pure ⟨_, R, rfl, ri5.powpush sM ml n1 rfl rfl rfl rfl, by omega⟩))))
        case cstep =>
          rintro x' c st5 _ _ ⟨rfl, ri5⟩
          refine wpS_bind (wpS_get ?_)
          by_cases c5 : (pendingOf st5).size > 1
          · rw [if_pos c5, getElem?_pos (pendingOf st5) ((pendingOf st5).size - 2) (by omega)]
            generalize (pendingOf st5)[(pendingOf st5).size - 2] = pp
            obtain ⟨f1, f2, older⟩ := pp
            dsimp only
            refine wpS_ite (fun _ => wpS_pure ⟨rfl, ri5⟩) (fun _ => ?_)
            exact wpS_bind (wpS_mergeStep hL ks ri5 (show (pendingOf st5).size - 2 + 1 < (pendingOf st5).size by omega) fun st6 ri6 _ => wpS_pure ⟨rfl, ri6⟩)
          · rw [if_neg c5]
            exact wpS_pure ⟨rfl, ri5⟩
  case post =>
    rintro c st1 ⟨hc, lo, ri⟩
    rw [hc]
    dsimp only
    have hl := lens ri
    have hl' : lo = (arrOf st).size := hl
    obtain ⟨Rs, t, e, l⟩ := ri.ex
    have pl : (pendingOf st1).size ≤ (arrOf st).size := by
      rw [← hl', ← l, ← Array.length_toList]
      exact t.len
    refine wpS_bind (wpS_mono (wpS_forRange (I := fun x c st' => c = (none, ()) ∧ RI κ kd a₀ lo [] st' ∧ (pendingOf st').size + x ≤ (arrOf st).size) (Q := fun c st' => c = (none, ()) ∧ RI κ kd a₀ lo [] st' ∧ (pendingOf st').size ≤ 1) ?fstep ?ffin ⟨rfl, ri, pl⟩) ?fpost)
    case ffin =>
      rintro c st' ⟨rfl, ri, h⟩
      exact ⟨rfl, ri, by have h' : (pendingOf st').size + max 0 (arrOf st).size ≤ (arrOf st).size := h; omega⟩
    case fpost =>
      rintro c st' ⟨rfl, ri, h⟩
      obtain ⟨Rs, t, e, l⟩ := ri.ex
      rw [List.append_nil] at e
      exact wpS_pure (q st' ri.failed (by rw [e]; exact t.one (by rw [Array.length_toList]; exact h)) ri.stb)
    case fstep =>
      rintro x c st2 _ hx ⟨rfl, ri, h⟩
      refine wpS_bind (wpS_get ?_)
      refine wpS_ite (fun c3 => wpS_pure ⟨rfl, ri, c3⟩) (fun c3 => ?_)
      have c3' : 1 < (pendingOf st2).size := Nat.lt_of_not_le c3
      refine wpS_bind (wpS_mergeStep hL ks ri (idx_ok c3') fun st3 ri3 h3 => ?_)
      exact wpS_pure ⟨rfl, ri3, by omega⟩
end
end TS

namespace TS
open PySem PyProof.Rows
/-! ### list.sort with a key that is a whole number -/
def intKind : KeyKind where
  α := Int
  blt a b := decide (a < b)
  irrefl a := by simp
  trans a b c h1 h2 := by
    rw [decide_eq_true_iff] at *
    omega
  negTrans a b c h := by
    rw [decide_eq_true_iff] at *
    rw [decide_eq_true_iff]
    omega
  total a b h1 h2 := by
    rw [decide_eq_false_iff_not] at *
    omega
  keyOf v := match v with
    | .int n _ => some n
    | _ => none
  dflt := 0
section
variable {prog : Program} {w : World} {A : Around} {E : Value → Shared → Prop} {s : Shared}
/-- the keys, as they are told -/
inductive KeysAre (R : Value → Int → Prop) : List Value → List Value → Prop
  | nil : KeysAre R [] []
  | snoc {vs ks : List Value} {v : Value} {i : Int} {t : Tok} (h : KeysAre R vs ks) (r : R v i) : KeysAre R (vs ++ [v]) (ks ++ [.int i t])
def keyKind'' : Array Value → Sem SortKind := sortPriv% PySem.Builtin.keyKind
end
end TS

namespace TS
open PySem PyProof.Rows
/-! ### list.sort with a key that is a whole number, perhaps the other way about -/
def kwOf (rv : Bool) (f : Addr) : List (Str × Value) := (Str.ofString "key", .ref f) :: if rv = true then [(Str.ofString "reverse", .bool true)] else []
section
variable {prog : Program} {w : World} {A : Around} {E : Value → Shared → Prop} {s : Shared}
end
end TS

/-! ### sorted of rows: two whole numbers, a text, a way -/
namespace TS
open PySem PyProof.Rows
open PySem.SeqAt (EqAt RcAt)
def LtAt (A : Around) (s : Shared) (x y : Value) (b : Bool) : Prop :=
  ∀ (prog : Program) (w : World) (E : Value → Shared → Prop) (Q : Value → Shared → Prop), Q (.bool b) s → wpAny (model prog w) A (richCompare .Lt x y) Q E s
def lexB (e l : Nat → Bool) (fin : Bool) : List Nat → Bool
  | [] => fin
  | j :: r => if e j = true then lexB e l fin r else l j
open AutoSeq1 (wpAny_loadPart')
open MeetsSeq MeetsSeq2 MeetsSeq3 SeqRoads2
theorem tuple_ltAt (l b : Addr) (items items2 : Array Value) (n n2 : Nat) (dd dd2 : Option Addr) (sl sl2 : Array (Option Value)) (e k : Nat → Bool) :
    Meets (Builtin.«tuple.__lt__» ⟨[.ref l, .ref b], []⟩)
      (fun A R s => s.heap.get? l = some { cls := .type "tuple", dict := dd, data := .seq items n, slots := sl } ∧ s.heap.get? b = some { cls := .type "tuple", dict := dd2, data := .seq items2 n2, slots := sl2 } ∧
        (∀ j (h1 : j < items.size) (h2 : j < items2.size), EqAt A.in1 s items[j] items2[j] (e j)) ∧
        (∀ j (h1 : j < items.size) (h2 : j < items2.size), e j = false → LtAt A.in1 s items[j] items2[j] (k j)) ∧
        R (.ok (.ret (.bool (lexB e k (decide (items.size < items2.size)) (List.range (min items.size items2.size)))))) s) :=
  .of_wp fun prog w A R s h => by
    obtain ⟨hp, g, d, tk, os⟩ := s; obtain ⟨hl, hb, he, hk, h⟩ := h
    have f2 := AutoSeq1.sub_tuple_tuple
    have hZ : (items.toList.zip items2.toList).length = min items.size items2.size := by simp
    wp_walk using wpAny_loadPart' hl, wpAny_loadPart' hb, PySem.wpAny_forIn_list _ (fun rest b s' => b.1 = none ∧ s' = ⟨hp, g, d, tk, os⟩ ∧ ∃ i, rest = (items.toList.zip items2.toList).drop i ∧
      R (.ok (.ret (.bool (lexB e k (decide (items.size < items2.size)) ((List.range (min items.size items2.size)).drop i))))) ⟨hp, g, d, tk, os⟩) _
    case turn =>
      rintro ⟨y, x⟩ rest b s' ⟨hb', rfl, i, hz, hR⟩
      have hlt : i < (items.toList.zip items2.toList).length := by
        rcases Nat.lt_or_ge i (items.toList.zip items2.toList).length with h' | h'
        · exact h'
        · rw [List.drop_of_length_le h'] at hz; cases hz
      have hm : i < min items.size items2.size := hZ ▸ hlt
      have h1 : i < items.size := Nat.lt_of_lt_of_le hm (Nat.min_le_left _ _)
      have h2 : i < items2.size := Nat.lt_of_lt_of_le hm (Nat.min_le_right _ _)
      rw [List.drop_eq_getElem_cons hlt] at hz
      injection hz with hyx hrest
      have hy : y = items[i] := by have := congrArg Prod.fst hyx; simpa using this
      have hx : x = items2[i] := by have := congrArg Prod.snd hyx; simpa using this
      subst hy hx
      have hd : (List.range (min items.size items2.size)).drop i = i :: (List.range (min items.size items2.size)).drop (i + 1) := by simp [List.drop_eq_getElem_cons, hm]
      rw [hd] at hR
      refine wpAny_bind (he i h1 h2 prog w _ _ ?_)
      cases hy : e i with
      | true =>
        rw [lexB, if_pos hy] at hR
        wp_walk
        exact ⟨rfl, rfl, i + 1, hrest, hR⟩
      | false =>
        rw [lexB, if_neg (by rw [hy]; exact Bool.false_ne_true)] at hR
        simp only [Bool.not_false, if_true]
        refine wpAny_bind (wpAny_rule ?_)
        refine wpAny_bind (hk i h1 h2 hy prog w _ _ ?_)
        wp_walk
        exact ⟨_, rfl, hR⟩
    case fin =>
      rintro ⟨b1, b2⟩ s' ⟨hb', rfl, i, hz, hR⟩
      simp only at hb'
      subst hb'
      have hge : min items.size items2.size ≤ i := by
        rcases Nat.lt_or_ge i (items.toList.zip items2.toList).length with h' | h'
        · rw [List.drop_eq_getElem_cons h'] at hz; cases hz
        · exact hZ ▸ h'
      rw [List.drop_of_length_le (by simpa using hge)] at hR
      wp_walk
      exact ⟨_, rfl, by simpa [Builtin.Tuple.tupleCompareSizes, lexB] using hR⟩
    case h =>
      exact ⟨rfl, rfl, 0, rfl, by simpa using h⟩
theorem LtAt.tuples {A : Around} {s : Shared} {l b : Addr} {items items2 : Array Value} {e k : Nat → Bool} (hl : s.heap.IsTuple l items) (hb : s.heap.IsTuple b items2) (hu : A.units < cLine)
    (he : ∀ j (h1 : j < items.size) (h2 : j < items2.size), EqAt A.in1 s items[j] items2[j] (e j)) (hk : ∀ j (h1 : j < items.size) (h2 : j < items2.size), e j = false → LtAt A.in1 s items[j] items2[j] (k j)) :
    LtAt A s (.ref l) (.ref b) (lexB e k (decide (items.size < items2.size)) (List.range (min items.size items2.size))) := fun prog w E Q h => by
  obtain ⟨⟨cls, dd, data, sl⟩, ho, hc, n, hd⟩ := id hl
  obtain ⟨⟨cls2, dd2, data2, sl2⟩, ho2, hc2, n2, hd2⟩ := id hb
  simp only at hc hd hc2 hd2
  subst hc hd hc2 hd2
  exact richCompare_meets_room (op := .Lt) ⟨_, ho, rfl⟩ ⟨_, ho2, rfl⟩ F.slot_tuple_lt F.entry_tuple_lt (F.args_tuple_lt_2 _ _) (tuple_ltAt l b items items2 n n2 dd dd2 sl sl2 e k)
    ⟨ho, ho2, he, hk, show Value.bool _ ≠ Value.notImplemented ∧ Q (.bool _) s from ⟨(fun x => nomatch x), h⟩⟩ hu
theorem LtAt.int {A : Around} {s : Shared} (a b : Int) (t u : Tok) : LtAt A s (.int a t) (.int b u) (decide (a < b)) := fun _ _ _ _ h => lt_int h
theorem LtAt.str {A : Around} {s : Shared} (a b : Str) (t u : Tok) : LtAt A s (.str a t) (.str b u) (decide (a.cps.toList < b.cps.toList)) := fun _ _ _ _ h => lt_str h
/-! ### orders, one behind the other -/
def lexO (O P : KeyOrd) : KeyOrd where
  α := O.α × P.α
  blt a b := O.blt a.1 b.1 || (!O.blt b.1 a.1 && P.blt a.2 b.2)
  irrefl a := by simp [O.irrefl, P.irrefl]
  trans a b c h1 h2 := by
    simp only [Bool.or_eq_true, Bool.and_eq_true, Bool.not_eq_true'] at *
    rcases h1 with h1 | ⟨h1, h1'⟩ <;> rcases h2 with h2 | ⟨h2, h2'⟩
    · exact .inl (O.trans _ _ _ h1 h2)
    · rcases O.negTrans _ c.1 _ h1 with x | x
      · exact .inl x
      · rw [h2] at x; cases x
    · rcases O.negTrans _ a.1 _ h2 with x | x
      · rw [h1] at x; cases x
      · exact .inl x
    · refine .inr ⟨?_, P.trans _ _ _ h1' h2'⟩
      cases hc : O.blt c.1 a.1 with
      | false => rfl
      | true =>
        rcases O.negTrans _ b.1 _ hc with x | x
        · rw [h2] at x; cases x
        · rw [h1] at x; cases x
  negTrans a b c h := by
    simp only [Bool.or_eq_true, Bool.and_eq_true, Bool.not_eq_true'] at *
    rcases h with h | ⟨h, h'⟩
    · rcases O.negTrans _ b.1 _ h with x | x
      · exact .inl (.inl x)
      · exact .inr (.inl x)
    · cases h1 : O.blt b.1 a.1 with
      | true =>
        rcases O.negTrans _ c.1 _ h1 with x | x
        · exact .inr (.inl x)
        · rw [h] at x; cases x
      | false =>
        cases h2 : O.blt c.1 b.1 with
        | true =>
          rcases O.negTrans _ a.1 _ h2 with x | x
          · rw [h] at x; cases x
          · exact .inl (.inl x)
        | false =>
          rcases P.negTrans _ b.2 _ h' with x | x
          · exact .inl (.inr ⟨rfl, x⟩)
          · exact .inr (.inr ⟨rfl, x⟩)
  total a b h1 h2 := by
    simp only [Bool.or_eq_false_iff, Bool.and_eq_false_iff, Bool.not_eq_false'] at *
    obtain ⟨h1, h1'⟩ := h1
    obtain ⟨h2, h2'⟩ := h2
    have e := O.total _ _ h1 h2
    have e2 := P.total a.2 b.2 (h1'.resolve_left (by rw [h2]; exact Bool.false_ne_true)) (h2'.resolve_left (by rw [h1]; exact Bool.false_ne_true))
    exact Prod.ext e e2
theorem lex_eq {O P : KeyOrd} (a : O.α) (r r' : P.α) : (lexO O P).blt (a, r) (a, r') = P.blt r r' := by
  show (O.blt a a || (!O.blt a a && P.blt r r')) = _
  rw [O.irrefl]; rfl
theorem lex_ne {O P : KeyOrd} {a b : O.α} (r r' : P.α) (h : a ≠ b) : (lexO O P).blt (a, r) (b, r') = O.blt a b := by
  show (O.blt a b || (!O.blt b a && P.blt r r')) = _
  cases h1 : O.blt a b with
  | true => rfl
  | false =>
    cases h2 : O.blt b a with
    | true => rfl
    | false => exact absurd (O.total _ _ h1 h2) h
def wayO : KeyOrd := lexO strKind.toKeyOrd (lexO intKind.toKeyOrd strKind.toKeyOrd)
def rowO : KeyOrd := lexO intKind.toKeyOrd (lexO intKind.toKeyOrd (lexO strKind.toKeyOrd wayO))
def cps (x : Str) : List Nat := x.cps.toList
theorem cps_inj {x y : Str} (h : cps x = cps y) : x = y := by
  cases x; cases y
  have h' := Array.toList_inj.mp h
  simp only at h'
  rw [h']
/-- a way, at a heap -/
inductive WayAt (h : Heap) (p : Addr) : wayO.α → Prop
  | saw (k : Int) (t u : Tok) (i : h.IsTuple p #[.str "saw" t, .int k u]) : WayAt h p (cps "saw", k, [])
  | heard (k : Int) (z : Str) (t u v : Tok) (i : h.IsTuple p #[.str "heard" t, .int k u, .str z v]) : WayAt h p (cps "heard", k, cps z)
inductive RowAt (h : Heap) (p : Addr) : rowO.α → Prop
  | mk (i j : Int) (z : Str) (q : Addr) (w : wayO.α) (t u v : Tok) (r : h.IsTuple p #[.int i t, .int j u, .str z v, .ref q]) (hw : WayAt h q w) : RowAt h p (i, j, cps z, w)
theorem isTuple_inj {h : Heap} {p : Addr} {xs ys : Array Value} (a : h.IsTuple p xs) (b : h.IsTuple p ys) : xs = ys := by
  obtain ⟨o, ho, hc, n, hd⟩ := a
  obtain ⟨o2, ho2, hc2, n2, hd2⟩ := b
  rw [ho] at ho2
  cases ho2
  rw [hd] at hd2
  injection hd2
theorem WayAt.inj {h : Heap} {p : Addr} {x y : wayO.α} (a : WayAt h p x) (b : WayAt h p y) : x = y := by
  cases a with
  | saw k t u i =>
    cases b with
    | saw k' t' u' i' =>
      have e := isTuple_inj i i'
      simp only [Array.mk.injEq, List.cons.injEq, Value.int.injEq, and_true] at e
      rw [e.2.1]
    | heard k' z' t' u' v' i' =>
      have e := congrArg Array.size (isTuple_inj i i')
      cases e
  | heard k z t u v i =>
    cases b with
    | saw k' t' u' i' =>
      have e := congrArg Array.size (isTuple_inj i i')
      cases e
    | heard k' z' t' u' v' i' =>
      have e := isTuple_inj i i'
      simp only [Array.mk.injEq, List.cons.injEq, Value.int.injEq, Value.str.injEq, and_true] at e
      rw [e.2.1.1, e.2.2.1]
theorem str_lt_ne {x y : Str} (h : x ≠ y) {O : KeyOrd} (r r' : O.α) : (lexO strKind.toKeyOrd O).blt (cps x, r) (cps y, r') = decide (x.cps.toList < y.cps.toList) := lex_ne (O := strKind.toKeyOrd) r r' fun e => h (cps_inj e)
theorem int_lt_ne {x y : Int} (h : x ≠ y) {O : KeyOrd} (r r' : O.α) : (lexO intKind.toKeyOrd O).blt (x, r) (y, r') = decide (x < y) := lex_ne (O := intKind.toKeyOrd) r r' h
theorem int_lt_eq (x : Int) {O : KeyOrd} (r r' : O.α) : (lexO intKind.toKeyOrd O).blt (x, r) (x, r') = O.blt r r' := lex_eq (O := intKind.toKeyOrd) x r r'
theorem str_lt_eq (x : Str) {O : KeyOrd} (r r' : O.α) : (lexO strKind.toKeyOrd O).blt (cps x, r) (cps x, r') = O.blt r r' := lex_eq (O := strKind.toKeyOrd) (cps x) r r'
theorem tr {Q : Bool → Shared → Prop} {s : Shared} {b c : Bool} (h : Q b s) (e : b = c) : Q c s := e ▸ h
theorem ne_beq {α : Type} [BEq α] [LawfulBEq α] {x y : α} (h : (x == y) = false) : x ≠ y := fun e => by rw [e, beq_self_eq_true] at h; cases h
section
variable {prog : Program} {w : World} {A : Around} {E : Value → Shared → Prop} {s : Shared}
inductive WayCmp (A : Around) (s : Shared) (p q : Addr) (x y : wayO.α) : Prop
  | same (e : EqAt A s (.ref p) (.ref q) true) (h : x = y)
  | other (e : EqAt A s (.ref p) (.ref q) false) (h : x ≠ y) (l : LtAt A s (.ref p) (.ref q) (wayO.blt x y))
theorem way_cmp {p q : Addr} {x y : wayO.α} (hu : A.units < cLine) (wp : WayAt s.heap p x) (wq : WayAt s.heap q y) : WayCmp A s p q x y := by
  by_cases pq : p = q
  · subst pq
    exact .same (.same _) (wp.inj wq)
  cases wp with
  | saw k t u i =>
    cases wq with
    | saw k' t' u' i' =>
      have he : ∀ j (h1 : j < (#[Value.str "saw" t, .int k u]).size) (h2 : j < (#[Value.str "saw" t', .int k' u']).size), EqAt A.in1 s (#[Value.str "saw" t, .int k u])[j] (#[Value.str "saw" t', .int k' u'])[j] (if j = 0 then true else (k == k')) := fun j h1 h2 =>
        match j, h1, h2 with
        | 0, _, _ => EqAt.str_str "saw" t "saw" t'
        | 1, _, _ => EqAt.int_int k u k' u'
        | j + 2, h1, _ => absurd h1 (by show ¬ j + 2 < 2; omega)
      have rc := RcAt.tuples (A := A) (e := fun j => if j = 0 then true else (k == k')) i i' hu he
      by_cases kk : k = k'
      · have e1 : ((List.range (min (#[Value.str "saw" t, .int k u]).size (#[Value.str "saw" t', .int k' u']).size)).all (fun j => if j = 0 then true else (k == k')) && (#[Value.str "saw" t, .int k u]).size == (#[Value.str "saw" t', .int k' u']).size) = true := by
          subst kk; simp [List.range, List.range.loop]
        rw [e1] at rc
        exact .same (.of_refs pq rc) (by rw [kk])
      · have kf : (k == k') = false := by simp [kk]
        have e1 : ((List.range (min (#[Value.str "saw" t, .int k u]).size (#[Value.str "saw" t', .int k' u']).size)).all (fun j => if j = 0 then true else (k == k')) && (#[Value.str "saw" t, .int k u]).size == (#[Value.str "saw" t', .int k' u']).size) = false := by
          rw [kf]; rfl
        rw [e1] at rc
        refine .other (.of_refs pq rc) (fun e => kk ?_) ?_
        · exact congrArg (fun z : List Nat × Int × List Nat => z.2.1) e
        · have l := LtAt.tuples (A := A) (k := fun _ => decide (k < k')) i i' hu he fun j h1 h2 => match j, h1, h2 with
            | 0, _, _ => fun h => by cases h
            | 1, _, _ => fun _ => LtAt.int k k' u u'
            | j + 2, h1, _ => absurd h1 (by show ¬ j + 2 < 2; omega)
          have e2 : wayO.blt (cps "saw", k, []) (cps "saw", k', []) = decide (k < k') := (lex_eq (O := strKind.toKeyOrd) _ _ _).trans (int_lt_ne (O := strKind.toKeyOrd) kk _ _)
          rw [e2]
          have e3 : lexB (fun j => if j = 0 then true else (k == k')) (fun _ => decide (k < k')) (decide ((#[Value.str "saw" t, .int k u]).size < (#[Value.str "saw" t', .int k' u']).size)) (List.range (min (#[Value.str "saw" t, .int k u]).size (#[Value.str "saw" t', .int k' u']).size)) = decide (k < k') := by
            rw [kf]; rfl
          rw [e3] at l
          exact l
    | heard k' z' t' u' v' i' =>
      have he : ∀ j (h1 : j < (#[Value.str "saw" t, .int k u]).size) (h2 : j < (#[Value.str "heard" t', .int k' u', .str z' v']).size), EqAt A.in1 s (#[Value.str "saw" t, .int k u])[j] (#[Value.str "heard" t', .int k' u', .str z' v'])[j] (if j = 0 then false else (k == k')) := fun j h1 h2 =>
        match j, h1, h2 with
        | 0, _, _ => EqAt.str_str "saw" t "heard" t'
        | 1, _, _ => EqAt.int_int k u k' u'
        | j + 2, h1, _ => absurd h1 (by show ¬ j + 2 < 2; omega)
      have rc := RcAt.tuples (A := A) (e := fun j => if j = 0 then false else (k == k')) i i' hu he
      have e1 : ((List.range (min (#[Value.str "saw" t, .int k u]).size (#[Value.str "heard" t', .int k' u', .str z' v']).size)).all (fun j => if j = 0 then false else (k == k')) && (#[Value.str "saw" t, .int k u]).size == (#[Value.str "heard" t', .int k' u', .str z' v']).size) = false := rfl
      rw [e1] at rc
      refine .other (.of_refs pq rc) (fun e => absurd (cps_inj (congrArg Prod.fst e)) (by decide)) ?_
      have l := LtAt.tuples (A := A) (k := fun j => if j = 0 then decide (("saw" : Str).cps.toList < ("heard" : Str).cps.toList) else decide (k < k')) i i' hu he fun j h1 h2 => match j, h1, h2 with
        | 0, _, _ => fun _ => LtAt.str "saw" "heard" t t'
        | 1, _, _ => fun _ => LtAt.int k k' u u'
        | j + 2, h1, _ => absurd h1 (by show ¬ j + 2 < 2; omega)
      have e2 : wayO.blt (cps "saw", k, []) (cps "heard", k', cps z') = decide (("saw" : Str).cps.toList < ("heard" : Str).cps.toList) := str_lt_ne (O := lexO intKind.toKeyOrd strKind.toKeyOrd) (by decide) _ _
      rw [e2]
      exact l
  | heard k z t u v i =>
    cases wq with
    | saw k' t' u' i' =>
      have he : ∀ j (h1 : j < (#[Value.str "heard" t, .int k u, .str z v]).size) (h2 : j < (#[Value.str "saw" t', .int k' u']).size), EqAt A.in1 s (#[Value.str "heard" t, .int k u, .str z v])[j] (#[Value.str "saw" t', .int k' u'])[j] (if j = 0 then false else (k == k')) := fun j h1 h2 =>
        match j, h1, h2 with
        | 0, _, _ => EqAt.str_str "heard" t "saw" t'
        | 1, _, _ => EqAt.int_int k u k' u'
        | j + 2, _, h2 => absurd h2 (by show ¬ j + 2 < 2; omega)
      have rc := RcAt.tuples (A := A) (e := fun j => if j = 0 then false else (k == k')) i i' hu he
      have e1 : ((List.range (min (#[Value.str "heard" t, .int k u, .str z v]).size (#[Value.str "saw" t', .int k' u']).size)).all (fun j => if j = 0 then false else (k == k')) && (#[Value.str "heard" t, .int k u, .str z v]).size == (#[Value.str "saw" t', .int k' u']).size) = false := rfl
      rw [e1] at rc
      refine .other (.of_refs pq rc) (fun e => absurd (cps_inj (congrArg Prod.fst e)) (by decide)) ?_
      have l := LtAt.tuples (A := A) (k := fun j => if j = 0 then decide (("heard" : Str).cps.toList < ("saw" : Str).cps.toList) else decide (k < k')) i i' hu he fun j h1 h2 => match j, h1, h2 with
        | 0, _, _ => fun _ => LtAt.str "heard" "saw" t t'
        | 1, _, _ => fun _ => LtAt.int k k' u u'
        | j + 2, _, h2 => absurd h2 (by show ¬ j + 2 < 2; omega)
      have e2 : wayO.blt (cps "heard", k, cps z) (cps "saw", k', []) = decide (("heard" : Str).cps.toList < ("saw" : Str).cps.toList) := str_lt_ne (O := lexO intKind.toKeyOrd strKind.toKeyOrd) (by decide) _ _
      rw [e2]
      exact l
    | heard k' z' t' u' v' i' =>
      have he : ∀ j (h1 : j < (#[Value.str "heard" t, .int k u, .str z v]).size) (h2 : j < (#[Value.str "heard" t', .int k' u', .str z' v']).size), EqAt A.in1 s (#[Value.str "heard" t, .int k u, .str z v])[j] (#[Value.str "heard" t', .int k' u', .str z' v'])[j] (if j = 0 then true else if j = 1 then (k == k') else (z == z')) := fun j h1 h2 =>
        match j, h1, h2 with
        | 0, _, _ => EqAt.str_str "heard" t "heard" t'
        | 1, _, _ => EqAt.int_int k u k' u'
        | 2, _, _ => EqAt.str_str z v z' v'
        | j + 3, h1, _ => absurd h1 (by show ¬ j + 3 < 3; omega)
      have rc := RcAt.tuples (A := A) i i' hu he
      have l := LtAt.tuples (A := A) (k := fun j => if j = 1 then decide (k < k') else decide (z.cps.toList < z'.cps.toList)) i i' hu he fun j h1 h2 => match j, h1, h2 with
        | 0, _, _ => fun h => by cases h
        | 1, _, _ => fun _ => LtAt.int k k' u u'
        | 2, _, _ => fun _ => LtAt.str z z' v v'
        | j + 3, h1, _ => absurd h1 (by show ¬ j + 3 < 3; omega)
      have re : ((List.range (min (#[Value.str "heard" t, .int k u, .str z v]).size (#[Value.str "heard" t', .int k' u', .str z' v']).size)).all (fun j => if j = 0 then true else if j = 1 then (k == k') else (z == z')) && (#[Value.str "heard" t, .int k u, .str z v]).size == (#[Value.str "heard" t', .int k' u', .str z' v']).size) = (k == k' && z == z') := by
        cases (k == k') <;> cases (z == z') <;> rfl
      have le : lexB (fun j => if j = 0 then true else if j = 1 then (k == k') else (z == z')) (fun j => if j = 1 then decide (k < k') else decide (z.cps.toList < z'.cps.toList)) (decide ((#[Value.str "heard" t, .int k u, .str z v]).size < (#[Value.str "heard" t', .int k' u', .str z' v']).size)) (List.range (min (#[Value.str "heard" t, .int k u, .str z v]).size (#[Value.str "heard" t', .int k' u', .str z' v']).size)) = (if (k == k') = true then (if (z == z') = true then false else decide (z.cps.toList < z'.cps.toList)) else decide (k < k')) := by
        cases (k == k') <;> cases (z == z') <;> rfl
      rw [re] at rc
      rw [le] at l
      have b1 : wayO.blt (cps "heard", k, cps z) (cps "heard", k', cps z') = (lexO intKind.toKeyOrd strKind.toKeyOrd).blt (k, cps z) (k', cps z') := lex_eq (O := strKind.toKeyOrd) _ _ _
      by_cases kk : k = k'
      · subst kk
        by_cases zz : z = z'
        · subst zz
          rw [beq_self_eq_true, beq_self_eq_true] at rc
          exact .same (.of_refs pq rc) rfl
        · have zf : (z == z') = false := by simp [zz]
          rw [beq_self_eq_true, zf] at rc l
          refine .other (.of_refs pq rc) (fun e => zz (cps_inj (congrArg (fun z : List Nat × Int × List Nat => z.2.2) e))) ?_
          rw [b1, int_lt_eq (O := strKind.toKeyOrd)]
          exact l
      · have kf : (k == k') = false := by simp [kk]
        rw [kf] at rc l
        refine .other (.of_refs pq rc) (fun e => kk (congrArg (fun z : List Nat × Int × List Nat => z.2.1) e)) ?_
        rw [b1, int_lt_ne (O := strKind.toKeyOrd) kk]
        exact l
def rowKind (as : List Addr) (g : Addr → rowO.α) : KeyKind where
  toKeyOrd := rowO
  keyOf v := match v with
    | .ref a => if a ∈ as then some (g a) else none
    | _ => none
  dflt := ((0 : Int), (0 : Int), ([] : List Nat), ([] : List Nat), (0 : Int), ([] : List Nat))
theorem row_lt {p q : Addr} {x y : rowO.α} {Q : Bool → Shared → Prop} (hu : A.units < cLine) (rp : RowAt s.heap p x) (rq : RowAt s.heap q y) (h : Q (rowO.blt x y) s) : wpAny (model prog w) A (keyLt' (tuples' true) (.ref p) (.ref q)) Q E s := by
  obtain ⟨i, j, z, pw, x, t, u, v, ⟨o, ho, hc, n, hd⟩, hw⟩ := rp
  obtain ⟨i', j', z', pw', x', t', u', v', ⟨o', ho', hc', n', hd'⟩, hw'⟩ := rq
  refine PySem.W.kat_lt ho hd ho' hd' ?_
  refine PySem.W.kat_cons (EqAt.int_int i t i' t' prog w _ _ (PySem.W.kat_go (fun e => PySem.W.kat_yes ?_) fun e => PySem.W.kat_no ?_))
  · have e := eq_of_beq e
    subst e
    have h := tr h (int_lt_eq (O := lexO intKind.toKeyOrd (lexO strKind.toKeyOrd wayO)) i (j, cps z, x) (j', cps z', x'))
    refine PySem.W.kat_cons (EqAt.int_int j u j' u' prog w _ _ (PySem.W.kat_go (fun e => PySem.W.kat_yes ?_) fun e => PySem.W.kat_no ?_))
    · have e := eq_of_beq e
      subst e
      have h := tr h (int_lt_eq (O := lexO strKind.toKeyOrd wayO) j (cps z, x) (cps z', x'))
      refine PySem.W.kat_cons (EqAt.str_str z v z' v' prog w _ _ (PySem.W.kat_go (fun e => PySem.W.kat_yes ?_) fun e => PySem.W.kat_no ?_))
      · have e := eq_of_beq e
        subst e
        have h := tr h (str_lt_eq (O := wayO) z x x')
        rcases way_cmp (A := A) hu hw hw' with ⟨e, rfl⟩ | ⟨e, _, l⟩
        · refine PySem.W.kat_cons (e prog w _ _ (PySem.W.kat_yes (PySem.W.kat_nil ?_)))
          exact tr h (wayO.irrefl _)
        · refine PySem.W.kat_cons (e prog w _ _ (PySem.W.kat_no (PySem.W.kat_one _ _ ?_)))
          exact l prog w _ _ h
      · have h := tr h (str_lt_ne (O := wayO) (ne_beq e) x x')
        exact PySem.W.kat_one _ _ (LtAt.str z z' v v' prog w _ _ h)
    · have h := tr h (int_lt_ne (O := lexO strKind.toKeyOrd wayO) (ne_beq e) (cps z, x) (cps z', x'))
      exact PySem.W.kat_one _ _ (LtAt.int j j' u u' prog w _ _ h)
  · have h := tr h (int_lt_ne (O := lexO intKind.toKeyOrd (lexO strKind.toKeyOrd wayO)) (ne_beq e) (j, cps z, x) (j', cps z', x'))
    exact oneLt_int h
theorem ltOk_row {as : List Addr} {g : Addr → rowO.α} (hu : A.units < cLine) (hr : ∀ a ∈ as, RowAt s.heap a (g a)) : LtOk prog w A E s (rowKind as g) (tuples' true) := by
  rintro ⟨x, p⟩ ⟨y, q⟩ st Q hk ⟨a, ha⟩ ⟨b, hb⟩ h
  have one : ∀ {v : Value} {c : rowO.α}, (rowKind as g).keyOf v = some c → ∃ m, v = .ref m ∧ m ∈ as ∧ c = g m := fun {v c} hv => by
    cases v <;> try (cases hv)
    rename_i m
    have hv' : (if m ∈ as then some (g m) else none) = some c := hv
    split at hv'
    · cases hv'
      exact ⟨m, rfl, by assumption, rfl⟩
    · cases hv'
  obtain ⟨m, rfl, mm, rfl⟩ := one ha
  obtain ⟨m', rfl, mm', rfl⟩ := one hb
  rw [lt'_eq]
  refine wpS_bind (wpS_get ?_)
  rw [hk]
  have e1 : key (rowKind as g) (.ref m, p) = g m := by unfold key; rw [show (rowKind as g).keyOf (Value.ref m, p).1 = _ from ha]; rfl
  have e2 : key (rowKind as g) (.ref m', q) = g m' := by unfold key; rw [show (rowKind as g).keyOf (Value.ref m', q).1 = _ from hb]; rfl
  rw [e1, e2] at h
  exact wpS_bind (wpS_lift (wpAny_attempt (row_lt hu (hr m mm) (hr m' mm') ⟨rfl, wpS_pure h⟩)))
theorem rows_kat {h : Heap} {g : Addr → rowO.α} : ∀ (as : List Addr), (∀ a ∈ as, RowAt h a (g a)) → ∃ fs : List Value, fs.length = as.length ∧ PySem.W.KatTups h (as.map Value.ref) fs ∧ ∀ v ∈ fs, ∃ i t, v = .int i t
  | [], _ => ⟨[], rfl, .nil, fun v hv => by cases hv⟩
  | a :: as, hr => by
    obtain ⟨fs, l, k, f⟩ := rows_kat as fun b hb => hr b (.tail _ hb)
    have ra := hr a (.head _)
    generalize g a = x at ra
    obtain ⟨i, j, z, q, w, t, u, v, ⟨o, ho, hc, n, hd⟩, hw⟩ := ra
    exact ⟨.int i t :: fs, by rw [List.length_cons, l]; rfl, .cons ho hc hd rfl k, fun v hv => by
      rcases List.mem_cons.mp hv with rfl | hv
      · exact ⟨i, t, rfl⟩
      · exact f v hv⟩
def unref : Value → Addr
  | .ref a => a
  | _ => 0
theorem list_sort_rows {a : Addr} {as : List Addr} {g : Addr → rowO.α} {n : Nat} {P : Fin → Shared → Prop} (ho : s.heap.get? a = some (seqObj "list" (as.map Value.ref).toArray n)) (vl : as.length ≤ sizeLine) (hu : A.units < cLine)
    (hr : ∀ x ∈ as, RowAt (((s.heap.update a (Obj.mapSeq fun _ => #[])).push (seqObj "tuple" (as.map Value.ref).toArray 0)).push (seqObj "list" #[] 0)) x (g x))
    (fin : ∀ ys : List Addr, ys.Perm as → P (.done (.ret .none)) { s with heap := (((s.heap.update a (Obj.mapSeq fun _ => #[])).push (seqObj "tuple" (as.map Value.ref).toArray 0)).push (seqObj "list" #[] 0)).update a (Obj.mapSeq fun _ => (ys.map Value.ref).toArray) }) :
    wpAny (model prog w) A (Builtin.«list.sort» ⟨[.ref a], []⟩) P E s := by
  have ha : a < s.heap.objs.size := Heap.lt_size ho
  obtain ⟨e1, ho1⟩ : ∃ e1, (s.heap.update a (Obj.mapSeq fun _ => (#[] : Array Value))).get? a = some (seqObj "list" #[] e1) := ⟨_, get?_update_seq ho fun _ => #[]⟩
  have hN : (s.heap.update a (Obj.mapSeq fun _ => (#[] : Array Value))).objs.size = s.heap.objs.size := Heap.size_update _ _ _
  have ho6 : (((s.heap.update a (Obj.mapSeq fun _ => #[])).push (seqObj "tuple" (as.map Value.ref).toArray 0)).push (seqObj "list" #[] 0)).get? a = some (seqObj "list" #[] e1) := by
    rw [Heap.get?_push_ne _ _ _ (by rw [size_push', hN]; exact Nat.ne_of_lt (Nat.lt_succ_of_lt ha)), Heap.get?_push_ne _ _ _ (by rw [hN]; exact Nat.ne_of_lt ha)]
    exact ho1
  have sz : (as.map Value.ref).toArray.size = as.length := by rw [List.size_toArray, List.length_map]
  rw [list_sort_plain]
  refine wpAny_bind (listItems_at ho rfl ?_)
  refine wpAny_bind (listUpdate_at ho rfl ?_ (by rw [sz]; exact vl) (Nat.zero_le _))
  refine wpAny_bind (seqEpoch_at ho1 rfl ?_)
  refine wpAny_bind (wpAny_newTuple ?_ (by show (as.map Value.ref).length ≤ _; rw [List.length_map]; exact vl))
  refine wpAny_bind (wpAny_newList ?_ (Nat.zero_le _))
  refine wpAny_holding ?_
  show wpAny (model prog w) A _ P E { s with heap := ((s.heap.update a (Obj.mapSeq fun _ => #[])).push (seqObj "tuple" (as.map Value.ref).toArray 0)).push (seqObj "list" #[] 0) }
  dsimp only
  have ends : ∀ (ys : List Addr) (st' : SortSt), failedOf st' = none → (arrOf st').map (·.2) = (ys.map Value.ref).toArray → ys.Perm as →
      wpAny (model prog w) A (do
        let touched := (← seqEpoch a) != e1
        Builtin.List.listUpdate (.ref a) fun _ => (arrOf st').map (·.2)
        if let some e := failedOf st' then rule "list.sort.comparison-raised"; throw e
        if touched then rule "list.sort.modified"; raiseError "ValueError" "list modified during sort"
        ret .none) P E { s with heap := ((s.heap.update a (Obj.mapSeq fun _ => #[])).push (seqObj "tuple" (as.map Value.ref).toArray 0)).push (seqObj "list" #[] 0) } := fun ys st' hf hy hp => by
    refine wpAny_bind (seqEpoch_at ho6 rfl ?_)
    rw [hy]
    refine wpAny_bind (listUpdate_at ho6 rfl ?_ (Nat.zero_le _) (by rw [List.size_toArray, List.length_map, hp.length_eq]; first | exact vl | exact Nat.le_succ_of_le vl))
    rw [hf]
    simp only [bne_self_eq_false, Bool.false_eq_true, if_false]
    exact wpAny_pure (fin ys hp)
  by_cases c2 : (as.map Value.ref).toArray.size < 2
  · rw [if_pos c2]
    refine wpAny_bind (wpAny_pure ?_)
    rw [if_pos c2, StateT.run_pure]
    refine wpAny_bind (wpAny_pure ?_)
    refine ends as _ rfl ?_ (List.Perm.refl _)
    apply Array.toList_inj.mp
    show (((as.map Value.ref).toArray.zip (as.map Value.ref).toArray).map (·.2)).toList = _
    rw [Array.toList_map, Array.toList_zip]
    exact List.map_snd_zip (Nat.le_refl _)
  · rw [if_neg c2]
    obtain ⟨fs, fl, kt, fi⟩ := rows_kat as hr
    refine wpAny_bind (PySem.W.kat_kind (T := .type "int") kt (by rw [fl]; rw [sz] at c2; omega) (fun v hv => ?_) rfl ?_)
    · obtain ⟨i, t, rfl⟩ := fi v hv
      exact .now
    rw [if_neg c2]
    have zl : ((as.map Value.ref).toArray.zip (as.map Value.ref).toArray).toList = (as.map Value.ref).zip (as.map Value.ref) := by rw [Array.toList_zip]
    refine wpAny_bind (wpAny_mono (wpS_sortRuns'' (κ := rowKind as g) (kd := tuples' true) (ltOk_row hu hr) (st := SortSt.mk' (tuples' true) ((as.map Value.ref).toArray.zip (as.map Value.ref).toArray) #[] 7 none)
        (Q := fun _ st' => failedOf st' = none ∧ Stab (rowKind as g) (arrOf st').toList ((as.map Value.ref).zip (as.map Value.ref))) rfl rfl rfl (fun p hp => ?_) fun st' f1 f2 f3 => ⟨f1, by rw [← zl]; exact f3⟩) ?_ fun _ _ e => e)
    · have hp' : p ∈ (as.map Value.ref).zip (as.map Value.ref) := by rw [← zl]; exact hp
      obtain ⟨x, mx, e⟩ := List.mem_map.mp (List.of_mem_zip (show (p.1, p.2) ∈ (as.map Value.ref).zip (as.map Value.ref) from hp')).1
      refine ⟨g x, ?_⟩
      rw [← e]
      exact if_pos mx
    · rintro ⟨⟨⟩, st'⟩ s2 ⟨rfl, f1, f3⟩
      have pm := f3.perm.map (fun p : Keyed => p.2)
      rw [List.map_snd_zip (Nat.le_refl _)] at pm
      have pm2 := pm.map unref
      rw [List.map_map, List.map_map, show (unref ∘ Value.ref) = id from rfl, List.map_id] at pm2
      refine ends _ st' f1 ?_ pm2
      apply Array.toList_inj.mp
      rw [Array.toList_map]
      refine List.map_congr_left ?_ |>.trans (List.map_map ..).symm
      intro p hp
      obtain ⟨x, _, e⟩ := List.mem_map.mp (pm.mem_iff.mp (List.mem_map_of_mem hp))
      show p.2 = Value.ref (unref p.2)
      rw [← e]; rfl
end
end TS

/-! ### sorted(xs, key = f): xs a list of objects, f a def of the text that tells whole numbers -/
namespace L2
open PySem PySem.Spec PyProof.Rows
section
variable {X : Cx}
def unref : Value → Addr
  | .ref a => a
  | _ => 0
def RefKey (g : Addr → Int) (v : Value) (i : Int) : Prop := ∃ a, v = .ref a ∧ g a = i
theorem refs_of : ∀ {as : List Addr} {its : List Value}, Vals (as.map V.ref) its → its = as.map Value.ref
  | [], [], _ => rfl
  | [], _ :: _, h => by cases h
  | _ :: _, [], h => by cases h
  | a :: as, v :: its, h => by
    cases h with
    | cons r t =>
      cases r
      rw [List.map_cons, refs_of t]
theorem vals_refs : ∀ (as : List Addr), Vals (as.map V.ref) (as.map Value.ref)
  | [] => .nil
  | a :: as => .cons rfl (vals_refs as)
inductive SrkP (K : PySem.W.Frag) (sp : Sp) (xs : List V) (H : Hp) (Q : VK) : Prop
  | mk (p : Addr) (as : List Addr) (g : Addr → Int) (e : xs = [.ref p]) (s : SqL K H p (as.map V.ref)) (hs : ∀ a ∈ as, ∀ Q' : VK, Q' (.int (g a)) H → sp [.ref a] H Q' E0)
      (q : ∀ (l : Addr) (zs : List Addr), H l = none → zs.Perm as → zs.Pairwise (fun a b => g a ≤ g b) → (∀ i, zs.filter (fun a => decide (g a = i)) = as.filter (fun a => decide (g a = i))) → Q (.ref l) (upd H l (.lst (zs.map V.ref))))
/-- a def that a built-in's built-in calls -/
structure CalS (X : Cx) (x : Str) (sp : Sp) : Prop where
  ex : ∃ (k : Nat) (f : Addr) (fd : FuncData) (ps : List Str), FnOk X.prog X.w X.K X.mg X.base CX0 k f fd ps sp ∧ Room (k + 2) X.A ∧ X.mg x = some (.ref f) ∧ Binds X.K fd ps []
  gl : Gl X x
  db : (x == ("__debug__" : Str)) = false
end
end L2
namespace J
open PySem PySem.Spec PyProof.Rows
open L2 (Cx V SqL SqT)
end J

/-! ### lists of rows: == and != where the rows say the same -/
namespace L2
open PySem PySem.Spec PyProof.Rows
section
variable {X : Cx}
inductive RowsP (K : PySem.W.Frag) (x y : V) (H : Hp) (Q : Prop) : Prop
  | mk (a b : Addr) (xs ys : List V) (hx : x = .ref a) (hy : y = .ref b) (s : SqL K H a xs) (t : SqL K H b ys) (l : xs.length = ys.length)
      (he : ∀ (i : Nat) u v, xs[i]? = some u → ys[i]? = some v → ∃ p q zs, u = .ref p ∧ v = .ref q ∧ SqT K H p zs ∧ SqT K H q zs ∧ ∀ z ∈ zs, sameV z z = some true) (q : Q)
theorem row_eq {pins : List (Addr × Obj)} {σ : St} {H : Hp} {s : Shared} {A : Around} (hu : A.units + 1 < cLine) (I : Inv X pins σ H s) {p q : Addr} {zs : List V} (hp : SqT X.K H p zs) (hq : SqT X.K H q zs) (hz : ∀ z ∈ zs, sameV z z = some true) : SeqAt.EqAt A s (.ref p) (.ref q) true := by
  by_cases e : p = q
  · rw [e]
    exact SeqAt.EqAt.same _
  obtain ⟨jts, rj, plj, _⟩ := I.tuple hp
  obtain ⟨jts2, rj2, plj2, _⟩ := I.tuple hq
  have m1 := rj.length
  have m2 := rj2.length
  have inner := SeqAt.RcAt.tuples (A := A) (e := fun _ => true) (show s.heap.IsTuple p jts.toArray from plj) (show s.heap.IsTuple q jts2.toArray from plj2) (by omega) fun i k1 k2 => by
    simp only [List.size_toArray] at k1 k2
    obtain ⟨x1, f1, r1⟩ := items_at rj k1
    obtain ⟨x2, f2, r2⟩ := items_at rj2 k2
    rw [f1] at f2
    cases f2
    simp only [List.getElem_toArray]
    exact eqAt_same r1 r2 (hz _ (List.mem_of_getElem? f1))
  have sz : jts.toArray.size = jts2.toArray.size := by simp only [List.size_toArray]; omega
  rw [all_range_true, sz, beq_self_eq_true] at inner
  exact SeqAt.EqAt.of_refs e inner
end
end L2
namespace J
open PySem PySem.Spec PyProof.Rows
open L2 (Cx V SqL SqT)
end J

/-! ### sorted of a dict's texts; lists of rows with rows in them -/
namespace L2
open PySem PySem.Spec PyProof.Rows
section
variable {X : Cx}
theorem mix_str {P : Program} {w : World} {z : Str} {v : Value} (h : (mixKind P w).is (Sum.inr z) v = true) : ∃ t, v = .str z t := by
  cases v with
  | str x t =>
    have e : x = z := by simpa [mixKind, keyIs, Value.isStrOf] using h
    exact ⟨t, by rw [e]⟩
  | _ => simp [mixKind, keyIs, Value.isStrOf] at h
theorem strs_at : ∀ {us : List Value} {zs : List Str}, us.length = zs.length → (∀ (i : Nat) u z, us[i]? = some u → zs[i]? = some z → ∃ t, u = .str z t) → StrsAre us zs
  | [], [], _, _ => .nil
  | [], _ :: _, l, _ => by cases l
  | _ :: _, [], l, _ => by cases l
  | u :: us, z :: zs, l, h => by
    obtain ⟨t, rfl⟩ := h 0 u z rfl rfl
    exact .cons _ _ (strs_at (Nat.succ.inj l) fun i u z h1 h2 => h (i + 1) u z h1 h2)
inductive SrdP (xs : List V) (H : Hp) (Q : VK) : Prop
  | mk (p : Addr) (kvs : List (Key × V)) (zs : List Str) (e : xs = [.ref p]) (s : H p = some (.dK kvs)) (k : kvs.map (·.1) = zs.map Sum.inr) (l : zs.length < 64) (q : ∀ l zs', H l = none → zs.Nodup → zs'.Perm zs → sortedS zs' = true → Q (.ref l) (upd H l (.lst (zs'.map V.str))))
theorem call_sortedD (hc : X.calm = true) : CallR X (.builtin "sorted") (fun xs H Q => SrdP xs H Q) := by
  intro pins s σ H xs us Q I r h
  obtain ⟨p, kvs, zs, rfl, hp, hk, l64, q⟩ := h
  obtain ⟨u, rfl, rx⟩ := vals1 r
  cases rx
  obtain ⟨kz, hsm, vs, kv, o, es, ep, ho, ed, hdat, kof, prs, nd⟩ := dk_of I.hok hp
  have kl : vs.length = zs.length := by
    have := congrArg List.length hk
    rw [List.length_map, List.length_map, kv.length] at this
    exact this
  have hsz : sizeLine = 16777216 := sizeLine_eq
  have zat : ∀ {j : Nat} {k : Key} {x : Value}, vs[j]? = some (k, x) → ∃ z, zs[j]? = some z ∧ k = Sum.inr z := fun {j k x} e => by
    have e1 : (vs.map (·.1))[j]? = some k := by rw [List.getElem?_map, e]; rfl
    rw [← kv.keys, hk, List.getElem?_map] at e1
    obtain ⟨z, h1, h2⟩ := Option.map_eq_some_iff.mp e1
    exact ⟨z, h1, h2.symm⟩
  have znd : zs.Nodup := by
    rw [← kv.keys, hk] at nd
    exact (List.pairwise_map.mp nd).imp fun h e => h (by rw [e])
  refine call_function_entry_kw kind_sorted plain_sorted entry_sorted (args_sorted1 _) ?_
  unfold Builtin.«sorted»
  refine wpAny_bind (m := checkCount "sorted" 1 1 _) (wpAny_pure ?_)
  refine wpAny_bind (PySem.W.kdu_collect (PySem.W.kdl_dict (knd := mixKind X.prog X.w) (kvs := vs) (ep := ep) hsm) (I.ok.hd hc) ⟨o, es, ho, ed, hdat, kof, prs, nd⟩ (by omega) fun h' tk acc kp it => ?_)
  obtain ⟨al, ai⟩ := it
  have sa : StrsAre acc.toList zs := strs_at (by rw [Array.length_toList]; omega) fun i u z h1 h2 => by
    rw [Array.getElem?_toList] at h1
    obtain ⟨k, x, e1, e2⟩ := ai i u h1
    obtain ⟨z', e3, rfl⟩ := zat e1
    rw [h2] at e3
    cases e3
    exact mix_str e2
  have al' : acc.toList.length = zs.length := by rw [Array.length_toList]; omega
  have pl : (h'.push (seqObj "list" acc.toList.toArray 0)).get? h'.objs.size = some (seqObj "list" acc.toList.toArray 0) := Heap.get?_push_size _ rfl
  refine wpAny_bind (wpAny_newList ?_ (by omega))
  refine wpAny_bind (wpAny_holding (wpAny_call_entry slot_list_sort ⟨_, pl, rfl⟩ entry_list_sort (list_sort_treeK strKind_oneLt pl sa.keysOf (fun v₁ v₂ rest e => keyKind_strs (e ▸ sa)) (by omega) fun st' a1 a2 => ?_) (args_list_sort _)))
  obtain ⟨ss', b1, b2, b3⟩ := sorted_out_str sa a1 a2
  obtain ⟨e, he⟩ := sortedHeap_at (out := (arrOf st').map (·.2)) pl
  have I' : Inv X pins σ H { s with heap := h', toks := tk } := I.un (t' := tk) (Un.kept kp) (I.hok.kept kp)
  refine ⟨_, rfl, wpAny_pure ⟨_, rfl, .ref h'.objs.size, _, I'.laid (t' := tk) (o := .lst (ss'.map V.str)) (fun b u hb => ?_) (Nat.le_refl _) ⟨by rw [List.length_map, b2.length_eq]; omega, _, e, vals_strs b1, he⟩, rfl, q _ _ (I'.hok.fresh (Nat.le_refl _)) znd b2 b3⟩⟩
  have lt := Heap.lt_size hb
  exact (sortedHeap_old (Nat.ne_of_lt lt) (by rw [size_push']; exact Nat.lt_succ_of_lt lt)).trans ((Heap.get?_push_ne _ _ _ (Nat.ne_of_lt lt)).trans hb)
inductive SameW (K : PySem.W.Frag) (H : Hp) (z y : V) : Prop
  | flat (e : z = y) (f : sameV z z = some true)
  | tup (w v : Addr) (ws : List V) (hz : z = .ref w) (hy : y = .ref v) (s : SqT K H w ws) (t : SqT K H v ws) (f : ∀ x ∈ ws, sameV x x = some true)
inductive RowsP2 (K : PySem.W.Frag) (x y : V) (H : Hp) (Q : Prop) : Prop
  | mk (a b : Addr) (xs ys : List V) (hx : x = .ref a) (hy : y = .ref b) (s : SqL K H a xs) (t : SqL K H b ys) (l : xs.length = ys.length)
      (he : ∀ (i : Nat) u v, xs[i]? = some u → ys[i]? = some v → ∃ p q zs ws, u = .ref p ∧ v = .ref q ∧ SqT K H p zs ∧ SqT K H q ws ∧ zs.length = ws.length ∧ ∀ (j : Nat) z y, zs[j]? = some z → ws[j]? = some y → SameW K H z y) (q : Q)
theorem row_eq2 {pins : List (Addr × Obj)} {σ : St} {H : Hp} {s : Shared} {A : Around} (hu : A.units + 2 < cLine) (I : Inv X pins σ H s) {p q : Addr} {zs ws : List V} (hp : SqT X.K H p zs) (hq : SqT X.K H q ws) (hl : zs.length = ws.length) (hz : ∀ (j : Nat) z y, zs[j]? = some z → ws[j]? = some y → SameW X.K H z y) : SeqAt.EqAt A s (.ref p) (.ref q) true := by
  by_cases e : p = q
  · rw [e]
    exact SeqAt.EqAt.same _
  obtain ⟨jts, rj, plj, _⟩ := I.tuple hp
  obtain ⟨jts2, rj2, plj2, _⟩ := I.tuple hq
  have m1 := rj.length
  have m2 := rj2.length
  have inner := SeqAt.RcAt.tuples (A := A) (e := fun _ => true) (show s.heap.IsTuple p jts.toArray from plj) (show s.heap.IsTuple q jts2.toArray from plj2) (by omega) fun i k1 k2 => by
    simp only [List.size_toArray] at k1 k2
    obtain ⟨x1, f1, r1⟩ := items_at rj k1
    obtain ⟨x2, f2, r2⟩ := items_at rj2 k2
    simp only [List.getElem_toArray]
    cases hz i x1 x2 f1 f2 with
    | flat e f =>
      subst e
      exact eqAt_same r1 r2 f
    | tup w v us e1 e2 s1 s2 f =>
      subst e1
      subst e2
      rw [show jts[i] = .ref w from r1, show jts2[i] = .ref v from r2]
      exact row_eq (by show A.units + 1 + 1 < cLine; omega) I s1 s2 f
  have sz : jts.toArray.size = jts2.toArray.size := by simp only [List.size_toArray]; omega
  rw [all_range_true, sz, beq_self_eq_true] at inner
  exact SeqAt.EqAt.of_refs e inner
theorem op_neRows2 (hu : X.A.units + 3 < cLine) : OpR X (compareOp .NotEq) (fun x y H Q => RowsP2 X.K x y H (Q (.bl false) H)) := by
  intro pins s σ H x y v u Q I rx ry h
  obtain ⟨a, b, xs, ys, rfl, rfl, ha, hb, l, he, q⟩ := h
  cases rx
  cases ry
  obtain ⟨its, r, pl, _⟩ := I.list ha
  obtain ⟨its2, r2, pl2, _⟩ := I.list hb
  have m1 := r.length
  have m2 := r2.length
  have key : SeqAt.RcNeAt X.A s (.ref a) (.ref b) (!((List.range its.toArray.size).all fun _ => true)) := by
    refine SeqAt.RcNeAt.lists pl.isList pl2.isList (by simp only [List.size_toArray]; omega) (by omega) fun j h1 h2 => ?_
    simp only [List.size_toArray] at h1 h2
    obtain ⟨x1, e1, r1⟩ := items_at r h1
    obtain ⟨x2, e2, r2'⟩ := items_at r2 h2
    obtain ⟨p, q', zs, ws, rfl, rfl, hp, hq, hl, hz⟩ := he j x1 x2 e1 e2
    simp only [List.getElem_toArray]
    rw [show its[j] = .ref p from r1, show its2[j] = .ref q' from r2']
    exact row_eq2 (by show X.A.units + 1 + 2 < cLine; omega) I hp hq hl hz
  rw [all_range_true] at key
  exact key X.prog X.w X.xe _ ⟨.bl false, H, I, rfl, q⟩
theorem hu3_of {A : Around} {k : Nat} (hr : Room k A) : A.units + 3 < cLine := by
  have := hr.un
  omega
end
end L2
namespace J
open PySem PySem.Spec PyProof.Rows
open L2 (Cx V SqL SqT)
theorem call_sortedD {X : Cx} (hc : X.calm = true) : JF X (.builtin "sorted") (fun xs H Q => L2.SrdP xs H Q) := ⟨L2.call_sortedD hc⟩
theorem op_neRows2 {X : Cx} (hu : X.A.units + 3 < cLine) : JC X .NotEq (fun x y H Q => L2.RowsP2 X.K x y H (Q (.bl false) H)) := ⟨L2.op_neRows2 hu⟩
end J

/-! ### tuple != tuple, with a list of rows in it, where they say the same -/
namespace L2
open PySem PySem.Spec PyProof.Rows
section
variable {X : Cx}
inductive SameU (K : PySem.W.Frag) (H : Hp) (z y : V) : Prop
  | flat (e : z = y) (f : sameV z z = some true)
  | rows (h : RowsP K z y H True)
inductive NeTLP (K : PySem.W.Frag) (x y : V) (H : Hp) (Q : VK) : Prop
  | same (a b : Addr) (zs ws : List V) (hx : x = .ref a) (hy : y = .ref b) (s : SqT K H a zs) (t : SqT K H b ws) (l : zs.length = ws.length) (e : ∀ (j : Nat) z y, zs[j]? = some z → ws[j]? = some y → SameU K H z y) (q : Q (.bl false) H)
end
theorem pe_dnotin {X : Cx} {e d : Expr} {ty td : TE} {pos : Pos} (hu : X.A.units + 1 < cLine) (hi : PE X e ty) (ho : PE X d td) (hm : behindInMarks .NotIn d = false := by rfl) : PE X (.Compare e [.NotIn] [d] pos) (tDNotIn ty td) := pe_cmp (pc_dnotin hu hi ho) hm
end L2
namespace J
open PySem PySem.Spec PyProof.Rows
open L2 (Cx V SqL SqT TE)
theorem pe_dnotin {X : Cx} {e d : Expr} {ty td : TE} {pos : Pos} (hu : X.A.units + 1 < cLine) (hi : JE X e ty) (ho : JE X d td) (hm : behindInMarks .NotIn d = false := by rfl) : JE X (.Compare e [.NotIn] [d] pos) (L2.tDNotIn ty td) := ⟨L2.pe_dnotin hu hi.out ho.out hm⟩
end J

/-! ### sorted by a key, perhaps the other way about -/
namespace L2
open PySem PySem.Spec PyProof.Rows
section
variable {X : Cx}
inductive SrrP (K : PySem.W.Frag) (rv : Bool) (sp : Sp) (xs : List V) (H : Hp) (Q : VK) : Prop
  | mk (p : Addr) (as : List Addr) (g : Addr → Int) (e : xs = [.ref p]) (s : SqL K H p (as.map V.ref)) (hs : ∀ a ∈ as, ∀ Q' : VK, Q' (.int (g a)) H → sp [.ref a] H Q' E0)
      (q : ∀ (l : Addr) (ys : List Addr), H l = none → ys.Perm as → ys.Pairwise (fun a b => g a ≤ g b) → (∀ i, ys.filter (fun a => decide (g a = i)) = (if rv = true then as.reverse else as).filter (fun a => decide (g a = i))) → Q (.ref l) (upd H l (.lst ((if rv = true then ys.reverse else ys).map V.ref))))
end
end L2
namespace J
open PySem PySem.Spec PyProof.Rows
open L2 (Cx V SqL SqT)
end J

/-! ### for over a dict's texts -/
namespace L2
open PySem PySem.Spec PyProof.Rows
def Itd (d : Addr) (o : Obj) (kvs : List (Key × V)) : It := ⟨fun i H => H d = some (.frz o (.dK kvs)) ∧ i < kvs.length, fun i H x H' => H' = H ∧ ∃ z y, kvs[i]? = some (Sum.inr z, y) ∧ x = .str z, fun i H => H d = some (.frz o (.dK kvs)) ∧ kvs.length ≤ i⟩
inductive IDicP (x : V) (H : Hp) (R : It → Hp → Prop) : Prop
  | mk (d : Addr) (kvs : List (Key × V)) (e : x = .ref d) (r : Rd H d (.dK kvs)) (sk : ∀ kv ∈ kvs, ∃ z, kv.1 = Sum.inr z) (q : ∀ (o : Obj) (H' : Hp), (∀ b, b ≠ d → H' b = H b) → H' d = some (.frz o (.dK kvs)) → R (Itd d o kvs) H')
def iDic (tl : TE) : TI := fun σ H R => tl σ H fun x H1 => IDicP x H1 R
section
variable {X : Cx} {tg : Expr}
end
end L2
namespace J
open PySem PySem.Spec PyProof.Rows L2
section
variable {X : Cx} {tg e : Expr} {te : TE}
end
end J

/-! ### sorted of rows: two whole numbers, a text, a way -/
namespace L2
open PySem PySem.Spec PyProof.Rows
section
variable {X : Cx}
inductive EvW (K : PySem.W.Frag) (H : Hp) (q : Addr) : Prop
  | saw (k : Int) (s : SqT K H q [.str "saw", .int k])
  | heard (k : Int) (z : Str) (s : SqT K H q [.str "heard", .int k, .str z])
inductive EvR (K : PySem.W.Frag) (H : Hp) (a : Addr) : Prop
  | mk (i j : Int) (z : Str) (q : Addr) (s : SqT K H a [.int i, .int j, .str z, .ref q]) (w : EvW K H q)
inductive SrwP (K : PySem.W.Frag) (xs : List V) (H : Hp) (Q : VK) : Prop
  | mk (p : Addr) (as : List Addr) (e : xs = [.ref p]) (s : SqL K H p (as.map V.ref)) (hs : ∀ a ∈ as, EvR K H a)
      (q : ∀ (l : Addr) (ys : List Addr), H l = none → ys.Perm as → Q (.ref l) (upd H l (.lst (ys.map V.ref))))
theorem valsC {x : V} {xs : List V} {us : List Value} (r : Vals (x :: xs) us) : ∃ u us', us = u :: us' ∧ RelV x u ∧ Vals xs us' := by
  cases r with
  | cons a b => exact ⟨_, _, rfl, a, b⟩
theorem tup_over {h h' : Heap} {p : Addr} {xs : Array Value} (i : IsTup h p xs) (k : ∀ b, b < h.objs.size → h'.get? b = h.get? b) : h'.IsTuple p xs := by
  obtain ⟨o, ho, r⟩ := i
  exact ⟨o, (k _ (Heap.lt_size ho)).trans ho, r⟩
theorem evw_at {pins : List (Addr × Obj)} {σ : St} {H : Hp} {s : Shared} (I : Inv X pins σ H s) {h' : Heap} (k : ∀ b, b < s.heap.objs.size → h'.get? b = s.heap.get? b) {q : Addr} (w : EvW X.K H q) : ∃ x, TS.WayAt h' q x := by
  rcases w with ⟨n, t⟩ | ⟨n, z, t⟩
  · obtain ⟨its, r0, pl, _⟩ := I.tuple t
    obtain ⟨u1, us, rfl, ⟨t1, rfl⟩, r1⟩ := valsC r0
    obtain ⟨u2, us, rfl, ⟨t2, rfl⟩, r2⟩ := valsC r1
    obtain rfl := Vals.zero r2
    exact ⟨_, .saw n t1 t2 (tup_over pl k)⟩
  · obtain ⟨its, r0, pl, _⟩ := I.tuple t
    obtain ⟨u1, us, rfl, ⟨t1, rfl⟩, r1⟩ := valsC r0
    obtain ⟨u2, us, rfl, ⟨t2, rfl⟩, r2⟩ := valsC r1
    obtain ⟨u3, us, rfl, ⟨t3, rfl⟩, r3⟩ := valsC r2
    obtain rfl := Vals.zero r3
    exact ⟨_, .heard n z t1 t2 t3 (tup_over pl k)⟩
theorem evr_at {pins : List (Addr × Obj)} {σ : St} {H : Hp} {s : Shared} (I : Inv X pins σ H s) {h' : Heap} (k : ∀ b, b < s.heap.objs.size → h'.get? b = s.heap.get? b) {a : Addr} (e : EvR X.K H a) : ∃ x, TS.RowAt h' a x := by
  obtain ⟨i, j, z, q, t, w⟩ := e
  obtain ⟨x, hx⟩ := evw_at I k w
  obtain ⟨its, r0, pl, _⟩ := I.tuple t
  obtain ⟨u1, us, rfl, ⟨t1, rfl⟩, r1⟩ := valsC r0
  obtain ⟨u2, us, rfl, ⟨t2, rfl⟩, r2⟩ := valsC r1
  obtain ⟨u3, us, rfl, ⟨t3, rfl⟩, r3⟩ := valsC r2
  obtain ⟨u4, us, rfl, rfl, r4⟩ := valsC r3
  obtain rfl := Vals.zero r4
  exact ⟨_, .mk i j z q x t1 t2 t3 (tup_over pl k) hx⟩
theorem call_sortedW (hu : X.A.units + 2 < cLine) : CallR X (.builtin "sorted") (fun xs H Q => SrwP X.K xs H Q) := by
  intro pins s σ H xs us Q I r h
  obtain ⟨p, as, rfl, hq, hs, q⟩ := h
  obtain ⟨u, rfl, rx⟩ := vals1 r
  cases rx
  obtain ⟨its, rvl, pl, hz⟩ := I.list hq
  obtain rfl := refs_of rvl
  rw [List.length_map] at hz
  refine call_function_entry_kw kind_sorted plain_sorted entry_sorted (args_sorted1 _) ?_
  unfold Builtin.«sorted»
  refine wpAny_bind (m := checkCount "sorted" 1 1 _) (wpAny_pure ?_)
  refine wpAny_bind (collect_list pl.isList ?_)
  refine wpAny_bind (wpAny_newList ?_)
  have hsz : ((s.heap.push (seqObj "list" #[] 0)).update s.heap.objs.size (Obj.mapSeq (· ++ (as.map Value.ref).toArray))).objs.size = s.heap.objs.size + 1 := by
    rw [Heap.size_update, size_push']
  have hoL : (((s.heap.push (seqObj "list" #[] 0)).update s.heap.objs.size (Obj.mapSeq (· ++ (as.map Value.ref).toArray))).push (seqObj "list" (as.map Value.ref).toArray 0)).get? (s.heap.objs.size + 1) = some (seqObj "list" (as.map Value.ref).toArray 0) := by
    rw [← hsz]
    exact Heap.get?_push_size _ rfl
  show wpAny _ _ _ _ _ { s with heap := ((s.heap.push (seqObj "list" #[] 0)).update s.heap.objs.size (Obj.mapSeq (· ++ (as.map Value.ref).toArray))).push (seqObj "list" (as.map Value.ref).toArray 0) }
  rw [hsz]
  have hold : ∀ b, b < s.heap.objs.size → (((s.heap.push (seqObj "list" #[] 0)).update s.heap.objs.size (Obj.mapSeq (· ++ (as.map Value.ref).toArray))).push (seqObj "list" (as.map Value.ref).toArray 0)).get? b = s.heap.get? b := fun b hb => by
    rw [Heap.get?_push_ne _ _ _ (by rw [hsz]; exact Nat.ne_of_lt (Nat.lt_succ_of_lt hb)), Heap.get?_update_ne _ _ _ _ (Nat.ne_of_lt hb), Heap.get?_push_ne _ _ _ (Nat.ne_of_lt hb)]
  have hs2 : (((s.heap.push (seqObj "list" #[] 0)).update s.heap.objs.size (Obj.mapSeq (· ++ (as.map Value.ref).toArray))).push (seqObj "list" (as.map Value.ref).toArray 0)).objs.size = s.heap.objs.size + 2 := by rw [size_push', hsz]
  generalize ((s.heap.push (seqObj "list" #[] 0)).update s.heap.objs.size (Obj.mapSeq (· ++ (as.map Value.ref).toArray))).push (seqObj "list" (as.map Value.ref).toArray 0) = h2 at hoL hold hs2
  have k1 : ∀ b, b < s.heap.objs.size → (((h2.update (s.heap.objs.size + 1) (Obj.mapSeq fun _ => #[])).push (seqObj "tuple" (as.map Value.ref).toArray 0)).push (seqObj "list" #[] 0)).get? b = s.heap.get? b := fun b hb => by
    rw [Heap.get?_push_ne _ _ _ (Nat.ne_of_lt (by rw [size_push', Heap.size_update, hs2]; omega)), Heap.get?_push_ne _ _ _ (Nat.ne_of_lt (by rw [Heap.size_update, hs2]; omega)), Heap.get?_update_ne _ _ _ _ (Nat.ne_of_lt (by omega)), hold b hb]
  obtain ⟨g, hg⟩ : ∃ g : Addr → TS.rowO.α, ∀ a ∈ as, TS.RowAt (((h2.update (s.heap.objs.size + 1) (Obj.mapSeq fun _ => #[])).push (seqObj "tuple" (as.map Value.ref).toArray 0)).push (seqObj "list" #[] 0)) a (g a) := by
    have ex := fun a (ha : a ∈ as) => evr_at I k1 (hs a ha)
    haveI : Nonempty TS.rowO.α := ⟨((0 : Int), (0 : Int), ([] : List Nat), ([] : List Nat), (0 : Int), ([] : List Nat))⟩
    exact ⟨fun a => Classical.epsilon fun x => TS.RowAt _ a x, fun a ha => Classical.epsilon_spec (ex a ha)⟩
  refine wpAny_bind (wpAny_holding (wpAny_call_entry slot_list_sort ⟨_, hoL, rfl⟩ entry_list_sort (TS.list_sort_rows (g := g) hoL hz (by show X.A.units + 1 + 1 < cLine; omega) hg fun ys pm => ?_) (args_list_sort _)))
  refine ⟨_, rfl, wpAny_pure ⟨_, rfl, ?_⟩⟩
  have ho6 : ∃ e1, (((h2.update (s.heap.objs.size + 1) (Obj.mapSeq fun _ => #[])).push (seqObj "tuple" (as.map Value.ref).toArray 0)).push (seqObj "list" #[] 0)).get? (s.heap.objs.size + 1) = some (seqObj "list" #[] e1) := by
    obtain ⟨e1, he⟩ : ∃ e1, (h2.update (s.heap.objs.size + 1) (Obj.mapSeq fun _ => (#[] : Array Value))).get? (s.heap.objs.size + 1) = some (seqObj "list" #[] e1) := ⟨_, get?_update_seq hoL fun _ => #[]⟩
    exact ⟨e1, by
      rw [Heap.get?_push_ne _ _ _ (Nat.ne_of_lt (by rw [size_push', Heap.size_update, hs2]; omega)), Heap.get?_push_ne _ _ _ (Nat.ne_of_lt (by rw [Heap.size_update, hs2]; omega))]
      exact he⟩
  obtain ⟨e1, ho6⟩ := ho6
  have hend := get?_update_seq ho6 (fun _ => (ys.map Value.ref).toArray)
  refine ⟨.ref (s.heap.objs.size + 1), _, I.laid (t' := s.toks) (o := .lst (ys.map V.ref)) (fun b u hb => ?_) (Nat.le_succ _) ⟨by rw [List.length_map, pm.length_eq]; exact hz, _, _, vals_refs ys, hend⟩, rfl, q _ _ (I.hok.fresh (Nat.le_succ _)) pm⟩
  have lt := Heap.lt_size hb
  rw [Heap.get?_update_ne _ _ _ _ (Nat.ne_of_lt (Nat.lt_succ_of_lt lt)), k1 b lt]
  exact hb
end
end L2
namespace J
open PySem L2
theorem call_sortedW {X : Cx} (hu : X.A.units + 2 < cLine) : JF X (.builtin "sorted") (fun xs H Q => L2.SrwP X.K xs H Q) := ⟨L2.call_sortedW hu⟩
end J

namespace K15
open PySem L2
def kept : List Str := ["person", "talk", "saw", "knew", "heard", "told", "not", "nobody", "never", "by", "from", "to"]
def hourV : V → Bool
  | .int i => decide (0 ≤ i) && decide (i ≤ 10 ^ Int.toNat 18)
  | _ => false
def signOk : V → Bool
  | .str w => !decide (w.cps.toList < ("a" : Str).cps.toList) && !decide (("z" : Str).cps.toList < w.cps.toList)
  | _ => false
def nameS (z : Str) : Bool := decide (1 ≤ (z.length : Int)) && (decide ((z.length : Int) ≤ 12) && (((signs z).map signOk).all id && !inV (.str z) (kept.map V.str)))
def nameV : V → Bool
  | .str z => nameS z
  | _ => false
def spWhole (K : PySem.W.Frag) : Sp := fun vs H Q _ => ∃ x T, vs = [x] ∧ TyOf K H x (.type T) ∧ T ∈ tys ∧ Q (.bl (T == "int")) H
def spHour (K : PySem.W.Frag) : Sp := fun vs H Q _ => ∃ x T, vs = [x] ∧ TyOf K H x (.type T) ∧ T ∈ tys ∧ Q (.bl (hourV x)) H
def spName (K : PySem.W.Frag) : Sp := fun vs H Q _ => ∃ x T, vs = [x] ∧ TyOf K H x (.type T) ∧ T ∈ tys ∧ (∀ z, x = .str z → z.length ≤ sizeLine) ∧ ∀ H', Same H H' → Q (.bl (nameV x)) H'
/-! ### names of the law: letters, lengths, unlikeness -/
def lets : Str := "bcdfghijklmnpqrstuvwxz"
def LetS (z : Str) : Prop := ∀ c ∈ z.cps.toList, c ∈ lets.cps.toList
theorem lets_len : lets.cps.toList.length = 22 := by decide +kernel
theorem lets_nd : lets.cps.toList.Nodup := by decide +kernel
theorem lets_sign : ∀ c ∈ lets.cps.toList, signOk (.str ⟨#[c]⟩) = true := by decide +kernel
theorem kept_out : ∀ w ∈ kept, (w.cps.toList.any fun c => !lets.cps.toList.contains c) = true := by decide +kernel
theorem app_cps (a b : Str) : (a ++ b).cps.toList = a.cps.toList ++ b.cps.toList := by
  show (a.cps ++ b.cps).toList = _
  rw [Array.toList_append]
theorem app_len (a b : Str) : (a ++ b).length = a.length + b.length := Array.size_append
theorem len_cps (a : Str) : a.cps.toList.length = a.length := Array.length_toList
theorem str_ext {a b : Str} (h : a.cps.toList = b.cps.toList) : a = b := by
  obtain ⟨x⟩ := a
  obtain ⟨y⟩ := b
  have : x = y := Array.ext' h
  rw [this]
theorem nameS_of {z : Str} (h : LetS z) (h1 : 1 ≤ z.length) (h2 : z.length ≤ 12) : nameS z = true := by
  unfold nameS
  rw [decide_eq_true (by omega), decide_eq_true (by omega), Bool.true_and, Bool.true_and, Bool.and_eq_true]
  refine ⟨?_, ?_⟩
  · rw [List.all_map, List.all_eq_true]
    intro v hv
    obtain ⟨c, hc, rfl⟩ := List.mem_map.mp hv
    exact lets_sign c (h c hc)
  · cases e : inV (.str z) (kept.map V.str) with
    | false => rfl
    | true =>
      have e' : (kept.map V.str).any (fun y => eqV y (.str z)) = true := e
      rw [List.any_map, List.any_eq_true] at e'
      obtain ⟨w, hw, e2⟩ := e'
      have e3 : (w == z) = true := e2
      have e4 : w = z := eq_of_beq e3
      have ko := kept_out w hw
      rw [List.any_eq_true] at ko
      obtain ⟨c, hc, nc⟩ := ko
      rw [e4] at hc
      have := h c hc
      rw [← List.contains_iff_mem] at this
      rw [this] at nc
      cases nc
theorem cut_lo {z : Str} {k : Nat} (hk : k ≤ z.length) : (cutS z none (some (k : Int))).cps.toList = z.cps.toList.take k := by
  show ((z.cps.toList.drop (HT.sIx z.length 0 none)).take (HT.sIx z.length z.length (some (k : Int)) - HT.sIx z.length 0 none)) = _
  rw [HT.sIx_none, HT.sIx_nat, List.drop_zero, Nat.sub_zero, Nat.min_eq_left hk]
theorem cut_hi {z : Str} {k : Nat} (hk : k ≤ z.length) : (cutS z (some (k : Int)) none).cps.toList = z.cps.toList.drop k := by
  show ((z.cps.toList.drop (HT.sIx z.length 0 (some (k : Int)))).take (HT.sIx z.length z.length none - HT.sIx z.length 0 (some (k : Int)))) = _
  rw [HT.sIx_none, HT.sIx_nat, Nat.min_eq_left hk]
  refine List.take_of_length_le ?_
  rw [List.length_drop, len_cps]
  exact Nat.le_refl _
/-- the stem with a letter put in -/
def putIn (z : Str) (k : Int) (c : Nat) : Str := (cutS z none (some k) ++ (⟨#[c]⟩ : Str)) ++ cutS z (some k) none
theorem putIn_cps {z : Str} {k : Nat} {c : Nat} (hk : k ≤ z.length) : (putIn z k c).cps.toList = z.cps.toList.take k ++ ([c] ++ z.cps.toList.drop k) := by
  unfold putIn
  rw [app_cps, app_cps, cut_lo hk, cut_hi hk, List.append_assoc]
theorem putIn_len {z : Str} {k : Nat} {c : Nat} (hk : k ≤ z.length) : (putIn z k c).length = z.length + 1 := by
  rw [← len_cps, putIn_cps hk, List.length_append, List.length_append, List.length_take, List.length_drop, len_cps]
  show min k z.length + (1 + (z.length - k)) = _
  omega
theorem putIn_let {z : Str} {k : Nat} {c : Nat} (hk : k ≤ z.length) (hz : LetS z) (hc : c ∈ lets.cps.toList) : LetS (putIn z k c) := by
  intro d hd
  rw [putIn_cps hk, List.mem_append, List.mem_append, List.mem_singleton] at hd
  rcases hd with hd | rfl | hd
  · exact hz d (List.mem_of_mem_take hd)
  · exact hc
  · exact hz d (List.mem_of_mem_drop hd)
theorem putIn_inj {z : Str} {k : Nat} {c d : Nat} (hk : k ≤ z.length) (h : putIn z k c = putIn z k d) : c = d := by
  have e := congrArg (fun s : Str => s.cps.toList) h
  try dsimp only at e
  rw [putIn_cps hk, putIn_cps hk] at e
  have e2 := List.append_cancel_left e
  exact (List.cons.inj e2).1
theorem app_let {a b : Str} (ha : LetS a) (hb : LetS b) : LetS (a ++ b) := by
  intro c hc
  rw [app_cps, List.mem_append] at hc
  exact hc.elim (ha c) (hb c)
theorem one_let {c : Nat} (hc : c ∈ lets.cps.toList) : LetS ⟨#[c]⟩ := by
  intro d hd
  have : d ∈ [c] := hd
  rw [List.mem_singleton] at this
  rw [this]
  exact hc
theorem join_let (sep : Str) (hs : LetS sep) : ∀ zs : List Str, (∀ z ∈ zs, LetS z) → LetS (Str.join sep zs)
  | [], _ => fun c hc => by
    have : c ∈ ([] : List Nat) := hc
    cases this
  | [x], h => h x (List.mem_cons_self ..)
  | x :: y :: r, h => by
    show LetS (x ++ sep ++ Str.join sep (y :: r))
    exact app_let (app_let (h x (List.mem_cons_self ..)) hs) (join_let sep hs (y :: r) fun z hz => h z (List.mem_cons_of_mem _ hz))
def genN (f : Nat → Str) (more : Str) : Nat → List Str
  | 0 => []
  | i + 1 => genN f more i ++ [f i, f i ++ more]
theorem genN_len (f : Nat → Str) (more : Str) : ∀ i, (genN f more i).length = 2 * i
  | 0 => rfl
  | i + 1 => by
    show (genN f more i ++ [f i, f i ++ more]).length = _
    rw [List.length_append, genN_len f more i]
    show 2 * i + 2 = _
    omega
theorem genN_mem (f : Nat → Str) (more : Str) (x : Str) : ∀ i, x ∈ genN f more i → ∃ j, j < i ∧ (x = f j ∨ x = f j ++ more)
  | 0, h => by cases h
  | i + 1, h => by
    have h' : x ∈ genN f more i ++ [f i, f i ++ more] := h
    rw [List.mem_append] at h'
    rcases h' with h' | h'
    · obtain ⟨j, hj, e⟩ := genN_mem f more x i h'
      exact ⟨j, by omega, e⟩
    · rw [List.mem_cons, List.mem_singleton] at h'
      exact ⟨i, Nat.lt_succ_self i, h'⟩
theorem genN_nodup (f : Nat → Str) (more : Str) (L : Nat) (hL : ∀ j, (f j).length = L) (hm : more.length = 1) : ∀ i, (∀ j k, j < i → k < i → f j = f k → j = k) → (genN f more i).Nodup
  | 0, _ => List.nodup_nil
  | i + 1, h => by
    show (genN f more i ++ [f i, f i ++ more]).Nodup
    have ih := genN_nodup f more L hL hm i fun j k hj hk => h j k (by omega) (by omega)
    have lm : ∀ j, (f j ++ more).length = L + 1 := fun j => by rw [app_len, hL, hm]
    have cancel : ∀ j k, f j ++ more = f k ++ more → f j = f k := fun j k e => by
      have e' := congrArg (fun s : Str => s.cps.toList) e
      try dsimp only at e'
      rw [app_cps, app_cps] at e'
      exact str_ext (List.append_cancel_right e')
    rw [List.nodup_append]
    refine ⟨ih, ?_, ?_⟩
    · rw [List.nodup_cons, List.mem_singleton]
      refine ⟨fun e => ?_, List.nodup_cons.mpr ⟨(by intro z; cases z), List.nodup_nil⟩⟩
      have := congrArg Str.length e
      rw [lm, hL] at this
      omega
    · intro x hx y hy e
      subst e
      obtain ⟨j, hj, e⟩ := genN_mem f more x i hx
      rw [List.mem_cons, List.mem_singleton] at hy
      rcases e with rfl | rfl <;> rcases hy with hy | hy
      · have := h j i (by omega) (by omega) hy
        omega
      · have := congrArg Str.length hy
        rw [lm, hL] at this
        omega
      · have := congrArg Str.length hy
        rw [lm, hL] at this
        omega
      · have := h j i (by omega) (by omega) (cancel j i hy)
        omega
structure NamesOk (us : List Str) : Prop where
  len : us.length = 24
  nd : us.Nodup
  nm : ∀ z ∈ us, nameS z = true
theorem names_ok (f : Nat → Str) (more : Str) (L : Nat) (hL : ∀ j, (f j).length = L) (hl : ∀ j, LetS (f j)) (h1 : 1 ≤ L) (h2 : L ≤ 11) (hm : more.length = 1) (lm : LetS more) (inj : ∀ j k, j < 12 → k < 12 → f j = f k → j = k) : NamesOk (genN f more 12) := by
  refine ⟨genN_len f more 12, genN_nodup f more L hL hm 12 inj, fun z hz => ?_⟩
  obtain ⟨j, _, e⟩ := genN_mem f more z 12 hz
  rcases e with rfl | rfl
  · exact nameS_of (hl j) (by rw [hL]; exact h1) (by rw [hL]; omega)
  · exact nameS_of (app_let (hl j) lm) (by rw [app_len, hL]; omega) (by rw [app_len, hL, hm]; omega)
/-- the letter at a place -/
def letAt (i : Int) : Nat := lets.cps.toList.getD i.toNat 0
theorem letAt_at {i : Int} (h0 : 0 ≤ i) (h1 : i < 22) : atI lets.cps.toList i = some (letAt i) ∧ letAt i ∈ lets.cps.toList := by
  have hj : i.toNat < lets.cps.toList.length := by rw [lets_len]; omega
  have e : ((i.toNat : Nat) : Int) = i := Int.toNat_of_nonneg h0
  have eg : lets.cps.toList.getD i.toNat 0 = lets.cps.toList[i.toNat] := by
    rw [List.getD_eq_getElem?_getD, List.getElem?_eq_getElem hj]
    rfl
  have := atI_nat (xs := lets.cps.toList) (j := i.toNat) (v := lets.cps.toList[i.toNat]) (List.getElem?_eq_getElem hj)
  rw [e] at this
  refine ⟨?_, ?_⟩
  · rw [this]
    exact congrArg some eg.symm
  · show lets.cps.toList.getD i.toNat 0 ∈ _
    rw [eg]
    exact List.getElem_mem hj
theorem letAt_inj {i j : Int} (h0 : 0 ≤ i) (h1 : i < 22) (g0 : 0 ≤ j) (g1 : j < 22) (e : letAt i = letAt j) : i = j := by
  have hi : i.toNat < lets.cps.toList.length := by rw [lets_len]; omega
  have hj : j.toNat < lets.cps.toList.length := by rw [lets_len]; omega
  have e' : lets.cps.toList.getD i.toNat 0 = lets.cps.toList.getD j.toNat 0 := e
  rw [List.getD_eq_getElem?_getD, List.getD_eq_getElem?_getD, List.getElem?_eq_getElem hi, List.getElem?_eq_getElem hj] at e'
  have e2 : lets.cps.toList[i.toNat] = lets.cps.toList[j.toNat] := e'
  have e3 := (List.getElem_inj lets_nd).mp e2
  omega
theorem cutV_strs (us : List Str) (lo hi : Option Int) : cutV (us.map V.str) lo hi = (((us.drop (HT.sIx us.length 0 lo)).take (HT.sIx us.length us.length hi - HT.sIx us.length 0 lo))).map V.str := by
  unfold cutV
  rw [List.length_map, List.map_take, List.map_drop]
theorem wrap {L x : Int} (h0 : 0 ≤ x) (h1 : x < 2 * L) : x % L = if x < L then x else x - L := by
  by_cases h : x < L
  · rw [if_pos h, Int.emod_eq_of_lt h0 h]
  · rw [if_neg h]
    have e : x % L = (x - L) % L := by rw [Int.sub_emod_right]
    rw [e, Int.emod_eq_of_lt (by omega) (by omega)]
/-- two places of the round that are not the same -/
theorem round_ne {n r L : Int} (hL : 2 ≤ L) (r0 : 0 ≤ r) (r1 : r < L - 1) : (n + 1 + r) % L ≠ n % L := by
  have m0 : 0 ≤ n % L := Int.emod_nonneg n (by omega)
  have m1 : n % L < L := Int.emod_lt_of_pos n (by omega)
  have e : (n + 1 + r) % L = (n % L + (1 + r)) % L := by
    rw [Int.emod_add_emod]
    congr 1
    omega
  rw [e, wrap (x := n % L + (1 + r)) (by omega) (by omega)]
  split <;> omega
/-! ### what the defs of books promise where all is good -/
def HourOk (h : Int) : Prop := 0 ≤ h ∧ h ≤ 10 ^ Int.toNat 18
theorem hourV_ok {h : Int} (k : HourOk h) : hourV (.int h) = true := by
  show (decide (0 ≤ h) && decide (h ≤ 10 ^ Int.toNat 18)) = true
  rw [decide_eq_true k.1, decide_eq_true k.2]
  rfl
theorem name_len {z : Str} (h : nameS z = true) : z.length ≤ 12 := by
  unfold nameS at h
  rw [Bool.and_eq_true, Bool.and_eq_true, decide_eq_true_iff, decide_eq_true_iff] at h
  have := h.2.1
  omega
theorem name_size {z : Str} (h : nameS z = true) : z.length ≤ sizeLine := by
  have h1 := name_len h
  have : sizeLine = 16777216 := sizeLine_eq
  omega
theorem name_only {z : Str} (h : nameS z = true) : ∀ y, V.str z = V.str y → y.length ≤ sizeLine := fun y e => by
  cases e
  exact name_size h
structure PersOk (ps : List Str) : Prop where
  lo : 1 ≤ ps.length
  hi : ps.length ≤ 24
  nd : ps.Nodup
  nm : ∀ z ∈ ps, nameS z = true
inductive SightIn  (ps : List Str) (H : Hp) (v : V) : Prop
  | mk (a : Addr) (z : Str) (h : Int) (ta : Addr) (ws : List Str) (h0 : v = .ref a) (h1 : H a = some (.tup [.str z, .int h, .ref ta])) (h2 : z ∈ ps) (h3 : HourOk h) (h4 : H ta = some (.tup (ws.map V.str))) (h5 : 1 ≤ ws.length) (h6 : ws.length ≤ 6) (h7 : ∀ x ∈ ws, nameS x = true)
inductive TalkIn  (ps : List Str) (H : Hp) (v : V) : Prop
  | mk (a : Addr) (h : Int) (p q w : Str) (h0 : v = .ref a) (h1 : H a = some (.tup [.int h, .str p, .str q, .str w])) (h2 : HourOk h) (h3 : p ∈ ps) (h4 : q ∈ ps) (h5 : p ≠ q) (h6 : (w = "both" ∨ w = "one"))
inductive SayIn  (ps : List Str) (H : Hp) (v : V) : Prop
  | mk (a : Addr) (h0 : v = .ref a) (h1 : ((∃ (p : Str) (h : Int), H a = some (.tup [.str "knew", .str p, .int h]) ∧ p ∈ ps ∧ HourOk h) ∨    (∃ (p : Str) (b : V), H a = some (.tup [.str "unheard", .str p, b]) ∧ p ∈ ps ∧ (b = .non ∨ ∃ h : Int, b = .int h ∧ HourOk h)) ∨    (∃ (p : Str) (h k : Int), H a = some (.tup [.str "silent", .str p, .int h, .int k]) ∧ p ∈ ps ∧ HourOk h ∧ HourOk k ∧ h ≤ k) ∨    (∃ p q : Str, H a = some (.tup [.str "barred", .str p, .str q]) ∧ p ∈ ps ∧ q ∈ ps ∧ p ≠ q)))
/-- tuples stay -/
def Tk (H H' : Hp) : Prop := ∀ b xs, H b = some (.tup xs) → H' b = some (.tup xs)
theorem Tk.of {H H' : Hp} (s : Same H H') : Tk H H' := fun b _ e => s b _ e
theorem Tk.trans {H H1 H2 : Hp} (a : Tk H H1) (b : Tk H1 H2) : Tk H H2 := fun c xs e => b c xs (a c xs e)
theorem Tk.upd {H : Hp} {l : Addr} {xs ys : List V} (h : H l = some (.lst xs)) : Tk H (upd H l (.lst ys)) := fun b zs e => by
  rw [upd_ne (ne_of e h (by intro z; cases z))]
  exact e
theorem SightIn.mono {ps : List Str} {H H' : Hp} {v : V} (s : Tk H H') (h : SightIn ps H v) : SightIn ps H' v := by
  obtain ⟨a, z, h, ta, ws, e, ha, hz, hh, ht, r1, r2, r3⟩ := h
  exact ⟨a, z, h, ta, ws, e, s _ _ ha, hz, hh, s _ _ ht, r1, r2, r3⟩
theorem TalkIn.mono {ps : List Str} {H H' : Hp} {v : V} (s : Tk H H') (h : TalkIn ps H v) : TalkIn ps H' v := by
  obtain ⟨a, h, p, q, w, e, ha, r1, r2, r3, r4, r5⟩ := h
  exact ⟨a, h, p, q, w, e, s _ _ ha, r1, r2, r3, r4, r5⟩
theorem SayIn.mono {ps : List Str} {H H' : Hp} {v : V} (s : Tk H H') (h : SayIn ps H v) : SayIn ps H' v := by
  obtain ⟨a, e, h⟩ := h
  refine ⟨a, e, ?_⟩
  rcases h with ⟨p, h, ha, r⟩ | ⟨p, b, ha, r⟩ | ⟨p, h, k, ha, r⟩ | ⟨p, q, ha, r⟩
  · exact .inl ⟨p, h, s _ _ ha, r⟩
  · exact .inr (.inl ⟨p, b, s _ _ ha, r⟩)
  · exact .inr (.inr (.inl ⟨p, h, k, s _ _ ha, r⟩))
  · exact .inr (.inr (.inr ⟨p, q, s _ _ ha, r⟩))
theorem inV_strs {z : Str} {ps : List Str} (h : z ∈ ps) : inV (.str z) (ps.map V.str) = true := by
  show (ps.map V.str).any (fun y => eqV y (.str z)) = true
  rw [List.any_map, List.any_eq_true]
  exact ⟨z, h, by show (z == z) = true; exact beq_self_eq_true z⟩
theorem flat_strs (ps : List Str) : (ps.map V.str).all flatV = true := by
  rw [List.all_map, List.all_eq_true]
  intro z _
  rfl
theorem all_true {α : Type} {f : α → Bool} {xs : List α} (h : ∀ x ∈ xs, f x = true) : (xs.map f).all id = true := by
  rw [List.all_map, List.all_eq_true]
  exact fun x hx => h x hx
theorem len_ne {xs : List V} {n : Nat} {m : Int} (h : xs.length = n) (hm : (n : Int) ≠ m) : ¬ decide (V.int (xs.length : Nat) = V.int m) = true := by
  rw [decide_eq_true_iff, h]
  intro e
  injection e with e
  exact hm e
theorem len_is {xs : List V} {n : Nat} {m : Int} (h : xs.length = n) (hm : (n : Int) = m) : decide (V.int (xs.length : Nat) = V.int m) = true := by
  rw [decide_eq_true_iff, h, hm]
inductive spListUpP  (vs : List V) (H : Hp) (Q : VK) : Prop
  | mk (p : Addr) (xs : List V) (m : Int) (h0 : vs = [.ref p, .int m]) (h1 : H p = some (.lst xs)) (h2 : (xs.length : Int) ≤ m) (h3 : Q (.bl true) H)
def spListUp  : Sp := fun vs H Q _ => spListUpP  vs H Q
inductive spTupOfP  (vs : List V) (H : Hp) (Q : VK) : Prop
  | mk (p : Addr) (xs : List V) (m : Int) (h0 : vs = [.ref p, .int m]) (h1 : H p = some (.tup xs)) (h2 : (xs.length : Int) = m) (h3 : Q (.bl true) H)
def spTupOf  : Sp := fun vs H Q _ => spTupOfP  vs H Q
inductive spPersonP  (vs : List V) (H : Hp) (Q : VK) : Prop
  | mk (p : Addr) (ps : List Str) (z : Str) (h0 : vs = [.ref p, .str z]) (h1 : H p = some (.lst (ps.map V.str))) (h2 : PersOk ps) (h3 : z ∈ ps) (h4 : ∀ H', Same H H' → Q (.bl true) H')
def spPerson  : Sp := fun vs H Q _ => spPersonP  vs H Q
inductive spUnlikeP  (vs : List V) (H : Hp) (Q : VK) : Prop
  | mk (p : Addr) (ps : List Str) (y z : Str) (h0 : vs = [.ref p, .str y, .str z]) (h1 : H p = some (.lst (ps.map V.str))) (h2 : PersOk ps) (h3 : y ∈ ps) (h4 : z ∈ ps) (h5 : y ≠ z) (h6 : ∀ H', Same H H' → Q (.bl true) H')
def spUnlike  : Sp := fun vs H Q _ => spUnlikeP  vs H Q
inductive spTaleP  (vs : List V) (H : Hp) (Q : VK) : Prop
  | mk (t : Addr) (ws : List Str) (h0 : vs = [.ref t]) (h1 : H t = some (.tup (ws.map V.str))) (h2 : 1 ≤ ws.length) (h3 : ws.length ≤ 6) (h4 : (∀ x ∈ ws, nameS x = true)) (h5 : ∀ H', Same H H' → Q (.bl true) H')
def spTale  : Sp := fun vs H Q _ => spTaleP  vs H Q
inductive spSightP  (vs : List V) (H : Hp) (Q : VK) : Prop
  | mk (p : Addr) (ps : List Str) (v : V) (h0 : vs = [.ref p, v]) (h1 : H p = some (.lst (ps.map V.str))) (h2 : PersOk ps) (h3 : SightIn ps H v) (h4 : ∀ H', Same H H' → Q (.bl true) H')
def spSight  : Sp := fun vs H Q _ => spSightP  vs H Q
inductive spWayP  (vs : List V) (H : Hp) (Q : VK) : Prop
  | mk (w : Str) (h0 : vs = [.str w]) (h1 : (w = "both" ∨ w = "one")) (h2 : ∀ H', Same H H' → Q (.bl true) H')
def spWay  : Sp := fun vs H Q _ => spWayP  vs H Q
inductive spTalkP  (vs : List V) (H : Hp) (Q : VK) : Prop
  | mk (p : Addr) (ps : List Str) (v : V) (h0 : vs = [.ref p, v]) (h1 : H p = some (.lst (ps.map V.str))) (h2 : PersOk ps) (h3 : TalkIn ps H v) (h4 : ∀ H', Same H H' → Q (.bl true) H')
def spTalk  : Sp := fun vs H Q _ => spTalkP  vs H Q
inductive spSpanP  (vs : List V) (H : Hp) (Q : VK) : Prop
  | mk (h k : Int) (h0 : vs = [.int h, .int k]) (h1 : HourOk h) (h2 : HourOk k) (h3 : h ≤ k) (h4 : Q (.bl true) H)
def spSpan  : Sp := fun vs H Q _ => spSpanP  vs H Q
inductive spShortP  (vs : List V) (H : Hp) (Q : VK) : Prop
  | mk (p : Addr) (ps : List Str) (kd y : Str) (b : V) (h0 : vs = [.ref p, .str kd, .str y, b]) (h1 : H p = some (.lst (ps.map V.str))) (h2 : PersOk ps) (h3 : y ∈ ps) (h4 : ((kd = "barred" ∧ ∃ z, b = .str z ∧ z ∈ ps ∧ y ≠ z) ∨ (kd = "unheard" ∧ (b = .non ∨ ∃ h : Int, b = .int h ∧ HourOk h)) ∨ (kd = "knew" ∧ ∃ h : Int, b = .int h ∧ HourOk h))) (h5 : ∀ H', Same H H' → Q (.bl true) H')
def spShort  : Sp := fun vs H Q _ => spShortP  vs H Q
inductive spSayingP  (vs : List V) (H : Hp) (Q : VK) : Prop
  | mk (p : Addr) (ps : List Str) (v : V) (h0 : vs = [.ref p, v]) (h1 : H p = some (.lst (ps.map V.str))) (h2 : PersOk ps) (h3 : SayIn ps H v) (h4 : ∀ H', Same H H' → Q (.bl true) H')
def spSaying  : Sp := fun vs H Q _ => spSayingP  vs H Q
inductive spPersonsP  (vs : List V) (H : Hp) (Q : VK) : Prop
  | mk (p : Addr) (ps : List Str) (h0 : vs = [.ref p]) (h1 : H p = some (.lst (ps.map V.str))) (h2 : PersOk ps) (h3 : ∀ H', Same H H' → Q (.bl true) H')
def spPersons  : Sp := fun vs H Q _ => spPersonsP  vs H Q
inductive spManyP  (M : List Str → Hp → V → Prop) (n : Nat) (vs : List V) (H : Hp) (Q : VK) : Prop
  | mk (p q : Addr) (ps : List Str) (xs : List V) (h0 : vs = [.ref p, .ref q]) (h1 : H p = some (.lst (ps.map V.str))) (h2 : PersOk ps) (h3 : H q = some (.lst xs)) (h4 : xs.length ≤ n) (h5 : (∀ v ∈ xs, M ps H v)) (h6 : ∀ H', Same H H' → Q (.bl true) H')
def spMany  (M : List Str → Hp → V → Prop) (n : Nat) : Sp := fun vs H Q _ => spManyP M n vs H Q
/-- the attributes of a book, in the order in which they are stored -/
def flds (p s t y : Addr) : List (Str × V) := putF "kept_sayings" (.ref y) (putF "kept_talks" (.ref t) (putF "kept_sights" (.ref s) (putF "kept_persons" (.ref p) [])))
theorem fld_y (p s t y : Addr) : (flds p s t y).lookup ("kept_sayings" : Str) = some (.ref y) := by
  unfold flds
  rw [lookup_putF, if_pos rfl]
theorem fld_no (p s t y : Addr) {m : Str} (h1 : ¬ m = "kept_sayings") (h2 : ¬ m = "kept_talks") (h3 : ¬ m = "kept_sights") (h4 : ¬ m = "kept_persons") : (flds p s t y).lookup m = none := by
  unfold flds
  rw [lookup_putF, if_neg h1, lookup_putF, if_neg h2, lookup_putF, if_neg h3, lookup_putF, if_neg h4]
  rfl
/-- good parts of a book -/
structure Parts (H : Hp) (ps : List Str) (ss ts ys : List V) : Prop where
  ok : PersOk ps
  sl : ss.length ≤ 24
  sg : ∀ v ∈ ss, SightIn ps H v
  tl : ts.length ≤ 120
  tg : ∀ v ∈ ts, TalkIn ps H v
  yl : ys.length ≤ 60
  yg : ∀ v ∈ ys, SayIn ps H v
theorem Parts.mono {H H' : Hp} {ps : List Str} {ss ts ys : List V} (s : Tk H H') (g : Parts H ps ss ts ys) : Parts H' ps ss ts ys :=
  ⟨g.ok, g.sl, fun v h => (g.sg v h).mono s, g.tl, fun v h => (g.tg v h).mono s, g.yl, fun v h => (g.yg v h).mono s⟩
/-- a book stands at x -/
structure Bk (C : Addr) (H : Hp) (x p s t y : Addr) (ps : List Str) (ss ts ys : List V) : Prop where
  ob : ∃ dx, H x = some (.ins C dx (flds p s t y))
  hp : H p = some (.lst (ps.map V.str))
  hs : H s = some (.lst ss)
  ht : H t = some (.lst ts)
  hy : H y = some (.lst ys)
theorem Bk.mono {C : Addr} {H H' : Hp} {x p s t y : Addr} {ps : List Str} {ss ts ys : List V} (m : Same H H') (b : Bk C H x p s t y ps ss ts ys) : Bk C H' x p s t y ps ss ts ys := by
  obtain ⟨⟨dx, e⟩, h1, h2, h3, h4⟩ := b
  exact ⟨⟨dx, m _ _ e⟩, m _ _ h1, m _ _ h2, m _ _ h3, m _ _ h4⟩
inductive spInitP  (C : Addr) (vs : List V) (H : Hp) (Q : VK) : Prop
  | mk (x dx p a b c : Addr) (ps : List Str) (ss ts ys : List V) (h0 : vs = [.ref x, .ref p, .ref a, .ref b, .ref c]) (h1 : H x = some (.ins C dx [])) (h2 : H p = some (.lst (ps.map V.str))) (h3 : H a = some (.lst ss)) (h4 : H b = some (.lst ts)) (h5 : H c = some (.lst ys)) (h6 : Parts H ps ss ts ys) (h7 : ∀ (p' s' t' y' : Addr) (H' : Hp), H p' = none → H s' = none → H t' = none → H y' = none → Bk C H' x p' s' t' y' ps ss ts ys → (∀ d o, H d = some o → d ≠ x → H' d = some o) → Q .non H')
def spInit  (C : Addr) : Sp := fun vs H Q _ => spInitP C vs H Q
structure Txt (K : PySem.W.Frag) (mg : Str → Option Value) (kw C : Addr) : Prop where
  b_isinstance : mg "isinstance" = none
  b_int : mg "int" = none
  b_bool : mg "bool" = none
  b_str : mg "str" = none
  b_len : mg "len" = none
  b_all : mg "all" = none
  b_range : mg "range" = none
  b_list : mg "list" = none
  b_tuple : mg "tuple" = none
  b_set : mg "set" = none
  b_zip : mg "zip" = none
  b_enumerate : mg "enumerate" = none
  b_min : mg "min" = none
  b_max : mg "max" = none
  b_any : mg "any" = none
  b_sorted : mg "sorted" = none
  b_dict : mg "dict" = none
  b_sum : mg "sum" = none
  b_reversed : mg "reversed" = none
  kwm : mg "KEPT_WORDS" = some (.ref kw)
  kwt : ∃ (o : Obj) (its : Array Value) (n : Nat), K.lookup kw = some o ∧ o.cls = .type "tuple" ∧ o.data = .seq its n ∧ its.size ≤ sizeLine ∧ Vals (kept.map V.str) its.toList
  g_MOST_PERSONS : ∃ u, mg "MOST_PERSONS" = some u ∧ RelV (.int 24) u
  g_MOST_SIGHTS : ∃ u, mg "MOST_SIGHTS" = some u ∧ RelV (.int 24) u
  g_MOST_TALKS : ∃ u, mg "MOST_TALKS" = some u ∧ RelV (.int 120) u
  g_MOST_SAYINGS : ∃ u, mg "MOST_SAYINGS" = some u ∧ RelV (.int 60) u
  g_MOST_WORDS : ∃ u, mg "MOST_WORDS" = some u ∧ RelV (.int 6) u
  cl : Cls K C
  nP : NoAttr K C "kept_persons"
  nS : NoAttr K C "kept_sights"
  nT : NoAttr K C "kept_talks"
  nY : NoAttr K C "kept_sayings"
section
variable {P : Program} {w : World} {K : PySem.W.Frag} {mg : Str → Option Value} {base : Heap} {kw C : Addr}
theorem scW : FnScope ["thing"] ["thing"] (defScope s_is_whole) := ⟨rfl, rfl, rfl, by decide +kernel, rfl, by decide +kernel, by decide +kernel⟩
theorem ok_whole {f : Addr} {fd : FuncData} (F : Fun K "is_whole" "is_whole" s_is_whole f fd) (T : Txt K mg kw C) : FnOk P w K mg base CX0 1 f fd ["thing"] (spWhole K) := by
  refine F.ok scW (fun vs H Q E h => ?_) (fun cdv A outer s H vs Q E hr h => ?_)
  · obtain ⟨x, t, rfl, _⟩ := h
    rfl
  · obtain ⟨x, t, rfl, ty, ht, k⟩ := h
    refine ⟨_, pss_one (ps_ret (pe_and (pe_callB call_isi rfl T.b_isinstance bb_isinstance (pa_cons (pv 0) (pa_cons (pe_bltn (v := .ty "int") rfl T.b_int bb_int rfl) pa_nil)))
      (pe_one (pe_not (pe_callB call_isi rfl T.b_isinstance bb_isinstance (pa_cons (pv 0) (pa_cons (pe_bltn (v := .ty "bool") rfl T.b_bool bb_bool rfl) pa_nil))))))), ?_⟩
    refine ⟨_, rfl, _, _, _, _, rfl, ty, kit_isa ht (by decide), _, rfl, ?_⟩
    refine ite2 (fun h1 => ?_) (fun h1 => ?_)
    · refine ⟨_, rfl, _, _, _, _, rfl, ty, kit_isa ht (by decide), _, rfl, ?_⟩
      have e : (!isaB t "bool") = (t == "int") := by
        simp only [tys, List.mem_cons, List.not_mem_nil, or_false] at ht
        rcases ht with rfl | rfl | rfl | rfl | rfl | rfl | rfl <;> first | rfl | (exfalso; revert h1; decide)
      show Q (.bl (!isaB t "bool")) H
      rw [e]
      exact k
    · have e : (t == "int") = false := by
        simp only [tys, List.mem_cons, List.not_mem_nil, or_false] at ht
        rcases ht with rfl | rfl | rfl | rfl | rfl | rfl | rfl <;> first | rfl | (exfalso; revert h1; decide)
      show Q (.bl false) H
      rw [← e]
      exact k
theorem scH : FnScope ["thing"] ["thing"] (defScope s_is_hour) := ⟨rfl, rfl, rfl, by decide +kernel, rfl, by decide +kernel, by decide +kernel⟩
theorem ok_hour {f fW : Addr} {fd fdW : FuncData} (F : Fun K "is_hour" "is_hour" s_is_hour f fd) (DW : Df K mg "is_whole" s_is_whole ["thing"] fW fdW) (T : Txt K mg kw C) : FnOk P w K mg base CX0 2 f fd ["thing"] (spHour K) := by
  have GW : FnOk P w K mg base CX0 1 fW fdW ["thing"] (spWhole K) := ok_whole DW.fn T
  refine F.ok scH (fun vs H Q E h => ?_) (fun cdv A outer s H vs Q E hr h => ?_)
  · obtain ⟨x, t, rfl, _⟩ := h
    rfl
  · obtain ⟨x, t, rfl, ty, ht, k⟩ := h
    refine ⟨_, pss_one (ps_ret (pe_and (pe_call GW hr rfl DW.nm DW.fn.kp DW.bi .nil pass0 (pa_cons (pv 0) pa_nil))
      (pe_one (pe_chain op_le op_le pe_int (pv 0) (pe_op op_pow pe_int pe_int))))), ?_⟩
    refine ⟨_, rfl, x, t, rfl, ty, ht, _, rfl, ?_⟩
    refine ite2 (fun h1 => ?_) (fun h1 => ?_)
    · have e : t = "int" := eq_of_beq h1
      subst e
      obtain ⟨i, rfl⟩ := ty_int ty
      · refine ⟨_, rfl, _, _, rfl, rfl, _, rfl, ?_⟩
        refine ite2 (fun h2 => ?_) (fun h2 => ?_)
        · refine ⟨_, _, rfl, rfl, ⟨by decide, by decide, by decide⟩, _, _, rfl, rfl, ?_⟩
          have e2 : hourV (.int i) = decide (i ≤ 10 ^ Int.toNat 18) := by
            show (decide (0 ≤ i) && decide (i ≤ 10 ^ Int.toNat 18)) = _
            rw [h2, Bool.true_and]
          rw [e2] at k
          exact k
        · have e2 : hourV (.int i) = false := by
            show (decide (0 ≤ i) && decide (i ≤ 10 ^ Int.toNat 18)) = _
            rw [Bool.eq_false_iff.mpr h2, Bool.false_and]
          rw [e2] at k
          exact k
    · have e2 : hourV x = false := by
        cases x with
        | int i => exact absurd (beq_iff_eq.mpr (of_ty_int ty)) h1
        | _ => rfl
      rw [e2] at k
      exact k
theorem scN : FnScope ["thing"] ["thing"] (defScope s_is_name) := ⟨rfl, rfl, rfl, by decide +kernel, rfl, by decide +kernel, by decide +kernel⟩
theorem ok_name {f : Addr} {fd : FuncData} (F : Fun K "is_name" "is_name" s_is_name f fd) (T : Txt K mg kw C) : FnOk P w K mg base CX0 1 f fd ["thing"] (spName K) := by
  refine F.ok scN (fun vs H Q E h => ?_) (fun cdv A outer s H vs Q E hr h => ?_)
  · obtain ⟨x, t, rfl, _⟩ := h
    rfl
  · obtain ⟨x, t, rfl, ty, ht, hz, k⟩ := h
    refine ⟨_, pss_cons (ps_if (PW.pt (pw_or (pt_not (pt_val (pe_callB call_isi rfl T.b_isinstance bb_isinstance (pa_cons (pv 0) (pa_cons (pe_bltn (v := .ty "str") rfl T.b_str bb_str rfl) pa_nil)))))
        (pw_or1 (pt_not (pt_chain op_le op_le pe_int (pe_callB call_len_str rfl T.b_len bb_len (pa_cons (pv 0) pa_nil)) pe_int))))) (pss_one (ps_ret pe_bl)) pss_nil)
      (pss_one (ps_ret (pe_and (pe_callB (call_allB rfl) rfl T.b_all bb_all (pa_cons (pe_lcB (sc := defScope s_is_name) (N := ["thing"]) (is := []) (ns := []) rfl (pi_str (pv 0))
          ⟨rfl, by decide +kernel, by decide +kernel, by decide +kernel, rfl, rfl, by decide +kernel, by decide +kernel⟩ (fun _ _ _ _ _ => pe_chain op_le_str op_le_str pe_str (pv 0) pe_str)) pa_nil))
        (pe_one (pe_cmpR op_notIn_seq (pv 0) (pe_glob (v := .ref kw) rfl T.kwm rfl) (by with_unfolding_all rfl)))))), ?_⟩
    refine ⟨_, rfl, _, _, _, _, rfl, ty, kit_isa ht (by decide), _, rfl, ?_⟩
    by_cases hs : t = "str"
    · subst hs
      obtain ⟨z, rfl⟩ := ty_str ty
      · have hz' := hz z rfl
        refine iteF ?_
        refine ⟨_, rfl, z, rfl, hz', _, _, rfl, rfl, _, rfl, ?_⟩
        by_cases h1 : 1 ≤ (z.length : Int)
        · rw [decide_eq_true h1]
          refine iteT ⟨_, _, rfl, rfl, _, rfl, ?_⟩
          by_cases h2 : (z.length : Int) ≤ 12
          · rw [decide_eq_true h2]
            refine iteF ?_
            refine ⟨_, rfl, z, rfl, lc_str (fun v => .bl (signOk v)) hz' (fun v H2 Q' hv sm q' => ?_) fun D hD => ?_⟩
            · obtain ⟨c, _, rfl⟩ := List.mem_map.mp hv
              refine ⟨_, rfl, _, _, rfl, rfl, _, rfl, ite2 (fun h => ⟨_, _, rfl, rfl, ?_⟩) (fun h => ?_)⟩
              · have e : signOk (.str ⟨#[c]⟩) = !decide (("z" : Str).cps.toList < (⟨#[c]⟩ : Str).cps.toList) := by
                  show (!decide ((⟨#[c]⟩ : Str).cps.toList < ("a" : Str).cps.toList) && _) = _
                  rw [h, Bool.true_and]
                rw [e] at q'
                exact q'
              · have e : signOk (.str ⟨#[c]⟩) = false := by
                  show (!decide ((⟨#[c]⟩ : Str).cps.toList < ("a" : Str).cps.toList) && _) = _
                  rw [Bool.eq_false_iff.mpr h, Bool.false_and]
                rw [e] at q'
                exact q'
            · refine ⟨D, (signs z).map signOk, rfl, SqL.of (upd_same.trans (by rw [List.map_map]; rfl)), _, rfl, ?_⟩
              have e : nameS z = (((signs z).map signOk).all id && !inV (.str z) (kept.map V.str)) := by
                unfold nameS
                rw [decide_eq_true h1, decide_eq_true h2, Bool.true_and, Bool.true_and]
              have k' := k _ (Same.upd (o := .lst (((signs z).map fun v => V.bl (signOk v)))) hD)
              have k2 : Q (.bl (nameS z)) _ := k'
              rw [e] at k2
              refine ite2 (fun h => ?_) (fun h => ?_)
              · rw [h, Bool.true_and] at k2
                refine ⟨_, rfl, kw, _, rfl, .inr (.inr T.kwt), rfl, ?_, k2⟩
                decide +kernel
              · rw [Bool.eq_false_iff.mpr h, Bool.false_and] at k2
                exact k2
          · rw [decide_eq_false h2]
            refine iteT ?_
            have e : nameS z = false := by
              unfold nameS
              rw [decide_eq_false h2, Bool.false_and, Bool.and_false]
            have k2 : Q (.bl (nameS z)) H := k H (Same.refl H)
            rw [e] at k2
            exact k2
        · rw [decide_eq_false h1]
          refine iteF ⟨_, rfl, iteT ?_⟩
          have e : nameS z = false := by
            unfold nameS
            rw [decide_eq_false h1, Bool.false_and]
          have k2 : Q (.bl (nameS z)) H := k H (Same.refl H)
          rw [e] at k2
          exact k2
    · have e : isaB t "str" = false := by
        unfold isaB
        rw [beq_eq_false_iff_ne.mpr hs, Bool.false_or]
        exact Bool.and_false _
      rw [e]
      refine iteT (iteT ?_)
      have e2 : nameV x = false := by
        cases x with
        | str z => exact absurd (of_ty_str ty) hs
        | _ => rfl
      have k2 := k H (Same.refl H)
      rw [e2] at k2
      exact k2
theorem at_ex {α : Type} {xs : List α} {i : Int} (h0 : 0 ≤ i) (h1 : i < xs.length) : ∃ v, atI xs i = some v ∧ v ∈ xs := by
  have hj : i.toNat < xs.length := by omega
  have e : ((i.toNat : Nat) : Int) = i := Int.toNat_of_nonneg h0
  refine ⟨xs[i.toNat], ?_, List.getElem_mem hj⟩
  have := atI_nat (xs := xs) (j := i.toNat) (v := xs[i.toNat]) (by simp [hj])
  rw [e] at this
  exact this
theorem sc_is_list_up_to : FnScope ["thing", "most"] ["thing", "most"] (defScope s_is_list_up_to) := ⟨rfl, rfl, rfl, by decide +kernel, rfl, by decide +kernel, by decide +kernel⟩
theorem ok_list_up {f : Addr} {fd : FuncData} (D : Df K mg "is_list_up_to" s_is_list_up_to ["thing", "most"] f fd) (T : Txt K mg kw C) : Gd P w K mg base 1 "is_list_up_to" spListUp := by
  refine J.def_ok D sc_is_list_up_to (fun vs H Q E h => ?_) (fun X H vs Q E hh h => ?_)
  · obtain ⟨p, xs, m, rfl, _⟩ := h
    rfl
  · obtain ⟨p, xs, m, rfl, hp, hm, k⟩ := h
    have S0 : L2.Slot X 0 "thing" := hh.slot 0 rfl (by first | exact .inl rfl | exact .inr rfl) (by decide) (by decide)
    have S1 : L2.Slot X 1 "most" := hh.slot 1 rfl (by first | exact .inl rfl | exact .inr rfl) (by decide) (by decide)
    have B_isinstance : Bt X "isinstance" := hh.bt T.b_isinstance rfl (by decide) (by decide)
    have B_len : Bt X "len" := hh.bt T.b_len rfl (by decide) (by decide)
    have B_list : Bt X "list" := hh.bt T.b_list rfl (by decide) (by decide)
    refine ⟨_, (J.pss_one (J.ps_ret (J.pe_and (J.blt B_isinstance J.call_isi L2.bb_isinstance (J.pa_c (J.rd S0) (J.pa_c (J.ty B_list L2.bb_list) J.pa_nil))) (J.pe_one (J.pe_cmpR J.op_le (J.blt B_len J.call_len_seq L2.bb_len (J.pa_c (J.rd S0) J.pa_nil)) (J.rd S1) (L2.nomark _)))))), ?_⟩
    refine ⟨_, rfl, _, _, _, _, rfl, .lst hp, kit_isa (T := "list") (by decide) (by decide), _, rfl, iteP (by decide) ?_⟩
    refine ⟨_, rfl, p, xs, rfl, .inl (SqL.of hp), _, rfl, _, _, rfl, rfl, ?_⟩
    show Q (.bl (decide ((xs.length : Int) ≤ m))) H
    rw [decide_eq_true hm]
    exact k
theorem sc_is_tuple_of : FnScope ["thing", "length"] ["thing", "length"] (defScope s_is_tuple_of) := ⟨rfl, rfl, rfl, by decide +kernel, rfl, by decide +kernel, by decide +kernel⟩
theorem ok_tup_of {f : Addr} {fd : FuncData} (D : Df K mg "is_tuple_of" s_is_tuple_of ["thing", "length"] f fd) (T : Txt K mg kw C) : Gd P w K mg base 1 "is_tuple_of" spTupOf := by
  refine J.def_ok D sc_is_tuple_of (fun vs H Q E h => ?_) (fun X H vs Q E hh h => ?_)
  · obtain ⟨p, xs, m, rfl, _⟩ := h
    rfl
  · obtain ⟨p, xs, m, rfl, hp, hm, k⟩ := h
    have S0 : L2.Slot X 0 "thing" := hh.slot 0 rfl (by first | exact .inl rfl | exact .inr rfl) (by decide) (by decide)
    have S1 : L2.Slot X 1 "length" := hh.slot 1 rfl (by first | exact .inl rfl | exact .inr rfl) (by decide) (by decide)
    have B_isinstance : Bt X "isinstance" := hh.bt T.b_isinstance rfl (by decide) (by decide)
    have B_len : Bt X "len" := hh.bt T.b_len rfl (by decide) (by decide)
    have B_tuple : Bt X "tuple" := hh.bt T.b_tuple rfl (by decide) (by decide)
    refine ⟨_, (J.pss_one (J.ps_ret (J.pe_and (J.blt B_isinstance J.call_isi L2.bb_isinstance (J.pa_c (J.rd S0) (J.pa_c (J.ty B_tuple L2.bb_tuple) J.pa_nil))) (J.pe_one (J.pe_cmpR J.op_eq (J.blt B_len J.call_len_seq L2.bb_len (J.pa_c (J.rd S0) J.pa_nil)) (J.rd S1) (L2.nomark _)))))), ?_⟩
    refine ⟨_, rfl, _, _, _, _, rfl, .tup hp, kit_isa (T := "tuple") (by decide) (by decide), _, rfl, iteP (by decide) ?_⟩
    refine ⟨_, rfl, p, xs, rfl, .inr (SqT.of hp), _, rfl, rfl, ?_⟩
    rw [hm, decide_eq_true rfl]
    exact k
theorem sc_is_person : FnScope ["persons", "thing"] ["persons", "thing"] (defScope s_is_person) := ⟨rfl, rfl, rfl, by decide +kernel, rfl, by decide +kernel, by decide +kernel⟩
theorem ok_person {f : Addr} {fd : FuncData} (D : Df K mg "is_person" s_is_person ["persons", "thing"] f fd) (G_is_name : Gd P w K mg base 1 "is_name" (spName K)) : Gd P w K mg base 2 "is_person" spPerson := by
  refine J.def_ok D sc_is_person (fun vs H Q E h => ?_) (fun X H vs Q E hh h => ?_)
  · obtain ⟨p, ps, z, rfl, _⟩ := h
    rfl
  · obtain ⟨p, ps, z, rfl, hp, hP, hz, k⟩ := h
    have S0 : L2.Slot X 0 "persons" := hh.slot 0 rfl (by first | exact .inl rfl | exact .inr rfl) (by decide) (by decide)
    have S1 : L2.Slot X 1 "thing" := hh.slot 1 rfl (by first | exact .inl rfl | exact .inr rfl) (by decide) (by decide)
    have C_is_name := hh.cal G_is_name rfl (by first | decide | exact Nat.le_refl _) (by decide)
    have hn := hP.nm z hz
    refine ⟨_, (J.pss_one (J.ps_ret (J.pe_and (J.cal C_is_name (J.pa_c (J.rd S1) J.pa_nil)) (J.pe_one (J.pe_cmpR J.op_in_seq (J.rd S1) (J.rd S0) J.notSet_mark))))), ?_⟩
    refine ⟨_, rfl, .str z, "str", rfl, .str z, by decide, name_only hn, fun H1 s1 => ⟨_, rfl, iteP hn ?_⟩⟩
    refine ⟨_, rfl, _, rfl, p, _, rfl, .inl (SqL.of (s1 _ _ hp)), rfl, flat_strs ps, ?_⟩
    show Q (.bl (inV (.str z) (ps.map V.str))) H1
    rw [inV_strs hz]
    exact k H1 s1
theorem sc_are_unlike_persons : FnScope ["persons", "one", "other"] ["persons", "one", "other"] (defScope s_are_unlike_persons) := ⟨rfl, rfl, rfl, by decide +kernel, rfl, by decide +kernel, by decide +kernel⟩
theorem ok_unlike {f : Addr} {fd : FuncData} (D : Df K mg "are_unlike_persons" s_are_unlike_persons ["persons", "one", "other"] f fd) (G_is_person : Gd P w K mg base 2 "is_person" spPerson) : Gd P w K mg base 3 "are_unlike_persons" spUnlike := by
  refine J.def_ok D sc_are_unlike_persons (fun vs H Q E h => ?_) (fun X H vs Q E hh h => ?_)
  · obtain ⟨p, ps, y, z, rfl, _⟩ := h
    rfl
  · obtain ⟨p, ps, y, z, rfl, hp, hP, hy, hz, hne, k⟩ := h
    have S0 : L2.Slot X 0 "persons" := hh.slot 0 rfl (by first | exact .inl rfl | exact .inr rfl) (by decide) (by decide)
    have S1 : L2.Slot X 1 "one" := hh.slot 1 rfl (by first | exact .inl rfl | exact .inr rfl) (by decide) (by decide)
    have S2 : L2.Slot X 2 "other" := hh.slot 2 rfl (by first | exact .inl rfl | exact .inr rfl) (by decide) (by decide)
    have C_is_person := hh.cal G_is_person rfl (by first | decide | exact Nat.le_refl _) (by decide)
    refine ⟨_, (J.pss_one (J.ps_ret (J.pe_and (J.cal C_is_person (J.pa_c (J.rd S0) (J.pa_c (J.rd S1) J.pa_nil))) (J.pe_and (J.cal C_is_person (J.pa_c (J.rd S0) (J.pa_c (J.rd S2) J.pa_nil))) (J.pe_one (J.pe_cmpR J.op_ne (J.rd S1) (J.rd S2) (L2.nomark _))))))), ?_⟩
    refine ⟨_, rfl, _, rfl, p, ps, y, rfl, hp, hP, hy, fun H1 s1 => ⟨_, rfl, iteT ?_⟩⟩
    refine ⟨_, rfl, _, rfl, p, ps, z, rfl, s1 _ _ hp, hP, hz, fun H2 s2 => ⟨_, rfl, iteT ?_⟩⟩
    refine ⟨_, rfl, _, rfl, rfl, ?_⟩
    rw [decide_eq_false (by intro e; cases e; exact hne rfl)]
    exact k H2 (s1.trans s2)
theorem sc_is_tale : FnScope ["thing"] ["thing"] (defScope s_is_tale) := ⟨rfl, rfl, rfl, by decide +kernel, rfl, by decide +kernel, by decide +kernel⟩
theorem ok_tale {f : Addr} {fd : FuncData} (D : Df K mg "is_tale" s_is_tale ["thing"] f fd) (T : Txt K mg kw C) (G_is_name : Gd P w K mg base 1 "is_name" (spName K)) : Gd P w K mg base 2 "is_tale" spTale := by
  refine J.def_ok D sc_is_tale (fun vs H Q E h => ?_) (fun X H vs Q E hh h => ?_)
  · obtain ⟨t, ws, rfl, _⟩ := h
    rfl
  · obtain ⟨t, ws, rfl, ht, w1, w6, hw, k⟩ := h
    have S0 : L2.Slot X 0 "thing" := hh.slot 0 rfl (by first | exact .inl rfl | exact .inr rfl) (by decide) (by decide)
    have B_all : Bt X "all" := hh.bt T.b_all rfl (by decide) (by decide)
    have B_isinstance : Bt X "isinstance" := hh.bt T.b_isinstance rfl (by decide) (by decide)
    have B_len : Bt X "len" := hh.bt T.b_len rfl (by decide) (by decide)
    have B_tuple : Bt X "tuple" := hh.bt T.b_tuple rfl (by decide) (by decide)
    have g_MOST_WORDS : ∀ {p : Pos}, J.JE X (.Name "MOST_WORDS" p) (L2.tC (.int 6)) := J.glob hh T.g_MOST_WORDS rfl (by decide)
    have CI_is_name := hh.cali G_is_name (by first | decide | exact Nat.le_refl _) (by decide)
    have hl : (ws.map V.str).length = ws.length := List.length_map ..
    have hz : (ws.map V.str).length ≤ sizeLine := by
      have : sizeLine = 16777216 := sizeLine_eq
      omega
    refine ⟨_, (J.pss_cons (J.ps_if (J.pw_pt (J.pw_or (J.pt_not (J.pt_call (J.blt B_isinstance J.call_isi L2.bb_isinstance (J.pa_c (J.rd S0) (J.pa_c (J.ty B_tuple L2.bb_tuple) J.pa_nil))))) (J.pw_or1 (J.pt_not (J.pt_chain J.op_le J.op_le J.pe_int (J.blt B_len J.call_len_seq L2.bb_len (J.pa_c (J.rd S0) J.pa_nil)) g_MOST_WORDS L2.chain_mark)))))
 (J.pss_one (J.ps_ret J.pe_bl))
 J.pss_nil)
 (J.pss_one (J.ps_ret (J.blt B_all (J.call_allB hh.calm) L2.bb_all (J.pa_c (J.pe_lcB (sc := L2.defScope s_is_tale) (N := ["thing"]) (is := []) (ns := []) hh.calm (J.pi_tup (J.rd S0)) ⟨rfl, by decide +kernel, by decide +kernel, by decide +kernel, rfl, rfl, by decide +kernel, by decide +kernel⟩ (fun _ _ _ _ _ => (J.cal (CI_is_name.lc rfl) (J.pa_c (J.lc0 rfl (by decide) (by decide)) J.pa_nil))) hh.hsc hh.hN) J.pa_nil))))), ?_⟩
    refine ⟨_, rfl, _, _, _, _, rfl, .tup ht, kit_isa (T := "tuple") (by decide) (by decide), _, rfl, iteN (by decide) ?_⟩
    refine ⟨_, rfl, t, _, rfl, .inr (SqT.of ht), _, _, rfl, rfl, _, rfl, iteP (decide_eq_true (by omega)) ⟨_, _, rfl, rfl, _, rfl, ?_⟩⟩
    rw [decide_eq_true (show ((ws.map V.str).length : Int) ≤ 6 by omega)]
    refine iteF ?_
    refine ⟨_, rfl, t, rfl, ⟨_, SqT.of ht⟩, lcg_tup (fun v => .bl (nameV v)) (SqT.of ht) hz (fun v H2 Q' hv sm q' => ?_) (fun D' H' hD sm hl' => ?_)⟩
    · obtain ⟨x, hx, rfl⟩ := List.mem_map.mp hv
      exact ⟨_, rfl, .str x, "str", rfl, .str x, by decide, name_only (hw x hx), fun H3 s3 => q' H3 s3⟩
    · refine ⟨D', ws.map nameS, rfl, SqL.of (hl'.trans (by rw [List.map_map, List.map_map]; rfl)), ?_⟩
      rw [all_true hw]
      exact k H' sm
theorem sc_is_sight : FnScope ["persons", "thing"] ["persons", "thing"] (defScope s_is_sight) := ⟨rfl, rfl, rfl, by decide +kernel, rfl, by decide +kernel, by decide +kernel⟩
theorem ok_sight {f : Addr} {fd : FuncData} (D : Df K mg "is_sight" s_is_sight ["persons", "thing"] f fd) (G_is_tuple_of : Gd P w K mg base 1 "is_tuple_of" spTupOf) (G_is_person : Gd P w K mg base 2 "is_person" spPerson)
    (G_is_hour : Gd P w K mg base 2 "is_hour" (spHour K)) (G_is_tale : Gd P w K mg base 2 "is_tale" spTale) : Gd P w K mg base 3 "is_sight" spSight := by
  refine J.def_ok D sc_is_sight (fun vs H Q E h => ?_) (fun X H vs Q E hh h => ?_)
  · obtain ⟨p, ps, v, rfl, _⟩ := h
    rfl
  · obtain ⟨p, ps, v, rfl, hp, hP, ⟨a, z, hr, ta, ws, rfl, ha, hz, hho, hta, w1, w6, hw⟩, k⟩ := h
    have S0 : L2.Slot X 0 "persons" := hh.slot 0 rfl (by first | exact .inl rfl | exact .inr rfl) (by decide) (by decide)
    have S1 : L2.Slot X 1 "thing" := hh.slot 1 rfl (by first | exact .inl rfl | exact .inr rfl) (by decide) (by decide)
    have C_is_hour := hh.cal G_is_hour rfl (by first | decide | exact Nat.le_refl _) (by decide)
    have C_is_person := hh.cal G_is_person rfl (by first | decide | exact Nat.le_refl _) (by decide)
    have C_is_tale := hh.cal G_is_tale rfl (by first | decide | exact Nat.le_refl _) (by decide)
    have C_is_tuple_of := hh.cal G_is_tuple_of rfl (by first | decide | exact Nat.le_refl _) (by decide)
    refine ⟨_, (J.pss_cons (J.ps_if (J.pt_not (J.pt_call (J.cal C_is_tuple_of (J.pa_c (J.rd S1) (J.pa_c J.pe_int J.pa_nil)))))
 (J.pss_one (J.ps_ret J.pe_bl))
 J.pss_nil)
 (J.pss_one (J.ps_ret (J.pe_and (J.cal C_is_person (J.pa_c (J.rd S0) (J.pa_c (J.pe_ix J.ix_tup (J.rd S1) J.pe_int J.ix_con) J.pa_nil))) (J.pe_and (J.cal C_is_hour (J.pa_c (J.pe_ix J.ix_tup (J.rd S1) J.pe_int J.ix_con) J.pa_nil)) (J.pe_one (J.cal C_is_tale (J.pa_c (J.pe_ix J.ix_tup (J.rd S1) J.pe_int J.ix_con) J.pa_nil)))))))), ?_⟩
    refine ⟨_, rfl, a, _, 3, rfl, ha, rfl, _, rfl, iteF ?_⟩
    refine ⟨_, rfl, _, rfl, a, _, _, _, rfl, rfl, SqT.of ha, rfl, p, ps, z, rfl, hp, hP, hz, fun H1 s1 => ⟨_, rfl, iteT ?_⟩⟩
    refine ⟨_, rfl, a, _, _, _, rfl, rfl, SqT.of (s1 _ _ ha), rfl, .int hr, "int", rfl, .int hr, by decide, _, rfl, iteP (hourV_ok hho) ?_⟩
    exact ⟨_, rfl, a, _, _, _, rfl, rfl, SqT.of (s1 _ _ ha), rfl, ta, ws, rfl, s1 _ _ hta, w1, w6, hw, fun H2 s2 => k H2 (s1.trans s2)⟩
theorem sc_is_way : FnScope ["thing"] ["thing"] (defScope s_is_way) := ⟨rfl, rfl, rfl, by decide +kernel, rfl, by decide +kernel, by decide +kernel⟩
theorem ok_way {f : Addr} {fd : FuncData} (D : Df K mg "is_way" s_is_way ["thing"] f fd) (T : Txt K mg kw C) : Gd P w K mg base 1 "is_way" spWay := by
  refine J.def_ok D sc_is_way (fun vs H Q E h => ?_) (fun X H vs Q E hh h => ?_)
  · obtain ⟨z, rfl, _⟩ := h
    rfl
  · obtain ⟨z, rfl, hz, k⟩ := h
    have S0 : L2.Slot X 0 "thing" := hh.slot 0 rfl (by first | exact .inl rfl | exact .inr rfl) (by decide) (by decide)
    have B_isinstance : Bt X "isinstance" := hh.bt T.b_isinstance rfl (by decide) (by decide)
    have B_str : Bt X "str" := hh.bt T.b_str rfl (by decide) (by decide)
    refine ⟨_, (J.pss_one (J.ps_ret (J.pe_and (J.blt B_isinstance J.call_isi L2.bb_isinstance (J.pa_c (J.rd S0) (J.pa_c (J.ty B_str L2.bb_str) J.pa_nil))) (J.pe_one (J.pe_cmpR J.op_in_seq (J.rd S0) (J.pe_tup (J.pa_c J.pe_str (J.pa_c J.pe_str J.pa_nil))) J.tup_mark))))), ?_⟩
    refine ⟨_, rfl, _, _, _, _, rfl, .str z, kit_isa (T := "str") (by decide) (by decide), _, rfl, iteP (by decide) ?_⟩
    refine ⟨_, rfl, by show 2 ≤ sizeLine; decide, fun q hq => ⟨q, _, rfl, .inr (SqT.of upd_same), rfl, by decide +kernel, ?_⟩⟩
    show Q (.bl (inV (.str z) [.str "both", .str "one"])) _
    have e : inV (.str z) [.str "both", .str "one"] = true := by
      rcases hz with rfl | rfl <;> decide +kernel
    rw [e]
    exact k _ (Same.upd hq)
theorem sc_is_talk : FnScope ["persons", "thing"] ["persons", "thing"] (defScope s_is_talk) := ⟨rfl, rfl, rfl, by decide +kernel, rfl, by decide +kernel, by decide +kernel⟩
theorem ok_talk {f : Addr} {fd : FuncData} (D : Df K mg "is_talk" s_is_talk ["persons", "thing"] f fd) (G_is_tuple_of : Gd P w K mg base 1 "is_tuple_of" spTupOf) (G_are_unlike_persons : Gd P w K mg base 3 "are_unlike_persons" spUnlike)
    (G_is_hour : Gd P w K mg base 2 "is_hour" (spHour K)) (G_is_way : Gd P w K mg base 1 "is_way" spWay) : Gd P w K mg base 4 "is_talk" spTalk := by
  refine J.def_ok D sc_is_talk (fun vs H Q E h => ?_) (fun X H vs Q E hh h => ?_)
  · obtain ⟨p, ps, v, rfl, _⟩ := h
    rfl
  · obtain ⟨p, ps, v, rfl, hp, hP, ⟨a, hr, y, z, wy, rfl, ha, hho, hy, hz, hne, hw⟩, k⟩ := h
    have S0 : L2.Slot X 0 "persons" := hh.slot 0 rfl (by first | exact .inl rfl | exact .inr rfl) (by decide) (by decide)
    have S1 : L2.Slot X 1 "thing" := hh.slot 1 rfl (by first | exact .inl rfl | exact .inr rfl) (by decide) (by decide)
    have C_are_unlike_persons := hh.cal G_are_unlike_persons rfl (by first | decide | exact Nat.le_refl _) (by decide)
    have C_is_hour := hh.cal G_is_hour rfl (by first | decide | exact Nat.le_refl _) (by decide)
    have C_is_tuple_of := hh.cal G_is_tuple_of rfl (by first | decide | exact Nat.le_refl _) (by decide)
    have C_is_way := hh.cal G_is_way rfl (by first | decide | exact Nat.le_refl _) (by decide)
    refine ⟨_, (J.pss_cons (J.ps_if (J.pt_not (J.pt_call (J.cal C_is_tuple_of (J.pa_c (J.rd S1) (J.pa_c J.pe_int J.pa_nil)))))
 (J.pss_one (J.ps_ret J.pe_bl))
 J.pss_nil)
 (J.pss_one (J.ps_ret (J.pe_and (J.cal C_is_hour (J.pa_c (J.pe_ix J.ix_tup (J.rd S1) J.pe_int J.ix_con) J.pa_nil)) (J.pe_and (J.cal C_are_unlike_persons (J.pa_c (J.rd S0) (J.pa_c (J.pe_ix J.ix_tup (J.rd S1) J.pe_int J.ix_con) (J.pa_c (J.pe_ix J.ix_tup (J.rd S1) J.pe_int J.ix_con) J.pa_nil)))) (J.pe_one (J.cal C_is_way (J.pa_c (J.pe_ix J.ix_tup (J.rd S1) J.pe_int J.ix_con) J.pa_nil)))))))), ?_⟩
    refine ⟨_, rfl, a, _, 4, rfl, ha, rfl, _, rfl, iteF ?_⟩
    refine ⟨_, rfl, a, _, _, _, rfl, rfl, SqT.of ha, rfl, .int hr, "int", rfl, .int hr, by decide, _, rfl, iteP (hourV_ok hho) ?_⟩
    refine ⟨_, rfl, _, rfl, a, _, _, _, rfl, rfl, SqT.of ha, rfl, _, rfl, a, _, _, _, rfl, rfl, SqT.of ha, rfl, p, ps, y, z, rfl, hp, hP, hy, hz, hne, fun H1 s1 => ⟨_, rfl, iteT ?_⟩⟩
    exact ⟨_, rfl, a, _, _, _, rfl, rfl, SqT.of (s1 _ _ ha), rfl, wy, rfl, hw, fun H2 s2 => k H2 (s1.trans s2)⟩
theorem sc_is_span : FnScope ["begin", "end"] ["begin", "end"] (defScope s_is_span) := ⟨rfl, rfl, rfl, by decide +kernel, rfl, by decide +kernel, by decide +kernel⟩
theorem ok_span {f : Addr} {fd : FuncData} (D : Df K mg "is_span" s_is_span ["begin", "end"] f fd) (G_is_hour : Gd P w K mg base 2 "is_hour" (spHour K)) : Gd P w K mg base 3 "is_span" spSpan := by
  refine J.def_ok D sc_is_span (fun vs H Q E h => ?_) (fun X H vs Q E hh h => ?_)
  · obtain ⟨a, b, rfl, _⟩ := h
    rfl
  · obtain ⟨a, b, rfl, h1, h2, h3, k⟩ := h
    have S0 : L2.Slot X 0 "begin" := hh.slot 0 rfl (by first | exact .inl rfl | exact .inr rfl) (by decide) (by decide)
    have S1 : L2.Slot X 1 "end" := hh.slot 1 rfl (by first | exact .inl rfl | exact .inr rfl) (by decide) (by decide)
    have C_is_hour := hh.cal G_is_hour rfl (by first | decide | exact Nat.le_refl _) (by decide)
    refine ⟨_, (J.pss_one (J.ps_ret (J.pe_and (J.cal C_is_hour (J.pa_c (J.rd S0) J.pa_nil)) (J.pe_and (J.cal C_is_hour (J.pa_c (J.rd S1) J.pa_nil)) (J.pe_one (J.pe_cmpR J.op_le (J.rd S0) (J.rd S1) (L2.nomark _))))))), ?_⟩
    refine ⟨_, rfl, .int a, "int", rfl, .int a, by decide, _, rfl, iteP (hourV_ok h1) ?_⟩
    refine ⟨_, rfl, .int b, "int", rfl, .int b, by decide, _, rfl, iteP (hourV_ok h2) ?_⟩
    refine ⟨_, rfl, _, rfl, _, _, rfl, rfl, ?_⟩
    show Q (.bl (decide (a ≤ b))) H
    rw [decide_eq_true h3]
    exact k
theorem sc_is_short_saying : FnScope ["persons", "kind", "person", "behind"] ["persons", "kind", "person", "behind"] (defScope s_is_short_saying) := ⟨rfl, rfl, rfl, by decide +kernel, rfl, by decide +kernel, by decide +kernel⟩
theorem ok_short {f : Addr} {fd : FuncData} (D : Df K mg "is_short_saying" s_is_short_saying ["persons", "kind", "person", "behind"] f fd) (G_are_unlike_persons : Gd P w K mg base 3 "are_unlike_persons" spUnlike)
    (G_is_person : Gd P w K mg base 2 "is_person" spPerson) (G_is_hour : Gd P w K mg base 2 "is_hour" (spHour K)) : Gd P w K mg base 4 "is_short_saying" spShort := by
  refine J.def_ok D sc_is_short_saying (fun vs H Q E h => ?_) (fun X H vs Q E hh h => ?_)
  · obtain ⟨p, ps, kd, y, b, rfl, _⟩ := h
    rfl
  · obtain ⟨p, ps, kd, y, b, rfl, hp, hP, hy, hk, k⟩ := h
    have S0 : L2.Slot X 0 "persons" := hh.slot 0 rfl (by first | exact .inl rfl | exact .inr rfl) (by decide) (by decide)
    have S1 : L2.Slot X 1 "kind" := hh.slot 1 rfl (by first | exact .inl rfl | exact .inr rfl) (by decide) (by decide)
    have S2 : L2.Slot X 2 "person" := hh.slot 2 rfl (by first | exact .inl rfl | exact .inr rfl) (by decide) (by decide)
    have S3 : L2.Slot X 3 "behind" := hh.slot 3 rfl (by first | exact .inl rfl | exact .inr rfl) (by decide) (by decide)
    have C_are_unlike_persons := hh.cal G_are_unlike_persons rfl (by first | decide | exact Nat.le_refl _) (by decide)
    have C_is_hour := hh.cal G_is_hour rfl (by first | decide | exact Nat.le_refl _) (by decide)
    have C_is_person := hh.cal G_is_person rfl (by first | decide | exact Nat.le_refl _) (by decide)
    refine ⟨_, (J.pss_cons (J.ps_if (J.pt_cmpR J.op_eq (J.rd S1) J.pe_str (L2.nomark _))
 (J.pss_one (J.ps_ret (J.cal C_are_unlike_persons (J.pa_c (J.rd S0) (J.pa_c (J.rd S2) (J.pa_c (J.rd S3) J.pa_nil))))))
 J.pss_nil)
 (J.pss_cons (J.ps_if (J.pt_not (J.pt_call (J.cal C_is_person (J.pa_c (J.rd S0) (J.pa_c (J.rd S2) J.pa_nil)))))
 (J.pss_one (J.ps_ret J.pe_bl))
 J.pss_nil)
 (J.pss_cons (J.ps_if (J.pt_cmpR J.op_eq (J.rd S1) J.pe_str (L2.nomark _))
 (J.pss_one (J.ps_ret (J.pe_or (J.pe_cmpR J.op_isN (J.rd S3) J.pe_non (L2.nomark _)) (J.pe_one (J.cal C_is_hour (J.pa_c (J.rd S3) J.pa_nil))))))
 J.pss_nil)
 (J.pss_one (J.ps_ret (J.pe_and (J.pe_cmpR J.op_eq (J.rd S1) J.pe_str (L2.nomark _)) (J.pe_one (J.cal C_is_hour (J.pa_c (J.rd S3) J.pa_nil))))))))), ?_⟩
    refine ⟨_, rfl, rfl, _, rfl, ?_⟩
    rcases hk with ⟨rfl, z, rfl, hz, hne⟩ | ⟨rfl, hb⟩ | ⟨rfl, h, rfl, hho⟩
    · refine iteP (decide_eq_true rfl) ?_
      exact ⟨_, rfl, _, rfl, _, rfl, p, ps, y, z, rfl, hp, hP, hy, hz, hne, k⟩
    · refine iteN (by decide +kernel) ?_
      refine ⟨_, rfl, _, rfl, p, ps, y, rfl, hp, hP, hy, fun H1 s1 => ⟨_, rfl, iteF ?_⟩⟩
      refine ⟨_, rfl, rfl, _, rfl, iteP (decide_eq_true rfl) ?_⟩
      rcases hb with rfl | ⟨h, rfl, hho⟩
      · exact ⟨_, rfl, rfl, _, rfl, iteP (decide_eq_true rfl) (k H1 s1)⟩
      · refine ⟨_, rfl, rfl, _, rfl, iteN (by rw [decide_eq_true_iff]; intro e; cases e) ?_⟩
        refine ⟨_, rfl, .int h, "int", rfl, .int h, by decide, ?_⟩
        rw [hourV_ok hho]
        exact k H1 s1
    · refine iteN (by decide +kernel) ?_
      refine ⟨_, rfl, _, rfl, p, ps, y, rfl, hp, hP, hy, fun H1 s1 => ⟨_, rfl, iteF ?_⟩⟩
      refine ⟨_, rfl, rfl, _, rfl, iteN (by decide +kernel) ?_⟩
      refine ⟨_, rfl, rfl, _, rfl, iteP (decide_eq_true rfl) ?_⟩
      refine ⟨_, rfl, .int h, "int", rfl, .int h, by decide, ?_⟩
      rw [hourV_ok hho]
      exact k H1 s1
theorem sc_is_saying : FnScope ["persons", "thing"] ["persons", "thing"] (defScope s_is_saying) := ⟨rfl, rfl, rfl, by decide +kernel, rfl, by decide +kernel, by decide +kernel⟩
theorem ok_saying {f : Addr} {fd : FuncData} (D : Df K mg "is_saying" s_is_saying ["persons", "thing"] f fd) (T : Txt K mg kw C) (G_is_person : Gd P w K mg base 2 "is_person" spPerson) (G_is_span : Gd P w K mg base 3 "is_span" spSpan)
    (G_is_short_saying : Gd P w K mg base 4 "is_short_saying" spShort) : Gd P w K mg base 5 "is_saying" spSaying := by
  refine J.def_ok D sc_is_saying (fun vs H Q E h => ?_) (fun X H vs Q E hh h => ?_)
  · obtain ⟨p, ps, v, rfl, _⟩ := h
    rfl
  · obtain ⟨p, ps, v, rfl, hp, hP, ⟨a, rfl, hk⟩, k⟩ := h
    have S0 : L2.Slot X 0 "persons" := hh.slot 0 rfl (by first | exact .inl rfl | exact .inr rfl) (by decide) (by decide)
    have S1 : L2.Slot X 1 "thing" := hh.slot 1 rfl (by first | exact .inl rfl | exact .inr rfl) (by decide) (by decide)
    have B_isinstance : Bt X "isinstance" := hh.bt T.b_isinstance rfl (by decide) (by decide)
    have B_len : Bt X "len" := hh.bt T.b_len rfl (by decide) (by decide)
    have B_str : Bt X "str" := hh.bt T.b_str rfl (by decide) (by decide)
    have B_tuple : Bt X "tuple" := hh.bt T.b_tuple rfl (by decide) (by decide)
    have C_is_person := hh.cal G_is_person rfl (by first | decide | exact Nat.le_refl _) (by decide)
    have C_is_short_saying := hh.cal G_is_short_saying rfl (by first | decide | exact Nat.le_refl _) (by decide)
    have C_is_span := hh.cal G_is_span rfl (by first | decide | exact Nat.le_refl _) (by decide)
    refine ⟨_, (J.pss_cons (J.ps_if (J.pw_pt (J.pw_or (J.pt_not (J.pt_call (J.blt B_isinstance J.call_isi L2.bb_isinstance (J.pa_c (J.rd S1) (J.pa_c (J.ty B_tuple L2.bb_tuple) J.pa_nil))))) (J.pw_or (J.pt_cmpR J.op_eq (J.blt B_len J.call_len_seq L2.bb_len (J.pa_c (J.rd S1) J.pa_nil)) J.pe_int (L2.nomark _)) (J.pw_or1 (J.pt_not (J.pt_call (J.blt B_isinstance J.call_isi L2.bb_isinstance (J.pa_c (J.pe_ix J.ix_tup (J.rd S1) J.pe_int J.ix_con) (J.pa_c (J.ty B_str L2.bb_str) J.pa_nil)))))))))
 (J.pss_one (J.ps_ret J.pe_bl))
 J.pss_nil)
 (J.pss_cons (J.ps_if (J.pt_cmpR J.op_eq (J.blt B_len J.call_len_seq L2.bb_len (J.pa_c (J.rd S1) J.pa_nil)) J.pe_int (L2.nomark _))
 (J.pss_one (J.ps_ret (J.pe_and (J.pe_cmpR J.op_eq (J.pe_ix J.ix_tup (J.rd S1) J.pe_int J.ix_con) J.pe_str (L2.nomark _)) (J.pe_and (J.cal C_is_person (J.pa_c (J.rd S0) (J.pa_c (J.pe_ix J.ix_tup (J.rd S1) J.pe_int J.ix_con) J.pa_nil))) (J.pe_one (J.cal C_is_span (J.pa_c (J.pe_ix J.ix_tup (J.rd S1) J.pe_int J.ix_con) (J.pa_c (J.pe_ix J.ix_tup (J.rd S1) J.pe_int J.ix_con) J.pa_nil))))))))
 J.pss_nil)
 (J.pss_one (J.ps_ret (J.pe_and (J.pe_cmpR J.op_eq (J.blt B_len J.call_len_seq L2.bb_len (J.pa_c (J.rd S1) J.pa_nil)) J.pe_int (L2.nomark _)) (J.pe_one (J.cal C_is_short_saying (J.pa_c (J.rd S0) (J.pa_c (J.pe_ix J.ix_tup (J.rd S1) J.pe_int J.ix_con) (J.pa_c (J.pe_ix J.ix_tup (J.rd S1) J.pe_int J.ix_con) (J.pa_c (J.pe_ix J.ix_tup (J.rd S1) J.pe_int J.ix_con) J.pa_nil))))))))))), ?_⟩
    rcases hk with ⟨y, h, ha, hy, hho⟩ | ⟨y, b, ha, hy, hb⟩ | ⟨y, h, h2, ha, hy, hho, hho2, hle⟩ | ⟨y, z, ha, hy, hz, hne⟩
    · refine ⟨_, rfl, _, _, _, _, rfl, .tup ha, kit_isa (T := "tuple") (by decide) (by decide), _, rfl, iteN (by decide) ?_⟩
      refine ⟨_, rfl, a, _, rfl, .inr (SqT.of ha), rfl, _, rfl, iteN (len_ne (n := 3) rfl (by decide)) ?_⟩
      refine ⟨_, rfl, a, _, _, _, rfl, rfl, SqT.of ha, rfl, _, _, _, _, rfl, .str _, kit_isa (T := "str") (by decide) (by decide), _, rfl, iteN (by decide) ?_⟩
      refine ⟨_, rfl, a, _, rfl, .inr (SqT.of ha), rfl, _, rfl, iteN (len_ne (n := 3) rfl (by decide)) ?_⟩
      refine ⟨_, rfl, a, _, rfl, .inr (SqT.of ha), rfl, _, rfl, iteP (len_is (n := 3) rfl (by decide)) ?_⟩
      exact ⟨_, rfl, _, rfl, a, _, _, _, rfl, rfl, SqT.of ha, rfl, _, rfl, a, _, _, _, rfl, rfl, SqT.of ha, rfl, _, rfl, a, _, _, _, rfl, rfl, SqT.of ha, rfl, p, ps, _, y, _, rfl, hp, hP, hy, .inr (.inr ⟨rfl, h, rfl, hho⟩), k⟩
    · refine ⟨_, rfl, _, _, _, _, rfl, .tup ha, kit_isa (T := "tuple") (by decide) (by decide), _, rfl, iteN (by decide) ?_⟩
      refine ⟨_, rfl, a, _, rfl, .inr (SqT.of ha), rfl, _, rfl, iteN (len_ne (n := 3) rfl (by decide)) ?_⟩
      refine ⟨_, rfl, a, _, _, _, rfl, rfl, SqT.of ha, rfl, _, _, _, _, rfl, .str _, kit_isa (T := "str") (by decide) (by decide), _, rfl, iteN (by decide) ?_⟩
      refine ⟨_, rfl, a, _, rfl, .inr (SqT.of ha), rfl, _, rfl, iteN (len_ne (n := 3) rfl (by decide)) ?_⟩
      refine ⟨_, rfl, a, _, rfl, .inr (SqT.of ha), rfl, _, rfl, iteP (len_is (n := 3) rfl (by decide)) ?_⟩
      exact ⟨_, rfl, _, rfl, a, _, _, _, rfl, rfl, SqT.of ha, rfl, _, rfl, a, _, _, _, rfl, rfl, SqT.of ha, rfl, _, rfl, a, _, _, _, rfl, rfl, SqT.of ha, rfl, p, ps, _, y, _, rfl, hp, hP, hy, .inr (.inl ⟨rfl, hb⟩), k⟩
    · refine ⟨_, rfl, _, _, _, _, rfl, .tup ha, kit_isa (T := "tuple") (by decide) (by decide), _, rfl, iteN (by decide) ?_⟩
      refine ⟨_, rfl, a, _, rfl, .inr (SqT.of ha), rfl, _, rfl, iteN (len_ne (n := 4) rfl (by decide)) ?_⟩
      refine ⟨_, rfl, a, _, _, _, rfl, rfl, SqT.of ha, rfl, _, _, _, _, rfl, .str _, kit_isa (T := "str") (by decide) (by decide), _, rfl, iteN (by decide) ?_⟩
      refine ⟨_, rfl, a, _, rfl, .inr (SqT.of ha), rfl, _, rfl, iteP (len_is (n := 4) rfl (by decide)) ?_⟩
      refine ⟨_, rfl, a, _, _, _, rfl, rfl, SqT.of ha, rfl, rfl, _, rfl, iteP (by decide +kernel) ?_⟩
      refine ⟨_, rfl, _, rfl, a, _, _, _, rfl, rfl, SqT.of ha, rfl, p, ps, y, rfl, hp, hP, hy, fun H1 s1 => ⟨_, rfl, iteT ?_⟩⟩
      exact ⟨_, rfl, a, _, _, _, rfl, rfl, SqT.of (s1 _ _ ha), rfl, _, rfl, a, _, _, _, rfl, rfl, SqT.of (s1 _ _ ha), rfl, h, h2, rfl, hho, hho2, hle, k H1 s1⟩
    · refine ⟨_, rfl, _, _, _, _, rfl, .tup ha, kit_isa (T := "tuple") (by decide) (by decide), _, rfl, iteN (by decide) ?_⟩
      refine ⟨_, rfl, a, _, rfl, .inr (SqT.of ha), rfl, _, rfl, iteN (len_ne (n := 3) rfl (by decide)) ?_⟩
      refine ⟨_, rfl, a, _, _, _, rfl, rfl, SqT.of ha, rfl, _, _, _, _, rfl, .str _, kit_isa (T := "str") (by decide) (by decide), _, rfl, iteN (by decide) ?_⟩
      refine ⟨_, rfl, a, _, rfl, .inr (SqT.of ha), rfl, _, rfl, iteN (len_ne (n := 3) rfl (by decide)) ?_⟩
      refine ⟨_, rfl, a, _, rfl, .inr (SqT.of ha), rfl, _, rfl, iteP (len_is (n := 3) rfl (by decide)) ?_⟩
      exact ⟨_, rfl, _, rfl, a, _, _, _, rfl, rfl, SqT.of ha, rfl, _, rfl, a, _, _, _, rfl, rfl, SqT.of ha, rfl, _, rfl, a, _, _, _, rfl, rfl, SqT.of ha, rfl, p, ps, _, y, _, rfl, hp, hP, hy, .inl ⟨rfl, z, rfl, hz, hne⟩, k⟩
theorem sc_are_persons : FnScope ["thing"] ["thing"] (defScope s_are_persons) := ⟨rfl, rfl, rfl, by decide +kernel, rfl, by decide +kernel, by decide +kernel⟩
theorem ok_persons {f : Addr} {fd : FuncData} (D : Df K mg "are_persons" s_are_persons ["thing"] f fd) (T : Txt K mg kw C) (G_is_list_up_to : Gd P w K mg base 1 "is_list_up_to" spListUp) (G_is_name : Gd P w K mg base 1 "is_name" (spName K)) : Gd P w K mg base 2 "are_persons" spPersons := by
  refine J.def_ok D sc_are_persons (fun vs H Q E h => ?_) (fun X H vs Q E hh h => ?_)
  · obtain ⟨p, ps, rfl, _⟩ := h
    rfl
  · obtain ⟨p, ps, rfl, hp, hP, k⟩ := h
    have S0 : L2.Slot X 0 "thing" := hh.slot 0 rfl (by first | exact .inl rfl | exact .inr rfl) (by decide) (by decide)
    have B_all : Bt X "all" := hh.bt T.b_all rfl (by decide) (by decide)
    have B_len : Bt X "len" := hh.bt T.b_len rfl (by decide) (by decide)
    have B_set : Bt X "set" := hh.bt T.b_set rfl (by decide) (by decide)
    have g_MOST_PERSONS : ∀ {p : Pos}, J.JE X (.Name "MOST_PERSONS" p) (L2.tC (.int 24)) := J.glob hh T.g_MOST_PERSONS rfl (by decide)
    have C_is_list_up_to := hh.cal G_is_list_up_to rfl (by first | decide | exact Nat.le_refl _) (by decide)
    have CI_is_name := hh.cali G_is_name (by first | decide | exact Nat.le_refl _) (by decide)
    have hl : (ps.map V.str).length = ps.length := List.length_map ..
    have h24 := hP.hi
    have h1 := hP.lo
    have hz : (ps.map V.str).length ≤ sizeLine := by
      have : sizeLine = 16777216 := sizeLine_eq
      omega
    refine ⟨_, (J.pss_cons (J.ps_if (J.pw_pt (J.pw_or (J.pt_not (J.pt_call (J.cal C_is_list_up_to (J.pa_c (J.rd S0) (J.pa_c g_MOST_PERSONS J.pa_nil))))) (J.pw_or1 (J.pt_cmpR J.op_eq (J.blt B_len J.call_len_seq L2.bb_len (J.pa_c (J.rd S0) J.pa_nil)) J.pe_int (L2.nomark _)))))
 (J.pss_one (J.ps_ret J.pe_bl))
 J.pss_nil)
 (J.pss_one (J.ps_ret (J.pe_and (J.blt B_all (J.call_allB hh.calm) L2.bb_all (J.pa_c (J.pe_lcB (sc := L2.defScope s_are_persons) (N := ["thing"]) (is := []) (ns := []) hh.calm (J.pi_list (J.rd S0)) ⟨rfl, by decide +kernel, by decide +kernel, by decide +kernel, rfl, rfl, by decide +kernel, by decide +kernel⟩ (fun _ _ _ _ _ => (J.cal (CI_is_name.lc rfl) (J.pa_c (J.lc0 rfl (by decide) (by decide)) J.pa_nil))) hh.hsc hh.hN) J.pa_nil)) (J.pe_one (J.pe_cmpR J.op_eq (J.blt B_len J.call_len_setM L2.bb_len (J.pa_c (J.bltT B_set (J.call_setT hh.calm) L2.bb_set (J.pa_c (J.rd S0) J.pa_nil)) J.pa_nil)) (J.blt B_len J.call_len_seq L2.bb_len (J.pa_c (J.rd S0) J.pa_nil)) (L2.nomark _))))))), ?_⟩
    refine ⟨_, rfl, p, _, 24, rfl, hp, (by omega), _, rfl, iteF ?_⟩
    refine ⟨_, rfl, p, _, rfl, .inl (SqL.of hp), rfl, _, rfl, iteN ?_ ?_⟩
    · rw [decide_eq_true_iff]
      intro e
      injection e with e
      omega
    · refine ⟨_, rfl, p, rfl, ⟨_, SqL.of hp⟩, lcg_list (fun v => .bl (nameV v)) (SqL.of hp) hz (fun v H2 Q' hv sm q' => ?_) (fun D' H' hD sm hl' => ?_)⟩
      · obtain ⟨x, hx, rfl⟩ := List.mem_map.mp hv
        exact ⟨_, rfl, .str x, "str", rfl, .str x, by decide, name_only (hP.nm x hx), fun H3 s3 => q' H3 s3⟩
      · refine ⟨D', ps.map nameS, rfl, SqL.of (hl'.trans (by rw [List.map_map, List.map_map]; rfl)), _, rfl, iteP (all_true hP.nm) ?_⟩
        refine ⟨_, rfl, p, ps, rfl, SqL.of (sm _ _ hp), hP.nd, by omega, fun q hq => ?_⟩
        refine ⟨q, ps.length, rfl, upd_same, _, rfl, p, _, rfl, .inl (SqL.of ((Same.upd hq) _ _ (sm _ _ hp))), rfl, ?_⟩
        rw [hl, decide_eq_true rfl]
        exact k _ (sm.trans (Same.upd hq))
theorem sc_are_sights : FnScope ["persons", "thing"] ["persons", "thing"] (defScope s_are_sights) := ⟨rfl, rfl, rfl, by decide +kernel, rfl, by decide +kernel, by decide +kernel⟩
theorem ok_all_sights {f : Addr} {fd : FuncData} (D : Df K mg "are_sights" s_are_sights ["persons", "thing"] f fd) (T : Txt K mg kw C) (G_is_list_up_to : Gd P w K mg base 1 "is_list_up_to" spListUp) (G_is_sight : Gd P w K mg base 3 "is_sight" spSight) : Gd P w K mg base 4 "are_sights" (spMany SightIn 24) := by
  refine J.def_ok D sc_are_sights (fun vs H Q E h => ?_) (fun X H vs Q E hh h => ?_)
  · obtain ⟨p, q, ps, xs, rfl, _⟩ := h
    rfl
  · obtain ⟨p, q, ps, xs, rfl, hp, hP, hq, hn, hg, k⟩ := h
    have S0 : L2.Slot X 0 "persons" := hh.slot 0 rfl (by first | exact .inl rfl | exact .inr rfl) (by decide) (by decide)
    have S1 : L2.Slot X 1 "thing" := hh.slot 1 rfl (by first | exact .inl rfl | exact .inr rfl) (by decide) (by decide)
    have B_all : Bt X "all" := hh.bt T.b_all rfl (by decide) (by decide)
    have g_MOST_SIGHTS : ∀ {p : Pos}, J.JE X (.Name "MOST_SIGHTS" p) (L2.tC (.int 24)) := J.glob hh T.g_MOST_SIGHTS rfl (by decide)
    have C_is_list_up_to := hh.cal G_is_list_up_to rfl (by first | decide | exact Nat.le_refl _) (by decide)
    have CI_is_sight := hh.cali G_is_sight (by first | decide | exact Nat.le_refl _) (by decide)
    have hz : xs.length ≤ sizeLine := by
      have : sizeLine = 16777216 := sizeLine_eq
      omega
    refine ⟨_, (J.pss_one (J.ps_ret (J.pe_and (J.cal C_is_list_up_to (J.pa_c (J.rd S1) (J.pa_c g_MOST_SIGHTS J.pa_nil))) (J.pe_one (J.blt B_all (J.call_allB hh.calm) L2.bb_all (J.pa_c (J.pe_lcB (sc := L2.defScope s_are_sights) (N := ["persons", "thing"]) (is := [0]) (ns := ["persons"]) hh.calm (J.pi_list (J.rd S1)) ⟨rfl, by decide +kernel, by decide +kernel, by decide +kernel, rfl, rfl, by decide +kernel, by decide +kernel⟩ (fun _ _ _ _ _ => (J.cal (CI_is_sight.lc rfl) (J.pa_c (J.lcc (i := 0) rfl rfl (by decide) (by decide)) (J.pa_c (J.lc0 rfl (by decide) (by decide)) J.pa_nil)))) hh.hsc hh.hN) J.pa_nil)))))), ?_⟩
    refine ⟨_, rfl, q, _, 24, rfl, hq, (by omega), _, rfl, iteT ?_⟩
    refine ⟨_, rfl, q, rfl, ⟨_, SqL.of hq⟩, lcg_list (fun _ => .bl true) (SqL.of hq) hz (fun v H2 Q' hv sm q' => ?_) (fun D' H' hD sm hl' => ?_)⟩
    · exact ⟨_, rfl, _, rfl, p, ps, v, rfl, sm _ _ hp, hP, (hg v hv).mono (Tk.of sm), fun H3 s3 => q' H3 s3⟩
    · refine ⟨D', xs.map fun _ => true, rfl, SqL.of (hl'.trans (by rw [List.map_map]; rfl)), ?_⟩
      rw [all_true fun _ _ => rfl]
      exact k H' sm
theorem sc_are_talks : FnScope ["persons", "thing"] ["persons", "thing"] (defScope s_are_talks) := ⟨rfl, rfl, rfl, by decide +kernel, rfl, by decide +kernel, by decide +kernel⟩
theorem ok_all_talks {f : Addr} {fd : FuncData} (D : Df K mg "are_talks" s_are_talks ["persons", "thing"] f fd) (T : Txt K mg kw C) (G_is_list_up_to : Gd P w K mg base 1 "is_list_up_to" spListUp) (G_is_talk : Gd P w K mg base 4 "is_talk" spTalk) : Gd P w K mg base 5 "are_talks" (spMany TalkIn 120) := by
  refine J.def_ok D sc_are_talks (fun vs H Q E h => ?_) (fun X H vs Q E hh h => ?_)
  · obtain ⟨p, q, ps, xs, rfl, _⟩ := h
    rfl
  · obtain ⟨p, q, ps, xs, rfl, hp, hP, hq, hn, hg, k⟩ := h
    have S0 : L2.Slot X 0 "persons" := hh.slot 0 rfl (by first | exact .inl rfl | exact .inr rfl) (by decide) (by decide)
    have S1 : L2.Slot X 1 "thing" := hh.slot 1 rfl (by first | exact .inl rfl | exact .inr rfl) (by decide) (by decide)
    have B_all : Bt X "all" := hh.bt T.b_all rfl (by decide) (by decide)
    have g_MOST_TALKS : ∀ {p : Pos}, J.JE X (.Name "MOST_TALKS" p) (L2.tC (.int 120)) := J.glob hh T.g_MOST_TALKS rfl (by decide)
    have C_is_list_up_to := hh.cal G_is_list_up_to rfl (by first | decide | exact Nat.le_refl _) (by decide)
    have CI_is_talk := hh.cali G_is_talk (by first | decide | exact Nat.le_refl _) (by decide)
    have hz : xs.length ≤ sizeLine := by
      have : sizeLine = 16777216 := sizeLine_eq
      omega
    refine ⟨_, (J.pss_one (J.ps_ret (J.pe_and (J.cal C_is_list_up_to (J.pa_c (J.rd S1) (J.pa_c g_MOST_TALKS J.pa_nil))) (J.pe_one (J.blt B_all (J.call_allB hh.calm) L2.bb_all (J.pa_c (J.pe_lcB (sc := L2.defScope s_are_talks) (N := ["persons", "thing"]) (is := [0]) (ns := ["persons"]) hh.calm (J.pi_list (J.rd S1)) ⟨rfl, by decide +kernel, by decide +kernel, by decide +kernel, rfl, rfl, by decide +kernel, by decide +kernel⟩ (fun _ _ _ _ _ => (J.cal (CI_is_talk.lc rfl) (J.pa_c (J.lcc (i := 0) rfl rfl (by decide) (by decide)) (J.pa_c (J.lc0 rfl (by decide) (by decide)) J.pa_nil)))) hh.hsc hh.hN) J.pa_nil)))))), ?_⟩
    refine ⟨_, rfl, q, _, 120, rfl, hq, (by omega), _, rfl, iteT ?_⟩
    refine ⟨_, rfl, q, rfl, ⟨_, SqL.of hq⟩, lcg_list (fun _ => .bl true) (SqL.of hq) hz (fun v H2 Q' hv sm q' => ?_) (fun D' H' hD sm hl' => ?_)⟩
    · exact ⟨_, rfl, _, rfl, p, ps, v, rfl, sm _ _ hp, hP, (hg v hv).mono (Tk.of sm), fun H3 s3 => q' H3 s3⟩
    · refine ⟨D', xs.map fun _ => true, rfl, SqL.of (hl'.trans (by rw [List.map_map]; rfl)), ?_⟩
      rw [all_true fun _ _ => rfl]
      exact k H' sm
theorem sc_are_sayings : FnScope ["persons", "thing"] ["persons", "thing"] (defScope s_are_sayings) := ⟨rfl, rfl, rfl, by decide +kernel, rfl, by decide +kernel, by decide +kernel⟩
theorem ok_all_sayings {f : Addr} {fd : FuncData} (D : Df K mg "are_sayings" s_are_sayings ["persons", "thing"] f fd) (T : Txt K mg kw C) (G_is_list_up_to : Gd P w K mg base 1 "is_list_up_to" spListUp) (G_is_saying : Gd P w K mg base 5 "is_saying" spSaying) : Gd P w K mg base 6 "are_sayings" (spMany SayIn 60) := by
  refine J.def_ok D sc_are_sayings (fun vs H Q E h => ?_) (fun X H vs Q E hh h => ?_)
  · obtain ⟨p, q, ps, xs, rfl, _⟩ := h
    rfl
  · obtain ⟨p, q, ps, xs, rfl, hp, hP, hq, hn, hg, k⟩ := h
    have S0 : L2.Slot X 0 "persons" := hh.slot 0 rfl (by first | exact .inl rfl | exact .inr rfl) (by decide) (by decide)
    have S1 : L2.Slot X 1 "thing" := hh.slot 1 rfl (by first | exact .inl rfl | exact .inr rfl) (by decide) (by decide)
    have B_all : Bt X "all" := hh.bt T.b_all rfl (by decide) (by decide)
    have g_MOST_SAYINGS : ∀ {p : Pos}, J.JE X (.Name "MOST_SAYINGS" p) (L2.tC (.int 60)) := J.glob hh T.g_MOST_SAYINGS rfl (by decide)
    have C_is_list_up_to := hh.cal G_is_list_up_to rfl (by first | decide | exact Nat.le_refl _) (by decide)
    have CI_is_saying := hh.cali G_is_saying (by first | decide | exact Nat.le_refl _) (by decide)
    have hz : xs.length ≤ sizeLine := by
      have : sizeLine = 16777216 := sizeLine_eq
      omega
    refine ⟨_, (J.pss_one (J.ps_ret (J.pe_and (J.cal C_is_list_up_to (J.pa_c (J.rd S1) (J.pa_c g_MOST_SAYINGS J.pa_nil))) (J.pe_one (J.blt B_all (J.call_allB hh.calm) L2.bb_all (J.pa_c (J.pe_lcB (sc := L2.defScope s_are_sayings) (N := ["persons", "thing"]) (is := [0]) (ns := ["persons"]) hh.calm (J.pi_list (J.rd S1)) ⟨rfl, by decide +kernel, by decide +kernel, by decide +kernel, rfl, rfl, by decide +kernel, by decide +kernel⟩ (fun _ _ _ _ _ => (J.cal (CI_is_saying.lc rfl) (J.pa_c (J.lcc (i := 0) rfl rfl (by decide) (by decide)) (J.pa_c (J.lc0 rfl (by decide) (by decide)) J.pa_nil)))) hh.hsc hh.hN) J.pa_nil)))))), ?_⟩
    refine ⟨_, rfl, q, _, 60, rfl, hq, (by omega), _, rfl, iteT ?_⟩
    refine ⟨_, rfl, q, rfl, ⟨_, SqL.of hq⟩, lcg_list (fun _ => .bl true) (SqL.of hq) hz (fun v H2 Q' hv sm q' => ?_) (fun D' H' hD sm hl' => ?_)⟩
    · exact ⟨_, rfl, _, rfl, p, ps, v, rfl, sm _ _ hp, hP, (hg v hv).mono (Tk.of sm), fun H3 s3 => q' H3 s3⟩
    · refine ⟨D', xs.map fun _ => true, rfl, SqL.of (hl'.trans (by rw [List.map_map]; rfl)), ?_⟩
      rw [all_true fun _ _ => rfl]
      exact k H' sm
theorem sc_m_init : FnScope ["self", "persons", "sights", "talks", "sayings"] ["self", "persons", "sights", "talks", "sayings"] (defScope s_m_init) := ⟨rfl, rfl, rfl, by decide +kernel, rfl, by decide +kernel, by decide +kernel⟩
theorem ok_init {f : Addr} {fd : FuncData} (F : Fun K "__init__" "Book.__init__" s_m_init f fd) (mk : Mk K C f) (bi : Binds K fd ["self", "persons", "sights", "talks", "sayings"] []) (nm : mg "Book" = some (.ref C)) (T : Txt K mg kw C)
    (G_are_persons : Gd P w K mg base 2 "are_persons" spPersons) (G_are_sights : Gd P w K mg base 4 "are_sights" (spMany SightIn 24)) (G_are_talks : Gd P w K mg base 5 "are_talks" (spMany TalkIn 120)) (G_are_sayings : Gd P w K mg base 6 "are_sayings" (spMany SayIn 60)) :
    Kd P w K mg base 7 "Book" C (spInit C) := by
  refine J.init_ok F mk bi nm sc_m_init (fun vs H Q E h => ?_) (fun X H vs Q E hh h => ?_)
  · obtain ⟨x, dx, p, a, b, c, ps, ss, ts, ys, rfl, _⟩ := h
    rfl
  · obtain ⟨x, dx, p, a, b, c, ps, ss, ts, ys, rfl, hx, hp, ha, hb, hc, g, k⟩ := h
    have S0 : L2.Slot X 0 "self" := hh.slot 0 rfl (by first | exact .inl rfl | exact .inr rfl) (by decide) (by decide)
    have S1 : L2.Slot X 1 "persons" := hh.slot 1 rfl (by first | exact .inl rfl | exact .inr rfl) (by decide) (by decide)
    have S2 : L2.Slot X 2 "sights" := hh.slot 2 rfl (by first | exact .inl rfl | exact .inr rfl) (by decide) (by decide)
    have S3 : L2.Slot X 3 "talks" := hh.slot 3 rfl (by first | exact .inl rfl | exact .inr rfl) (by decide) (by decide)
    have S4 : L2.Slot X 4 "sayings" := hh.slot 4 rfl (by first | exact .inl rfl | exact .inr rfl) (by decide) (by decide)
    have B_list : Bt X "list" := hh.bt T.b_list rfl (by decide) (by decide)
    have C_are_persons := hh.cal G_are_persons rfl (by first | decide | exact Nat.le_refl _) (by decide)
    have C_are_sayings := hh.cal G_are_sayings rfl (by first | decide | exact Nat.le_refl _) (by decide)
    have C_are_sights := hh.cal G_are_sights rfl (by first | decide | exact Nat.le_refl _) (by decide)
    have C_are_talks := hh.cal G_are_talks rfl (by first | decide | exact Nat.le_refl _) (by decide)
    obtain ⟨hP, sl, sg, tl, tg, yl, yg⟩ := id g
    obtain rfl := hh.fK
    refine ⟨_, (J.pss_cons (J.ps_if (J.pt_not (J.pt_call (J.cal C_are_persons (J.pa_c (J.rd S1) J.pa_nil))))
 J.pss_never
 J.pss_nil)
 (J.pss_cons (J.ps_if (J.pt_not (J.pt_call (J.cal C_are_sights (J.pa_c (J.rd S1) (J.pa_c (J.rd S2) J.pa_nil)))))
 J.pss_never
 J.pss_nil)
 (J.pss_cons (J.ps_if (J.pt_not (J.pt_call (J.cal C_are_talks (J.pa_c (J.rd S1) (J.pa_c (J.rd S3) J.pa_nil)))))
 J.pss_never
 J.pss_nil)
 (J.pss_cons (J.ps_if (J.pt_not (J.pt_call (J.cal C_are_sayings (J.pa_c (J.rd S1) (J.pa_c (J.rd S4) J.pa_nil)))))
 J.pss_never
 J.pss_nil)
 (J.pss_cons (J.ps_fld (J.rd S0) (J.bltT B_list J.call_list_of L2.bb_list (J.pa_c (J.rd S1) J.pa_nil)))
 (J.pss_cons (J.ps_fld (J.rd S0) (J.bltT B_list J.call_list_of L2.bb_list (J.pa_c (J.rd S2) J.pa_nil)))
 (J.pss_cons (J.ps_fld (J.rd S0) (J.bltT B_list J.call_list_of L2.bb_list (J.pa_c (J.rd S3) J.pa_nil)))
 (J.pss_one (J.ps_fld (J.rd S0) (J.bltT B_list J.call_list_of L2.bb_list (J.pa_c (J.rd S4) J.pa_nil))))))))))), ?_⟩
    refine ⟨_, rfl, p, ps, rfl, hp, hP, fun H1 s1 => ⟨_, rfl, iteF ?_⟩⟩
    refine ⟨_, rfl, _, rfl, p, a, ps, ss, rfl, s1 _ _ hp, hP, s1 _ _ ha, sl, fun v hv => (sg v hv).mono (Tk.of s1), fun H2 s2' => ⟨_, rfl, iteF ?_⟩⟩
    have s2 := s1.trans s2'
    refine ⟨_, rfl, _, rfl, p, b, ps, ts, rfl, s2 _ _ hp, hP, s2 _ _ hb, tl, fun v hv => (tg v hv).mono (Tk.of s2), fun H3 s3' => ⟨_, rfl, iteF ?_⟩⟩
    have s3 := s2.trans s3'
    refine ⟨_, rfl, _, rfl, p, c, ps, ys, rfl, s3 _ _ hp, hP, s3 _ _ hc, yl, fun v hv => (yg v hv).mono (Tk.of s3), fun H4 s4' => ⟨_, rfl, iteF ?_⟩⟩
    have s4 := s3.trans s4'
    clear s1 s2' s2 s3' s3 s4'
    refine ⟨_, rfl, p, _, rfl, .inl (SqL.of (s4 _ _ hp)), fun p' np => ⟨_, rfl, x, C, dx, [], rfl, (by rw [upd_ne (ne_of_none (s4 _ _ hx) np)]; exact s4 _ _ hx), T.cl, T.nP, (by show 0 < 1000; decide), ?_⟩⟩
    have xp : x ≠ p' := ne_of_none (s4 _ _ hx) np
    have k1 : ∀ d o, H4 d = some o → d ≠ x → upd (upd H4 p' (.lst (ps.map V.str))) x (.ins C dx (putF "kept_persons" (.ref p') [])) d = some o := fun d o e n => by
      rw [upd_ne n, upd_ne (ne_of_none e np)]
      exact e
    have ax : a ≠ x := ne_of (s4 _ _ ha) (s4 _ _ hx) (by intro z; cases z)
    have bx : b ≠ x := ne_of (s4 _ _ hb) (s4 _ _ hx) (by intro z; cases z)
    have cx : c ≠ x := ne_of (s4 _ _ hc) (s4 _ _ hx) (by intro z; cases z)
    refine ⟨_, rfl, a, _, rfl, .inl (SqL.of (k1 _ _ (s4 _ _ ha) ax)), fun s' ns => ⟨_, rfl, x, C, dx, _, rfl, (by rw [upd_ne (ne_of_none upd_same ns)]; exact upd_same), T.cl, T.nS, (by show 1 < 1000; decide), ?_⟩⟩
    have xs : x ≠ s' := ne_of_none upd_same ns
    have ps' : p' ≠ s' := ne_of_none (by rw [upd_ne xp.symm]; exact upd_same) ns
    have ns4 : H4 s' = none := by
      rw [upd_ne xs.symm, upd_ne ps'.symm] at ns
      exact ns
    have k2 : ∀ d o, H4 d = some o → d ≠ x → upd (upd (upd (upd H4 p' (.lst (ps.map V.str))) x (.ins C dx (putF "kept_persons" (.ref p') []))) s' (.lst ss)) x (.ins C dx (putF "kept_sights" (.ref s') (putF "kept_persons" (.ref p') []))) d = some o := fun d o e n => by
      rw [upd_ne n, upd_ne (ne_of_none e ns4)]
      exact k1 d o e n
    refine ⟨_, rfl, b, _, rfl, .inl (SqL.of (k2 _ _ (s4 _ _ hb) bx)), fun t' nt => ⟨_, rfl, x, C, dx, _, rfl, (by rw [upd_ne (ne_of_none upd_same nt)]; exact upd_same), T.cl, T.nT, (by show 2 < 1000; decide), ?_⟩⟩
    have xt : x ≠ t' := ne_of_none upd_same nt
    have st' : s' ≠ t' := ne_of_none (by rw [upd_ne xs.symm]; exact upd_same) nt
    have pt' : p' ≠ t' := ne_of_none (by rw [upd_ne xp.symm, upd_ne ps', upd_ne xp.symm]; exact upd_same) nt
    have nt4 : H4 t' = none := by
      rw [upd_ne xt.symm, upd_ne st'.symm, upd_ne xt.symm, upd_ne pt'.symm] at nt
      exact nt
    refine ⟨_, rfl, c, _, rfl, .inl (SqL.of (by rw [upd_ne cx, upd_ne (ne_of_none (s4 _ _ hc) nt4)]; exact k2 _ _ (s4 _ _ hc) cx)), fun y' ny => ⟨_, rfl, x, C, dx, _, rfl, (by rw [upd_ne (ne_of_none upd_same ny)]; exact upd_same), T.cl, T.nY, (by show 3 < 1000; decide), ?_⟩⟩
    have xy : x ≠ y' := ne_of_none upd_same ny
    have ty' : t' ≠ y' := ne_of_none (by rw [upd_ne xt.symm]; exact upd_same) ny
    have sy' : s' ≠ y' := ne_of_none (by rw [upd_ne xs.symm, upd_ne st', upd_ne xs.symm]; exact upd_same) ny
    have py' : p' ≠ y' := ne_of_none (by rw [upd_ne xp.symm, upd_ne pt', upd_ne xp.symm, upd_ne ps', upd_ne xp.symm]; exact upd_same) ny
    have ny4 : H4 y' = none := by
      rw [upd_ne xy.symm, upd_ne ty'.symm, upd_ne xy.symm, upd_ne sy'.symm, upd_ne xy.symm, upd_ne py'.symm] at ny
      exact ny
    refine k p' s' t' y' _ (s4.free np) (s4.free ns4) (s4.free nt4) (s4.free ny4) ⟨⟨dx, upd_same⟩, ?_, ?_, ?_, ?_⟩ fun d o e n => ?_
    · rw [upd_ne xp.symm, upd_ne py', upd_ne xp.symm, upd_ne pt', upd_ne xp.symm, upd_ne ps', upd_ne xp.symm]
      exact upd_same
    · rw [upd_ne xs.symm, upd_ne sy', upd_ne xs.symm, upd_ne st', upd_ne xs.symm]
      exact upd_same
    · rw [upd_ne xt.symm, upd_ne ty', upd_ne xt.symm]
      exact upd_same
    · rw [upd_ne xy.symm]
      exact upd_same
    · rw [upd_ne n, upd_ne (ne_of_none (s4 _ _ e) ny4), upd_ne n, upd_ne (ne_of_none (s4 _ _ e) nt4)]
      exact k2 d o (s4 _ _ e) n
end
end K15

namespace K15
open PySem L2
/-! ### alike: the same all the way down -/
def ScA (x y : V) : Prop := (∃ z, x = .str z ∧ y = .str z) ∨ (x = .non ∧ y = .non) ∨ ∃ i, x = .int i ∧ y = .int i
def seqAt (q : Bool) (H : Hp) (a : Addr) (xs : List V) : Prop := match q with
  | true => H a = some (.lst xs)
  | false => H a = some (.tup xs)
theorem seqAt.mono {q : Bool} {H H' : Hp} {a : Addr} {xs : List V} (s : Same H H') (h : seqAt q H a xs) : seqAt q H' a xs := by
  cases q with
  | true => exact s _ _ h
  | false => exact s _ _ h
theorem seqAt.sq {q : Bool} {K : PySem.W.Frag} {H : Hp} {a : Addr} {xs : List V} (h : seqAt q H a xs) : sqAt q K H a xs := by
  cases q with
  | true => exact SqL.of h
  | false => exact SqT.of h
theorem seqAt.ln {q : Bool} {K : PySem.W.Frag} {H : Hp} {a : Addr} {xs : List V} (h : seqAt q H a xs) : SqL K H a xs ∨ SqT K H a xs := by
  cases q with
  | true => exact .inl (SqL.of h)
  | false => exact .inr (SqT.of h)
def qTy (q : Bool) : String := match q with
  | true => "list"
  | false => "tuple"
theorem qTy_in (q : Bool) : qTy q ∈ tys := by cases q <;> decide
theorem seqAt.ty {q : Bool} {K : PySem.W.Frag} {H : Hp} {a : Addr} {xs : List V} (h : seqAt q H a xs) : TyOf K H (.ref a) (.type (qTy q)) := by
  cases q with
  | true => exact .lst h
  | false => exact .tup h
def Alk : Nat → Hp → V → V → Prop
  | 0, _, x, y => ScA x y
  | d + 1, H, x, y => ScA x y ∨ ∃ (q : Bool) (a b : Addr) (xs ys : List V), x = .ref a ∧ y = .ref b ∧ seqAt q H a xs ∧ seqAt q H b ys ∧ xs.length = ys.length ∧ ∀ (i : Nat) u v, xs[i]? = some u → ys[i]? = some v → Alk d H u v
theorem Alk.mono {H H' : Hp} (s : Same H H') : ∀ {d : Nat} {x y : V}, Alk d H x y → Alk d H' x y
  | 0, _, _, h => h
  | d + 1, x, y, h => by
    rcases h with h | ⟨q, a, b, xs, ys, e1, e2, h1, h2, hl, h⟩
    · exact .inl h
    · exact .inr ⟨q, a, b, xs, ys, e1, e2, h1.mono s, h2.mono s, hl, fun i u v hu hv => Alk.mono s (h i u v hu hv)⟩
def spAl : Nat → Sp
  | 0 => fun _ _ _ _ => False
  | d + 1 => fun vs H Q _ => ∃ x y, vs = [x, y] ∧ Alk d H x y ∧ ∀ H', Same H H' → Q (.bl true) H'
section
variable {P : Program} {w : World} {K : PySem.W.Frag} {mg : Str → Option Value} {base : Heap} {kw C : Addr}
theorem sc_l_alike : FnScope ["_law_found", "_law_due", "_law_one", "_law_two"] ["_law_found", "_law_due"] (defScope s_l_alike) := ⟨rfl, rfl, rfl, by decide +kernel, rfl, by decide +kernel, by decide +kernel⟩
theorem alike_step {f : Addr} {fd : FuncData} {d : Nat} (D : Df K mg "_law_alike" s_l_alike ["_law_found", "_law_due"] f fd) (T : Txt K mg kw C) (G__law_alike : Gd P w K mg base d "_law_alike" (spAl d)) : Gd P w K mg base (d + 1) "_law_alike" (spAl (d + 1)) := by
  refine J.def_ok D sc_l_alike (fun vs H Q E h => ?_) (fun X H vs Q E hh h => ?_)
  · obtain ⟨x, y, rfl, _⟩ := h
    rfl
  · obtain ⟨x, y, rfl, ha, k⟩ := h
    have S0 : L2.Slot X 0 "_law_found" := hh.slot 0 rfl (by first | exact .inl rfl | exact .inr rfl) (by decide) (by decide)
    have S1 : L2.Slot X 1 "_law_due" := hh.slot 1 rfl (by first | exact .inl rfl | exact .inr rfl) (by decide) (by decide)
    have S2 : L2.Slot X 2 "_law_one" := hh.slot 2 rfl (by first | exact .inl rfl | exact .inr rfl) (by decide) (by decide)
    have S3 : L2.Slot X 3 "_law_two" := hh.slot 3 rfl (by first | exact .inl rfl | exact .inr rfl) (by decide) (by decide)
    have B_bool : Bt X "bool" := hh.bt T.b_bool rfl (by decide) (by decide)
    have B_int : Bt X "int" := hh.bt T.b_int rfl (by decide) (by decide)
    have B_isinstance : Bt X "isinstance" := hh.bt T.b_isinstance rfl (by decide) (by decide)
    have B_len : Bt X "len" := hh.bt T.b_len rfl (by decide) (by decide)
    have B_list : Bt X "list" := hh.bt T.b_list rfl (by decide) (by decide)
    have B_str : Bt X "str" := hh.bt T.b_str rfl (by decide) (by decide)
    have B_tuple : Bt X "tuple" := hh.bt T.b_tuple rfl (by decide) (by decide)
    have B_zip : Bt X "zip" := hh.bt T.b_zip rfl (by decide) (by decide)
    have C__law_alike := hh.cal G__law_alike rfl (by first | decide | exact Nat.le_refl _) (by decide)
    refine ⟨_, (J.pss_cons (J.ps_if (J.pw_pt (J.pw_or (J.pt_call (J.blt B_isinstance J.call_isi L2.bb_isinstance (J.pa_c (J.rd S1) (J.pa_c (J.ty B_str L2.bb_str) J.pa_nil)))) (J.pw_or1 (J.pt_cmpR J.op_isN (J.rd S1) J.pe_non (L2.nomark _)))))
 (J.pss_one (J.ps_ret (J.pe_and (J.pe_cmpR J.op_eq (J.blt B_isinstance J.call_isi L2.bb_isinstance (J.pa_c (J.rd S0) (J.pa_c (J.ty B_str L2.bb_str) J.pa_nil))) (J.blt B_isinstance J.call_isi L2.bb_isinstance (J.pa_c (J.rd S1) (J.pa_c (J.ty B_str L2.bb_str) J.pa_nil))) (L2.nomark _)) (J.pe_one (J.pe_cmpR J.op_eq (J.rd S0) (J.rd S1) (L2.nomark _))))))
 J.pss_nil)
 (J.pss_cons (J.ps_if (J.pt_call (J.blt B_isinstance J.call_isi L2.bb_isinstance (J.pa_c (J.rd S1) (J.pa_c (J.ty B_int L2.bb_int) J.pa_nil))))
 (J.pss_one (J.ps_ret (J.pe_and (J.blt B_isinstance J.call_isi L2.bb_isinstance (J.pa_c (J.rd S0) (J.pa_c (J.ty B_int L2.bb_int) J.pa_nil))) (J.pe_and (J.pe_not (J.blt B_isinstance J.call_isi L2.bb_isinstance (J.pa_c (J.rd S0) (J.pa_c (J.ty B_bool L2.bb_bool) J.pa_nil)))) (J.pe_one (J.pe_cmpR J.op_eq (J.rd S0) (J.rd S1) (L2.nomark _)))))))
 J.pss_nil)
 (J.pss_cons (J.ps_if (J.pw_pt (J.pw_or (J.pt_cmpR J.op_ne (J.blt B_isinstance J.call_isi L2.bb_isinstance (J.pa_c (J.rd S1) (J.pa_c (J.ty B_tuple L2.bb_tuple) J.pa_nil))) (J.blt B_isinstance J.call_isi L2.bb_isinstance (J.pa_c (J.rd S0) (J.pa_c (J.ty B_tuple L2.bb_tuple) J.pa_nil))) (L2.nomark _)) (J.pw_or1 (J.pt_cmpR J.op_ne (J.blt B_isinstance J.call_isi L2.bb_isinstance (J.pa_c (J.rd S1) (J.pa_c (J.ty B_list L2.bb_list) J.pa_nil))) (J.blt B_isinstance J.call_isi L2.bb_isinstance (J.pa_c (J.rd S0) (J.pa_c (J.ty B_list L2.bb_list) J.pa_nil))) (L2.nomark _)))))
 (J.pss_one (J.ps_ret J.pe_bl))
 J.pss_nil)
 (J.pss_cons (J.ps_if (J.pt_cmpR J.op_ne (J.blt B_len J.call_len_seq L2.bb_len (J.pa_c (J.rd S0) J.pa_nil)) (J.blt B_len J.call_len_seq L2.bb_len (J.pa_c (J.rd S1) J.pa_nil)) (L2.nomark _))
 (J.pss_one (J.ps_ret J.pe_bl))
 J.pss_nil)
 (J.pss_cons (J.ps_for hh.own hh.calm (J.pi_zip B_zip (J.pa_c (J.rd S0) (J.pa_c (J.rd S1) J.pa_nil))) (J.pg_tup hh.calm (J.pgs_c (J.tgt S2 hh.nd) (J.pgs_c (J.tgt S3 hh.nd) J.pgs_nil)))
 (J.pss_one (J.ps_if (J.pt_not (J.pt_call (J.cal C__law_alike (J.pa_c (J.rd S2) (J.pa_c (J.rd S3) J.pa_nil)))))
 (J.pss_one (J.ps_ret J.pe_bl))
 J.pss_nil)))
 (J.pss_one (J.ps_ret J.pe_bl))))))), ?_⟩
    have ha' : ScA x y ∨ ∃ e, d = e + 1 ∧ ∃ (q : Bool) (a b : Addr) (xs ys : List V), x = .ref a ∧ y = .ref b ∧ seqAt q H a xs ∧ seqAt q H b ys ∧ xs.length = ys.length ∧ ∀ (i : Nat) u v, xs[i]? = some u → ys[i]? = some v → Alk e H u v := by
      cases d with
      | zero => exact .inl ha
      | succ e => exact ha.imp id fun h => ⟨e, rfl, h⟩
    rcases ha' with (⟨z, rfl, rfl⟩ | ⟨rfl, rfl⟩ | ⟨i, rfl, rfl⟩) | ⟨e, rfl, q, a, b, xs, ys, rfl, rfl, h1, h2, hl, hall⟩
    · refine ⟨_, rfl, _, _, _, _, rfl, .str z, kit_isa (T := "str") (by decide) (by decide), _, rfl, iteP (by decide) (iteT ?_)⟩
      refine ⟨_, rfl, _, _, _, _, rfl, .str z, kit_isa (T := "str") (by decide) (by decide), _, rfl, _, _, _, _, rfl, .str z, kit_isa (T := "str") (by decide) (by decide), rfl, _, rfl, iteP (decide_eq_true rfl) ⟨_, rfl, _, rfl, rfl, ?_⟩⟩
      rw [decide_eq_true rfl]
      exact k H (Same.refl H)
    · refine ⟨_, rfl, _, _, _, _, rfl, .non, kit_isa (T := "NoneType") (by decide) (by decide), _, rfl, iteN (by decide) ⟨_, rfl, rfl, _, rfl, iteP (decide_eq_true rfl) ?_⟩⟩
      refine ⟨_, rfl, _, _, _, _, rfl, .non, kit_isa (T := "NoneType") (by decide) (by decide), _, rfl, _, _, _, _, rfl, .non, kit_isa (T := "NoneType") (by decide) (by decide), rfl, _, rfl, iteP (decide_eq_true rfl) ⟨_, rfl, _, rfl, rfl, ?_⟩⟩
      rw [decide_eq_true rfl]
      exact k H (Same.refl H)
    · refine ⟨_, rfl, _, _, _, _, rfl, .int i, kit_isa (T := "int") (by decide) (by decide), _, rfl, iteN (by decide) ⟨_, rfl, rfl, _, rfl, iteN (by rw [decide_eq_true_iff]; intro e; cases e) ?_⟩⟩
      refine ⟨_, rfl, _, _, _, _, rfl, .int i, kit_isa (T := "int") (by decide) (by decide), _, rfl, iteP (by decide) ?_⟩
      refine ⟨_, rfl, _, _, _, _, rfl, .int i, kit_isa (T := "int") (by decide) (by decide), _, rfl, iteP (by decide) ⟨_, rfl, _, _, _, _, rfl, .int i, kit_isa (T := "int") (by decide) (by decide), _, rfl, _, rfl, iteP (by decide) ⟨_, rfl, _, rfl, rfl, ?_⟩⟩⟩
      rw [decide_eq_true rfl]
      exact k H (Same.refl H)
    · refine ⟨_, rfl, _, _, _, _, rfl, h2.ty, kit_isa (qTy_in q) (by decide), _, rfl, iteN (by cases q <;> decide) ⟨_, rfl, rfl, _, rfl, iteN (by rw [decide_eq_true_iff]; intro e; cases e) ?_⟩⟩
      refine ⟨_, rfl, _, _, _, _, rfl, h2.ty, kit_isa (qTy_in q) (by decide), _, rfl, iteN (by cases q <;> decide) ?_⟩
      refine ⟨_, rfl, _, _, _, _, rfl, h2.ty, kit_isa (qTy_in q) (by decide), _, rfl, _, _, _, _, rfl, h1.ty, kit_isa (qTy_in q) (by decide), rfl, _, rfl, iteN (by rw [decide_eq_true rfl]; decide) ?_⟩
      refine ⟨_, rfl, _, _, _, _, rfl, h2.ty, kit_isa (qTy_in q) (by decide), _, rfl, _, _, _, _, rfl, h1.ty, kit_isa (qTy_in q) (by decide), rfl, _, rfl, iteN (by rw [decide_eq_true rfl]; decide) ?_⟩
      refine ⟨_, rfl, a, xs, rfl, h1.ln, _, rfl, b, ys, rfl, h2.ln, rfl, _, rfl, iteN (by rw [hl, decide_eq_true rfl]; decide) ?_⟩
      refine ⟨_, rfl, _, rfl, q, a, b, rfl, ⟨_, h1.sq⟩, ⟨_, h2.sq⟩, for_zip (K := X.K) (q1 := q) (q2 := q) (a1 := a) (a2 := b) (xs := xs) (ys := ys) hl (fun i σ H2 => ∃ u v, σ = [some (.ref a), some (.ref b), u, v] ∧ Same H H2) ⟨none, none, rfl, Same.refl H⟩ (fun i σ H2 ⟨_, _, _, s⟩ => ⟨(h1.mono s).sq, (h2.mono s).sq⟩) ?_ ?_⟩
      · rintro i u v p σ H2 hu hv hp ⟨_, _, rfl, s⟩
        refine ⟨p, _, rfl, SqT.of upd_same, rfl, _, _, rfl, _, _, rfl, rfl, ?_⟩
        exact ⟨_, rfl, _, rfl, u, v, rfl, (hall i u v hu hv).mono (s.trans (Same.upd hp)), fun H3 s3 => ⟨_, rfl, iteF ⟨_, _, rfl, (s.trans (Same.upd hp)).trans s3⟩⟩⟩
      · rintro σ H2 ⟨_, _, rfl, s⟩
        exact k H2 s
theorem ok_alike {f : Addr} {fd : FuncData} (D : Df K mg "_law_alike" s_l_alike ["_law_found", "_law_due"] f fd) (T : Txt K mg kw C) : ∀ d, Gd P w K mg base d "_law_alike" (spAl d)
  | 0 => ⟨f, fd, _, ⟨fun _ _ _ _ h => h.elim, fun _ _ _ _ _ _ _ _ _ _ _ _ _ h => h.elim⟩, D.nm, D.fn.kp, D.bi⟩
  | d + 1 => alike_step D T (ok_alike D T d)
end
/-! ### the sayings as data -/
inductive SD where
  | knew (p : Str) (h : Int)
  | unh (p : Str) (h : Option Int)
  | sil (p : Str) (b e : Int)
  | bar (p q : Str)
def oV : Option Int → V
  | none => .non
  | some h => .int h
def SD.tup : SD → List V
  | .knew p h => [.str "knew", .str p, .int h]
  | .unh p h => [.str "unheard", .str p, oV h]
  | .sil p b e => [.str "silent", .str p, .int b, .int e]
  | .bar p q => [.str "barred", .str p, .str q]
def SdOk (ps : List Str) : SD → Prop
  | .knew p h => p ∈ ps ∧ HourOk h
  | .unh p h => p ∈ ps ∧ ∀ i, h = some i → HourOk i
  | .sil p b e => p ∈ ps ∧ HourOk b ∧ HourOk e ∧ b ≤ e
  | .bar p q => p ∈ ps ∧ q ∈ ps ∧ p ≠ q
inductive SayD  (H : Hp) (v : V) (d : SD) : Prop
  | mk (a : Addr) (h0 : v = .ref a) (h1 : H a = some (.tup d.tup))
def Sys (H : Hp) (ys : List V) (sd : List SD) : Prop := ys.length = sd.length ∧ ∀ (i : Nat) v d, ys[i]? = some v → sd[i]? = some d → SayD H v d
theorem Sys.mono {H H' : Hp} {ys : List V} {sd : List SD} (s : Tk H H') (h : Sys H ys sd) : Sys H' ys sd := ⟨h.1, fun i v d hv hd => by
  obtain ⟨a, e, ha⟩ := h.2 i v d hv hd
  exact ⟨a, e, s _ _ ha⟩⟩
theorem Sys.nil {H : Hp} : Sys H [] [] := ⟨rfl, fun i v d hv => by cases hv⟩
theorem Sys.at {H : Hp} {ys : List V} {sd : List SD} {i : Nat} {v : V} (h : Sys H ys sd) (hv : ys[i]? = some v) : ∃ d a, sd[i]? = some d ∧ v = .ref a ∧ H a = some (.tup d.tup) := by
  have hi : i < sd.length := by
    rw [← h.1]
    exact (List.getElem?_eq_some_iff.mp hv).1
  obtain ⟨a, e, ha⟩ := h.2 i v sd[i] hv (List.getElem?_eq_getElem hi)
  exact ⟨sd[i], a, List.getElem?_eq_getElem hi, e, ha⟩
theorem say_data {ps : List Str} {H : Hp} {v : V} (h : SayIn ps H v) : ∃ d, SayD H v d ∧ SdOk ps d := by
  obtain ⟨a, e, h⟩ := h
  rcases h with ⟨p, h, ha, h1, h2⟩ | ⟨p, b, ha, h1, h2⟩ | ⟨p, h, k, ha, h1, h2, h3, h4⟩ | ⟨p, q, ha, h1, h2, h3⟩
  · exact ⟨.knew p h, ⟨a, e, ha⟩, h1, h2⟩
  · rcases h2 with rfl | ⟨h, rfl, h2⟩
    · exact ⟨.unh p none, ⟨a, e, ha⟩, h1, fun i z => by cases z⟩
    · exact ⟨.unh p (some h), ⟨a, e, ha⟩, h1, fun i z => by cases z; exact h2⟩
  · exact ⟨.sil p h k, ⟨a, e, ha⟩, h1, h2, h3, h4⟩
  · exact ⟨.bar p q, ⟨a, e, ha⟩, h1, h2, h3⟩
theorem says_data {ps : List Str} {H : Hp} : ∀ {ys : List V}, (∀ v ∈ ys, SayIn ps H v) → ∃ sd, Sys H ys sd ∧ ∀ d ∈ sd, SdOk ps d
  | [], _ => ⟨[], Sys.nil, fun d hd => by cases hd⟩
  | v :: r, h => by
    obtain ⟨sd, ⟨l, g⟩, k⟩ := says_data fun u hu => h u (List.mem_cons_of_mem _ hu)
    obtain ⟨d, hd, kd⟩ := say_data (h v (List.mem_cons_self ..))
    refine ⟨d :: sd, ⟨by rw [List.length_cons, List.length_cons, l], fun i u e hu he => ?_⟩, fun e he => ?_⟩
    · cases i with
      | zero =>
        cases hu
        cases he
        exact hd
      | succ j => exact g j u e hu he
    · rcases List.mem_cons.mp he with rfl | he
      · exact kd
      · exact k e he
/-! ### what a comprehension over the data keeps -/
def atP {α : Type} (l : List α) (p : α → Bool) (i : Nat) : Bool := match l[i]? with
  | some d => p d
  | none => false
def atF {α : Type} (l : List α) (f : α → V) (i : Nat) : V := match l[i]? with
  | some d => f d
  | none => .non
theorem atP_at {α : Type} {l : List α} {p : α → Bool} {i : Nat} {d : α} (h : l[i]? = some d) : atP l p i = p d := by
  unfold atP
  rw [h]
theorem atF_at {α : Type} {l : List α} {f : α → V} {i : Nat} {d : α} (h : l[i]? = some d) : atF l f i = f d := by
  unfold atF
  rw [h]
theorem range_pf {α : Type} (p : α → Bool) (f : α → V) : ∀ l : List α, ((List.range l.length).filter (atP l p)).map (atF l f) = (l.filter p).map f
  | [] => rfl
  | d :: r => by
    have ih := range_pf p f r
    have e1 : (atP (d :: r) p ∘ Nat.succ) = atP r p := rfl
    have e2 : (atF (d :: r) f ∘ Nat.succ) = atF r f := rfl
    rw [List.length_cons, List.range_succ_eq_map, List.filter_cons, List.filter_map, e1]
    have e3 : atP (d :: r) p 0 = p d := rfl
    rw [e3, List.filter_cons]
    cases p d with
    | true =>
      rw [if_pos rfl, if_pos rfl, List.map_cons, List.map_cons, List.map_map, e2, ih]
      rfl
    | false =>
      rw [if_neg Bool.false_ne_true, if_neg Bool.false_ne_true, List.map_map, e2, ih]
def Lz {α : Type} (R : Hp → V → α → Prop) (H : Hp) (xs : List V) (ds : List α) : Prop := xs.length = ds.length ∧ ∀ (i : Nat) v d, xs[i]? = some v → ds[i]? = some d → R H v d
theorem Lz.mono {α : Type} {R : Hp → V → α → Prop} {H H' : Hp} {xs : List V} {ds : List α} (m : ∀ v d, R H v d → R H' v d) (h : Lz R H xs ds) : Lz R H' xs ds := ⟨h.1, fun i v d hv hd => m v d (h.2 i v d hv hd)⟩
theorem Lz.at {α : Type} {R : Hp → V → α → Prop} {H : Hp} {xs : List V} {ds : List α} {i : Nat} {v : V} (h : Lz R H xs ds) (hv : xs[i]? = some v) : ∃ d, ds[i]? = some d ∧ R H v d := by
  have hi : i < ds.length := by
    rw [← h.1]
    exact (List.getElem?_eq_some_iff.mp hv).1
  exact ⟨ds[i], List.getElem?_eq_getElem hi, h.2 i v ds[i] hv (List.getElem?_eq_getElem hi)⟩
theorem lz_data {α : Type} {R : Hp → V → α → Prop} {H : Hp} {Ok : α → Prop} : ∀ {xs : List V}, (∀ v ∈ xs, ∃ d, R H v d ∧ Ok d) → ∃ ds, Lz R H xs ds ∧ ∀ d ∈ ds, Ok d
  | [], _ => ⟨[], ⟨rfl, fun i v d hv => by cases hv⟩, fun d hd => by cases hd⟩
  | v :: r, h => by
    obtain ⟨ds, ⟨l, g⟩, k⟩ := lz_data fun u hu => h u (List.mem_cons_of_mem _ hu)
    obtain ⟨d, hd, kd⟩ := h v (List.mem_cons_self ..)
    refine ⟨d :: ds, ⟨by rw [List.length_cons, List.length_cons, l], fun i u e hu he => ?_⟩, fun e he => ?_⟩
    · cases i with
      | zero =>
        cases hu
        cases he
        exact hd
      | succ j => exact g j u e hu he
    · rcases List.mem_cons.mp he with rfl | he
      · exact kd
      · exact k e he
abbrev GD := Str × Int
inductive SightD  (H : Hp) (v : V) (d : GD) : Prop
  | mk (a ta : Addr) (h0 : v = .ref a) (h1 : H a = some (.tup [.str d.1, .int d.2, .ref ta]))
theorem SightD.mono {H H' : Hp} (s : Tk H H') (v : V) (d : GD) (h : SightD H v d) : SightD H' v d := by
  obtain ⟨a, ta, e, ha⟩ := h
  exact ⟨a, ta, e, s _ _ ha⟩
theorem sights_data {ps : List Str} {H : Hp} {ss : List V} (h : ∀ v ∈ ss, SightIn ps H v) : ∃ sg, Lz SightD H ss sg ∧ ∀ d ∈ sg, d.1 ∈ ps ∧ HourOk d.2 :=
  lz_data fun v hv => by
    obtain ⟨a, z, i, ta, ws, e, ha, hz, hi, _⟩ := h v hv
    exact ⟨(z, i), ⟨a, ta, e, ha⟩, hz, hi⟩
abbrev QD := Int × Str × Str × Str
inductive TalkQ  (H : Hp) (v : V) (d : QD) : Prop
  | mk (a : Addr) (h0 : v = .ref a) (h1 : H a = some (.tup [.int d.1, .str d.2.1, .str d.2.2.1, .str d.2.2.2]))
theorem TalkQ.mono {H H' : Hp} (s : Tk H H') (v : V) (d : QD) (h : TalkQ H v d) : TalkQ H' v d := by
  obtain ⟨a, e, ha⟩ := h
  exact ⟨a, e, s _ _ ha⟩
def QdOk (ps : List Str) (d : QD) : Prop := HourOk d.1 ∧ d.2.1 ∈ ps ∧ d.2.2.1 ∈ ps ∧ (d.2.2.2 = "both" ∨ d.2.2.2 = "one")
theorem talksq {ps : List Str} {H : Hp} {ts : List V} (h : ∀ v ∈ ts, TalkIn ps H v) : ∃ qd, Lz TalkQ H ts qd ∧ ∀ d ∈ qd, QdOk ps d :=
  lz_data fun v hv => by
    obtain ⟨a, i, p, q, w, e, ha, hi, hp, hq, _, hw⟩ := h v hv
    exact ⟨(i, p, q, w), ⟨a, e, ha⟩, hi, hp, hq, hw⟩
theorem lcG_new {J : It} {n : Nat} {is : List Nat} {g : TG} {te : TE} {σ : St} {H : Hp} {Q : VK} {N : Nat} (R : Nat → Hp → V → Prop) (mono : ∀ j v H H', Tk H H' → R j H v → R j H' v) (hz : N ≤ sizeLine) (hgo : ∀ i H2, Same H H2 → i < N → J.go i H2) (hstop : ∀ H2, Same H H2 → J.stop N H2)
    (he : ∀ (i : Nat) (os : St) v H2 H3 (K1 : VK), i < N → os.length = n → Same H H2 → J.yld i H2 v H3 → (∀ y H6, Same H2 H6 → R i H6 y → K1 y H6) →
      g v (os ++ caps is σ) H3 fun σ' H4 => (∃ os' : St, os'.length = n ∧ σ' = os' ++ caps is σ) ∧ te σ' H4 K1)
    (gm : ∀ v σ H (Q1 Q2 : St → Hp → Prop), (∀ σ' H', Q1 σ' H' → Q2 σ' H') → g v σ H Q1 → g v σ H Q2)
    (q : ∀ D ys H', H D = none → Same H H' → H' D = some (.lst ys) → ys.length = N → (∀ (j : Nat) v, ys[j]? = some v → R j H' v) → Q (.ref D) H') : lcGoalG J n is g tTru te σ H Q := by
  intro D hDn
  refine ⟨fun i m ys H2 => m = N - i ∧ i ≤ N ∧ Same H H2 ∧ H2 D = some (.lst ys) ∧ ys.length = i ∧ ∀ (j : Nat) v, ys[j]? = some v → R j H2 v, ⟨_, rfl, Nat.zero_le _, Same.upd hDn, upd_same, rfl, fun j v h => by cases h⟩, ?_⟩
  rintro i m ys H2 ⟨rfl, hi, sm, hd, rfl, ra⟩
  refine ⟨hd, ?_⟩
  by_cases hlt : ys.length < N
  · refine .inr ⟨hgo _ H2 sm hlt, fun os v H3 hos y => ?_⟩
    refine gm _ _ _ _ _ (fun σ' H' h => ⟨h.1, iteT (B := ∃ m', m' < N - ys.length ∧ m' = N - (ys.length + 1) ∧ ys.length + 1 ≤ N ∧ Same H H' ∧ H' D = some (.lst ys) ∧ ys.length = ys.length + 1 ∧ ∀ (j : Nat) v, ys[j]? = some v → R j H' v) h.2⟩) (he _ os v H2 H3 _ hlt hos sm y fun z H6 s6 rz => ⟨s6 _ _ hd, by omega, N - (ys.length + 1), by omega, rfl, hlt, fun b o e => ?_, upd_same, by rw [List.length_append]; rfl, fun j u hu => ?_⟩)
    · rw [upd_ne (ne_of_none e hDn)]
      exact s6 _ _ (sm _ _ e)
    · have tk := Tk.upd (s6 _ _ hd) (ys := ys ++ [z])
      by_cases hj : j < ys.length
      · rw [List.getElem?_append_left hj] at hu
        exact mono _ _ _ _ ((Tk.of s6).trans tk) (ra j u hu)
      · have e : j = ys.length := by
          have := (List.getElem?_eq_some_iff.mp hu).1
          rw [List.length_append] at this
          have : j < ys.length + 1 := this
          omega
        subst e
        rw [List.getElem?_append_right (Nat.le_refl _), Nat.sub_self] at hu
        cases hu
        exact mono _ _ _ _ tk rz
  · have e : ys.length = N := by omega
    exact .inl ⟨by rw [e]; exact hstop H2 sm, q D ys H2 hDn sm hd e ra⟩
theorem lcN_list {K : PySem.W.Frag} {is : List Nat} {te : TE} {σ : St} {H : Hp} {Q : VK} {a : Addr} {xs : List V} (R : Nat → Hp → V → Prop) (mono : ∀ j v H H', Tk H H' → R j H v → R j H' v) (hq : SqL K H a xs) (hz : xs.length ≤ sizeLine)
    (he : ∀ (i : Nat) v H2 (K1 : VK), xs[i]? = some v → Same H H2 → (∀ y H6, Same H2 H6 → R i H6 y → K1 y H6) → te ([some v] ++ caps is σ) H2 K1)
    (q : ∀ D ys H', H D = none → Same H H' → H' D = some (.lst ys) → ys.length = xs.length → (∀ (j : Nat) v, ys[j]? = some v → R j H' v) → Q (.ref D) H') : lcGoalG (Itl K a) 1 is (gName 0) tTru te σ H Q :=
  lcG_new R mono hz (fun i H2 sm hi => ⟨xs, xs[i], sm.seq hq, by simp [hi]⟩) (fun H2 sm => ⟨xs, sm.seq hq, Nat.le_refl _⟩) (fun i os v H2 H3 K1 hi hos sm y k1 => by
    obtain ⟨rfl, y⟩ := y
    match os, hos with
    | [o], _ => exact ⟨⟨[some v], rfl, rfl⟩, he i v _ K1 (y xs (sm.seq hq)) sm k1⟩) (fun _ _ _ _ _ h k => h _ _ k) q
theorem seq_ifR {i : Nat} {v : V} {tc : TT} {u t2 : TS} {D : Ends} {σ : St} {H : Hp} (R : St → Hp → Prop) (hR : ∀ σ' H', R σ' H' → t2 D σ' H') (b : Bool) (hc : ∀ Q : Bool → Hp → Prop, Q b H → tc (σ.set i (some v)) H Q) (h1 : b = true → (∀ σ' H', R σ' H' → t2 D σ' H') → u { D with nx := t2 D } (σ.set i (some v)) H) (h2 : b = false → R (σ.set i (some v)) H) :
    gName i v σ H (fun σ2 H2 => tSeq (tIfS tc u tNext) t2 D σ2 H2) := by
  refine hc _ ?_
  cases b with
  | true => exact iteT (h1 rfl hR)
  | false => exact iteF (hR _ _ (h2 rfl))
theorem nodup_le : ∀ {zs ps : List Str}, zs.Nodup → (∀ z ∈ zs, z ∈ ps) → zs.length ≤ ps.length
  | [], _, _, _ => Nat.zero_le _
  | z :: r, ps, nd, m => by
    obtain ⟨n1, n2⟩ := List.nodup_cons.mp nd
    have mz := m z List.mem_cons_self
    have := nodup_le (ps := ps.erase z) n2 fun y hy => (List.mem_erase_of_ne fun e => n1 (by rw [← e]; exact hy)).mpr (m y (List.mem_cons_of_mem _ hy))
    rw [List.length_erase_of_mem mz] at this
    have pl := List.length_pos_of_mem mz
    show r.length + 1 ≤ _
    omega
theorem mem_take_at {α : Type} {l : List α} {j : Nat} {y : α} (h : y ∈ l.take j) : ∃ i, i < j ∧ l[i]? = some y := by
  obtain ⟨i, hi⟩ := List.getElem?_of_mem h
  have il := (List.getElem?_eq_some_iff.mp hi).1
  rw [List.length_take] at il
  rw [List.getElem?_take_of_lt (by omega)] at hi
  exact ⟨i, by omega, hi⟩
abbrev FH := Str → Option Int
inductive EW
  | saw (i : Nat)
  | hrd (k : Nat) (te : Str)
abbrev ED := Str × Int × EW
def WayD (H : Hp) (wa : Addr) : EW → Prop
  | .saw i => H wa = some (.tup [.str "saw", .int (i : Nat)])
  | .hrd k te => H wa = some (.tup [.str "heard", .int (k : Nat), .str te])
def EntV (H : Hp) (a : Addr) (d : ED) : Prop := ∃ wa, H a = some (.tup [.str d.1, .int d.2.1, .ref wa]) ∧ WayD H wa d.2.2
theorem WayD.mono {H H' : Hp} (s : Tk H H') {wa : Addr} {w : EW} (h : WayD H wa w) : WayD H' wa w := by
  cases w with
  | saw i => exact s _ _ h
  | hrd k te => exact s _ _ h
theorem EntV.mono {H H' : Hp} (s : Tk H H') {a : Addr} {d : ED} (h : EntV H a d) : EntV H' a d := by
  obtain ⟨wa, h1, h2⟩ := h
  exact ⟨wa, s _ _ h1, h2.mono s⟩
def EntL (H : Hp) (v : V) (d : ED) : Prop := ∃ a, v = .ref a ∧ EntV H a d
theorem EntL.mono {H H' : Hp} (s : Tk H H') (v : V) (d : ED) (h : EntL H v d) : EntL H' v d := by
  obtain ⟨a, e, h⟩ := h
  exact ⟨a, e, h.mono s⟩
def kvOf (st : List ED) : List (Key × V) := st.map fun d => (Sum.inr d.1, V.int d.2.1)
theorem kvOf_put {st : List ED} {i : Nat} {d : ED} (nd : (st.map (·.1)).Nodup) (hd : st[i]? = some d) : putK (kvOf (st.take i)) (Sum.inr d.1) (.int d.2.1) = kvOf (st.take (i + 1)) := by
  have no : ((kvOf (st.take i)).any fun kv => decide (kv.1 = Sum.inr d.1)) = false := by
    rw [List.any_eq_false]
    intro kv hkv e
    obtain ⟨d', hd', rfl⟩ := List.mem_map.mp hkv
    have e' : d'.1 = d.1 := Sum.inr.inj (of_decide_eq_true e)
    obtain ⟨j, hj, hj'⟩ := mem_take_at hd'
    have h1 : (st.map (·.1))[j]? = some d.1 := by rw [List.getElem?_map, hj']; exact congrArg some e'
    have h2 : (st.map (·.1))[i]? = some d.1 := by rw [List.getElem?_map, hd]; rfl
    have := (List.getElem?_inj (by exact (List.getElem?_eq_some_iff.mp h1).1) nd).mp (h1.trans h2.symm)
    omega
  unfold putK
  rw [no, if_neg Bool.false_ne_true, List.take_add_one, hd]
  unfold kvOf
  rw [List.map_append]
  rfl
theorem alk_ints {H : Hp} {a b : Addr} {xs : List V} (hx : ∀ v ∈ xs, ∃ i : Int, v = .int i) (ha : H a = some (.lst xs)) (hb : H b = some (.lst xs)) : Alk 1 H (.ref a) (.ref b) :=
  .inr ⟨true, a, b, xs, xs, rfl, rfl, ha, hb, rfl, fun i u v hu hv => by
    rw [hu] at hv
    cases hv
    obtain ⟨j, rfl⟩ := hx u (List.mem_of_getElem? hu)
    exact .inr (.inr ⟨j, rfl, rfl⟩)⟩
inductive spMixP  (vs : List V) (H : Hp) (Q : VK) : Prop
  | mk (c k : Int) (h0 : vs = [.int c, .int k]) (h1 : 0 ≤ k) (h2 : k ≤ 1000) (h3 : ∀ m : Int, 0 ≤ m → m < 2147483647 → Q (.int m) H)
def spMix  : Sp := fun vs H Q _ => spMixP  vs H Q
theorem emod_in (x : Int) {m : Int} (h : 0 < m) : 0 ≤ x % m ∧ x % m < m := ⟨Int.emod_nonneg _ (Int.ne_of_gt h), Int.emod_lt_of_pos _ h⟩
inductive spTell1P  (C : Addr) (M : Addr → Addr → Addr → Addr → Addr) (vs : List V) (H : Hp) (Q : VK) : Prop
  | mk (x p s t y : Addr) (xs : List V) (h0 : vs = [.ref x]) (h1 : (∃ dx, H x = some (.ins C dx (flds p s t y)))) (h2 : H (M p s t y) = some (.lst xs)) (h3 : ∀ l, H l = none → Q (.ref l) (upd H l (.lst xs)))
def spTell1  (C : Addr) (M : Addr → Addr → Addr → Addr → Addr) : Sp := fun vs H Q _ => spTell1P C M vs H Q
section
variable {P : Program} {w : World} {K : PySem.W.Frag} {mg : Str → Option Value} {base : Heap} {kw C : Addr}
theorem sc_m_sayings : FnScope ["self"] ["self"] (defScope s_m_sayings) := ⟨rfl, rfl, rfl, by decide +kernel, rfl, by decide +kernel, by decide +kernel⟩
theorem ok_m_sayings {f : Addr} {fd : FuncData} (F : Fun K "sayings" "Book.sayings" s_m_sayings f fd) (me : Meth K C "sayings" f) (bi : Binds K fd ["self"] []) (T : Txt K mg kw C) : Md P w K mg base 1 C "sayings" (spTell1 C (fun _ _ _ y => y)) := by
  refine J.meth_ok F me bi T.cl sc_m_sayings (fun vs H Q E h => ?_) (fun X H vs Q E hh h => ?_)
  · obtain ⟨x, p, s, t, y, xs, rfl, _⟩ := h
    rfl
  · obtain ⟨x, p, s, t, y, xs, rfl, ⟨dx, hx⟩, hl, k⟩ := h
    have S0 : L2.Slot X 0 "self" := hh.slot 0 rfl (by first | exact .inl rfl | exact .inr rfl) (by decide) (by decide)
    have B_list : Bt X "list" := hh.bt T.b_list rfl (by decide) (by decide)
    obtain rfl := hh.fK
    refine ⟨_, (J.pss_one (J.ps_ret (J.bltT B_list J.call_list_of L2.bb_list (J.pa_c (J.fld (J.rd S0)) J.pa_nil)))), ?_⟩
    exact ⟨_, rfl, x, C, dx, _, _, rfl, hx, T.cl, T.nY, fld_y _ _ _ _, _, _, rfl, .inl (SqL.of hl), k⟩
end
inductive HiP (vs : List V) (H : Hp) (Q : VK) : Prop
  | mk (l : Addr) (us : List V) (st : List ED) (e : vs = [.ref l]) (hl : H l = some (.lst us)) (lz : Lz EntL H us st) (nd : (st.map (·.1)).Nodup) (sl : st.length ≤ 24) (k : ∀ d H', Same H H' → H' d = some (.dK (kvOf st)) → Q (.ref d) H')
def spHi : Sp := fun vs H Q _ => HiP vs H Q
def uhB (F : FH) (q : Str) (o : Option Int) : Bool := match F q with
  | none => true
  | some i => match o with
    | none => false
    | some j => decide (i > j)
inductive FuP (vs : List V) (H : Hp) (Q : VK) : Prop
  | mk (d : Addr) (q : Str) (o : Option Int) (kvs : List (Key × V)) (F : FH) (e : vs = [.ref d, .str q, oV o]) (hd : H d = some (.dK kvs)) (get : ∀ z, valV kvs (Sum.inr z) = (F z).map V.int) (k : Q (.bl (uhB F q o)) H)
def spFu : Sp := fun vs H Q _ => FuP vs H Q
def frB (q : Str) (d : ED) : Bool := match d.2.2 with
  | .saw _ => false
  | .hrd _ te => decide (te = q)
def wyB (p : Str) (d : ED) : Bool := decide (d.1 = p) && (match d.2.2 with | .saw _ => false | .hrd _ _ => true)
theorem ways_ex {H : Hp} : ∀ {us : List V} {st : List ED}, Lz EntL H us st → ∃ ws : List (Addr × ED), ws.map (·.2) = st ∧ ∀ (i : Nat) v pr, us[i]? = some v → ws[i]? = some pr → ∃ a, v = .ref a ∧ H a = some (.tup [.str pr.2.1, .int pr.2.2.1, .ref pr.1]) ∧ WayD H pr.1 pr.2.2.2
  | [], [], _ => ⟨[], rfl, fun i v pr h => by cases h⟩
  | [], _ :: _, lz => by cases lz.1
  | _ :: _, [], lz => by cases lz.1
  | u :: us, d :: st, lz => by
    obtain ⟨a, rfl, wa, ha, hw⟩ := lz.2 0 u d rfl rfl
    obtain ⟨ws, e, h⟩ := ways_ex (us := us) (st := st) ⟨Nat.succ.inj lz.1, fun i v d h1 h2 => lz.2 (i + 1) v d h1 h2⟩
    refine ⟨(wa, d) :: ws, by rw [List.map_cons, e], fun i v pr h1 h2 => ?_⟩
    cases i with
    | zero =>
      cases h1
      cases h2
      exact ⟨a, rfl, ha, hw⟩
    | succ j => exact h j v pr h1 h2
section
variable {P : Program} {w : World} {K : PySem.W.Frag} {mg : Str → Option Value} {base : Heap} {kw C : Addr}
theorem sc_hours_in : FnScope ["story", "hours", "person", "hour", "way"] ["story"] (defScope s_hours_in) := ⟨rfl, rfl, rfl, by decide +kernel, rfl, by decide +kernel, by decide +kernel⟩
theorem ok_hi {f : Addr} {fd : FuncData} (D : Df K mg "hours_in" s_hours_in ["story"] f fd) : Gd P w K mg base 1 "hours_in" spHi := by
  refine J.def_ok D sc_hours_in (fun vs H Q E h => ?_) (fun X H vs Q E hh h => ?_)
  · obtain ⟨l, us, st, rfl, _⟩ := h
    rfl
  · obtain ⟨l, us, st, rfl, hl, lz, nd, sl, k⟩ := h
    have S0 : L2.Slot X 0 "story" := hh.slot 0 rfl (by first | exact .inl rfl | exact .inr rfl) (by decide) (by decide)
    have S1 : L2.Slot X 1 "hours" := hh.slot 1 rfl (by first | exact .inl rfl | exact .inr rfl) (by decide) (by decide)
    have S2 : L2.Slot X 2 "person" := hh.slot 2 rfl (by first | exact .inl rfl | exact .inr rfl) (by decide) (by decide)
    have S3 : L2.Slot X 3 "hour" := hh.slot 3 rfl (by first | exact .inl rfl | exact .inr rfl) (by decide) (by decide)
    have S4 : L2.Slot X 4 "way" := hh.slot 4 rfl (by first | exact .inl rfl | exact .inr rfl) (by decide) (by decide)
    have hu := hu_of hh.room
    have hsz : sizeLine = 16777216 := sizeLine_eq
    refine ⟨_, (J.pss_cons (J.set S1 hh.nd J.pe_dnew)
 (J.pss_cons (J.ps_for hh.own hh.calm (J.pi_list (J.rd S0)) (J.pg_tup hh.calm (J.pgs_c (J.tgt S2 hh.nd) (J.pgs_c (J.tgt S3 hh.nd) (J.pgs_c (J.tgt S4 hh.nd) J.pgs_nil))))
 (J.pss_one (J.dput hu (J.rd S1) (J.rd S2) (J.rd S3))))
 (J.pss_one (J.ps_ret (J.rd S1))))), ?_⟩
    intro kn nkn
    have s3 := Same.upd (o := .dK []) nkn
    have hk3 : upd H kn (.dK []) kn = some (.dK []) := upd_same
    generalize upd H kn (.dK []) = H3 at s3 hk3
    refine ⟨_, rfl, l, rfl, ⟨_, SqL.of (s3 _ _ hl)⟩, for_list (K := X.K) (a := l) (xs := us) (fun i σ H4 => ∃ e2 e3 e4 : Option V, σ = [some (.ref l), some (.ref kn), e2, e3, e4] ∧ Same H H4 ∧ H4 kn = some (.dK (kvOf (st.take i)))) ⟨none, none, none, rfl, s3, hk3⟩ ?_ ?_ ?_⟩
    · rintro i σ H4 hi ⟨e2, e3, e4, rfl, s4, hk4⟩
      exact SqL.of (s4 _ _ hl)
    · rintro i v σ H4 hv ⟨e2, e3, e4, rfl, s4, hk4⟩
      obtain ⟨d, hd, a, rfl, wa, ha, hw⟩ := lz.at hv
      have il := (List.getElem?_eq_some_iff.mp hd).1
      have kl : (kvOf (st.take i)).length < sizeLine := by
        unfold kvOf
        rw [List.length_map, List.length_take]
        omega
      refine ⟨a, _, rfl, SqT.of (s4 _ _ ha), rfl, _, _, rfl, _, _, rfl, _, _, rfl, rfl, ?_⟩
      refine ⟨_, rfl, _, rfl, _, rfl, kn, _, rfl, DPut.k (k := Sum.inr d.1) hk4 kl, _, _, _, rfl, fun b o e => ?_, ?_⟩
      · rw [upd_ne (ne_of_none e nkn)]
        exact s4 _ _ e
      · rw [upd_same, kvOf_put nd hd]
    · rintro σ H4 ⟨e2, e3, e4, rfl, s4, hk4⟩
      rw [lz.1, List.take_length] at hk4
      exact ⟨_, rfl, k kn H4 s4 hk4⟩
theorem sc_fits_unheard : FnScope ["hours", "person", "hour"] ["hours", "person", "hour"] (defScope s_fits_unheard) := ⟨rfl, rfl, rfl, by decide +kernel, rfl, by decide +kernel, by decide +kernel⟩
theorem ok_fu {f : Addr} {fd : FuncData} (D : Df K mg "fits_unheard" s_fits_unheard ["hours", "person", "hour"] f fd) : Gd P w K mg base 1 "fits_unheard" spFu := by
  refine J.def_ok D sc_fits_unheard (fun vs H Q E h => ?_) (fun X H vs Q E hh h => ?_)
  · obtain ⟨d, q, h, kvs, F, rfl, _⟩ := h
    rfl
  · obtain ⟨d, q, o, kvs, F, rfl, hd, get, k⟩ := h
    have S0 : L2.Slot X 0 "hours" := hh.slot 0 rfl (by first | exact .inl rfl | exact .inr rfl) (by decide) (by decide)
    have S1 : L2.Slot X 1 "person" := hh.slot 1 rfl (by first | exact .inl rfl | exact .inr rfl) (by decide) (by decide)
    have S2 : L2.Slot X 2 "hour" := hh.slot 2 rfl (by first | exact .inl rfl | exact .inr rfl) (by decide) (by decide)
    have hu := hu_of hh.room
    refine ⟨_, (J.pss_one (J.ps_ret (J.pe_or (J.pe_dnotin hu (J.rd S1) (J.rd S0)) (J.pe_one (J.pe_and (J.pe_cmpR J.op_notN (J.rd S2) J.pe_non (L2.nomark _)) (J.pe_one (J.pe_cmpR J.op_gt (J.dget hu (J.rd S0) (J.rd S1) J.ix_name) (J.rd S2) (L2.nomark _)))))))), ?_⟩
    have dg := DGet.k (k := Sum.inr q) hd
    rw [get] at dg
    unfold uhB at k
    cases hF : F q with
    | none =>
      rw [hF] at k dg
      exact ⟨_, rfl, _, rfl, d, _, rfl, dg, _, rfl, iteT k⟩
    | some i =>
      rw [hF] at k dg
      cases o with
      | none => exact ⟨_, rfl, _, rfl, d, _, rfl, dg, _, rfl, iteF ⟨_, rfl, rfl, _, rfl, iteF k⟩⟩
      | some j => exact ⟨_, rfl, _, rfl, d, _, rfl, dg, _, rfl, iteF ⟨_, rfl, rfl, _, rfl, iteT ⟨_, rfl, _, rfl, d, _, rfl, dg, _, rfl, _, _, rfl, rfl, k⟩⟩⟩
theorem sc_l_mix : FnScope ["_law_cell", "_law_k", "_law_some"] ["_law_cell", "_law_k"] (defScope s_l_mix) := ⟨rfl, rfl, rfl, by decide +kernel, rfl, by decide +kernel, by decide +kernel⟩
theorem ok_mix {f : Addr} {fd : FuncData} (D : Df K mg "_law_mix" s_l_mix ["_law_cell", "_law_k"] f fd) : Gd P w K mg base 1 "_law_mix" spMix := by
  refine J.def_ok D sc_l_mix (fun vs H Q E h => ?_) (fun X H vs Q E hh h => ?_)
  · obtain ⟨c, k, rfl, _⟩ := h
    rfl
  · obtain ⟨c, k, rfl, k0, k1, q⟩ := h
    have S0 : L2.Slot X 0 "_law_cell" := hh.slot 0 rfl (by first | exact .inl rfl | exact .inr rfl) (by decide) (by decide)
    have S1 : L2.Slot X 1 "_law_k" := hh.slot 1 rfl (by first | exact .inl rfl | exact .inr rfl) (by decide) (by decide)
    have S2 : L2.Slot X 2 "_law_some" := hh.slot 2 rfl (by first | exact .inl rfl | exact .inr rfl) (by decide) (by decide)
    refine ⟨_, (J.pss_cons (J.set S2 hh.nd (J.pe_op J.op_add (J.pe_op J.op_add (J.pe_op J.op_mod (J.rd S0) J.pe_int) (J.pe_op J.op_mul (J.pe_op J.op_mul J.pe_int (J.rd S1)) (J.rd S1))) J.pe_int))
 (J.pss_one (J.ps_ret (J.pe_op J.op_mod (J.pe_op J.op_mul (J.pe_op J.op_mod (J.pe_op J.op_mul (J.rd S2) (J.rd S2)) J.pe_int) (J.pe_op J.op_add (J.rd S1) J.pe_int)) J.pe_int)))), ?_⟩
    refine ⟨_, rfl, _, _, rfl, rfl, (by show (0 : Int) < 1000000007; decide), _, rfl, _, _, rfl, rfl, .inl ⟨by decide, by decide⟩, _, rfl, _, _, rfl, rfl, .inr ⟨by omega, by omega⟩, _, _, rfl, rfl, _, _, rfl, rfl, ?_⟩
    have a := emod_in c (m := 1000000007) (by decide)
    have b : 0 ≤ 31 * k * k ∧ 31 * k * k ≤ 31000000 := by
      have h1 : 31 * k * k = 31 * (k * k) := Int.mul_assoc 31 k k
      have h2 : 0 ≤ k * k := Int.mul_nonneg k0 k0
      have h3 : k * k ≤ 1000 * 1000 := Int.mul_le_mul k1 k1 k0 (by decide)
      omega
    dsimp only
    have sb : 0 ≤ c % 1000000007 + 31 * k * k + 1 ∧ c % 1000000007 + 31 * k * k + 1 ≤ 1100000000 := by omega
    generalize c % 1000000007 + 31 * k * k + 1 = S at sb
    clear a b
    have r := emod_in (S * S % 2147483629 * (k + 7)) (m := 2147483647) (by decide)
    exact ⟨_, rfl, _, rfl, _, _, rfl, rfl, .inl ⟨by omega, by omega⟩, _, _, rfl, rfl, (by show (0 : Int) < 2147483629; decide), _, rfl, _, _, rfl, rfl, _, _, rfl, rfl, .inr ⟨by omega, by omega⟩, _, _, rfl, rfl, (by show (0 : Int) < 2147483647; decide), q _ r.1 r.2⟩
end
/-! ### what fits a story: each saying -/
def hF (st : List ED) : FH := fun z => (st.find? fun d => decide (d.1 = z)).map (·.2.1)
theorem kvOf_getF (st : List ED) (z : Str) : valV (kvOf st) (Sum.inr z) = (hF st z).map V.int := by
  unfold valV kvOf hF
  rw [List.find?_map]
  have e : ((fun kv : Key × V => decide (kv.1 = Sum.inr z)) ∘ fun d : ED => (Sum.inr d.1, V.int d.2.1)) = fun d : ED => decide (d.1 = z) := by
    funext d
    show decide ((Sum.inr d.1 : Key) = Sum.inr z) = decide (d.1 = z)
    exact decide_eq_decide.mpr ⟨fun h => Sum.inr.inj h, fun h => congrArg Sum.inr h⟩
  rw [e, Option.map_map, Option.map_map]
  rfl
theorem hF_mem {st : List ED} {z : Str} {i : Int} (h : hF st z = some i) : ∃ d ∈ st, d.1 = z ∧ d.2.1 = i := by
  unfold hF at h
  obtain ⟨d, hd, rfl⟩ := Option.map_eq_some_iff.mp h
  exact ⟨d, List.mem_of_find?_eq_some hd, of_decide_eq_true (List.find?_some (p := fun d : ED => decide (d.1 = z)) hd), rfl⟩
def knB (F : FH) (q : Str) (h : Int) : Bool := match F q with
  | none => false
  | some i => decide (i ≤ h)
def inB (b e h : Int) : Bool := decide (b ≤ h) && decide (h ≤ e)
def siB (q : Str) (b e : Int) (d : ED) : Bool := frB q d && inB b e d.2.1
def baB (p q : Str) (d : ED) : Bool := wyB p d && frB q d
def fitB (st : List ED) : SD → Bool
  | .knew q h => knB (hF st) q h
  | .unh q o => uhB (hF st) q o
  | .sil q b e => !(st.any (siB q b e))
  | .bar p q => !(st.any (baB p q))
inductive FkP (vs : List V) (H : Hp) (Q : VK) : Prop
  | mk (d : Addr) (q : Str) (h : Int) (kvs : List (Key × V)) (F : FH) (e : vs = [.ref d, .str q, .int h]) (hd : H d = some (.dK kvs)) (get : ∀ z, valV kvs (Sum.inr z) = (F z).map V.int) (k : Q (.bl (knB F q h)) H)
def spFk : Sp := fun vs H Q _ => FkP vs H Q
inductive FlP (vs : List V) (H : Hp) (Q : VK) : Prop
  | mk (l : Addr) (us : List V) (st : List ED) (q : Str) (b e : Int) (ev : vs = [.ref l, .str q, .int b, .int e]) (hl : H l = some (.lst us)) (lz : Lz EntL H us st) (sl : st.length ≤ 24) (k : ∀ H', Same H H' → Q (.bl (!(st.any (siB q b e)))) H')
def spFl : Sp := fun vs H Q _ => FlP vs H Q
inductive FbP (vs : List V) (H : Hp) (Q : VK) : Prop
  | mk (l : Addr) (us : List V) (st : List ED) (p q : Str) (ev : vs = [.ref l, .str p, .str q]) (hl : H l = some (.lst us)) (lz : Lz EntL H us st) (sl : st.length ≤ 24) (k : ∀ H', Same H H' → Q (.bl (!(st.any (baB p q)))) H')
def spFb : Sp := fun vs H Q _ => FbP vs H Q
inductive FtP (vs : List V) (H : Hp) (Q : VK) : Prop
  | mk (l a : Addr) (us : List V) (st : List ED) (d : SD) (e : vs = [.ref l, .ref a]) (hl : H l = some (.lst us)) (lz : Lz EntL H us st) (nd : (st.map (·.1)).Nodup) (sl : st.length ≤ 24) (ha : H a = some (.tup d.tup)) (k : ∀ H', Same H H' → Q (.bl (fitB st d)) H')
def spFt : Sp := fun vs H Q _ => FtP vs H Q
def bx (st : List ED) (sd : List SD) : List V := ((List.range sd.length).filter (atP sd fun d => !fitB st d)).map fun i => V.int (i : Nat)
inductive UfP (C : Addr) (vs : List V) (H : Hp) (Q : VK) : Prop
  | mk (x p s t y l : Addr) (ps : List Str) (ss ts ys us : List V) (sd : List SD) (st : List ED) (e : vs = [.ref x, .ref l]) (bk : Bk C H x p s t y ps ss ts ys) (sy : Sys H ys sd) (l60 : ys.length ≤ 60) (hl : H l = some (.lst us)) (lz : Lz EntL H us st) (nd : (st.map (·.1)).Nodup) (sl : st.length ≤ 24)
      (k : ∀ o H', Same H H' → H o = none → H' o = some (.lst (bx st sd)) → Q (.ref o) H')
def spUf (C : Addr) : Sp := fun vs H Q _ => UfP C vs H Q
theorem any_map_bl {α : Type} (f g : α → Bool) (l : List α) : ((l.filter f).map g).any id = l.any fun d => f d && g d := by
  induction l with
  | nil => rfl
  | cons d r ih =>
    rw [List.filter_cons, List.any_cons]
    cases h : f d with
    | true =>
      rw [if_pos rfl, List.map_cons, List.any_cons, ih]
      rfl
    | false =>
      rw [if_neg Bool.false_ne_true, ih]
      rfl
section
variable {P : Program} {w : World} {K : PySem.W.Frag} {mg : Str → Option Value} {base : Heap} {kw C : Addr}
theorem sc_fits_knew : FnScope ["hours", "person", "hour"] ["hours", "person", "hour"] (defScope s_fits_knew) := ⟨rfl, rfl, rfl, by decide +kernel, rfl, by decide +kernel, by decide +kernel⟩
theorem ok_fk {f : Addr} {fd : FuncData} (D : Df K mg "fits_knew" s_fits_knew ["hours", "person", "hour"] f fd) : Gd P w K mg base 1 "fits_knew" spFk := by
  refine J.def_ok D sc_fits_knew (fun vs H Q E h => ?_) (fun X H vs Q E hh h => ?_)
  · obtain ⟨d, q, h, kvs, F, rfl, _⟩ := h
    rfl
  · obtain ⟨d, q, h, kvs, F, rfl, hd, get, k⟩ := h
    have S0 : L2.Slot X 0 "hours" := hh.slot 0 rfl (by first | exact .inl rfl | exact .inr rfl) (by decide) (by decide)
    have S1 : L2.Slot X 1 "person" := hh.slot 1 rfl (by first | exact .inl rfl | exact .inr rfl) (by decide) (by decide)
    have S2 : L2.Slot X 2 "hour" := hh.slot 2 rfl (by first | exact .inl rfl | exact .inr rfl) (by decide) (by decide)
    have hu := hu_of hh.room
    refine ⟨_, (J.pss_one (J.ps_ret (J.pe_and (J.pe_din hu (J.rd S1) (J.rd S0)) (J.pe_one (J.pe_cmpR J.op_le (J.dget hu (J.rd S0) (J.rd S1) J.ix_name) (J.rd S2) (L2.nomark _)))))), ?_⟩
    have dg := DGet.k (k := Sum.inr q) hd
    rw [get] at dg
    unfold knB at k
    cases hF : F q with
    | none =>
      rw [hF] at k dg
      exact ⟨_, rfl, _, rfl, d, _, rfl, dg, _, rfl, iteF k⟩
    | some i =>
      rw [hF] at k dg
      exact ⟨_, rfl, _, rfl, d, _, rfl, dg, _, rfl, iteT ⟨_, rfl, _, rfl, d, _, rfl, dg, _, rfl, _, _, rfl, rfl, k⟩⟩
theorem sc_fits_silent : FnScope ["story", "person", "begin", "end", "heard"] ["story", "person", "begin", "end"] (defScope s_fits_silent) := ⟨rfl, rfl, rfl, by decide +kernel, rfl, by decide +kernel, by decide +kernel⟩
theorem ok_fl {f : Addr} {fd : FuncData} (D : Df K mg "fits_silent" s_fits_silent ["story", "person", "begin", "end"] f fd) (T : Txt K mg kw C) : Gd P w K mg base 1 "fits_silent" spFl := by
  refine J.def_ok D sc_fits_silent (fun vs H Q E h => ?_) (fun X H vs Q E hh h => ?_)
  · obtain ⟨l, us, st, q, b, e, rfl, _⟩ := h
    rfl
  · obtain ⟨l, us, st, q, b, e, rfl, hl, lz, sl, k⟩ := h
    have S0 : L2.Slot X 0 "story" := hh.slot 0 rfl (by first | exact .inl rfl | exact .inr rfl) (by decide) (by decide)
    have S1 : L2.Slot X 1 "person" := hh.slot 1 rfl (by first | exact .inl rfl | exact .inr rfl) (by decide) (by decide)
    have S2 : L2.Slot X 2 "begin" := hh.slot 2 rfl (by first | exact .inl rfl | exact .inr rfl) (by decide) (by decide)
    have S3 : L2.Slot X 3 "end" := hh.slot 3 rfl (by first | exact .inl rfl | exact .inr rfl) (by decide) (by decide)
    have S4 : L2.Slot X 4 "heard" := hh.slot 4 rfl (by first | exact .inl rfl | exact .inr rfl) (by decide) (by decide)
    have B_any : Bt X "any" := hh.bt T.b_any rfl (by decide) (by decide)
    have hsz : sizeLine = 16777216 := sizeLine_eq
    have ul := lz.1
    refine ⟨_, (J.pss_cons (J.setlcG (sc := L2.defScope s_fits_silent) (N := ["story", "person", "begin", "end", "heard"]) (is := [1]) (xs := ["hearer", "hour", "way"]) (ns := ["person"]) S4 hh.nd hh.calm (J.pi_list (J.rd S0)) ⟨rfl, by decide +kernel, by decide +kernel, by decide +kernel, rfl, by decide +kernel⟩ (fun _ _ _ _ _ => (J.pg_tupG (n := 3) hh.calm (J.pgs_c (J.lct (i := 0) (by decide +kernel) rfl rfl) (J.pgs_c (J.lct (i := 1) (by decide +kernel) rfl rfl) (J.pgs_c (J.lct (i := 2) (by decide +kernel) rfl rfl) J.pgs_nil))))) (fun _ _ _ _ _ => (J.pts_one (J.pw_pt (J.pw_and (J.pt_cmpR J.op_eq (J.pe_ix J.ix_tupG (J.lcv (i := 2) rfl rfl (by decide) (by decide)) J.pe_int J.ix_con) J.pe_str (L2.nomark _)) (J.pw_and1 (J.pt_cmpR J.op_eq (J.pe_ix J.ix_tupG (J.lcv (i := 2) rfl rfl (by decide) (by decide)) J.pe_int J.ix_con) (J.lcf (i := 3) rfl rfl (by decide) (by decide)) (L2.nomark _))))))) (fun _ _ _ _ _ => (J.lcv (i := 1) rfl rfl (by decide) (by decide))) hh.hsc hh.hN (by decide +kernel))
 (J.pss_one (J.ps_ret (J.pe_not (J.blt B_any (J.call_anyB hh.calm) L2.bb_any (J.pa_c (J.lcG (sc := L2.defScope s_fits_silent) (N := ["story", "person", "begin", "end", "heard"]) (is := [2, 3]) (xs := ["hour"]) (ns := ["begin", "end"]) hh.calm (J.pi_list (J.rd S4)) ⟨rfl, by decide +kernel, by decide +kernel, by decide +kernel, rfl, by decide +kernel⟩ (fun _ _ _ _ _ => (J.lct (i := 0) (by decide +kernel) rfl rfl)) (fun _ _ _ _ _ => J.pts_nil) (fun _ _ _ _ _ => (J.pe_chain J.op_le J.op_le (J.lcf (i := 1) rfl rfl (by decide) (by decide)) (J.lcv (i := 0) rfl rfl (by decide) (by decide)) (J.lcf (i := 2) rfl rfl (by decide) (by decide)) L2.chain_mark)) hh.hsc hh.hN) J.pa_nil)))))), ?_⟩
    refine ⟨_, rfl, l, rfl, ⟨_, SqL.of hl⟩, lcG_list (xs := us) (atP st (frB q)) (atF st fun d => V.int d.2.1) (SqL.of hl) (by omega) ?_ ?_⟩
    · intro i os v H2 K1 K2 hv hos s2 k1 k2
      match os, hos with
      | [o1, o2, o3], _ =>
        obtain ⟨d, hd, a, rfl, wa, ha, hw⟩ := lz.at hv
        rw [atP_at hd] at k1 k2
        rw [atF_at hd] at k1
        refine ⟨a, _, rfl, SqT.of (s2 _ _ ha), rfl, _, _, rfl, _, _, rfl, _, _, rfl, rfl, ⟨[some (.str d.1), some (.int d.2.1), some (.ref wa)], rfl, rfl⟩, ?_⟩
        obtain ⟨z, h, w⟩ := d
        cases w with
        | saw i' => exact ⟨_, rfl, wa, _, _, _, rfl, rfl, SqT.of (s2 _ _ hw), rfl, rfl, _, rfl, iteN (by decide +kernel) (iteF (k2 rfl H2 (Same.refl _)))⟩
        | hrd kk te =>
          refine ⟨_, rfl, wa, _, _, _, rfl, rfl, SqT.of (s2 _ _ hw), rfl, rfl, _, rfl, iteP (by decide +kernel) ⟨_, rfl, wa, _, _, _, rfl, rfl, SqT.of (s2 _ _ hw), rfl, _, rfl, rfl, _, rfl, ite2 (fun hq => ⟨_, rfl, k1 ?_ H2 (Same.refl _)⟩) (fun hq => k2 ?_ H2 (Same.refl _))⟩⟩
          · exact decide_eq_true (V.str.inj (of_decide_eq_true hq))
          · exact decide_eq_false fun e => hq (decide_eq_true (congrArg V.str e))
    intro o H1 no1 s1 ho
    rw [ul, range_pf] at ho
    have fl := List.length_filter_le (frB q) st
    refine ⟨_, rfl, o, rfl, ⟨_, SqL.of ho⟩, lcG_list (xs := (st.filter (frB q)).map fun d => V.int d.2.1) (atP (st.filter (frB q)) fun _ => true) (atF (st.filter (frB q)) fun d => V.bl (inB b e d.2.1)) (SqL.of ho) (by rw [List.length_map]; omega) ?_ ?_⟩
    · intro i os v H2 K1 K2 hv hos s2 k1 k2
      match os, hos with
      | [o1], _ =>
        rw [List.getElem?_map] at hv
        obtain ⟨d, hd, rfl⟩ := Option.map_eq_some_iff.mp hv
        rw [atP_at hd] at k1
        rw [atF_at hd] at k1
        unfold inB at k1
        refine ⟨⟨[some (.int d.2.1)], rfl, rfl⟩, iteT (B := K2 H2) ⟨_, rfl, _, rfl, _, _, rfl, rfl, _, rfl, ite2 (fun hb => ⟨_, rfl, _, _, rfl, rfl, ?_⟩) (fun hb => ?_)⟩⟩
        · rw [hb, Bool.true_and] at k1
          exact k1 rfl H2 (Same.refl _)
        · rw [eq_false_of_ne_true hb, Bool.false_and] at k1
          exact k1 rfl H2 (Same.refl _)
    · intro D2 H3 hD2 s3 hd3
      rw [List.length_map, range_pf, List.filter_eq_self.mpr (fun _ _ => rfl)] at hd3
      have e2 : ((st.filter (frB q)).map fun d => V.bl (inB b e d.2.1)) = ((st.filter (frB q)).map fun d => inB b e d.2.1).map V.bl := by rw [List.map_map]; rfl
      rw [e2] at hd3
      refine ⟨D2, _, rfl, SqL.of hd3, ?_⟩
      rw [any_map_bl]
      exact ⟨_, rfl, k _ (s1.trans s3)⟩
theorem sc_fits_barred : FnScope ["story", "person", "other", "ways"] ["story", "person", "other"] (defScope s_fits_barred) := ⟨rfl, rfl, rfl, by decide +kernel, rfl, by decide +kernel, by decide +kernel⟩
theorem ok_fb {f : Addr} {fd : FuncData} (D : Df K mg "fits_barred" s_fits_barred ["story", "person", "other"] f fd) (T : Txt K mg kw C) : Gd P w K mg base 1 "fits_barred" spFb := by
  refine J.def_ok D sc_fits_barred (fun vs H Q E h => ?_) (fun X H vs Q E hh h => ?_)
  · obtain ⟨l, us, st, p, q, rfl, _⟩ := h
    rfl
  · obtain ⟨l, us, st, p, q, rfl, hl, lz, sl, k⟩ := h
    have S0 : L2.Slot X 0 "story" := hh.slot 0 rfl (by first | exact .inl rfl | exact .inr rfl) (by decide) (by decide)
    have S1 : L2.Slot X 1 "person" := hh.slot 1 rfl (by first | exact .inl rfl | exact .inr rfl) (by decide) (by decide)
    have S2 : L2.Slot X 2 "other" := hh.slot 2 rfl (by first | exact .inl rfl | exact .inr rfl) (by decide) (by decide)
    have S3 : L2.Slot X 3 "ways" := hh.slot 3 rfl (by first | exact .inl rfl | exact .inr rfl) (by decide) (by decide)
    have B_any : Bt X "any" := hh.bt T.b_any rfl (by decide) (by decide)
    have hsz : sizeLine = 16777216 := sizeLine_eq
    obtain ⟨ws, we, wr⟩ := ways_ex lz
    have ul := lz.1
    have wl : ws.length = st.length := by rw [← we, List.length_map]
    have wat : ∀ {i : Nat} {v : V}, us[i]? = some v → ∃ pr, ws[i]? = some pr := fun h => ⟨_, List.getElem?_eq_getElem (by rw [wl, ← ul]; exact (List.getElem?_eq_some_iff.mp h).1)⟩
    refine ⟨_, (J.pss_cons (J.setlcG (sc := L2.defScope s_fits_barred) (N := ["story", "person", "other", "ways"]) (is := [1]) (xs := ["hearer", "hour", "way"]) (ns := ["person"]) S3 hh.nd hh.calm (J.pi_list (J.rd S0)) ⟨rfl, by decide +kernel, by decide +kernel, by decide +kernel, rfl, by decide +kernel⟩ (fun _ _ _ _ _ => (J.pg_tupG (n := 3) hh.calm (J.pgs_c (J.lct (i := 0) (by decide +kernel) rfl rfl) (J.pgs_c (J.lct (i := 1) (by decide +kernel) rfl rfl) (J.pgs_c (J.lct (i := 2) (by decide +kernel) rfl rfl) J.pgs_nil))))) (fun _ _ _ _ _ => (J.pts_one (J.pw_pt (J.pw_and (J.pt_cmpR J.op_eq (J.lcv (i := 0) rfl rfl (by decide) (by decide)) (J.lcf (i := 3) rfl rfl (by decide) (by decide)) (L2.nomark _)) (J.pw_and1 (J.pt_cmpR J.op_eq (J.pe_ix J.ix_tupG (J.lcv (i := 2) rfl rfl (by decide) (by decide)) J.pe_int J.ix_con) J.pe_str (L2.nomark _))))))) (fun _ _ _ _ _ => (J.lcv (i := 2) rfl rfl (by decide) (by decide))) hh.hsc hh.hN (by decide +kernel))
 (J.pss_one (J.ps_ret (J.pe_not (J.blt B_any (J.call_anyB hh.calm) L2.bb_any (J.pa_c (J.lcG (sc := L2.defScope s_fits_barred) (N := ["story", "person", "other", "ways"]) (is := [2]) (xs := ["way"]) (ns := ["other"]) hh.calm (J.pi_list (J.rd S3)) ⟨rfl, by decide +kernel, by decide +kernel, by decide +kernel, rfl, by decide +kernel⟩ (fun _ _ _ _ _ => (J.lct (i := 0) (by decide +kernel) rfl rfl)) (fun _ _ _ _ _ => J.pts_nil) (fun _ _ _ _ _ => (J.pe_cmpR J.op_eq (J.pe_ix J.ix_tupG (J.lcv (i := 0) rfl rfl (by decide) (by decide)) J.pe_int J.ix_con) (J.lcf (i := 1) rfl rfl (by decide) (by decide)) (L2.nomark _))) hh.hsc hh.hN) J.pa_nil)))))), ?_⟩
    refine ⟨_, rfl, l, rfl, ⟨_, SqL.of hl⟩, lcG_list (xs := us) (atP ws fun pr => wyB p pr.2) (atF ws fun pr => V.ref pr.1) (SqL.of hl) (by omega) ?_ ?_⟩
    · intro i os v H2 K1 K2 hv hos s2 k1 k2
      match os, hos with
      | [o1, o2, o3], _ =>
        obtain ⟨⟨wa, d⟩, hpr⟩ := wat hv
        obtain ⟨a, rfl, ha, hw⟩ := wr i _ _ hv hpr
        rw [atP_at hpr] at k1 k2
        rw [atF_at hpr] at k1
        refine ⟨a, _, rfl, SqT.of (s2 _ _ ha), rfl, _, _, rfl, _, _, rfl, _, _, rfl, rfl, ⟨[some (.str d.1), some (.int d.2.1), some (.ref wa)], rfl, rfl⟩, ?_⟩
        obtain ⟨z, h, w⟩ := d
        refine ⟨_, rfl, _, rfl, rfl, _, rfl, ite2 (fun e1 => ?_) (fun e1 => iteF (k2 ?_ H2 (Same.refl _)))⟩
        · have e1' : z = p := V.str.inj (of_decide_eq_true e1)
          cases w with
          | saw i' =>
            refine ⟨_, rfl, wa, _, _, _, rfl, rfl, SqT.of (s2 _ _ hw), rfl, rfl, _, rfl, iteN (by decide +kernel) (k2 ?_ H2 (Same.refl _))⟩
            exact Bool.and_false _
          | hrd kk te =>
            refine ⟨_, rfl, wa, _, _, _, rfl, rfl, SqT.of (s2 _ _ hw), rfl, rfl, _, rfl, iteP (by decide +kernel) ⟨_, rfl, k1 ?_ H2 (Same.refl _)⟩⟩
            show (decide (z = p) && true) = true
            rw [decide_eq_true e1']
            rfl
        · show (decide (z = p) && _) = false
          rw [decide_eq_false fun e => e1 (decide_eq_true (congrArg V.str e))]
          rfl
    intro o H1 no1 s1 ho
    rw [ul, ← wl, range_pf] at ho
    have fl := List.length_filter_le (fun pr : Addr × ED => wyB p pr.2) ws
    refine ⟨_, rfl, o, rfl, ⟨_, SqL.of ho⟩, lcG_list (xs := (ws.filter fun pr => wyB p pr.2).map fun pr => V.ref pr.1) (atP (ws.filter fun pr => wyB p pr.2) fun _ => true) (atF (ws.filter fun pr => wyB p pr.2) fun pr => V.bl (frB q pr.2)) (SqL.of ho) (by rw [List.length_map]; omega) ?_ ?_⟩
    · intro i os v H2 K1 K2 hv hos s2 k1 k2
      match os, hos with
      | [o1], _ =>
        rw [List.getElem?_map] at hv
        obtain ⟨⟨wa, d⟩, hd, rfl⟩ := Option.map_eq_some_iff.mp hv
        rw [atP_at hd] at k1
        rw [atF_at hd] at k1
        obtain ⟨md, mf⟩ := List.mem_filter.mp (List.mem_of_getElem? hd)
        obtain ⟨j, hj⟩ := List.getElem?_of_mem md
        obtain ⟨vj, hvj⟩ : ∃ vj, us[j]? = some vj := ⟨_, List.getElem?_eq_getElem (by rw [ul, ← wl]; exact (List.getElem?_eq_some_iff.mp hj).1)⟩
        obtain ⟨a, _, _, hw⟩ := wr j _ _ hvj hj
        obtain ⟨z, h, w⟩ := d
        cases w with
        | saw i' =>
          have mf' : (decide (z = p) && false) = true := mf
          rw [Bool.and_false] at mf'
          cases mf'
        | hrd kk te =>
          refine ⟨⟨[some (.ref wa)], rfl, rfl⟩, iteT (B := K2 H2) ⟨_, rfl, wa, _, _, _, rfl, rfl, SqT.of (s2 _ _ (s1 _ _ hw)), rfl, _, rfl, rfl, ?_⟩⟩
          have e3 : decide (V.str te = V.str q) = frB q (z, h, .hrd kk te) := decide_eq_decide.mpr ⟨fun e => V.str.inj e, fun e => congrArg V.str e⟩
          rw [e3]
          exact k1 rfl H2 (Same.refl _)
    · intro D2 H3 hD2 s3 hd3
      rw [List.length_map, range_pf, List.filter_eq_self.mpr (fun _ _ => rfl)] at hd3
      have e2 : ((ws.filter fun pr => wyB p pr.2).map fun pr => V.bl (frB q pr.2)) = ((ws.filter fun pr => wyB p pr.2).map fun pr => frB q pr.2).map V.bl := by rw [List.map_map]; rfl
      rw [e2] at hd3
      refine ⟨D2, _, rfl, SqL.of hd3, ?_⟩
      rw [any_map_bl]
      have e4 : (ws.any fun pr => wyB p pr.2 && frB q pr.2) = st.any (baB p q) := by rw [← we, List.any_map]; rfl
      rw [e4]
      exact ⟨_, rfl, k _ (s1.trans s3)⟩
theorem sc_fits : FnScope ["story", "saying"] ["story", "saying"] (defScope s_fits) := ⟨rfl, rfl, rfl, by decide +kernel, rfl, by decide +kernel, by decide +kernel⟩
theorem ok_ft {f : Addr} {fd : FuncData} (D : Df K mg "fits" s_fits ["story", "saying"] f fd) (G_hours_in : Gd P w K mg base 1 "hours_in" spHi) (G_fits_knew : Gd P w K mg base 1 "fits_knew" spFk) (G_fits_unheard : Gd P w K mg base 1 "fits_unheard" spFu) (G_fits_silent : Gd P w K mg base 1 "fits_silent" spFl) (G_fits_barred : Gd P w K mg base 1 "fits_barred" spFb) : Gd P w K mg base 2 "fits" spFt := by
  refine J.def_ok D sc_fits (fun vs H Q E h => ?_) (fun X H vs Q E hh h => ?_)
  · obtain ⟨l, a, us, st, d, rfl, _⟩ := h
    rfl
  · obtain ⟨l, a, us, st, d, rfl, hl, lz, nd, sl, ha, k⟩ := h
    have S0 : L2.Slot X 0 "story" := hh.slot 0 rfl (by first | exact .inl rfl | exact .inr rfl) (by decide) (by decide)
    have S1 : L2.Slot X 1 "saying" := hh.slot 1 rfl (by first | exact .inl rfl | exact .inr rfl) (by decide) (by decide)
    have C_fits_barred := hh.cal G_fits_barred rfl (by first | decide | exact Nat.le_refl _) (by decide)
    have C_fits_knew := hh.cal G_fits_knew rfl (by first | decide | exact Nat.le_refl _) (by decide)
    have C_fits_silent := hh.cal G_fits_silent rfl (by first | decide | exact Nat.le_refl _) (by decide)
    have C_fits_unheard := hh.cal G_fits_unheard rfl (by first | decide | exact Nat.le_refl _) (by decide)
    have C_hours_in := hh.cal G_hours_in rfl (by first | decide | exact Nat.le_refl _) (by decide)
    refine ⟨_, (J.pss_cons (J.ps_if (J.pt_cmpR J.op_eq (J.pe_ix J.ix_tup (J.rd S1) J.pe_int J.ix_con) J.pe_str (L2.nomark _))
 (J.pss_one (J.ps_ret (J.cal C_fits_knew (J.pa_c (J.cal C_hours_in (J.pa_c (J.rd S0) J.pa_nil)) (J.pa_c (J.pe_ix J.ix_tup (J.rd S1) J.pe_int J.ix_con) (J.pa_c (J.pe_ix J.ix_tup (J.rd S1) J.pe_int J.ix_con) J.pa_nil))))))
 J.pss_nil)
 (J.pss_cons (J.ps_if (J.pt_cmpR J.op_eq (J.pe_ix J.ix_tup (J.rd S1) J.pe_int J.ix_con) J.pe_str (L2.nomark _))
 (J.pss_one (J.ps_ret (J.cal C_fits_unheard (J.pa_c (J.cal C_hours_in (J.pa_c (J.rd S0) J.pa_nil)) (J.pa_c (J.pe_ix J.ix_tup (J.rd S1) J.pe_int J.ix_con) (J.pa_c (J.pe_ix J.ix_tup (J.rd S1) J.pe_int J.ix_con) J.pa_nil))))))
 J.pss_nil)
 (J.pss_cons (J.ps_if (J.pt_cmpR J.op_eq (J.pe_ix J.ix_tup (J.rd S1) J.pe_int J.ix_con) J.pe_str (L2.nomark _))
 (J.pss_one (J.ps_ret (J.cal C_fits_silent (J.pa_c (J.rd S0) (J.pa_c (J.pe_ix J.ix_tup (J.rd S1) J.pe_int J.ix_con) (J.pa_c (J.pe_ix J.ix_tup (J.rd S1) J.pe_int J.ix_con) (J.pa_c (J.pe_ix J.ix_tup (J.rd S1) J.pe_int J.ix_con) J.pa_nil)))))))
 J.pss_nil)
 (J.pss_one (J.ps_ret (J.cal C_fits_barred (J.pa_c (J.rd S0) (J.pa_c (J.pe_ix J.ix_tup (J.rd S1) J.pe_int J.ix_con) (J.pa_c (J.pe_ix J.ix_tup (J.rd S1) J.pe_int J.ix_con) J.pa_nil))))))))), ?_⟩
    cases d with
    | knew q h =>
      refine ⟨_, rfl, a, _, _, _, rfl, rfl, SqT.of ha, rfl, rfl, _, rfl, iteP (by decide +kernel) ⟨_, rfl, l, us, st, rfl, hl, lz, nd, sl, fun kn H1 s1 hk => ?_⟩⟩
      exact ⟨_, rfl, a, _, _, _, rfl, rfl, SqT.of (s1 _ _ ha), rfl, _, rfl, a, _, _, _, rfl, rfl, SqT.of (s1 _ _ ha), rfl, kn, q, h, _, hF st, rfl, hk, kvOf_getF st, k _ s1⟩
    | unh q o =>
      refine ⟨_, rfl, a, _, _, _, rfl, rfl, SqT.of ha, rfl, rfl, _, rfl, iteN (by decide +kernel) ⟨_, rfl, a, _, _, _, rfl, rfl, SqT.of ha, rfl, rfl, _, rfl, iteP (by decide +kernel) ⟨_, rfl, l, us, st, rfl, hl, lz, nd, sl, fun kn H1 s1 hk => ?_⟩⟩⟩
      exact ⟨_, rfl, a, _, _, _, rfl, rfl, SqT.of (s1 _ _ ha), rfl, _, rfl, a, _, _, _, rfl, rfl, SqT.of (s1 _ _ ha), rfl, kn, q, o, _, hF st, rfl, hk, kvOf_getF st, k _ s1⟩
    | sil q b e =>
      refine ⟨_, rfl, a, _, _, _, rfl, rfl, SqT.of ha, rfl, rfl, _, rfl, iteN (by decide +kernel) ⟨_, rfl, a, _, _, _, rfl, rfl, SqT.of ha, rfl, rfl, _, rfl, iteN (by decide +kernel) ⟨_, rfl, a, _, _, _, rfl, rfl, SqT.of ha, rfl, rfl, _, rfl, iteP (by decide +kernel) ?_⟩⟩⟩
      exact ⟨_, rfl, _, rfl, a, _, _, _, rfl, rfl, SqT.of ha, rfl, _, rfl, a, _, _, _, rfl, rfl, SqT.of ha, rfl, _, rfl, a, _, _, _, rfl, rfl, SqT.of ha, rfl, l, us, st, q, b, e, rfl, hl, lz, sl, k⟩
    | bar p o =>
      refine ⟨_, rfl, a, _, _, _, rfl, rfl, SqT.of ha, rfl, rfl, _, rfl, iteN (by decide +kernel) ⟨_, rfl, a, _, _, _, rfl, rfl, SqT.of ha, rfl, rfl, _, rfl, iteN (by decide +kernel) ⟨_, rfl, a, _, _, _, rfl, rfl, SqT.of ha, rfl, rfl, _, rfl, iteN (by decide +kernel) ?_⟩⟩⟩
      exact ⟨_, rfl, _, rfl, a, _, _, _, rfl, rfl, SqT.of ha, rfl, _, rfl, a, _, _, _, rfl, rfl, SqT.of ha, rfl, l, us, st, p, o, rfl, hl, lz, sl, k⟩
theorem sc_unfitted : FnScope ["book", "story"] ["book", "story"] (defScope s_unfitted) := ⟨rfl, rfl, rfl, by decide +kernel, rfl, by decide +kernel, by decide +kernel⟩
theorem ok_uf {f : Addr} {fd : FuncData} (D : Df K mg "unfitted" s_unfitted ["book", "story"] f fd) (T : Txt K mg kw C) (G_sayings : Md P w K mg base 1 C "sayings" (spTell1 C fun _ _ _ y => y)) (G_fits : Gd P w K mg base 2 "fits" spFt) : Gd P w K mg base 3 "unfitted" (spUf C) := by
  refine J.def_ok D sc_unfitted (fun vs H Q E h => ?_) (fun X H vs Q E hh h => ?_)
  · obtain ⟨x, p, s, t, y, l, ps, ss, ts, ys, us, sd, st, rfl, _⟩ := h
    rfl
  · obtain ⟨x, p, s, t, y, l, ps, ss, ts, ys, us, sd, st, rfl, bk, sy, l60, hl, lz, nd, sl, k⟩ := h
    have S0 : L2.Slot X 0 "book" := hh.slot 0 rfl (by first | exact .inl rfl | exact .inr rfl) (by decide) (by decide)
    have S1 : L2.Slot X 1 "story" := hh.slot 1 rfl (by first | exact .inl rfl | exact .inr rfl) (by decide) (by decide)
    have B_enumerate : Bt X "enumerate" := hh.bt T.b_enumerate rfl (by decide) (by decide)
    have CI_fits := hh.cali G_fits (by first | decide | exact Nat.le_refl _) (by decide)
    have M_sayings := hh.met G_sayings (by decide)
    have hsz : sizeLine = 16777216 := sizeLine_eq
    refine ⟨_, (J.pss_one (J.ps_ret (J.lcG (sc := L2.defScope s_unfitted) (N := ["book", "story"]) (is := [1]) (xs := ["k", "saying"]) (ns := ["story"]) hh.calm (J.pi_enum B_enumerate (J.pa_c (J.met0 M_sayings (J.rd S0) rfl) J.pa_nil)) ⟨rfl, by decide +kernel, by decide +kernel, by decide +kernel, rfl, by decide +kernel⟩ (fun _ _ _ _ _ => (J.pg_tupG (n := 2) hh.calm (J.pgs_c (J.lct (i := 0) (by decide +kernel) rfl rfl) (J.pgs_c (J.lct (i := 1) (by decide +kernel) rfl rfl) J.pgs_nil)))) (fun _ _ _ _ _ => (J.pts_one (J.pt_not (J.pt_call (J.cal (CI_fits.lg rfl) (J.pa_c (J.lcf (i := 2) rfl rfl (by decide) (by decide)) (J.pa_c (J.lcv (i := 1) rfl rfl (by decide) (by decide)) J.pa_nil))))))) (fun _ _ _ _ _ => (J.lcv (i := 0) rfl rfl (by decide) (by decide))) hh.hsc hh.hN))), ?_⟩
    obtain ⟨⟨dx, hx⟩, hp, hs, ht, hy⟩ := id bk
    refine ⟨_, rfl, x, dx, _, rfl, hx, fld_no _ _ _ _ (by decide +kernel) (by decide +kernel) (by decide +kernel) (by decide +kernel), x, p, s, t, y, ys, rfl, ⟨dx, hx⟩, hy, fun yl nyl => ?_⟩
    have s1 := Same.upd (o := .lst ys) nyl
    have hyl : upd H yl (.lst ys) yl = some (.lst ys) := upd_same
    generalize upd H yl (.lst ys) = H1 at s1 hyl
    refine ⟨yl, rfl, ⟨_, SqL.of hyl⟩, lcG_enum (xs := ys) (atP sd fun d => !fitB st d) (fun i => V.int (i : Nat)) (SqL.of hyl) (by omega) ?_ ?_⟩
    · intro i os v q H2 K1 K2 hv hos s3 hq k1 k2
      match os, hos with
      | [o1, o2], _ =>
        obtain ⟨d, a, hd, rfl, ha⟩ := sy.at hv
        rw [atP_at hd] at k1 k2
        have s4 := Same.upd (o := .tup [.int i, .ref a]) hq
        have s14 := (s1.trans s3).trans s4
        refine ⟨q, _, rfl, SqT.of upd_same, rfl, _, _, rfl, _, _, rfl, rfl, ⟨[_, _], rfl, rfl⟩, ?_⟩
        refine ⟨_, rfl, _, rfl, l, a, us, st, d, rfl, s14 _ _ hl, lz.mono (EntL.mono (Tk.of s14)), nd, sl, s14 _ _ ha, fun H5 s5 => ⟨_, rfl, ite2 (fun hb => ⟨_, rfl, k1 hb _ (s4.trans s5)⟩) (fun hb => k2 (eq_false_of_ne_true hb) _ (s4.trans s5))⟩⟩
    · intro D' H' hD' s' hd'
      rw [sy.1] at hd'
      exact k D' H' (s1.trans s') (s1.free hD') hd'
end
end K15

namespace K15
open PySem L2
/-! ### what the law's own defs make -/
inductive spNamesP  (vs : List V) (H : Hp) (Q : VK) : Prop
  | mk (n : Int) (h0 : vs = [.int n]) (h1 : ∀ (l : Addr) (us : List Str) (H' : Hp), Same H H' → H l = none → H' l = some (.lst (us.map V.str)) → NamesOk us → Q (.ref l) H')
def spNames  : Sp := fun vs H Q _ => spNamesP  vs H Q
inductive spHourLP  (vs : List V) (H : Hp) (Q : VK) : Prop
  | mk (n : Int) (h0 : vs = [.int n]) (h1 : ∀ h : Int, HourOk h → Q (.int h) H)
def spHourL  : Sp := fun vs H Q _ => spHourLP  vs H Q
inductive spTaleLP  (vs : List V) (H : Hp) (Q : VK) : Prop
  | mk (n : Int) (l : Addr) (us : List Str) (h0 : vs = [.int n, .ref l]) (h1 : H l = some (.lst (us.map V.str))) (h2 : NamesOk us) (h3 : ∀ (t : Addr) (ws : List Str) (H' : Hp), Same H H' → H' t = some (.tup (ws.map V.str)) → 1 ≤ ws.length → ws.length ≤ 6 → (∀ x ∈ ws, nameS x = true) → Q (.ref t) H')
def spTaleL  : Sp := fun vs H Q _ => spTaleLP  vs H Q
inductive spTalkLP  (vs : List V) (H : Hp) (Q : VK) : Prop
  | mk (n : Int) (l : Addr) (ps : List Str) (h0 : vs = [.int n, .ref l]) (h1 : H l = some (.lst (ps.map V.str))) (h2 : PersOk ps) (h3 : 2 ≤ ps.length) (h4 : ∀ (v : V) (H' : Hp), Same H H' → TalkIn ps H' v → Q v H')
def spTalkL  : Sp := fun vs H Q _ => spTalkLP  vs H Q
inductive spSayLP  (vs : List V) (H : Hp) (Q : VK) : Prop
  | mk (n : Int) (l : Addr) (ps : List Str) (h0 : vs = [.int n, .ref l]) (h1 : H l = some (.lst (ps.map V.str))) (h2 : PersOk ps) (h3 : ∀ (v : V) (H' : Hp), Same H H' → SayIn ps H' v → Q v H')
def spSayL  : Sp := fun vs H Q _ => spSayLP  vs H Q
inductive spBookLP  (K : PySem.W.Frag) (vs : List V) (H : Hp) (Q : VK) : Prop
  | mk (a : Addr) (ns : List Int) (h0 : vs = [.ref a, .int 12]) (h1 : SqL K H a (ns.map V.int)) (h2 : ns.length ≤ 63) (h3 : ∀ (r p s t y : Addr) (ps : List Str) (ss ts ys : List V) (H' : Hp), Same H H' → H r = none → H p = none → H s = none → H t = none → H y = none → [r, p, s, t, y].Nodup → H' r = some (.lst [.ref p, .ref s, .ref t, .ref y]) → H' p = some (.lst (ps.map V.str)) → H' s = some (.lst ss) → H' t = some (.lst ts) → H' y = some (.lst ys) →     Parts H' ps ss ts ys → ts.length ≤ 60 → ys.length ≤ 60 → Q (.ref r) H')
def spBookL  (K : PySem.W.Frag) : Sp := fun vs H Q _ => spBookLP K vs H Q
section
variable {P : Program} {w : World} {K : PySem.W.Frag} {mg : Str → Option Value} {base : Heap} {kw C : Addr}
theorem sc_l_names : FnScope ["_law_cell", "_law_letters", "_law_number", "_law_many", "_law_stem", "_law_at", "_law_more", "_law_names_here", "_law_k", "_law_name"] ["_law_cell"] (defScope s_l_names) := ⟨rfl, rfl, rfl, by decide +kernel, rfl, by decide +kernel, by decide +kernel⟩
theorem ok_l_names {f : Addr} {fd : FuncData} (D : Df K mg "_law_names" s_l_names ["_law_cell"] f fd) (T : Txt K mg kw C) : Gd P w K mg base 1 "_law_names" spNames := by
  refine J.def_ok D sc_l_names (fun vs H Q E h => ?_) (fun X H vs Q E hh h => ?_)
  · obtain ⟨n, rfl, _⟩ := h
    rfl
  · obtain ⟨n, rfl, k⟩ := h
    have S0 : L2.Slot X 0 "_law_cell" := hh.slot 0 rfl (by first | exact .inl rfl | exact .inr rfl) (by decide) (by decide)
    have S1 : L2.Slot X 1 "_law_letters" := hh.slot 1 rfl (by first | exact .inl rfl | exact .inr rfl) (by decide) (by decide)
    have S2 : L2.Slot X 2 "_law_number" := hh.slot 2 rfl (by first | exact .inl rfl | exact .inr rfl) (by decide) (by decide)
    have S3 : L2.Slot X 3 "_law_many" := hh.slot 3 rfl (by first | exact .inl rfl | exact .inr rfl) (by decide) (by decide)
    have S4 : L2.Slot X 4 "_law_stem" := hh.slot 4 rfl (by first | exact .inl rfl | exact .inr rfl) (by decide) (by decide)
    have S5 : L2.Slot X 5 "_law_at" := hh.slot 5 rfl (by first | exact .inl rfl | exact .inr rfl) (by decide) (by decide)
    have S6 : L2.Slot X 6 "_law_more" := hh.slot 6 rfl (by first | exact .inl rfl | exact .inr rfl) (by decide) (by decide)
    have S7 : L2.Slot X 7 "_law_names_here" := hh.slot 7 rfl (by first | exact .inl rfl | exact .inr rfl) (by decide) (by decide)
    have S8 : L2.Slot X 8 "_law_k" := hh.slot 8 rfl (by first | exact .inl rfl | exact .inr rfl) (by decide) (by decide)
    have S9 : L2.Slot X 9 "_law_name" := hh.slot 9 rfl (by first | exact .inl rfl | exact .inr rfl) (by decide) (by decide)
    have B_range : Bt X "range" := hh.bt T.b_range rfl (by decide) (by decide)
    have hsz : sizeLine = 16777216 := sizeLine_eq
    refine ⟨_, (J.pss_cons (J.set S1 hh.nd J.pe_str)
 (J.pss_cons (J.set S2 hh.nd (J.pe_op J.op_mod (J.pe_op J.op_mul (J.pe_op J.op_add (J.pe_op J.op_mod (J.rd S0) (J.pe_op J.op_pow J.pe_int J.pe_int)) J.pe_int) J.pe_int) J.pe_int))
 (J.pss_cons (J.set S3 hh.nd (J.pe_op J.op_mod (J.rd S2) J.pe_int))
 (J.pss_cons (J.set S4 hh.nd (J.bm PySem.F.plainAttrs_str PySem.F.slot_str_join PySem.F.type_str_join J.mt_join J.pe_str (J.pa_c (J.pe_lcB (sc := L2.defScope s_l_names) (N := ["_law_cell", "_law_letters", "_law_number", "_law_many", "_law_stem", "_law_at", "_law_more", "_law_names_here", "_law_k", "_law_name"]) (is := [1, 2]) (ns := ["_law_letters", "_law_number"]) hh.calm (J.pi_range1 B_range (J.pa_c (J.rd S3) J.pa_nil)) ⟨rfl, by decide +kernel, by decide +kernel, by decide +kernel, rfl, rfl, by decide +kernel, by decide +kernel⟩ (fun _ _ _ _ _ => (J.pe_ix J.ix_str (J.lcc (i := 0) rfl rfl (by decide) (by decide)) (J.pe_op J.op_mod (J.pe_op J.op_add (J.pe_op J.op_fdiv (J.lcc (i := 1) rfl rfl (by decide) (by decide)) J.pe_int) (J.pe_op J.op_mul (J.pe_op J.op_mul J.pe_int (J.lc0 rfl (by decide) (by decide))) (J.lc0 rfl (by decide) (by decide)))) J.pe_int) J.ix_op)) hh.hsc hh.hN) J.pa_nil)))
 (J.pss_cons (J.set S5 hh.nd (J.pe_op J.op_mod (J.pe_op J.op_fdiv (J.rd S2) J.pe_int) (J.pe_op J.op_add (J.rd S3) J.pe_int)))
 (J.pss_cons (J.set S6 hh.nd (J.pe_ix J.ix_str (J.rd S1) (J.pe_op J.op_mod (J.pe_op J.op_fdiv (J.rd S2) J.pe_int) J.pe_int) J.ix_op))
 (J.pss_cons (J.set S7 hh.nd (J.pe_lst J.pa_nil))
 (J.pss_cons (J.ps_for hh.own hh.calm (J.pi_range1 B_range (J.pa_c J.pe_int J.pa_nil)) (J.tgt S8 hh.nd)
 (J.pss_cons (J.set S9 hh.nd (J.pe_op J.op_add_str (J.pe_op J.op_add_str (J.pe_slice J.sl_str (J.rd S4) J.po_none (J.po_some (J.rd S5))) (J.pe_ix J.ix_str (J.rd S1) (J.pe_op J.op_mod (J.pe_op J.op_add (J.pe_op J.op_fdiv (J.rd S2) J.pe_int) (J.pe_op J.op_mul J.pe_int (J.rd S8))) J.pe_int) J.ix_op)) (J.pe_slice J.sl_str (J.rd S4) (J.po_some (J.rd S5)) J.po_none)))
 (J.pss_one (J.set S7 hh.nd (J.pe_op J.op_catS (J.rd S7) (J.pe_lst (J.pa_c (J.rd S9) (J.pa_c (J.pe_op J.op_add_str (J.rd S9) (J.rd S6)) J.pa_nil))))))))
 (J.pss_one (J.ps_ret (J.rd S7))))))))))), ?_⟩
    refine ⟨_, rfl, _, _, rfl, rfl, ⟨by decide, by decide, by decide⟩, _, _, rfl, rfl, (by show (0 : Int) < 10 ^ Int.toNat 15; decide +kernel), _, _, rfl, rfl, _, _, rfl, rfl, .inr ⟨by decide, by decide⟩, _, _, rfl, rfl, (by show (0 : Int) < 2147483647; decide), ?_⟩
    dsimp only
    generalize (n % 10 ^ Int.toNat 15 + 7) * 48271 % 2147483647 = N
    refine ⟨_, rfl, _, _, rfl, rfl, (by show (0 : Int) < 11; decide), ?_⟩
    have m0 : 0 ≤ N % 11 := Int.emod_nonneg _ (by decide)
    have m1 : N % 11 < 11 := Int.emod_lt_of_pos _ (by decide)
    dsimp only
    generalize N % 11 = M at m0 m1
    have a22 : ∀ x : Int, 0 ≤ x % 22 ∧ x % 22 < 22 := fun x => ⟨Int.emod_nonneg _ (by decide), Int.emod_lt_of_pos _ (by decide)⟩
    refine ⟨rfl, _, rfl, M, rfl, by omega, by omega, lc_range (lo := 0) (n := M.toNat) (fun v => match v with | .int i => .str ⟨#[letAt ((N / 11 + 5 * i * i) % 22)]⟩ | _ => .non) (by omega) (fun i H2 Q' hi sm q' => ?_) (fun D' hD => ?_)⟩
    · refine ⟨_, rfl, _, rfl, _, _, rfl, rfl, ⟨by decide, by decide⟩, _, rfl, _, _, rfl, rfl, .inl ⟨by decide, by decide⟩, _, rfl, _, _, rfl, rfl, .inr ⟨by omega, by omega⟩, _, _, rfl, rfl, _, _, rfl, rfl, (by show (0 : Int) < 22; decide), lets, _, _, rfl, rfl, (by show lets.length ≤ sizeLine; decide +kernel), (letAt_at (a22 _).1 (a22 _).2).1, q'⟩
    · refine ⟨"", D', (List.range M.toNat).map fun (i : Nat) => (⟨#[letAt ((N / 11 + 5 * (0 + (i : Int)) * (0 + (i : Int))) % 22)]⟩ : Str), rfl, rfl, SqL.of (upd_same.trans (by rw [List.map_map]; rfl)), ?_, ?_⟩
      · have l1 : ∀ zs : List Str, (∀ z ∈ zs, z.length = 1) → (zs.map (·.length)).sum = zs.length := fun zs => by
          induction zs with
          | nil => intro _; rfl
          | cons z r ih => intro hz; rw [List.map_cons, List.sum_cons, ih fun y hy => hz y (List.mem_cons_of_mem _ hy), hz z (List.mem_cons_self ..), List.length_cons]; omega
        rw [l1 _ (fun z hz => by obtain ⟨i, _, rfl⟩ := List.mem_map.mp hz; rfl), List.length_map, List.length_range]
        have : ("" : Str).length = 0 := by decide +kernel
        rw [this]
        omega
      · generalize hzs : (List.range M.toNat).map (fun (i : Nat) => (⟨#[letAt ((N / 11 + 5 * (0 + (i : Int)) * (0 + (i : Int))) % 22)]⟩ : Str)) = zs
        have one : ∀ z ∈ zs, z.length = 1 ∧ LetS z := fun z hz => by
          rw [← hzs] at hz
          obtain ⟨i, _, rfl⟩ := List.mem_map.mp hz
          exact ⟨rfl, one_let (letAt_at (a22 _).1 (a22 _).2).2⟩
        have zl : zs.length = M.toNat := by rw [← hzs, List.length_map, List.length_range]
        have sl : (Txt.join "" zs).length = M.toNat := (PySem.W.KT.join_ones zs fun z hz => (one z hz).1).trans zl
        have sL : LetS (Txt.join "" zs) := by
          show LetS (Builtin.Str.glued "" zs)
          rw [StrLaws.glued_eq_join]
          exact join_let "" (fun c hc => by have : c ∈ ([] : List Nat) := hc; cases this) zs fun z hz => (one z hz).2
        generalize Txt.join "" zs = stem at sl sL
        have sz : (upd H D' (.lst (zs.map V.str))) = (upd H D' (.lst (zs.map V.str))) := rfl
        refine ⟨_, rfl, _, _, rfl, rfl, ⟨by decide, by decide⟩, _, rfl, _, _, rfl, rfl, _, _, rfl, rfl, (by omega), ?_⟩
        have t0 : 0 ≤ N / 276 % (M + 1) := Int.emod_nonneg _ (by omega)
        have t1 : N / 276 % (M + 1) < M + 1 := Int.emod_lt_of_pos _ (by omega)
        dsimp only
        generalize N / 276 % (M + 1) = A at t0 t1
        have aA : ((A.toNat : Nat) : Int) = A := Int.toNat_of_nonneg t0
        have aL : A.toNat ≤ stem.length := by omega
        have s10 : stem.length ≤ 10 := by
          clear aA aL t0 t1
          omega
        clear sl t1 m0 m1 zl
        refine ⟨_, rfl, _, rfl, _, _, rfl, rfl, ⟨by decide, by decide⟩, _, _, rfl, rfl, (by show (0 : Int) < 22; decide), lets, _, _, rfl, rfl, (by show lets.length ≤ sizeLine; decide +kernel), (letAt_at (a22 _).1 (a22 _).2).1, ?_⟩
        generalize hmr : letAt (N / 13 % 22) = mr
        have mrl : mr ∈ lets.cps.toList := by rw [← hmr]; exact (letAt_at (a22 _).1 (a22 _).2).2
        refine ⟨by show 0 ≤ sizeLine; decide, fun p0 hp0 => ?_⟩
        have sm0 := (Same.upd (o := .lst ((List.range M.toNat).map fun (i : Nat) => V.str ⟨#[letAt ((N / 11 + 5 * (0 + (i : Int)) * (0 + (i : Int))) % 22)]⟩)) hD).trans (Same.upd (o := .lst []) hp0)
        have h0n : H p0 = none := (Same.upd (o := .lst ((List.range M.toNat).map fun (i : Nat) => V.str ⟨#[letAt ((N / 11 + 5 * (0 + (i : Int)) * (0 + (i : Int))) % 22)]⟩)) hD).free hp0
        let fN : Nat → Str := fun j => putIn stem A (letAt ((N / 7 + 3 * (0 + (j : Int))) % 22))
        have fl : ∀ j, (fN j).length = stem.length + 1 := fun j => by
          show (putIn stem A _).length = _
          rw [← aA]
          exact putIn_len aL
        refine ⟨12, rfl, by decide, by decide, for_range (lo := 0) (n := 12) (fun i σ H2 => ∃ (l : Addr) (a b : Option V), σ = [some (.int n), some (.str lets), some (.int N), some (.int M), some (.str stem), some (.int A), some (.str ⟨#[mr]⟩), some (.ref l), a, b] ∧ Same H H2 ∧ H l = none ∧ H2 l = some (.lst ((genN fN ⟨#[mr]⟩ i).map V.str)))
          ⟨p0, none, none, rfl, sm0, h0n, upd_same⟩ ?_ ?_⟩
        · rintro i σ H2 hi ⟨l, a, b, rfl, sm, hln, hl⟩
          refine ⟨_, rfl, _, rfl, _, rfl, stem, rfl, by omega, _, rfl, _, rfl, _, _, rfl, rfl, ⟨by decide, by decide⟩, _, rfl, _, _, rfl, rfl, .inl ⟨by decide, by decide⟩, _, _, rfl, rfl, _, _, rfl, rfl, (by show (0 : Int) < 22; decide), lets, _, _, rfl, rfl, (by show lets.length ≤ sizeLine; decide +kernel), (letAt_at (a22 _).1 (a22 _).2).1, ?_⟩
          have c1 := cutS_length stem none (some A)
          have c2 := cutS_length stem (some A) none
          have o1 : ∀ c : Nat, (⟨#[c]⟩ : Str).length = 1 := fun _ => rfl
          refine ⟨_, _, rfl, rfl, (by rw [o1]; omega), _, rfl, _, rfl, _, rfl, stem, rfl, by omega, _, _, rfl, rfl, (by rw [app_len, o1]; omega), ?_⟩
          have hlenN := fl i
          have gl := genN_len fN ⟨#[mr]⟩ i
          refine ⟨_, rfl, _, rfl, _, rfl, _, rfl, _, _, rfl, rfl, (by rw [show ((cutS stem none (some A) ++ (⟨#[letAt ((N / 7 + 3 * (0 + (i : Int))) % 22)]⟩ : Str)) ++ cutS stem (some A) none).length = stem.length + 1 from hlenN, o1]; omega), by show 2 ≤ sizeLine; decide, fun q hq => ?_⟩
          refine ⟨l, q, _, _, rfl, rfl, SqL.of ((Same.upd hq) _ _ hl), SqL.of upd_same, (by rw [List.length_map, gl]; show 2 * i + 2 ≤ _; omega), fun l' hl' => ?_⟩
          refine ⟨l', _, _, rfl, (sm.trans (Same.upd hq)).trans (Same.upd hl'), (sm.trans (Same.upd hq)).free hl', ?_⟩
          rw [upd_same]
          show some (HO.lst ((genN fN ⟨#[mr]⟩ i).map V.str ++ [V.str (fN i), V.str (fN i ++ ⟨#[mr]⟩)])) = some (HO.lst ((genN fN ⟨#[mr]⟩ i ++ [fN i, fN i ++ ⟨#[mr]⟩]).map V.str))
          rw [List.map_append]
          rfl
        · rintro σ H2 ⟨l, a, b, rfl, sm, hln, hl⟩
          refine ⟨_, rfl, k l _ H2 sm hln hl (names_ok fN ⟨#[mr]⟩ (stem.length + 1) fl (fun j => ?_) (by omega) (by omega) rfl (one_let mrl) (fun j q hj hq e => ?_))⟩
          · show LetS (putIn stem A _)
            rw [← aA]
            exact putIn_let aL sL (letAt_at (a22 _).1 (a22 _).2).2
          · have e' : putIn stem A (letAt ((N / 7 + 3 * (0 + (j : Int))) % 22)) = putIn stem A (letAt ((N / 7 + 3 * (0 + (q : Int))) % 22)) := e
            rw [← aA] at e'
            have e2 := letAt_inj (a22 _).1 (a22 _).2 (a22 _).1 (a22 _).2 (putIn_inj aL e')
            omega
theorem sc_l_hour : FnScope ["_law_number", "_law_kind"] ["_law_number"] (defScope s_l_hour) := ⟨rfl, rfl, rfl, by decide +kernel, rfl, by decide +kernel, by decide +kernel⟩
theorem ok_l_hour {f : Addr} {fd : FuncData} (D : Df K mg "_law_hour" s_l_hour ["_law_number"] f fd) : Gd P w K mg base 1 "_law_hour" spHourL := by
  refine J.def_ok D sc_l_hour (fun vs H Q E h => ?_) (fun X H vs Q E hh h => ?_)
  · obtain ⟨n, rfl, _⟩ := h
    rfl
  · obtain ⟨n, rfl, k⟩ := h
    have S0 : L2.Slot X 0 "_law_number" := hh.slot 0 rfl (by first | exact .inl rfl | exact .inr rfl) (by decide) (by decide)
    have S1 : L2.Slot X 1 "_law_kind" := hh.slot 1 rfl (by first | exact .inl rfl | exact .inr rfl) (by decide) (by decide)
    have big : (10 : Int) ^ Int.toNat 18 = 1000000000000000000 := by decide +kernel
    have r3 : 0 ≤ n / 8 % 3 ∧ n / 8 % 3 < 3 := ⟨Int.emod_nonneg _ (by decide), Int.emod_lt_of_pos _ (by decide)⟩
    have r12 : 0 ≤ n / 8 % 12 ∧ n / 8 % 12 < 12 := ⟨Int.emod_nonneg _ (by decide), Int.emod_lt_of_pos _ (by decide)⟩
    have rb : 0 ≤ n / 8 % ((10 : Int) ^ Int.toNat 18 + 1) ∧ n / 8 % ((10 : Int) ^ Int.toNat 18 + 1) < (10 : Int) ^ Int.toNat 18 + 1 := ⟨Int.emod_nonneg _ (by decide +kernel), Int.emod_lt_of_pos _ (by decide +kernel)⟩
    refine ⟨_, (J.pss_cons (J.set S1 hh.nd (J.pe_op J.op_mod (J.rd S0) J.pe_int))
 (J.pss_cons (J.ps_if (J.pt_cmpR J.op_eq (J.rd S1) J.pe_int (L2.nomark _))
 (J.pss_one (J.ps_ret (J.pe_op J.op_sub (J.pe_op J.op_pow J.pe_int J.pe_int) (J.pe_op J.op_mod (J.pe_op J.op_fdiv (J.rd S0) J.pe_int) J.pe_int))))
 J.pss_nil)
 (J.pss_cons (J.ps_if (J.pt_cmpR J.op_eq (J.rd S1) J.pe_int (L2.nomark _))
 (J.pss_one (J.ps_ret (J.pe_op J.op_mod (J.pe_op J.op_fdiv (J.rd S0) J.pe_int) (J.pe_op J.op_add (J.pe_op J.op_pow J.pe_int J.pe_int) J.pe_int))))
 J.pss_nil)
 (J.pss_one (J.ps_ret (J.pe_op J.op_mod (J.pe_op J.op_fdiv (J.rd S0) J.pe_int) J.pe_int)))))), ?_⟩
    refine ⟨_, rfl, _, _, rfl, rfl, (by show (0 : Int) < 8; decide), ?_⟩
    refine ⟨_, rfl, rfl, _, rfl, ite2 (fun _ => ?_) (fun _ => ?_)⟩
    · exact ⟨_, _, rfl, rfl, ⟨by decide, by decide, by decide⟩, _, rfl, _, _, rfl, rfl, ⟨by decide, by decide⟩, _, _, rfl, rfl, (by show (0 : Int) < 3; decide), _, _, rfl, rfl, k _ ⟨by omega, by omega⟩⟩
    refine ⟨_, rfl, rfl, _, rfl, ite2 (fun _ => ?_) (fun _ => ?_)⟩
    · exact ⟨_, rfl, _, _, rfl, rfl, ⟨by decide, by decide⟩, _, _, rfl, rfl, ⟨by decide, by decide, by decide⟩, _, _, rfl, rfl, _, _, rfl, rfl, (by show (0 : Int) < 10 ^ Int.toNat 18 + 1; decide +kernel), k _ ⟨rb.1, by omega⟩⟩
    · exact ⟨_, rfl, _, _, rfl, rfl, ⟨by decide, by decide⟩, _, _, rfl, rfl, (by show (0 : Int) < 12; decide), k _ ⟨by omega, by omega⟩⟩
theorem sc_l_tale : FnScope ["_law_number", "_law_names_here"] ["_law_number", "_law_names_here"] (defScope s_l_tale) := ⟨rfl, rfl, rfl, by decide +kernel, rfl, by decide +kernel, by decide +kernel⟩
theorem ok_l_tale {f : Addr} {fd : FuncData} (D : Df K mg "_law_tale" s_l_tale ["_law_number", "_law_names_here"] f fd) (T : Txt K mg kw C) : Gd P w K mg base 1 "_law_tale" spTaleL := by
  refine J.def_ok D sc_l_tale (fun vs H Q E h => ?_) (fun X H vs Q E hh h => ?_)
  · obtain ⟨n, l, us, rfl, _⟩ := h
    rfl
  · obtain ⟨n, l, us, rfl, hl, hU, k⟩ := h
    have S0 : L2.Slot X 0 "_law_number" := hh.slot 0 rfl (by first | exact .inl rfl | exact .inr rfl) (by decide) (by decide)
    have S1 : L2.Slot X 1 "_law_names_here" := hh.slot 1 rfl (by first | exact .inl rfl | exact .inr rfl) (by decide) (by decide)
    have B_range : Bt X "range" := hh.bt T.b_range rfl (by decide) (by decide)
    have B_tuple : Bt X "tuple" := hh.bt T.b_tuple rfl (by decide) (by decide)
    have r6 : 0 ≤ n % 6 ∧ n % 6 < 6 := ⟨Int.emod_nonneg _ (by decide), Int.emod_lt_of_pos _ (by decide)⟩
    have hsz : sizeLine = 16777216 := sizeLine_eq
    have u24 := hU.len
    have at24 : ∀ x : Int, atI (us.map V.str) (x % 24) = some (.str (us.getD (x % 24).toNat "")) ∧ us.getD (x % 24).toNat "" ∈ us := fun x => by
      have h0 : 0 ≤ x % 24 := Int.emod_nonneg _ (by decide)
      have h1 : x % 24 < 24 := Int.emod_lt_of_pos _ (by decide)
      have hj : (x % 24).toNat < us.length := by omega
      have eg : us.getD (x % 24).toNat "" = us[(x % 24).toNat] := by
        rw [List.getD_eq_getElem?_getD, List.getElem?_eq_getElem hj]
        rfl
      have e : (((x % 24).toNat : Nat) : Int) = x % 24 := Int.toNat_of_nonneg h0
      have := atI_nat (xs := us.map V.str) (j := (x % 24).toNat) (v := V.str us[(x % 24).toNat]) (by rw [List.getElem?_map, List.getElem?_eq_getElem hj]; rfl)
      rw [e] at this
      rw [eg]
      exact ⟨this, List.getElem_mem hj⟩
    refine ⟨_, (J.pss_one (J.ps_ret (J.bltT B_tuple J.call_tuple_of L2.bb_tuple (J.pa_c (J.pe_lcB (sc := L2.defScope s_l_tale) (N := ["_law_number", "_law_names_here"]) (is := [0, 1]) (ns := ["_law_number", "_law_names_here"]) hh.calm (J.pi_range1 B_range (J.pa_c (J.pe_op J.op_add J.pe_int (J.pe_op J.op_mod (J.rd S0) J.pe_int)) J.pa_nil)) ⟨rfl, by decide +kernel, by decide +kernel, by decide +kernel, rfl, rfl, by decide +kernel, by decide +kernel⟩ (fun _ _ _ _ _ => (J.pe_ix J.ix_listC (J.lcc (i := 1) rfl rfl (by decide) (by decide)) (J.pe_op J.op_mod (J.pe_op J.op_fdiv (J.lcc (i := 0) rfl rfl (by decide) (by decide)) (J.pe_op J.op_add (J.pe_op J.op_mul J.pe_int (J.lc0 rfl (by decide) (by decide))) J.pe_int)) J.pe_int) J.ix_op)) hh.hsc hh.hN) J.pa_nil)))), ?_⟩
    refine ⟨_, rfl, _, _, rfl, rfl, (by show (0 : Int) < 6; decide), _, _, rfl, rfl, 1 + n % 6, rfl, by omega, by omega, lc_range (lo := 0) (n := (1 + n % 6).toNat) (fun v => match v with | .int i => .str (us.getD (n / (3 * i + 7) % 24).toNat "") | _ => .non) (by omega) (fun i H2 Q' hi sm q' => ?_) (fun D' hD => ?_)⟩
    · exact ⟨_, rfl, _, rfl, _, rfl, _, _, rfl, rfl, .inl ⟨by decide, by decide⟩, _, _, rfl, rfl, _, _, rfl, rfl, ⟨by omega, by omega⟩, _, _, rfl, rfl, (by show (0 : Int) < 24; decide), l, _, _, _, rfl, rfl, SqL.of (sm _ _ hl), (at24 _).1, q'⟩
    · refine ⟨D', _, rfl, .inl ⟨SqL.of upd_same, fun t ht => ?_⟩⟩
      refine k t ((List.range (1 + n % 6).toNat).map fun (i : Nat) => us.getD (n / (3 * (0 + (i : Int)) + 7) % 24).toNat "") _ ((Same.upd hD).trans (Same.upd ht)) (upd_same.trans (by rw [List.map_map]; rfl)) ?_ ?_ ?_
      · rw [List.length_map, List.length_range]; omega
      · rw [List.length_map, List.length_range]; omega
      · intro x hx
        obtain ⟨i, _, rfl⟩ := List.mem_map.mp hx
        exact hU.nm _ (at24 _).2
theorem at_pers {ps : List Str} {i : Int} (h0 : 0 ≤ i) (h1 : i < ps.length) : ∃ z, atI (ps.map V.str) i = some (.str z) ∧ ps[i.toNat]? = some z ∧ z ∈ ps := by
  have hj : i.toNat < ps.length := by omega
  have e : ((i.toNat : Nat) : Int) = i := Int.toNat_of_nonneg h0
  have := atI_nat (xs := ps.map V.str) (j := i.toNat) (v := V.str ps[i.toNat]) (by rw [List.getElem?_map, List.getElem?_eq_getElem hj]; rfl)
  rw [e] at this
  exact ⟨ps[i.toNat], this, List.getElem?_eq_getElem hj, List.getElem_mem hj⟩
theorem pers_ne {ps : List Str} (nd : ps.Nodup) {i j : Int} {y z : Str} (hi : ps[i.toNat]? = some y) (hj : ps[j.toNat]? = some z) (i0 : 0 ≤ i) (j0 : 0 ≤ j) (ne : i ≠ j) : y ≠ z := by
  rintro rfl
  obtain ⟨a, e1⟩ := List.getElem?_eq_some_iff.mp hi
  obtain ⟨b, e2⟩ := List.getElem?_eq_some_iff.mp hj
  have := (List.getElem_inj nd).mp (e1.trans e2.symm)
  omega
theorem sc_l_talk : FnScope ["_law_number", "_law_persons", "_law_one", "_law_other"] ["_law_number", "_law_persons"] (defScope s_l_talk) := ⟨rfl, rfl, rfl, by decide +kernel, rfl, by decide +kernel, by decide +kernel⟩
theorem ok_l_talk {f : Addr} {fd : FuncData} (D : Df K mg "_law_talk" s_l_talk ["_law_number", "_law_persons"] f fd) (T : Txt K mg kw C) (G__law_hour : Gd P w K mg base 1 "_law_hour" spHourL) : Gd P w K mg base 2 "_law_talk" spTalkL := by
  refine J.def_ok D sc_l_talk (fun vs H Q E h => ?_) (fun X H vs Q E hh h => ?_)
  · obtain ⟨n, l, ps, rfl, _⟩ := h
    rfl
  · obtain ⟨n, l, ps, rfl, hl, hP, h2, k⟩ := h
    have S0 : L2.Slot X 0 "_law_number" := hh.slot 0 rfl (by first | exact .inl rfl | exact .inr rfl) (by decide) (by decide)
    have S1 : L2.Slot X 1 "_law_persons" := hh.slot 1 rfl (by first | exact .inl rfl | exact .inr rfl) (by decide) (by decide)
    have S2 : L2.Slot X 2 "_law_one" := hh.slot 2 rfl (by first | exact .inl rfl | exact .inr rfl) (by decide) (by decide)
    have S3 : L2.Slot X 3 "_law_other" := hh.slot 3 rfl (by first | exact .inl rfl | exact .inr rfl) (by decide) (by decide)
    have B_len : Bt X "len" := hh.bt T.b_len rfl (by decide) (by decide)
    have C__law_hour := hh.cal G__law_hour rfl (by first | decide | exact Nat.le_refl _) (by decide)
    have pl : (ps.map V.str).length = ps.length := List.length_map ..
    have hi := hP.hi
    refine ⟨_, (J.pss_cons (J.set S2 hh.nd (J.pe_op J.op_mod (J.rd S0) (J.blt B_len J.call_len_seq L2.bb_len (J.pa_c (J.rd S1) J.pa_nil))))
 (J.pss_cons (J.set S3 hh.nd (J.pe_op J.op_mod (J.pe_op J.op_add (J.pe_op J.op_add (J.rd S2) J.pe_int) (J.pe_op J.op_mod (J.pe_op J.op_fdiv (J.rd S0) J.pe_int) (J.pe_op J.op_sub (J.blt B_len J.call_len_seq L2.bb_len (J.pa_c (J.rd S1) J.pa_nil)) J.pe_int))) (J.blt B_len J.call_len_seq L2.bb_len (J.pa_c (J.rd S1) J.pa_nil))))
 (J.pss_one (J.ps_ret (J.pe_tup (J.pa_c (J.cal C__law_hour (J.pa_c (J.pe_op J.op_fdiv (J.rd S0) J.pe_int) J.pa_nil)) (J.pa_c (J.pe_ix J.ix_list (J.rd S1) (J.rd S2) J.ix_name) (J.pa_c (J.pe_ix J.ix_list (J.rd S1) (J.rd S3) J.ix_name) (J.pa_c (J.pe_ix J.ix_list (J.pe_lst (J.pa_c J.pe_str (J.pa_c J.pe_str (J.pa_c J.pe_str J.pa_nil)))) (J.pe_op J.op_mod (J.pe_op J.op_fdiv (J.rd S0) J.pe_int) J.pe_int) J.ix_op) J.pa_nil))))))))), ?_⟩
    refine ⟨_, rfl, _, rfl, l, _, rfl, .inl (SqL.of hl), _, _, rfl, rfl, (by omega), ?_⟩
    refine ⟨_, rfl, _, _, rfl, rfl, _, rfl, _, _, rfl, rfl, ⟨by decide, by decide⟩, _, rfl, l, _, rfl, .inl (SqL.of hl), _, _, rfl, rfl, _, _, rfl, rfl, (by omega), _, _, rfl, rfl, _, rfl, l, _, rfl, .inl (SqL.of hl), _, _, rfl, rfl, (by omega), ?_⟩
    dsimp only
    rw [pl]
    have o0 : 0 ≤ n % (ps.length : Int) := Int.emod_nonneg _ (by omega)
    have o1 : n % (ps.length : Int) < ps.length := Int.emod_lt_of_pos _ (by omega)
    have r0 : 0 ≤ n / 24 % ((ps.length : Int) - 1) := Int.emod_nonneg _ (by omega)
    have r1 : n / 24 % ((ps.length : Int) - 1) < (ps.length : Int) - 1 := Int.emod_lt_of_pos _ (by omega)
    generalize hq : (n % (ps.length : Int) + 1 + n / 24 % ((ps.length : Int) - 1)) % (ps.length : Int) = q
    have q0 : 0 ≤ q := by rw [← hq]; exact Int.emod_nonneg _ (by omega)
    have q1 : q < ps.length := by rw [← hq]; exact Int.emod_lt_of_pos _ (by omega)
    have qn : q ≠ n % (ps.length : Int) := by
      rw [← hq]
      have := round_ne (n := n % (ps.length : Int)) (L := ps.length) (by omega) r0 r1
      rw [Int.emod_emod] at this
      exact this
    obtain ⟨y, ay, gy, my⟩ := at_pers o0 o1
    obtain ⟨z, az, gz, mz⟩ := at_pers q0 q1
    have yz : y ≠ z := pers_ne hP.nd gy gz o0 q0 fun e => qn e.symm
    obtain ⟨wv, hw, hwm⟩ := at_ex (xs := [V.str "both", V.str "both", V.str "one"]) (i := n / 200 % 3) (Int.emod_nonneg _ (by decide)) (by
      have : n / 200 % 3 < 3 := Int.emod_lt_of_pos _ (by decide)
      show _ < (3 : Int)
      omega)
    have hwy : ∃ wy : Str, wv = .str wy ∧ (wy = "both" ∨ wy = "one") := by
      simp only [List.mem_cons, List.not_mem_nil, or_false] at hwm
      rcases hwm with rfl | rfl | rfl
      · exact ⟨_, rfl, .inl rfl⟩
      · exact ⟨_, rfl, .inl rfl⟩
      · exact ⟨_, rfl, .inr rfl⟩
    obtain ⟨wy, rfl, hwy⟩ := hwy
    refine ⟨_, rfl, _, _, rfl, rfl, ⟨by decide, by decide⟩, n / 600, rfl, fun h hho => ?_⟩
    refine ⟨_, rfl, _, rfl, l, _, _, _, rfl, rfl, SqL.of hl, ay, _, rfl, _, rfl, l, _, _, _, rfl, rfl, SqL.of hl, az, by show 3 ≤ sizeLine; decide, fun b3 hb3 => ?_⟩
    refine ⟨_, rfl, _, _, rfl, rfl, ⟨by decide, by decide⟩, _, _, rfl, rfl, (by show (0 : Int) < 3; decide), b3, _, _, _, rfl, rfl, SqL.of upd_same, hw, by show 4 ≤ sizeLine; decide, fun t ht => ?_⟩
    exact k (.ref t) _ ((Same.upd hb3).trans (Same.upd ht)) ⟨t, h, y, z, wy, rfl, upd_same, hho, my, mz, yz, hwy⟩
theorem sc_l_saying : FnScope ["_law_number", "_law_persons", "_law_person", "_law_kind", "_law_hour_here", "_law_end"] ["_law_number", "_law_persons"] (defScope s_l_saying) := ⟨rfl, rfl, rfl, by decide +kernel, rfl, by decide +kernel, by decide +kernel⟩
theorem ok_l_saying {f : Addr} {fd : FuncData} (D : Df K mg "_law_saying" s_l_saying ["_law_number", "_law_persons"] f fd) (T : Txt K mg kw C) (G__law_hour : Gd P w K mg base 1 "_law_hour" spHourL) : Gd P w K mg base 2 "_law_saying" spSayL := by
  refine J.def_ok D sc_l_saying (fun vs H Q E h => ?_) (fun X H vs Q E hh h => ?_)
  · obtain ⟨n, l, ps, rfl, _⟩ := h
    rfl
  · obtain ⟨n, l, ps, rfl, hl, hP, k⟩ := h
    have S0 : L2.Slot X 0 "_law_number" := hh.slot 0 rfl (by first | exact .inl rfl | exact .inr rfl) (by decide) (by decide)
    have S1 : L2.Slot X 1 "_law_persons" := hh.slot 1 rfl (by first | exact .inl rfl | exact .inr rfl) (by decide) (by decide)
    have S2 : L2.Slot X 2 "_law_person" := hh.slot 2 rfl (by first | exact .inl rfl | exact .inr rfl) (by decide) (by decide)
    have S3 : L2.Slot X 3 "_law_kind" := hh.slot 3 rfl (by first | exact .inl rfl | exact .inr rfl) (by decide) (by decide)
    have S4 : L2.Slot X 4 "_law_hour_here" := hh.slot 4 rfl (by first | exact .inl rfl | exact .inr rfl) (by decide) (by decide)
    have S5 : L2.Slot X 5 "_law_end" := hh.slot 5 rfl (by first | exact .inl rfl | exact .inr rfl) (by decide) (by decide)
    have B_int : Bt X "int" := hh.bt T.b_int rfl (by decide) (by decide)
    have B_len : Bt X "len" := hh.bt T.b_len rfl (by decide) (by decide)
    have B_max : Bt X "max" := hh.bt T.b_max rfl (by decide) (by decide)
    have B_min : Bt X "min" := hh.bt T.b_min rfl (by decide) (by decide)
    have C__law_hour := hh.cal G__law_hour rfl (by first | decide | exact Nat.le_refl _) (by decide)
    have pl : (ps.map V.str).length = ps.length := List.length_map ..
    have hi := hP.hi
    have lo := hP.lo
    have o0 : 0 ≤ n % (ps.length : Int) := Int.emod_nonneg _ (by omega)
    have o1 : n % (ps.length : Int) < ps.length := Int.emod_lt_of_pos _ (by omega)
    obtain ⟨y, ay, gy, my⟩ := at_pers o0 o1
    refine ⟨_, (J.pss_cons (J.set S2 hh.nd (J.pe_ix J.ix_list (J.rd S1) (J.pe_op J.op_mod (J.rd S0) (J.blt B_len J.call_len_seq L2.bb_len (J.pa_c (J.rd S1) J.pa_nil))) J.ix_op))
 (J.pss_cons (J.set S3 hh.nd (J.pe_op J.op_mod (J.pe_op J.op_fdiv (J.rd S0) J.pe_int) J.pe_int))
 (J.pss_cons (J.set S4 hh.nd (J.cal C__law_hour (J.pa_c (J.pe_op J.op_fdiv (J.rd S0) J.pe_int) J.pa_nil)))
 (J.pss_cons (J.ps_if (J.pt_cmpR J.op_eq (J.rd S3) J.pe_int (L2.nomark _))
 (J.pss_one (J.ps_ret (J.pe_tup (J.pa_c J.pe_str (J.pa_c (J.rd S2) (J.pa_c (J.rd S4) J.pa_nil))))))
 J.pss_nil)
 (J.pss_cons (J.ps_if (J.pt_cmpR J.op_eq (J.rd S3) J.pe_int (L2.nomark _))
 (J.pss_one (J.ps_ret (J.pe_tup (J.pa_c J.pe_str (J.pa_c (J.rd S2) (J.pa_c (J.pe_ix J.ix_list (J.pe_lst (J.pa_c (J.rd S4) (J.pa_c J.pe_non J.pa_nil))) (J.bltT B_int J.call_int1 L2.bb_int (J.pa_c (J.pe_cmpR J.op_eq (J.pe_op J.op_mod (J.pe_op J.op_fdiv (J.rd S0) J.pe_int) J.pe_int) J.pe_int (L2.nomark _)) J.pa_nil)) J.ix_call) J.pa_nil))))))
 J.pss_nil)
 (J.pss_cons (J.ps_if (J.pt_cmpR J.op_eq (J.rd S3) J.pe_int (L2.nomark _))
 (J.pss_cons (J.set S5 hh.nd (J.cal C__law_hour (J.pa_c (J.pe_op J.op_fdiv (J.rd S0) J.pe_int) J.pa_nil)))
 (J.pss_one (J.ps_ret (J.pe_tup (J.pa_c J.pe_str (J.pa_c (J.rd S2) (J.pa_c (J.blt B_min (J.call_min2 hh.calm) L2.bb_min (J.pa_c (J.rd S4) (J.pa_c (J.rd S5) J.pa_nil))) (J.pa_c (J.blt B_max (J.call_max2 hh.calm) L2.bb_max (J.pa_c (J.rd S4) (J.pa_c (J.rd S5) J.pa_nil))) J.pa_nil))))))))
 J.pss_nil)
 (J.pss_cons (J.ps_if (J.pw_pt (J.pw_and (J.pt_cmpR J.op_eq (J.rd S3) J.pe_int (L2.nomark _)) (J.pw_and1 (J.pt_cmpR J.op_gt (J.blt B_len J.call_len_seq L2.bb_len (J.pa_c (J.rd S1) J.pa_nil)) J.pe_int (L2.nomark _)))))
 (J.pss_one (J.ps_ret (J.pe_tup (J.pa_c J.pe_str (J.pa_c (J.rd S2) (J.pa_c (J.pe_ix J.ix_list (J.rd S1) (J.pe_op J.op_mod (J.pe_op J.op_add (J.pe_op J.op_add (J.rd S0) J.pe_int) (J.pe_op J.op_mod (J.pe_op J.op_fdiv (J.rd S0) J.pe_int) (J.pe_op J.op_sub (J.blt B_len J.call_len_seq L2.bb_len (J.pa_c (J.rd S1) J.pa_nil)) J.pe_int))) (J.blt B_len J.call_len_seq L2.bb_len (J.pa_c (J.rd S1) J.pa_nil))) J.ix_op) J.pa_nil))))))
 J.pss_nil)
 (J.pss_one (J.ps_ret (J.pe_tup (J.pa_c J.pe_str (J.pa_c (J.rd S2) (J.pa_c (J.pe_op J.op_fdiv (J.rd S4) J.pe_int) J.pa_nil))))))))))))), ?_⟩
    refine ⟨_, rfl, _, rfl, _, rfl, l, _, rfl, .inl (SqL.of hl), _, _, rfl, rfl, (by omega), l, _, _, _, rfl, rfl, SqL.of hl, (by rw [pl]; exact ay), ?_⟩
    refine ⟨_, rfl, _, _, rfl, rfl, ⟨by decide, by decide⟩, _, _, rfl, rfl, (by show (0 : Int) < 5; decide), ?_⟩
    refine ⟨_, rfl, _, _, rfl, rfl, ⟨by decide, by decide⟩, n / 120, rfl, fun h hho => ?_⟩
    refine ⟨_, rfl, rfl, _, rfl, ite2 (fun _ => ?_) (fun _ => ?_)⟩
    · refine ⟨_, rfl, _, rfl, by show 3 ≤ sizeLine; decide, fun t ht => k (.ref t) _ (Same.upd ht) ⟨t, rfl, .inl ⟨y, h, upd_same, my, hho⟩⟩⟩
    refine ⟨_, rfl, rfl, _, rfl, ite2 (fun _ => ?_) (fun _ => ?_)⟩
    · refine ⟨_, rfl, _, rfl, by show 2 ≤ sizeLine; decide, fun b2 hb2 => ?_⟩
      obtain ⟨bv, hb, hbm⟩ := at_ex (xs := [V.int h, V.non]) (i := if decide (V.int (n / 7 % 9) = V.int 1) then 1 else 0) (by split <;> decide) (by show _ < (2 : Int); split <;> decide)
      have hbv : bv = .non ∨ ∃ h : Int, bv = .int h ∧ HourOk h := by
        simp only [List.mem_cons, List.not_mem_nil, or_false] at hbm
        rcases hbm with rfl | rfl
        · exact .inr ⟨h, rfl, hho⟩
        · exact .inl rfl
      refine ⟨_, rfl, _, _, rfl, rfl, ⟨by decide, by decide⟩, _, _, rfl, rfl, (by show (0 : Int) < 9; decide), rfl, .inr ⟨_, rfl, b2, _, _, _, rfl, rfl, SqL.of upd_same, hb, by show 3 ≤ sizeLine; decide, fun t ht => ?_⟩⟩
      exact k (.ref t) _ ((Same.upd hb2).trans (Same.upd ht)) ⟨t, rfl, .inr (.inl ⟨y, bv, upd_same, my, hbv⟩)⟩
    refine ⟨_, rfl, rfl, _, rfl, ite2 (fun _ => ?_) (fun _ => ?_)⟩
    · refine ⟨_, rfl, _, _, rfl, rfl, ⟨by decide, by decide⟩, n / 1000, rfl, fun h2 hho2 => ?_⟩
      refine ⟨_, rfl, _, rfl, _, rfl, _, _, rfl, _, rfl, _, rfl, _, _, rfl, by show 4 ≤ sizeLine; decide, fun t ht => ?_⟩
      refine k (.ref t) _ (Same.upd ht) ⟨t, rfl, .inr (.inr (.inl ⟨y, (if h2 < h then h2 else h), (if h2 > h then h2 else h), upd_same, my, ?_, ?_, ?_⟩))⟩
      · split
        · exact hho2
        · exact hho
      · split
        · exact hho2
        · exact hho
      · split <;> split <;> omega
    have last : ∀ (σ : St), True := fun _ => True.intro
    refine ⟨_, rfl, rfl, _, rfl, ite2 (fun _ => ?_) (fun _ => ?_)⟩
    · refine ⟨_, rfl, l, _, rfl, .inl (SqL.of hl), _, _, rfl, rfl, _, rfl, ite2 (fun h2 => ?_) (fun h2 => ?_)⟩
      · have p2 : 2 ≤ ps.length := by
          rw [decide_eq_true_iff, pl] at h2
          omega
        have r0 : 0 ≤ n / 120 % ((ps.length : Int) - 1) := Int.emod_nonneg _ (by omega)
        have r1 : n / 120 % ((ps.length : Int) - 1) < (ps.length : Int) - 1 := Int.emod_lt_of_pos _ (by omega)
        have rn := round_ne (n := n) (L := ps.length) (by omega) r0 r1
        generalize hq : (n + 1 + n / 120 % ((ps.length : Int) - 1)) % (ps.length : Int) = q at rn
        have q0 : 0 ≤ q := by rw [← hq]; exact Int.emod_nonneg _ (by omega)
        have q1 : q < ps.length := by rw [← hq]; exact Int.emod_lt_of_pos _ (by omega)
        obtain ⟨z, az, gz, mz⟩ := at_pers q0 q1
        have yz : y ≠ z := pers_ne hP.nd gy gz o0 q0 fun e => rn e.symm
        refine ⟨_, rfl, _, rfl, _, rfl, _, _, rfl, rfl, _, rfl, _, _, rfl, rfl, ⟨by decide, by decide⟩, _, rfl, l, _, rfl, .inl (SqL.of hl), _, _, rfl, rfl, _, _, rfl, rfl, (by omega), _, _, rfl, rfl, _, rfl, l, _, rfl, .inl (SqL.of hl), _, _, rfl, rfl, (by omega), l, _, _, _, rfl, rfl, SqL.of hl, (by rw [pl, hq]; exact az), by show 3 ≤ sizeLine; decide, fun t ht => ?_⟩
        exact k (.ref t) _ (Same.upd ht) ⟨t, rfl, .inr (.inr (.inr ⟨y, z, upd_same, my, mz, yz⟩))⟩
      · refine ⟨_, rfl, _, rfl, _, _, rfl, rfl, ⟨by decide, by decide⟩, by show 3 ≤ sizeLine; decide, fun t ht => k (.ref t) _ (Same.upd ht) ⟨t, rfl, .inr (.inl ⟨y, _, upd_same, my, .inr ⟨_, rfl, ?_⟩⟩)⟩⟩
        have := hho.1
        have := hho.2
        exact ⟨by omega, by omega⟩
    · refine ⟨_, rfl, _, rfl, _, _, rfl, rfl, ⟨by decide, by decide⟩, by show 3 ≤ sizeLine; decide, fun t ht => k (.ref t) _ (Same.upd ht) ⟨t, rfl, .inr (.inl ⟨y, _, upd_same, my, .inr ⟨_, rfl, ?_⟩⟩)⟩⟩
      have := hho.1
      have := hho.2
      exact ⟨by omega, by omega⟩
theorem sc_l_book : FnScope ["_law_script", "_law_most", "_law_cells", "_law_names_here", "_law_persons", "_law_sights", "_law_talks", "_law_sayings", "_law_k", "_law_cell", "_law_number", "_law_kind", "_law_person"] ["_law_script", "_law_most"] (defScope s_l_book) := ⟨rfl, rfl, rfl, by decide +kernel, rfl, by decide +kernel, by decide +kernel⟩
theorem cut_from (us : List Str) {k : Int} (h0 : 0 ≤ k) (h1 : k ≤ us.length) : ∃ vs : List Str, cutV (us.map V.str) (some k) none = vs.map V.str ∧ vs.Sublist us ∧ vs.length = us.length - k.toNat := by
  refine ⟨_, cutV_strs .., (List.take_sublist _ _).trans (List.drop_sublist _ _), ?_⟩
  have e : HT.sIx us.length 0 (some k) = k.toNat := by
    show (if k < 0 then (k + (us.length : Int)).toNat else min k.toNat us.length) = _
    rw [if_neg (Int.not_lt.mpr h0)]
    exact Nat.min_eq_left (Int.toNat_le.mpr h1)
  rw [List.length_take, List.length_drop, HT.sIx_none, e]
  exact Nat.min_self _
theorem cut_upto (us : List Str) {k : Int} (h0 : 0 ≤ k) : ∃ vs : List Str, cutV (us.map V.str) none (some k) = vs.map V.str ∧ vs.Sublist us ∧ vs.length = min k.toNat us.length := by
  refine ⟨_, cutV_strs .., (List.take_sublist _ _).trans (List.drop_sublist _ _), ?_⟩
  have e : HT.sIx us.length us.length (some k) = min k.toNat us.length := by
    show (if k < 0 then (k + (us.length : Int)).toNat else min k.toNat us.length) = _
    rw [if_neg (Int.not_lt.mpr h0)]
  rw [List.length_take, List.length_drop, HT.sIx_none, e]
  exact Nat.min_eq_left (Nat.min_le_right _ _)
theorem book_lens {u l p : Nat} {c1 c2 : Int} (u24 : u = 24) (a : 0 ≤ c2 ∧ c2 < 5) (b : 0 ≤ c1 ∧ c1 < 12) (l1 : l = u - c2.toNat) (lp : p = min (1 + c1).toNat l) : 1 ≤ p ∧ p ≤ 24 := by
  rw [lp, l1, u24]
  refine ⟨Nat.le_min.mpr ⟨by omega, by omega⟩, Nat.le_trans (Nat.min_le_left _ _) (by omega)⟩
/-- between two turns of _law_book's loop -/
inductive BookInv (a cl nl p S Tt Y : Addr) (H5 : Hp) (ps : List Str) (n i : Nat) (σ : St) (H' : Hp) : Prop
  | mk (ss ts ys : List V) (e1 e2 e3 e4 e5 : Option V) (e : σ = [some (.ref a), some (.int 12), some (.ref cl), some (.ref nl), some (.ref p), some (.ref S), some (.ref Tt), some (.ref Y), e1, e2, e3, e4, e5])
      (hs : H' S = some (.lst ss)) (ht : H' Tt = some (.lst ts)) (hy : H' Y = some (.lst ys)) (kp : ∀ b o, H5 b = some o → b ≠ S → b ≠ Tt → b ≠ Y → H' b = some o)
      (ls : ss.length ≤ 24) (lt : ts.length ≤ i) (ly : ys.length ≤ i) (li : i ≤ n) (gs : ∀ v ∈ ss, SightIn ps H' v) (gt : ∀ v ∈ ts, TalkIn ps H' v) (gy : ∀ v ∈ ys, SayIn ps H' v)
theorem both {G A : Prop} (g : G) (f : G → A) : A := f g
theorem ok_l_book {f : Addr} {fd : FuncData} (D : Df K mg "_law_book" s_l_book ["_law_script", "_law_most"] f fd) (T : Txt K mg kw C) (G__law_hour : Gd P w K mg base 1 "_law_hour" spHourL) (G__law_names : Gd P w K mg base 1 "_law_names" spNames) (G__law_tale : Gd P w K mg base 1 "_law_tale" spTaleL)
    (G__law_talk : Gd P w K mg base 2 "_law_talk" spTalkL) (G__law_saying : Gd P w K mg base 2 "_law_saying" spSayL) : Gd P w K mg base 3 "_law_book" (spBookL K) := by
  refine J.def_ok D sc_l_book (fun vs H Q E h => ?_) (fun X H vs Q E hh h => ?_)
  · obtain ⟨a, ns, rfl, _⟩ := h
    rfl
  · obtain ⟨a, ns, rfl, hS, hlen, k⟩ := h
    have S0 : L2.Slot X 0 "_law_script" := hh.slot 0 rfl (by first | exact .inl rfl | exact .inr rfl) (by decide) (by decide)
    have S1 : L2.Slot X 1 "_law_most" := hh.slot 1 rfl (by first | exact .inl rfl | exact .inr rfl) (by decide) (by decide)
    have S2 : L2.Slot X 2 "_law_cells" := hh.slot 2 rfl (by first | exact .inl rfl | exact .inr rfl) (by decide) (by decide)
    have S3 : L2.Slot X 3 "_law_names_here" := hh.slot 3 rfl (by first | exact .inl rfl | exact .inr rfl) (by decide) (by decide)
    have S4 : L2.Slot X 4 "_law_persons" := hh.slot 4 rfl (by first | exact .inl rfl | exact .inr rfl) (by decide) (by decide)
    have S5 : L2.Slot X 5 "_law_sights" := hh.slot 5 rfl (by first | exact .inl rfl | exact .inr rfl) (by decide) (by decide)
    have S6 : L2.Slot X 6 "_law_talks" := hh.slot 6 rfl (by first | exact .inl rfl | exact .inr rfl) (by decide) (by decide)
    have S7 : L2.Slot X 7 "_law_sayings" := hh.slot 7 rfl (by first | exact .inl rfl | exact .inr rfl) (by decide) (by decide)
    have S8 : L2.Slot X 8 "_law_k" := hh.slot 8 rfl (by first | exact .inl rfl | exact .inr rfl) (by decide) (by decide)
    have S9 : L2.Slot X 9 "_law_cell" := hh.slot 9 rfl (by first | exact .inl rfl | exact .inr rfl) (by decide) (by decide)
    have S10 : L2.Slot X 10 "_law_number" := hh.slot 10 rfl (by first | exact .inl rfl | exact .inr rfl) (by decide) (by decide)
    have S11 : L2.Slot X 11 "_law_kind" := hh.slot 11 rfl (by first | exact .inl rfl | exact .inr rfl) (by decide) (by decide)
    have S12 : L2.Slot X 12 "_law_person" := hh.slot 12 rfl (by first | exact .inl rfl | exact .inr rfl) (by decide) (by decide)
    have B_enumerate : Bt X "enumerate" := hh.bt T.b_enumerate rfl (by decide) (by decide)
    have B_len : Bt X "len" := hh.bt T.b_len rfl (by decide) (by decide)
    have C__law_hour := hh.cal G__law_hour rfl (by first | decide | exact Nat.le_refl _) (by decide)
    have C__law_names := hh.cal G__law_names rfl (by first | decide | exact Nat.le_refl _) (by decide)
    have C__law_saying := hh.cal G__law_saying rfl (by first | decide | exact Nat.le_refl _) (by decide)
    have C__law_tale := hh.cal G__law_tale rfl (by first | decide | exact Nat.le_refl _) (by decide)
    have C__law_talk := hh.cal G__law_talk rfl (by first | decide | exact Nat.le_refl _) (by decide)
    obtain rfl := hh.fK
    have hsz : sizeLine = 16777216 := sizeLine_eq
    refine ⟨_, (J.pss_cons (J.set S2 hh.nd (J.pe_op J.op_catS (J.rd S0) (J.pe_lst (J.pa_c J.pe_int (J.pa_c J.pe_int (J.pa_c J.pe_int J.pa_nil))))))
 (J.pss_cons (J.set S3 hh.nd (J.cal C__law_names (J.pa_c (J.pe_ix J.ix_list (J.rd S2) J.pe_int J.ix_con) J.pa_nil)))
 (J.pss_cons (J.set S4 hh.nd (J.pe_slice J.sl_list (J.pe_slice J.sl_list (J.rd S3) (J.po_some (J.pe_op J.op_mod (J.pe_ix J.ix_list (J.rd S2) J.pe_int J.ix_con) J.pe_int)) J.po_none) J.po_none (J.po_some (J.pe_op J.op_add J.pe_int (J.pe_op J.op_mod (J.pe_ix J.ix_list (J.rd S2) J.pe_int J.ix_con) (J.rd S1))))))
 (J.pss_cons (J.set S5 hh.nd (J.pe_lst J.pa_nil))
 (J.pss_cons (J.set S6 hh.nd (J.pe_lst J.pa_nil))
 (J.pss_cons (J.set S7 hh.nd (J.pe_lst J.pa_nil))
 (J.pss_cons (J.ps_for hh.own hh.calm (J.pi_enum B_enumerate (J.pa_c (J.pe_slice J.sl_list (J.rd S0) (J.po_some J.pe_int) (J.po_some J.pe_int)) J.pa_nil)) (J.pg_tup hh.calm (J.pgs_c (J.tgt S8 hh.nd) (J.pgs_c (J.tgt S9 hh.nd) J.pgs_nil)))
 (J.pss_cons (J.set S10 hh.nd (J.pe_op J.op_mod (J.pe_op J.op_mul (J.pe_op J.op_add (J.pe_op J.op_mod (J.rd S9) (J.pe_op J.op_pow J.pe_int J.pe_int)) (J.pe_op J.op_mul (J.pe_op J.op_mul J.pe_int (J.rd S8)) (J.rd S8))) J.pe_int) (J.pe_op J.op_add (J.pe_op J.op_pow J.pe_int J.pe_int) J.pe_int)))
 (J.pss_cons (J.set S11 hh.nd (J.pe_op J.op_mod (J.rd S10) J.pe_int))
 (J.pss_one (J.ps_if (J.pw_pt (J.pw_and (J.pt_cmpR J.op_lt (J.rd S11) J.pe_int (L2.nomark _)) (J.pw_and1 (J.pt_cmpR J.op_lt (J.blt B_len J.call_len_seq L2.bb_len (J.pa_c (J.rd S5) J.pa_nil)) J.pe_int (L2.nomark _)))))
 (J.pss_cons (J.set S12 hh.nd (J.pe_ix J.ix_list (J.rd S4) (J.pe_op J.op_mod (J.pe_op J.op_fdiv (J.rd S10) J.pe_int) (J.blt B_len J.call_len_seq L2.bb_len (J.pa_c (J.rd S4) J.pa_nil))) J.ix_op))
 (J.pss_one (J.ps_do (J.bm PySem.F.plainAttrs_list PySem.F.slot_list_append PySem.F.type_list_append J.mt_append (J.rd S5) (J.pa_c (J.pe_tup (J.pa_c (J.rd S12) (J.pa_c (J.cal C__law_hour (J.pa_c (J.pe_op J.op_fdiv (J.rd S10) J.pe_int) J.pa_nil)) (J.pa_c (J.cal C__law_tale (J.pa_c (J.pe_op J.op_mod (J.pe_op J.op_fdiv (J.rd S10) J.pe_int) (J.pe_op J.op_pow J.pe_int J.pe_int)) (J.pa_c (J.rd S3) J.pa_nil))) J.pa_nil)))) J.pa_nil)))))
 (J.pss_one (J.ps_if (J.pw_pt (J.pw_and (J.pt_cmpR J.op_lt (J.rd S11) J.pe_int (L2.nomark _)) (J.pw_and1 (J.pt_cmpR J.op_gt (J.blt B_len J.call_len_seq L2.bb_len (J.pa_c (J.rd S4) J.pa_nil)) J.pe_int (L2.nomark _)))))
 (J.pss_one (J.ps_do (J.bm PySem.F.plainAttrs_list PySem.F.slot_list_append PySem.F.type_list_append J.mt_append (J.rd S6) (J.pa_c (J.cal C__law_talk (J.pa_c (J.pe_op J.op_fdiv (J.rd S10) J.pe_int) (J.pa_c (J.rd S4) J.pa_nil))) J.pa_nil))))
 (J.pss_one (J.ps_do (J.bm PySem.F.plainAttrs_list PySem.F.slot_list_append PySem.F.type_list_append J.mt_append (J.rd S7) (J.pa_c (J.cal C__law_saying (J.pa_c (J.pe_op J.op_fdiv (J.rd S10) J.pe_int) (J.pa_c (J.rd S4) J.pa_nil))) J.pa_nil)))))))))))
 (J.pss_one (J.ps_ret (J.pe_lst (J.pa_c (J.rd S4) (J.pa_c (J.rd S5) (J.pa_c (J.rd S6) (J.pa_c (J.rd S7) J.pa_nil)))))))))))))), ?_⟩
    refine ⟨_, rfl, by show 3 ≤ sizeLine; decide, fun z3 hz3 => ?_⟩
    refine ⟨a, z3, _, _, rfl, rfl, (Same.upd hz3).seq hS, SqL.of upd_same, (by rw [List.length_map]; show ns.length + 3 ≤ _; omega), fun cl hcl => ?_⟩
    have sc := (Same.upd (o := .lst [V.int 0, V.int 0, V.int 0]) hz3).trans (Same.upd (o := .lst (ns.map V.int ++ [V.int 0, V.int 0, V.int 0])) hcl)
    have hcells : upd (upd H z3 (.lst [V.int 0, V.int 0, V.int 0])) cl (.lst (ns.map V.int ++ [V.int 0, V.int 0, V.int 0])) cl = some (.lst (ns.map V.int ++ [V.int 0, V.int 0, V.int 0])) := upd_same
    generalize upd (upd H z3 (.lst [V.int 0, V.int 0, V.int 0])) cl (.lst (ns.map V.int ++ [V.int 0, V.int 0, V.int 0])) = H1 at sc hcells
    have cellAt : ∀ i : Nat, i < 3 → ∃ c : Int, atI (ns.map V.int ++ [V.int 0, V.int 0, V.int 0]) (i : Int) = some (.int c) := fun i hi => by
      obtain ⟨v, hv, hm⟩ := at_ex (xs := ns.map V.int ++ [V.int 0, V.int 0, V.int 0]) (i := (i : Int)) (by omega) (by rw [List.length_append]; show _ < (((ns.map V.int).length + 3 : Nat) : Int); omega)
      rw [List.mem_append] at hm
      rcases hm with hm | hm
      · obtain ⟨c, _, rfl⟩ := List.mem_map.mp hm
        exact ⟨c, hv⟩
      · simp only [List.mem_cons, List.not_mem_nil, or_false] at hm
        rcases hm with rfl | rfl | rfl <;> exact ⟨0, hv⟩
    obtain ⟨c0, hc0⟩ := cellAt 0 (by decide)
    obtain ⟨c1, hc1⟩ := cellAt 1 (by decide)
    obtain ⟨c2, hc2⟩ := cellAt 2 (by decide)
    refine ⟨_, rfl, cl, _, _, _, rfl, rfl, SqL.of hcells, hc0, c0, rfl, fun nl us H2 s12 nln hnl hU => ?_⟩
    have u24 := hU.len
    have k5 : 0 ≤ c2 % 5 ∧ c2 % 5 < 5 := ⟨Int.emod_nonneg _ (by decide), Int.emod_lt_of_pos _ (by decide)⟩
    have k24 : 0 ≤ c1 % 12 ∧ c1 % 12 < 12 := ⟨Int.emod_nonneg _ (by decide), Int.emod_lt_of_pos _ (by decide)⟩
    obtain ⟨us1, e1, sub1, l1⟩ := cut_from us (k := c2 % 5) k5.1 (by omega)
    obtain ⟨ps, e2, sub2, lp⟩ := cut_upto us1 (k := 1 + c1 % 12) (by omega)
    refine ⟨_, rfl, _, rfl, cl, _, _, _, rfl, rfl, SqL.of (s12 _ _ hcells), hc2, _, _, rfl, rfl, (by show (0 : Int) < 5; decide), _, rfl, nl, _, rfl, SqL.of hnl, ?_⟩
    rw [show cutV (us.map V.str) (some (c2 % 5)) none = us1.map V.str from e1]
    refine fun p1 hp1 => ?_
    refine ⟨_, rfl, cl, _, _, _, rfl, rfl, SqL.of ((Same.upd hp1) _ _ (s12 _ _ hcells)), hc1, _, rfl, _, _, rfl, rfl, (by show (0 : Int) < 12; decide), _, _, rfl, rfl, _, rfl, p1, _, rfl, SqL.of upd_same, ?_⟩
    rw [show cutV (us1.map V.str) none (some (1 + c1 % 12)) = ps.map V.str from e2]
    refine fun p hp => ?_
    have subp := sub2.trans sub1
    have pln := book_lens u24 k5 k24 l1 lp
    have hP : PersOk ps := ⟨pln.1, pln.2, hU.nd.sublist subp, fun z hz => hU.nm z (subp.mem hz)⟩
    clear k5 k24 l1 lp u24 e1 e2 sub1 sub2 subp
    have hpp : upd (upd H2 p1 (.lst (us1.map V.str))) p (.lst (ps.map V.str)) p = some (.lst (ps.map V.str)) := upd_same
    have s23 := (Same.upd (o := .lst (us1.map V.str)) hp1).trans (Same.upd (o := .lst (ps.map V.str)) hp)
    have pnn : H2 p = none := (Same.upd (o := .lst (us1.map V.str)) hp1).free hp
    generalize upd (upd H2 p1 (.lst (us1.map V.str))) p (.lst (ps.map V.str)) = H3 at hpp s23
    have s03 := (sc.trans s12).trans s23
    have pn : H p = none := (sc.trans s12).free pnn
    refine ⟨by show 0 ≤ sizeLine; decide, fun S hSn => ⟨by show 0 ≤ sizeLine; decide, fun Tt hTn => ⟨by show 0 ≤ sizeLine; decide, fun Y hYn => ?_⟩⟩⟩
    have sS := Same.upd (o := .lst []) hSn
    have sT := Same.upd (o := .lst []) hTn
    have sY := Same.upd (o := .lst []) hYn
    have nST : S ≠ Tt := ne_of_none upd_same hTn
    have nSY : S ≠ Y := ne_of_none (sT _ _ upd_same) hYn
    have nTY : Tt ≠ Y := ne_of_none upd_same hYn
    have npS : p ≠ S := ne_of_none hpp hSn
    have npT : p ≠ Tt := ne_of_none (sS _ _ hpp) hTn
    have npY : p ≠ Y := ne_of_none (sT _ _ (sS _ _ hpp)) hYn
    have hnS : H S = none := s03.free hSn
    have hnT : H Tt = none := (s03.trans sS).free hTn
    have hnY : H Y = none := ((s03.trans sS).trans sT).free hYn
    have hS4 : upd (upd (upd H3 S (.lst [])) Tt (.lst [])) Y (.lst []) S = some (.lst []) := sY _ _ (sT _ _ upd_same)
    have hT4 : upd (upd (upd H3 S (.lst [])) Tt (.lst [])) Y (.lst []) Tt = some (.lst []) := sY _ _ upd_same
    have hY4 : upd (upd (upd H3 S (.lst [])) Tt (.lst [])) Y (.lst []) Y = some (.lst []) := upd_same
    have s34 := (sS.trans sT).trans sY
    generalize upd (upd (upd H3 S (.lst [])) Tt (.lst [])) Y (.lst []) = H4 at hS4 hT4 hY4 s34
    have s04 := s03.trans s34
    have hp4 := s34 _ _ hpp
    have hn4 := s34 _ _ (s23 _ _ hnl)
    have nnS : nl ≠ S := ne_of_none (s23 _ _ hnl) hSn
    have nnT : nl ≠ Tt := ne_of_none (sS _ _ (s23 _ _ hnl)) hTn
    have nnY : nl ≠ Y := ne_of_none (sT _ _ (sS _ _ (s23 _ _ hnl))) hYn
    refine ⟨_, rfl, _, rfl, _, rfl, a, _, rfl, s04.seq hS, fun sl hsl => ?_⟩
    have slen : (cutV (ns.map V.int) (some 3) (some 63)).length ≤ 60 := by
      unfold cutV
      rw [List.length_take, List.length_drop, List.length_map]
      have e1 : HT.sIx ns.length 0 (some 3) = min 3 ns.length := HT.sIx_nat ns.length 0 3
      have e2 : HT.sIx ns.length ns.length (some 63) = min 63 ns.length := HT.sIx_nat ns.length ns.length 63
      rw [e1, e2]
      refine Nat.le_trans (Nat.min_le_left _ _) ?_
      rw [Nat.min_eq_right hlen]
      rcases Nat.le_total 3 ns.length with h3 | h3
      · rw [Nat.min_eq_left h3]
        exact Nat.sub_le_of_le_add hlen
      · rw [Nat.min_eq_right h3, Nat.sub_self]
        exact Nat.zero_le _
    have sints : ∀ v ∈ cutV (ns.map V.int) (some 3) (some 63), ∃ c : Int, v = .int c := fun v hv => by
      obtain ⟨c, _, rfl⟩ := List.mem_map.mp (List.mem_of_mem_drop (List.mem_of_mem_take hv))
      exact ⟨c, rfl⟩
    have hsl5 : upd H4 sl (.lst (cutV (ns.map V.int) (some 3) (some 63))) sl = some (.lst (cutV (ns.map V.int) (some 3) (some 63))) := upd_same
    have s45 := Same.upd (o := .lst (cutV (ns.map V.int) (some 3) (some 63))) hsl
    have nlS : sl ≠ S := (ne_of_none hS4 hsl).symm
    have nlT : sl ≠ Tt := (ne_of_none hT4 hsl).symm
    have nlY : sl ≠ Y := (ne_of_none hY4 hsl).symm
    generalize upd H4 sl (.lst (cutV (ns.map V.int) (some 3) (some 63))) = H5 at hsl5 s45
    generalize cutV (ns.map V.int) (some 3) (some 63) = cs at slen sints hsl5
    have s05 := s04.trans s45
    refine ⟨sl, rfl, ⟨_, SqL.of hsl5⟩, for_enum (K := X.K) (a := sl) (xs := cs) (BookInv a cl nl p S Tt Y H5 ps cs.length)
      ⟨[], [], [], none, none, none, none, none, rfl, s45 _ _ hS4, s45 _ _ hT4, s45 _ _ hY4, fun b o e _ _ _ => e, by decide, by decide, by decide, Nat.zero_le _, (fun v hv => by cases hv), (fun v hv => by cases hv), (fun v hv => by cases hv)⟩
      (by rintro i σ H' ⟨_, _, _, _, _, _, _, _, _, _, _, _, kp, _⟩; exact SqL.of (kp _ _ hsl5 nlS nlT nlY)) ?_ ?_⟩
    · rintro i x q σ H6 hx hq ⟨ss, ts, ys, e1, e2, e3, e4, e5, rfl, hs6, ht6, hy6, kp, ls, lt, ly, li, gs, gt, gy⟩
      obtain ⟨c, rfl⟩ := sints x (List.mem_of_getElem? hx)
      have hi : i < cs.length := (List.getElem?_eq_some_iff.mp hx).1
      refine ⟨q, _, rfl, SqT.of upd_same, rfl, _, _, rfl, _, _, rfl, rfl, ?_⟩
      have s6 := Same.upd (o := .tup [.int i, .int c]) hq
      have hs7 := s6 _ _ hs6
      have ht7 := s6 _ _ ht6
      have hy7 := s6 _ _ hy6
      have kp7 : ∀ b o, H5 b = some o → b ≠ S → b ≠ Tt → b ≠ Y → upd H6 q (.tup [.int i, .int c]) b = some o := fun b o e n1 n2 n3 => s6 _ _ (kp b o e n1 n2 n3)
      have gs7 : ∀ v ∈ ss, SightIn ps (upd H6 q (.tup [.int i, .int c])) v := fun v hv => (gs v hv).mono (Tk.of s6)
      have gt7 : ∀ v ∈ ts, TalkIn ps (upd H6 q (.tup [.int i, .int c])) v := fun v hv => (gt v hv).mono (Tk.of s6)
      have gy7 : ∀ v ∈ ys, SayIn ps (upd H6 q (.tup [.int i, .int c])) v := fun v hv => (gy v hv).mono (Tk.of s6)
      generalize upd H6 q (.tup [.int i, .int c]) = H7 at hs7 ht7 hy7 kp7 gs7 gt7 gy7
      have hp7 := kp7 _ _ (s45 _ _ hp4) npS npT npY
      have hn7 := kp7 _ _ (s45 _ _ hn4) nnS nnT nnY
      refine ⟨_, rfl, _, _, rfl, rfl, ⟨by decide, by decide, by decide⟩, _, _, rfl, rfl, (by show (0 : Int) < 10 ^ Int.toNat 40; decide +kernel), _, rfl, _, _, rfl, rfl, .inl ⟨by decide, by decide⟩, _, rfl, _, _, rfl, rfl, .inr ⟨by omega, by omega⟩, _, _, rfl, rfl, _, _, rfl, rfl, .inr ⟨by decide, by decide⟩, _, _, rfl, rfl, ⟨by decide, by decide, by decide⟩, _, _, rfl, rfl, _, _, rfl, rfl, (by show (0 : Int) < 10 ^ Int.toNat 41 + 7; decide +kernel), ?_⟩
      dsimp only
      generalize (c % 10 ^ Int.toNat 40 + 31 * (i : Int) * (i : Int)) * 48271 % (10 ^ Int.toNat 41 + 7) = N
      refine ⟨_, rfl, _, _, rfl, rfl, (by show (0 : Int) < 8; decide), ?_⟩
      have pl : (ps.map V.str).length = ps.length := List.length_map ..
      have plo := hP.lo
      refine both ?_ fun other => ⟨_, rfl, _, _, rfl, rfl, _, rfl, ite2 (fun _ => ⟨_, rfl, S, _, rfl, .inl (SqL.of hs7), _, _, rfl, rfl, _, rfl, ite2 (fun h24 => ?_) (fun _ => other)⟩) (fun _ => other)⟩
      · refine both ?_ fun other => ⟨_, rfl, _, _, rfl, rfl, _, rfl, ite2 (fun _ => ⟨_, rfl, p, _, rfl, .inl (SqL.of hp7), _, _, rfl, rfl, _, rfl, ite2 (fun h1 => ?_) (fun _ => other)⟩) (fun _ => other)⟩
        · refine ⟨_, rfl, .inl ⟨rfl, _, SqL.of hy7⟩, _, rfl, _, _, rfl, rfl, ⟨by decide, by decide⟩, _, rfl, N / 8, p, ps, rfl, hp7, hP, fun v H8 s8 hv8 => ?_⟩
          refine ⟨Y, ys, v, rfl, rfl, s8 _ _ hy7, by omega, ?_⟩
          have tk := (Tk.of s8).trans (Tk.upd (s8 _ _ hy7) (ys := ys ++ [v]))
          refine ⟨ss, ts, ys ++ [v], _, _, _, _, _, rfl, (by rw [upd_ne nSY]; exact s8 _ _ hs7), (by rw [upd_ne nTY]; exact s8 _ _ ht7), upd_same, fun b o e n1 n2 n3 => (by rw [upd_ne n3]; exact s8 _ _ (kp7 b o e n1 n2 n3)), ls, by omega, (by rw [List.length_append]; show ys.length + 1 ≤ i + 1; omega), by omega, fun v hv => (gs7 v hv).mono tk, fun v hv => (gt7 v hv).mono tk, fun u hu => ?_⟩
          rw [List.mem_append, List.mem_singleton] at hu
          rcases hu with hu | rfl
          · exact (gy7 u hu).mono tk
          · exact hv8.mono (Tk.upd (s8 _ _ hy7))
        · have p2 : 2 ≤ ps.length := by
            rw [decide_eq_true_iff, pl] at h1
            omega
          refine ⟨_, rfl, .inl ⟨rfl, _, SqL.of ht7⟩, _, rfl, _, _, rfl, rfl, ⟨by decide, by decide⟩, _, rfl, N / 8, p, ps, rfl, hp7, hP, p2, fun v H8 s8 hv8 => ?_⟩
          refine ⟨Tt, ts, v, rfl, rfl, s8 _ _ ht7, by omega, ?_⟩
          have tk := (Tk.of s8).trans (Tk.upd (s8 _ _ ht7) (ys := ts ++ [v]))
          refine ⟨ss, ts ++ [v], ys, _, _, _, _, _, rfl, (by rw [upd_ne nST]; exact s8 _ _ hs7), upd_same, (by rw [upd_ne nTY.symm]; exact s8 _ _ hy7), fun b o e n1 n2 n3 => (by rw [upd_ne n2]; exact s8 _ _ (kp7 b o e n1 n2 n3)), ls, (by rw [List.length_append]; show ts.length + 1 ≤ i + 1; omega), by omega, by omega, fun v hv => (gs7 v hv).mono tk, fun u hu => ?_, fun v hv => (gy7 v hv).mono tk⟩
          rw [List.mem_append, List.mem_singleton] at hu
          rcases hu with hu | rfl
          · exact (gt7 u hu).mono tk
          · exact hv8.mono (Tk.upd (s8 _ _ ht7))
      · have s24 : ss.length < 24 := by
          rw [decide_eq_true_iff] at h24
          omega
        have o0 : 0 ≤ N / 8 % (ps.length : Int) := Int.emod_nonneg _ (by omega)
        have o1 : N / 8 % (ps.length : Int) < ps.length := Int.emod_lt_of_pos _ (by omega)
        obtain ⟨y, ay, gy', my⟩ := at_pers o0 o1
        refine ⟨_, rfl, _, rfl, _, _, rfl, rfl, ⟨by decide, by decide⟩, _, rfl, p, _, rfl, .inl (SqL.of hp7), _, _, rfl, rfl, (by omega), p, _, _, _, rfl, rfl, SqL.of hp7, (by rw [pl]; exact ay), ?_⟩
        refine ⟨_, rfl, .inl ⟨rfl, _, SqL.of hs7⟩, _, rfl, _, rfl, _, _, rfl, rfl, ⟨by decide, by decide⟩, N / 200, rfl, fun h hho => ?_⟩
        refine ⟨_, rfl, _, _, rfl, rfl, ⟨by decide, by decide⟩, _, _, rfl, rfl, ⟨by decide, by decide, by decide⟩, _, _, rfl, rfl, (by show (0 : Int) < 10 ^ Int.toNat 9; decide +kernel), _, rfl, _, nl, us, rfl, hn7, hU, fun tl ws H8 s8 htl w1 w6 hw => ?_⟩
        refine ⟨by show 3 ≤ sizeLine; decide, fun tp htp => ?_⟩
        have s9 := s8.trans (Same.upd (o := .tup [.str y, .int h, .ref tl]) htp)
        refine ⟨S, ss, .ref tp, rfl, rfl, s9 _ _ hs7, by omega, ?_⟩
        have tk := (Tk.of s9).trans (Tk.upd (s9 _ _ hs7) (ys := ss ++ [.ref tp]))
        refine ⟨ss ++ [.ref tp], ts, ys, _, _, _, _, _, rfl, upd_same, (by rw [upd_ne nST.symm]; exact s9 _ _ ht7), (by rw [upd_ne nSY.symm]; exact s9 _ _ hy7), fun b o e n1 n2 n3 => (by rw [upd_ne n1]; exact s9 _ _ (kp7 b o e n1 n2 n3)), (by rw [List.length_append]; show ss.length + 1 ≤ 24; omega), by omega, by omega, by omega, fun v hv => ?_, fun v hv => (gt7 v hv).mono tk, fun v hv => (gy7 v hv).mono tk⟩
        rw [List.mem_append, List.mem_singleton] at hv
        rcases hv with hv | rfl
        · exact (gs7 v hv).mono tk
        · have n1 : tp ≠ S := (ne_of_none (s8 _ _ hs7) htp).symm
          have n2 : tl ≠ S := ne_of htl (s8 _ _ hs7) (by intro z; cases z)
          exact ⟨tp, y, h, tl, ws, rfl, (by rw [upd_ne n1]; exact upd_same), my, hho, (by rw [upd_ne n2]; exact (Same.upd htp) _ _ htl), w1, w6, hw⟩
    · rintro σ H6 ⟨ss, ts, ys, e1, e2, e3, e4, e5, rfl, hs6, ht6, hy6, kp, ls, lt, ly, li, gs, gt, gy⟩
      refine ⟨_, rfl, _, rfl, _, rfl, _, rfl, by show 4 ≤ sizeLine; decide, fun r hr => ?_⟩
      have s6 := Same.upd (o := .lst [.ref p, .ref S, .ref Tt, .ref Y]) hr
      have hp6 := kp _ _ (s45 _ _ hp4) npS npT npY
      have s06 : Same H H6 := fun b o e => kp b o (s05 _ _ e) (ne_of_none e hnS) (ne_of_none e hnT) (ne_of_none e hnY)
      have rp : r ≠ p := (ne_of_none hp6 hr).symm
      have rS : r ≠ S := (ne_of_none hs6 hr).symm
      have rT : r ≠ Tt := (ne_of_none ht6 hr).symm
      have rY : r ≠ Y := (ne_of_none hy6 hr).symm
      refine k r p S Tt Y ps ss ts ys _ (s06.trans s6) (s06.free hr) pn hnS hnT hnY ?_ upd_same (s6 _ _ hp6) (s6 _ _ hs6) (s6 _ _ ht6) (s6 _ _ hy6) ⟨hP, ls, fun v hv => (gs v hv).mono (Tk.of s6), by omega, fun v hv => (gt v hv).mono (Tk.of s6), by omega, fun v hv => (gy v hv).mono (Tk.of s6)⟩ (by omega) (by omega)
      simp only [List.nodup_cons, List.mem_cons, List.not_mem_nil, or_false, not_or, List.nodup_nil, and_true, not_false_eq_true]
      exact ⟨⟨rp, rS, rT, rY⟩, ⟨npS, npT, npY⟩, ⟨nST, nSY⟩, nTY⟩
end
end K15

namespace K15
open PySem L2
/-! ### the law's stories -/
def EvG (ps : List Str) (H : Hp) (v : V) : Prop := ∃ (a : Addr) (i j : Int) (z : Str) (q : Addr) (w : EW), v = .ref a ∧ H a = some (.tup [.int i, .int j, .str z, .ref q]) ∧ HourOk i ∧ z ∈ ps ∧ WayD H q w
theorem EvG.mono {ps : List Str} {H H' : Hp} (s : Tk H H') {v : V} (h : EvG ps H v) : EvG ps H' v := by
  obtain ⟨a, i, j, z, q, w, e, h1, h2, h3, h4⟩ := h
  exact ⟨a, i, j, z, q, w, e, s _ _ h1, h2, h3, h4.mono s⟩
inductive EvP (vs : List V) (H : Hp) (Q : VK) : Prop
  | mk (r p s t y : Addr) (c : Int) (ps : List Str) (ss ts : List V) (sg : List GD) (qd : List QD) (e : vs = [.ref r, .int c]) (hr : H r = some (.lst [.ref p, .ref s, .ref t, .ref y])) (hs : H s = some (.lst ss)) (ht : H t = some (.lst ts)) (sl : ss.length ≤ 24) (tl : ts.length ≤ 120) (gs : Lz SightD H ss sg) (gk : ∀ d ∈ sg, d.1 ∈ ps ∧ HourOk d.2) (qs : Lz TalkQ H ts qd) (qk : ∀ d ∈ qd, QdOk ps d)
      (k : ∀ l us H', Same H H' → H l = none → H' l = some (.lst us) → us.length ≤ 264 → (∀ v ∈ us, EvG ps H' v) → Q (.ref l) H')
def spEv : Sp := fun vs H Q _ => EvP vs H Q
inductive EvI (r l : Addr) (c : Int) (ps : List Str) (n : Nat) (H : Hp) (σ : St) (H2 : Hp) : Prop
  | mk (us : List V) (e1 e2 e3 e4 e5 e6 e7 e8 : Option V) (e : σ = [some (.ref r), some (.int c), some (.ref l), e1, e2, e3, e4, e5, e6, e7, e8]) (s : Same H H2) (hl : H2 l = some (.lst us)) (ul : us.length ≤ n) (g : ∀ v ∈ us, EvG ps H2 v)
/-- one more event at the list's end -/
theorem ev_more {ps : List Str} {H H2 H3 : Hp} {l c1 q : Addr} {us : List V} {i j : Int} {z : Str} {w : EW} (s : Same H H2) (nl : H l = none) (g : ∀ v ∈ us, EvG ps H2 v) (s3 : Same H2 H3) (hl3 : H3 l = some (.lst us)) (h1 : H3 c1 = some (.tup [.int i, .int j, .str z, .ref q])) (hi : HourOk i) (hz : z ∈ ps) (hw : WayD H3 q w) :
    Same H (upd H3 l (.lst (us ++ [.ref c1]))) ∧ ∀ v ∈ us ++ [.ref c1], EvG ps (upd H3 l (.lst (us ++ [.ref c1]))) v := by
  have tk : Tk H3 (upd H3 l (.lst (us ++ [.ref c1]))) := Tk.upd hl3
  refine ⟨fun b o e => ?_, fun v hv => ?_⟩
  · rw [upd_ne (ne_of_none e nl)]
    exact s3 _ _ (s _ _ e)
  · rcases List.mem_append.mp hv with hv | hv
    · exact (g v hv).mono ((Tk.of s3).trans tk)
    · exact ⟨c1, i, j, z, q, w, List.mem_singleton.mp hv, tk _ _ h1, hi, hz, hw.mono tk⟩
section
variable {P : Program} {w : World} {K : PySem.W.Frag} {mg : Str → Option Value} {base : Heap} {kw C : Addr}
theorem sc_l_events : FnScope ["_law_parts", "_law_cell", "_law_events_here", "_law_number", "_law_sight", "_law_k", "_law_talk_here", "_law_hour_here", "_law_one", "_law_two", "_law_way"] ["_law_parts", "_law_cell"] (defScope s_l_events) := ⟨rfl, rfl, rfl, by decide +kernel, rfl, by decide +kernel, by decide +kernel⟩
theorem ok_ev {f : Addr} {fd : FuncData} (D : Df K mg "_law_events" s_l_events ["_law_parts", "_law_cell"] f fd) (T : Txt K mg kw C) (G__law_mix : Gd P w K mg base 1 "_law_mix" spMix) : Gd P w K mg base 2 "_law_events" spEv := by
  refine J.def_ok D sc_l_events (fun vs H Q E h => ?_) (fun X H vs Q E hh h => ?_)
  · obtain ⟨r, p, s, t, y, c, ps, ss, ts, sg, qd, rfl, _⟩ := h
    rfl
  · obtain ⟨r, p, s, t, y, c, ps, ss, ts, sg, qd, rfl, hr, hs, ht, sl, tl, gs, gk, qs, qk, k⟩ := h
    have S0 : L2.Slot X 0 "_law_parts" := hh.slot 0 rfl (by first | exact .inl rfl | exact .inr rfl) (by decide) (by decide)
    have S1 : L2.Slot X 1 "_law_cell" := hh.slot 1 rfl (by first | exact .inl rfl | exact .inr rfl) (by decide) (by decide)
    have S2 : L2.Slot X 2 "_law_events_here" := hh.slot 2 rfl (by first | exact .inl rfl | exact .inr rfl) (by decide) (by decide)
    have S3 : L2.Slot X 3 "_law_number" := hh.slot 3 rfl (by first | exact .inl rfl | exact .inr rfl) (by decide) (by decide)
    have S4 : L2.Slot X 4 "_law_sight" := hh.slot 4 rfl (by first | exact .inl rfl | exact .inr rfl) (by decide) (by decide)
    have S5 : L2.Slot X 5 "_law_k" := hh.slot 5 rfl (by first | exact .inl rfl | exact .inr rfl) (by decide) (by decide)
    have S6 : L2.Slot X 6 "_law_talk_here" := hh.slot 6 rfl (by first | exact .inl rfl | exact .inr rfl) (by decide) (by decide)
    have S7 : L2.Slot X 7 "_law_hour_here" := hh.slot 7 rfl (by first | exact .inl rfl | exact .inr rfl) (by decide) (by decide)
    have S8 : L2.Slot X 8 "_law_one" := hh.slot 8 rfl (by first | exact .inl rfl | exact .inr rfl) (by decide) (by decide)
    have S9 : L2.Slot X 9 "_law_two" := hh.slot 9 rfl (by first | exact .inl rfl | exact .inr rfl) (by decide) (by decide)
    have S10 : L2.Slot X 10 "_law_way" := hh.slot 10 rfl (by first | exact .inl rfl | exact .inr rfl) (by decide) (by decide)
    have B_enumerate : Bt X "enumerate" := hh.bt T.b_enumerate rfl (by decide) (by decide)
    have B_sorted : Bt X "sorted" := hh.bt T.b_sorted rfl (by decide) (by decide)
    have C__law_mix := hh.cal G__law_mix rfl (by first | decide | exact Nat.le_refl _) (by decide)
    have hsz : sizeLine = 16777216 := sizeLine_eq
    refine ⟨_, (J.pss_cons (J.set S2 hh.nd (J.pe_lst J.pa_nil))
 (J.pss_cons (J.ps_for hh.own hh.calm (J.pi_enum B_enumerate (J.pa_c (J.pe_ix J.ix_list (J.rd S0) J.pe_int J.ix_con) J.pa_nil)) (J.pg_tup hh.calm (J.pgs_c (J.tgt S3 hh.nd) (J.pgs_c (J.tgt S4 hh.nd) J.pgs_nil)))
 (J.pss_one (J.ps_do (J.bm PySem.F.plainAttrs_list PySem.F.slot_list_append PySem.F.type_list_append J.mt_append (J.rd S2) (J.pa_c (J.pe_tup (J.pa_c (J.pe_ix J.ix_tup (J.rd S4) J.pe_int J.ix_con) (J.pa_c (J.pe_op J.op_mod (J.cal C__law_mix (J.pa_c (J.rd S1) (J.pa_c (J.rd S3) J.pa_nil))) J.pe_int) (J.pa_c (J.pe_ix J.ix_tup (J.rd S4) J.pe_int J.ix_con) (J.pa_c (J.pe_tup (J.pa_c J.pe_str (J.pa_c (J.rd S3) J.pa_nil))) J.pa_nil))))) J.pa_nil)))))
 (J.pss_cons (J.ps_for hh.own hh.calm (J.pi_enum B_enumerate (J.pa_c (J.pe_ix J.ix_list (J.rd S0) J.pe_int J.ix_con) J.pa_nil)) (J.pg_tup hh.calm (J.pgs_c (J.tgt S5 hh.nd) (J.pgs_c (J.tgt S6 hh.nd) J.pgs_nil)))
 (J.pss_cons (J.asg (J.rd S6) (J.pg_tup hh.calm (J.pgs_c (J.tgt S7 hh.nd) (J.pgs_c (J.tgt S8 hh.nd) (J.pgs_c (J.tgt S9 hh.nd) (J.pgs_c (J.tgt S10 hh.nd) J.pgs_nil))))))
 (J.pss_cons (J.ps_do (J.bm PySem.F.plainAttrs_list PySem.F.slot_list_append PySem.F.type_list_append J.mt_append (J.rd S2) (J.pa_c (J.pe_tup (J.pa_c (J.rd S7) (J.pa_c (J.pe_op J.op_mod (J.cal C__law_mix (J.pa_c (J.rd S1) (J.pa_c (J.pe_op J.op_add J.pe_int (J.rd S5)) J.pa_nil))) J.pe_int) (J.pa_c (J.rd S9) (J.pa_c (J.pe_tup (J.pa_c J.pe_str (J.pa_c (J.rd S5) (J.pa_c (J.rd S8) J.pa_nil)))) J.pa_nil))))) J.pa_nil)))
 (J.pss_one (J.ps_if (J.pt_cmpR J.op_eq (J.rd S10) J.pe_str (L2.nomark _))
 (J.pss_one (J.ps_do (J.bm PySem.F.plainAttrs_list PySem.F.slot_list_append PySem.F.type_list_append J.mt_append (J.rd S2) (J.pa_c (J.pe_tup (J.pa_c (J.rd S7) (J.pa_c (J.pe_op J.op_mod (J.cal C__law_mix (J.pa_c (J.rd S1) (J.pa_c (J.pe_op J.op_add J.pe_int (J.rd S5)) J.pa_nil))) J.pe_int) (J.pa_c (J.rd S8) (J.pa_c (J.pe_tup (J.pa_c J.pe_str (J.pa_c (J.rd S5) (J.pa_c (J.rd S9) J.pa_nil)))) J.pa_nil))))) J.pa_nil))))
 J.pss_nil)))))
 (J.pss_one (J.ps_ret (J.blt B_sorted (J.call_sortedW (L2.hu2_of hh.room)) L2.bb_sorted (J.pa_c (J.rd S2) J.pa_nil))))))), ?_⟩
    refine ⟨by show 0 ≤ sizeLine; decide, fun l hl => ?_⟩
    have s1 := Same.upd (o := .lst []) hl
    refine ⟨_, rfl, r, _, _, _, rfl, rfl, SqL.of (s1 _ _ hr), rfl, s, rfl, ⟨_, SqL.of (s1 _ _ hs)⟩, for_enum (K := X.K) (a := s) (xs := ss) (fun i => EvI r l c ps i H)
      ⟨[], none, none, none, none, none, none, none, none, rfl, s1, upd_same, Nat.le_refl 0, fun v hv => by cases hv⟩ ?_ ?_ ?_⟩
    · rintro i σ H2 ⟨us, e1, e2, e3, e4, e5, e6, e7, e8, rfl, s2, _⟩
      exact SqL.of (s2 _ _ hs)
    · rintro i v q σ H2 hv hq ⟨us, e1, e2, e3, e4, e5, e6, e7, e8, rfl, s2, hl2, ul, g2⟩
      have hi : i < ss.length := (List.getElem?_eq_some_iff.mp hv).1
      obtain ⟨d, hd, a, ta, rfl, ha⟩ := gs.at hv
      obtain ⟨dp, dh⟩ := gk d (List.mem_of_getElem? hd)
      have s3 := Same.upd (o := .tup [.int i, .ref a]) hq
      refine ⟨q, _, rfl, SqT.of upd_same, rfl, _, _, rfl, _, _, rfl, rfl, ?_⟩
      generalize upd H2 q (.tup [.int i, .ref a]) = H3 at s3
      have s03 := s2.trans s3
      have ha3 := s03 _ _ ha
      have hl3 := s3 _ _ hl2
      refine ⟨_, rfl, .inl ⟨rfl, _, SqL.of hl3⟩, _, rfl, a, _, _, _, rfl, rfl, SqT.of ha3, rfl, _, rfl, _, rfl, c, (i : Int), rfl, by omega, by omega, fun m m0 m1 => ?_⟩
      refine ⟨_, _, rfl, rfl, (by show (0 : Int) < 97; decide), _, rfl, a, _, _, _, rfl, rfl, SqT.of ha3, rfl, _, rfl, by show 2 ≤ sizeLine; decide, fun q2 hq2 => ⟨by show 4 ≤ sizeLine; decide, fun c1 hc1 => ?_⟩⟩
      have s4 := Same.upd (o := .tup [.str "saw", .int i]) hq2
      have s5 := Same.upd (o := .tup [.int d.2, .int (m % 97), .str d.1, .ref q2]) hc1
      have hw : WayD (upd (upd H3 q2 (.tup [.str "saw", .int i])) c1 (.tup [.int d.2, .int (m % 97), .str d.1, .ref q2])) q2 (.saw i) := s5 _ _ upd_same
      have hl5 := s5 _ _ (s4 _ _ hl3)
      obtain ⟨sz, gz⟩ := ev_more (w := .saw i) s2 hl g2 ((s3.trans s4).trans s5) hl5 upd_same dh dp hw
      exact ⟨l, us, .ref c1, rfl, rfl, hl5, by omega, _, _, _, _, _, _, _, _, _, rfl, sz, upd_same, by rw [List.length_append]; show us.length + 1 ≤ i + 1; omega, gz⟩
    · rintro σ H2 ⟨us, e1, e2, e3, e4, e5, e6, e7, e8, rfl, s2, hl2, ul, g2⟩
      refine ⟨_, rfl, r, _, _, _, rfl, rfl, SqL.of (s2 _ _ hr), rfl, t, rfl, ⟨_, SqL.of (s2 _ _ ht)⟩, for_enum (K := X.K) (a := t) (xs := ts) (fun i => EvI r l c ps (24 + 2 * i) H)
        ⟨us, _, _, _, _, _, _, _, _, rfl, s2, hl2, by omega, g2⟩ ?_ ?_ ?_⟩
      · rintro i σ H3 ⟨us, e1, e2, e3, e4, e5, e6, e7, e8, rfl, s3, _⟩
        exact SqL.of (s3 _ _ ht)
      · rintro i v q σ H3 hv hq ⟨us, e1, e2, e3, e4, e5, e6, e7, e8, rfl, s3, hl3, ul3, g3⟩
        have hi : i < ts.length := (List.getElem?_eq_some_iff.mp hv).1
        obtain ⟨d, hd, a, rfl, ha⟩ := qs.at hv
        have dk := qk d (List.mem_of_getElem? hd)
        have s4 := Same.upd (o := .tup [.int i, .ref a]) hq
        refine ⟨q, _, rfl, SqT.of upd_same, rfl, _, _, rfl, _, _, rfl, rfl, ?_⟩
        generalize upd H3 q (.tup [.int i, .ref a]) = H4 at s4
        have s04 := s3.trans s4
        have ha4 := s04 _ _ ha
        have hl4 := s4 _ _ hl3
        refine ⟨_, rfl, a, _, rfl, SqT.of ha4, rfl, _, _, rfl, _, _, rfl, _, _, rfl, _, _, rfl, rfl, ?_⟩
        refine ⟨_, rfl, .inl ⟨rfl, _, SqL.of hl4⟩, _, rfl, _, rfl, _, rfl, _, _, rfl, rfl, c, 30 + (i : Int), rfl, by omega, by omega, fun m m0 m1 => ?_⟩
        refine ⟨_, _, rfl, rfl, (by show (0 : Int) < 97; decide), _, rfl, _, rfl, _, rfl, by show 3 ≤ sizeLine; decide, fun q2 hq2 => ⟨by show 4 ≤ sizeLine; decide, fun c1 hc1 => ?_⟩⟩
        have s5 := Same.upd (o := .tup [.str "heard", .int i, .str d.2.1]) hq2
        have s6 := Same.upd (o := .tup [.int d.1, .int (m % 97), .str d.2.2.1, .ref q2]) hc1
        have hw : WayD (upd (upd H4 q2 (.tup [.str "heard", .int i, .str d.2.1])) c1 (.tup [.int d.1, .int (m % 97), .str d.2.2.1, .ref q2])) q2 (.hrd i d.2.1) := s6 _ _ upd_same
        have hl6 := s6 _ _ (s5 _ _ hl4)
        obtain ⟨sz, gz⟩ := ev_more (w := .hrd i d.2.1) s3 hl g3 ((s4.trans s5).trans s6) hl6 upd_same dk.1 dk.2.2.1 hw
        refine ⟨l, us, .ref c1, rfl, rfl, hl6, by omega, ?_⟩
        generalize hX : upd (upd (upd H4 q2 (.tup [.str "heard", .int i, .str d.2.1])) c1 (.tup [.int d.1, .int (m % 97), .str d.2.2.1, .ref q2])) l (.lst (us ++ [.ref c1])) = H7 at sz gz
        have hl7 : H7 l = some (.lst (us ++ [.ref c1])) := by rw [← hX]; exact upd_same
        have ul7 : (us ++ [V.ref c1]).length ≤ 24 + 2 * i + 1 := by rw [List.length_append]; show us.length + 1 ≤ _; omega
        generalize us ++ [V.ref c1] = us7 at gz hl7 ul7
        clear hX s5 s6 hw hl6 hq2 hc1
        refine ⟨_, rfl, rfl, _, rfl, ite2 (fun hb => ?_) (fun hb => ⟨us7, _, _, _, _, _, _, _, _, rfl, sz, hl7, by omega, gz⟩)⟩
        refine ⟨_, rfl, .inl ⟨rfl, _, SqL.of hl7⟩, _, rfl, _, rfl, _, rfl, _, _, rfl, rfl, c, 90 + (i : Int), rfl, by omega, by omega, fun m m0 m1 => ?_⟩
        refine ⟨_, _, rfl, rfl, (by show (0 : Int) < 97; decide), _, rfl, _, rfl, _, rfl, by show 3 ≤ sizeLine; decide, fun q2 hq2 => ⟨by show 4 ≤ sizeLine; decide, fun c1 hc1 => ?_⟩⟩
        have s5 := Same.upd (o := .tup [.str "heard", .int i, .str d.2.2.1]) hq2
        have s6 := Same.upd (o := .tup [.int d.1, .int (m % 97), .str d.2.1, .ref q2]) hc1
        have hw : WayD (upd (upd H7 q2 (.tup [.str "heard", .int i, .str d.2.2.1])) c1 (.tup [.int d.1, .int (m % 97), .str d.2.1, .ref q2])) q2 (.hrd i d.2.2.1) := s6 _ _ upd_same
        have hl8 := s6 _ _ (s5 _ _ hl7)
        obtain ⟨sy, gy⟩ := ev_more (w := .hrd i d.2.2.1) sz hl gz (s5.trans s6) hl8 upd_same dk.1 dk.2.1 hw
        exact ⟨l, us7, .ref c1, rfl, rfl, hl8, by omega, _, _, _, _, _, _, _, _, _, rfl, sy, upd_same, by rw [List.length_append]; show us7.length + 1 ≤ _; omega, gy⟩
      · rintro σ H3 ⟨us, e1, e2, e3, e4, e5, e6, e7, e8, rfl, s3, hl3, ul3, g3⟩
        obtain ⟨as, rfl⟩ : ∃ as : List Addr, us = as.map V.ref := by
          clear hl3 ul3
          induction us with
          | nil => exact ⟨[], rfl⟩
          | cons u us ih =>
            obtain ⟨as, rfl⟩ := ih fun v hv => g3 v (.tail _ hv)
            obtain ⟨a, i, j, z, q, w, rfl, _⟩ := g3 u (.head _)
            exact ⟨a :: as, rfl⟩
        rw [List.length_map] at ul3
        refine ⟨_, rfl, l, as, rfl, SqL.of hl3, fun a ma => ?_, fun l2 ys nl2 pm => ?_⟩
        · obtain ⟨a', i, j, z, q, w, e, h1, h2, h3, h4⟩ := g3 (.ref a) (List.mem_map_of_mem ma)
          cases e
          refine ⟨i, j, z, q, SqT.of h1, ?_⟩
          cases w with
          | saw n => exact .saw n (SqT.of h4)
          | hrd n te => exact .heard n te (SqT.of h4)
        · have s4 := Same.upd (o := .lst (ys.map V.ref)) nl2
          refine k l2 _ _ (s3.trans s4) (s3.free nl2) upd_same (by rw [List.length_map, pm.length_eq]; omega) fun v hv => ?_
          obtain ⟨a, ma, rfl⟩ := List.mem_map.mp hv
          exact (g3 _ (List.mem_map_of_mem (pm.mem_iff.mp ma))).mono (Tk.of s4)
end
abbrev KA := ED × Addr
def kvA (ks : List KA) : List (Key × V) := ks.map fun p => (Sum.inr p.1.1, V.ref p.2)
def KnA (H : Hp) (ks : List KA) : Prop := ∀ p ∈ ks, ∃ w, H p.2 = some (.tup [.int p.1.2.1, .ref w]) ∧ WayD H w p.1.2.2
theorem KnA.mono {H H' : Hp} (s : Tk H H') {ks : List KA} (h : KnA H ks) : KnA H' ks := fun p hp => by
  obtain ⟨w, h1, h2⟩ := h p hp
  exact ⟨w, s _ _ h1, h2.mono s⟩
theorem kvA_get : ∀ (ks : List KA) (z : Str), (valV (kvA ks) (Sum.inr z) = none ∧ ∀ p ∈ ks, p.1.1 ≠ z) ∨ ∃ p ∈ ks, p.1.1 = z ∧ valV (kvA ks) (Sum.inr z) = some (.ref p.2)
  | [], z => .inl ⟨rfl, fun p hp => by cases hp⟩
  | p :: ks, z => by
    by_cases e : p.1.1 = z
    · refine .inr ⟨p, .head _, e, ?_⟩
      unfold valV kvA
      rw [List.map_cons, List.find?_cons_of_pos (by exact decide_eq_true (congrArg Sum.inr e))]
      rfl
    · have e2 : valV (kvA (p :: ks)) (Sum.inr z) = valV (kvA ks) (Sum.inr z) := by
        unfold valV kvA
        rw [List.map_cons, List.find?_cons_of_neg (by
          intro h
          exact e (Sum.inr.inj (of_decide_eq_true h)))]
      rw [e2]
      rcases kvA_get ks z with ⟨h1, h2⟩ | ⟨p', m, h1, h2⟩
      · exact .inl ⟨h1, fun p' hp' => by
          rcases List.mem_cons.mp hp' with rfl | hp'
          · exact e
          · exact h2 p' hp'⟩
      · exact .inr ⟨p', .tail _ m, h1, h2⟩
theorem kvA_put {ks : List KA} {p : KA} (h : ∀ q ∈ ks, q.1.1 ≠ p.1.1) : putK (kvA ks) (Sum.inr p.1.1) (.ref p.2) = kvA (ks ++ [p]) := by
  have no : ((kvA ks).any fun kv => decide (kv.1 = Sum.inr p.1.1)) = false := by
    rw [List.any_eq_false]
    intro kv hkv e
    obtain ⟨q, hq, rfl⟩ := List.mem_map.mp hkv
    exact h q hq (Sum.inr.inj (of_decide_eq_true e))
  unfold putK
  rw [no, if_neg Bool.false_ne_true]
  unfold kvA
  rw [List.map_append]
  rfl
inductive StP (vs : List V) (H : Hp) (Q : VK) : Prop
  | mk (r p s t y : Addr) (c : Int) (ps : List Str) (ss ts : List V) (sg : List GD) (qd : List QD) (e : vs = [.ref r, .int c]) (hr : H r = some (.lst [.ref p, .ref s, .ref t, .ref y])) (hs : H s = some (.lst ss)) (ht : H t = some (.lst ts)) (sl : ss.length ≤ 24) (tl : ts.length ≤ 120) (gs : Lz SightD H ss sg) (gk : ∀ d ∈ sg, d.1 ∈ ps ∧ HourOk d.2) (qs : Lz TalkQ H ts qd) (qk : ∀ d ∈ qd, QdOk ps d) (pl : ps.length ≤ 24)
      (k : ∀ l us st H', Same H H' → H l = none → H' l = some (.lst us) → Lz EntL H' us st → (st.map (·.1)).Nodup → st.length ≤ 24 → (∀ d ∈ st, HourOk d.2.1) → Q (.ref l) H')
def spSt : Sp := fun vs H Q _ => StP vs H Q
inductive StI (r kn : Addr) (c : Int) (ps : List Str) (H : Hp) (i : Nat) (σ : St) (H2 : Hp) : Prop
  | mk (ks : List KA) (e1 e2 e3 e4 e5 : Option V) (e : σ = [some (.ref r), some (.int c), some (.ref kn), some (.int i), e1, e2, e3, e4, e5]) (s : Same H H2) (hk : H2 kn = some (.dK (kvA ks))) (ka : KnA H2 ks) (nd : (ks.map (·.1.1)).Nodup) (g : ∀ p ∈ ks, p.1.1 ∈ ps ∧ HourOk p.1.2.1)
theorem st_data {H : Hp} : ∀ (ys : List V) (zs : List Str), ys.length = zs.length → (∀ (j : Nat) v z, ys[j]? = some v → zs[j]? = some z → ∃ d : ED, d.1 = z ∧ HourOk d.2.1 ∧ EntL H v d) → ∃ st : List ED, st.map (·.1) = zs ∧ Lz EntL H ys st ∧ ∀ d ∈ st, HourOk d.2.1
  | [], [], _, _ => ⟨[], rfl, ⟨rfl, fun i v d h => by cases h⟩, fun d hd => by cases hd⟩
  | [], _ :: _, h, _ => by cases h
  | _ :: _, [], h, _ => by cases h
  | v :: ys, z :: zs, h, k => by
    obtain ⟨st, e, lz, ho⟩ := st_data ys zs (Nat.succ.inj h) fun j v z h1 h2 => k (j + 1) v z h1 h2
    obtain ⟨d, e1, h1, h2⟩ := k 0 v z rfl rfl
    refine ⟨d :: st, by rw [List.map_cons, e1, e], ⟨congrArg Nat.succ lz.1, fun i u d' hu hd => ?_⟩, fun d' hd => ?_⟩
    · cases i with
      | zero =>
        cases hu
        cases hd
        exact h2
      | succ i => exact lz.2 i u d' hu hd
    · rcases List.mem_cons.mp hd with rfl | hd
      · exact h1
      · exact ho d' hd
theorem st_third {r kn wa : Addr} {c h j : Int} {ps : List Str} {H H3 : Hp} {i : Nat} {z : Str} {w : EW} {gb : Bool} {ks : List KA} {D : Ends} (il : i < 264) (nkn : H kn = none) (s3 : Same H H3) (hk3 : H3 kn = some (.dK (kvA ks))) (ka : KnA H3 ks) (nd : (ks.map (·.1.1)).Nodup) (g3 : ∀ p ∈ ks, p.1.1 ∈ ps ∧ HourOk p.1.2.1) (pl : ps.length ≤ 24) (hi : HourOk h) (hz : z ∈ ps) (hw : WayD H3 wa w)
    (hD : ∀ σ H4, StI r kn c ps H (i + 1) σ H4 → (∀ b o, H3 b = some o → b ≠ kn → H4 b = some o) → D.nx σ H4) :
    tIfS (tAnd (tB (tVar 8)) (tAnd (tB (tDNotIn (tVar 6) (tVar 2))) (tTest (tOp (rI0 fun i j => V.bl (decide (j < i))) (tOp (rI (fun _ j => 0 < j) fun i j => V.int (i % j)) (tCall spMix [] E0 (tCons (tVar 1) (tCons (tOp (rI0 fun i j => V.int (i + j)) (tC (V.int 150)) (tVar 3)) tNil))) (tC (V.int 4))) (tC (V.int 0))))))
      (sDPut (tVar 2) (tVar 6) (tTup (tCons (tVar 4) (tCons (tVar 7) tNil)))) tNext D [some (.ref r), some (.int c), some (.ref kn), some (.int ((i : Int) + 1)), some (.int h), some (.int j), some (.str z), some (.ref wa), some (.bl gb)] H3 := by
  have hsz : sizeLine = 16777216 := sizeLine_eq
  have kl : (kvA ks).length < sizeLine := by
    have := nodup_le nd (ps := ps) fun z hz => by
      obtain ⟨p, hp, rfl⟩ := List.mem_map.mp hz
      exact (g3 p hp).1
    unfold kvA
    rw [List.length_map] at this ⊢
    omega
  have same : D.nx [some (.ref r), some (.int c), some (.ref kn), some (.int ((i : Int) + 1)), some (.int h), some (.int j), some (.str z), some (.ref wa), some (.bl gb)] H3 := hD _ _ ⟨ks, _, _, _, _, _, rfl, s3, hk3, ka, nd, g3⟩ fun b o e _ => e
  have dg := DGet.k (k := Sum.inr z) hk3
  refine ⟨_, rfl, _, rfl, ite2 (fun hb => ?_) (fun hb => iteF same)⟩
  rcases kvA_get ks z with ⟨e1, no⟩ | ⟨p, mp, e1, e2⟩
  · rw [e1] at dg
    refine ⟨_, rfl, _, rfl, kn, _, rfl, dg, _, rfl, iteT ⟨_, rfl, _, rfl, _, _, rfl, rfl, c, 150 + ((i : Int) + 1), rfl, by omega, by omega, fun m m0 m1 => ⟨_, _, rfl, rfl, (by show (0 : Int) < 4; decide), _, _, rfl, rfl, _, rfl, ite2 (fun hm => ?_) (fun hm => same)⟩⟩⟩
    refine ⟨_, rfl, _, rfl, by show 2 ≤ sizeLine; decide, fun c1 hc1 => ?_⟩
    have s4 := Same.upd (o := .tup [.int h, .ref wa]) hc1
    have h1 : upd H3 c1 (.tup [.int h, .ref wa]) c1 = some (.tup [.int h, .ref wa]) := upd_same
    generalize upd H3 c1 (.tup [.int h, .ref wa]) = H4 at s4 h1
    refine ⟨_, rfl, _, rfl, kn, _, rfl, DPut.k (k := Sum.inr z) (s4 _ _ hk3) kl, ?_⟩
    have tk : Tk H4 (upd H4 kn (.dK (putK (kvA ks) (Sum.inr z) (.ref c1)))) := fun b xs e => by
      rw [upd_ne (ne_of e (s4 _ _ hk3) (by intro z; cases z))]
      exact e
    have pe : putK (kvA ks) (Sum.inr z) (.ref c1) = kvA (ks ++ [((z, h, w), c1)]) := kvA_put (p := ((z, h, w), c1)) no
    rw [pe] at tk ⊢
    refine hD _ _ ⟨ks ++ [((z, h, w), c1)], _, _, _, _, _, rfl, fun b o e => ?_, upd_same, fun p hp => ?_, ?_, fun p hp => ?_⟩ fun b o e n => ?_
    · rw [upd_ne (ne_of_none e nkn)]
      exact s4 _ _ (s3 _ _ e)
    · rcases List.mem_append.mp hp with hp | hp
      · exact (ka.mono ((Tk.of s4).trans tk)) p hp
      · rw [List.mem_singleton.mp hp]
        exact ⟨wa, tk _ _ h1, hw.mono ((Tk.of s4).trans tk)⟩
    · rw [List.map_append]
      refine List.nodup_append.mpr ⟨nd, List.pairwise_singleton _ _, fun a ha b hb e => ?_⟩
      obtain ⟨p, hp, rfl⟩ := List.mem_map.mp ha
      exact no p hp (e.trans (List.mem_singleton.mp hb))
    · rcases List.mem_append.mp hp with hp | hp
      · exact g3 p hp
      · rw [List.mem_singleton.mp hp]
        exact ⟨hz, hi⟩
    · rw [upd_ne n]
      exact s4 _ _ e
  · rw [e2] at dg
    exact ⟨_, rfl, _, rfl, kn, _, rfl, dg, _, rfl, iteF same⟩
section
variable {P : Program} {w : World} {K : PySem.W.Frag} {mg : Str → Option Value} {base : Heap} {kw C : Addr}
theorem sc_l_story : FnScope ["_law_parts", "_law_cell", "_law_known", "_law_turn", "_law_hour_here", "_law_mixed", "_law_person", "_law_way", "_law_good"] ["_law_parts", "_law_cell"] (defScope s_l_story) := ⟨rfl, rfl, rfl, by decide +kernel, rfl, by decide +kernel, by decide +kernel⟩
theorem ok_st {f : Addr} {fd : FuncData} (D : Df K mg "_law_story" s_l_story ["_law_parts", "_law_cell"] f fd) (T : Txt K mg kw C) (G__law_mix : Gd P w K mg base 1 "_law_mix" spMix) (G__law_events : Gd P w K mg base 2 "_law_events" spEv) : Gd P w K mg base 3 "_law_story" spSt := by
  refine J.def_ok D sc_l_story (fun vs H Q E h => ?_) (fun X H vs Q E hh h => ?_)
  · obtain ⟨r, p, s, t, y, c, ps, ss, ts, sg, qd, rfl, _⟩ := h
    rfl
  · obtain ⟨r, p, s, t, y, c, ps, ss, ts, sg, qd, rfl, hr, hs, ht, sl, tl, gs, gk, qs, qk, pl, k⟩ := h
    have S0 : L2.Slot X 0 "_law_parts" := hh.slot 0 rfl (by first | exact .inl rfl | exact .inr rfl) (by decide) (by decide)
    have S1 : L2.Slot X 1 "_law_cell" := hh.slot 1 rfl (by first | exact .inl rfl | exact .inr rfl) (by decide) (by decide)
    have S2 : L2.Slot X 2 "_law_known" := hh.slot 2 rfl (by first | exact .inl rfl | exact .inr rfl) (by decide) (by decide)
    have S3 : L2.Slot X 3 "_law_turn" := hh.slot 3 rfl (by first | exact .inl rfl | exact .inr rfl) (by decide) (by decide)
    have S4 : L2.Slot X 4 "_law_hour_here" := hh.slot 4 rfl (by first | exact .inl rfl | exact .inr rfl) (by decide) (by decide)
    have S5 : L2.Slot X 5 "_law_mixed" := hh.slot 5 rfl (by first | exact .inl rfl | exact .inr rfl) (by decide) (by decide)
    have S6 : L2.Slot X 6 "_law_person" := hh.slot 6 rfl (by first | exact .inl rfl | exact .inr rfl) (by decide) (by decide)
    have S7 : L2.Slot X 7 "_law_way" := hh.slot 7 rfl (by first | exact .inl rfl | exact .inr rfl) (by decide) (by decide)
    have S8 : L2.Slot X 8 "_law_good" := hh.slot 8 rfl (by first | exact .inl rfl | exact .inr rfl) (by decide) (by decide)
    have B_sorted : Bt X "sorted" := hh.bt T.b_sorted rfl (by decide) (by decide)
    have C__law_events := hh.cal G__law_events rfl (by first | decide | exact Nat.le_refl _) (by decide)
    have C__law_mix := hh.cal G__law_mix rfl (by first | decide | exact Nat.le_refl _) (by decide)
    have hu := hu_of hh.room
    have hsz : sizeLine = 16777216 := sizeLine_eq
    refine ⟨_, (J.pss_cons (J.set S2 hh.nd J.pe_dnew)
 (J.pss_cons (J.set S3 hh.nd J.pe_int)
 (J.pss_cons (J.ps_for hh.own hh.calm (J.pi_list (J.cal C__law_events (J.pa_c (J.rd S0) (J.pa_c (J.rd S1) J.pa_nil)))) (J.pg_tup hh.calm (J.pgs_c (J.tgt S4 hh.nd) (J.pgs_c (J.tgt S5 hh.nd) (J.pgs_c (J.tgt S6 hh.nd) (J.pgs_c (J.tgt S7 hh.nd) J.pgs_nil)))))
 (J.pss_cons (J.set S3 hh.nd (J.pe_op J.op_add (J.rd S3) J.pe_int))
 (J.pss_cons (J.set S8 hh.nd (J.pe_cmpR J.op_eq (J.pe_ix J.ix_tup (J.rd S7) J.pe_int J.ix_con) J.pe_str (L2.nomark _)))
 (J.pss_cons (J.ps_if (J.pt_cmpR J.op_eq (J.pe_ix J.ix_tup (J.rd S7) J.pe_int J.ix_con) J.pe_str (L2.nomark _))
 (J.pss_one (J.set S8 hh.nd (J.pe_and (J.pe_din hu (J.pe_ix J.ix_tup (J.rd S7) J.pe_int J.ix_con) (J.rd S2)) (J.pe_one (J.pe_cmpR J.op_lt (J.pe_ix J.ix_tup (J.dget hu (J.rd S2) (J.pe_ix J.ix_tup (J.rd S7) J.pe_int J.ix_con) J.ix_sub) J.pe_int J.ix_con) (J.rd S4) (L2.nomark _))))))
 J.pss_nil)
 (J.pss_one (J.ps_if (J.pw_pt (J.pw_and (J.pt_name (J.rd S8)) (J.pw_and (J.pt_dnotin hu (J.rd S6) (J.rd S2)) (J.pw_and1 (J.pt_cmpR J.op_gt (J.pe_op J.op_mod (J.cal C__law_mix (J.pa_c (J.rd S1) (J.pa_c (J.pe_op J.op_add J.pe_int (J.rd S3)) J.pa_nil))) J.pe_int) J.pe_int (L2.nomark _))))))
 (J.pss_one (J.dput hu (J.rd S2) (J.rd S6) (J.pe_tup (J.pa_c (J.rd S4) (J.pa_c (J.rd S7) J.pa_nil)))))
 J.pss_nil))))))
 (J.pss_one (J.ps_ret (J.lcG (sc := L2.defScope s_l_story) (N := ["_law_parts", "_law_cell", "_law_known", "_law_turn", "_law_hour_here", "_law_mixed", "_law_person", "_law_way", "_law_good"]) (is := [2]) (xs := ["_law_person"]) (ns := ["_law_known"]) hh.calm (J.pi_list (J.blt B_sorted (J.call_sortedD hh.calm) L2.bb_sorted (J.pa_c (J.rd S2) J.pa_nil))) ⟨rfl, by decide +kernel, by decide +kernel, by decide +kernel, rfl, by decide +kernel⟩ (fun _ _ _ _ _ => (J.lct (i := 0) (by decide +kernel) rfl rfl)) (fun _ _ _ _ _ => J.pts_nil) (fun _ _ _ _ _ => (J.pe_tup (J.pa_c (J.lcv (i := 0) rfl rfl (by decide) (by decide)) (J.pa_c (J.pe_ix J.ix_tupG (J.dget hu (J.lcf (i := 1) rfl rfl (by decide) (by decide)) (J.lcv (i := 0) rfl rfl (by decide) (by decide)) J.ix_name) J.pe_int J.ix_con) (J.pa_c (J.pe_ix J.ix_tupG (J.dget hu (J.lcf (i := 1) rfl rfl (by decide) (by decide)) (J.lcv (i := 0) rfl rfl (by decide) (by decide)) J.ix_name) J.pe_int J.ix_con) J.pa_nil))))) hh.hsc hh.hN)))))), ?_⟩
    refine fun kn nkn => ?_
    have s1 := Same.upd (o := .dK []) nkn
    have hk1 : upd H kn (.dK []) kn = some (.dK []) := upd_same
    generalize upd H kn (.dK []) = H1 at s1 hk1
    refine ⟨_, rfl, _, rfl, r, p, s, t, y, c, ps, ss, ts, sg, qd, rfl, s1 _ _ hr, s1 _ _ hs, s1 _ _ ht, sl, tl, gs.mono (SightD.mono (Tk.of s1)), gk, qs.mono (TalkQ.mono (Tk.of s1)), qk, fun l us H2 s2 nl hl ul g2 => ?_⟩
    have s02 := s1.trans s2
    refine ⟨l, rfl, ⟨_, SqL.of hl⟩, for_list (K := X.K) (a := l) (xs := us) (fun i σ H3 => StI r kn c ps H i σ H3 ∧ (∀ b xs, H2 b = some (.tup xs) → H3 b = some (.tup xs)) ∧ H3 l = some (.lst us)) ⟨⟨[], none, none, none, none, none, rfl, s02, s2 _ _ hk1, (fun p hp => nomatch hp), List.nodup_nil, (fun p hp => nomatch hp)⟩, (fun b xs h => h), hl⟩ ?_ ?_ ?_⟩
    · rintro i σ H3 hi ⟨_, _, hl3⟩
      exact SqL.of hl3
    · rintro i v σ H3 hv ⟨⟨ks, e1, e2, e3, e4, e5, rfl, s3, hk3, ka, nd, g3⟩, tk3, hl3⟩
      have hi : i < us.length := (List.getElem?_eq_some_iff.mp hv).1
      obtain ⟨a, h, j, z, wa, w, rfl, ha, hh', hz, hw⟩ := (g2 v (List.mem_of_getElem? hv)).mono tk3
      refine ⟨a, _, rfl, SqT.of ha, rfl, _, _, rfl, _, _, rfl, _, _, rfl, _, _, rfl, rfl, ?_⟩
      refine ⟨_, rfl, _, _, rfl, rfl, ?_⟩
      cases w with
      | saw i' =>
        refine ⟨_, rfl, wa, _, _, _, rfl, rfl, SqT.of hw, rfl, rfl, ?_⟩
        dsimp only
        refine seq_ifR (fun σ' H' => ∃ gb : Bool, σ' = [some (.ref r), some (.int c), some (.ref kn), some (.int ((i : Int) + 1)), some (.int h), some (.int j), some (.str z), some (.ref wa), some (.bl gb)] ∧ H' = H3) ?_ (decide (V.str "saw" = V.str "heard")) (fun Q q => ⟨_, rfl, wa, _, _, _, rfl, rfl, SqT.of hw, rfl, rfl, _, rfl, q⟩) (fun h => absurd h (by decide +kernel)) (fun _ => ⟨_, rfl, rfl⟩)
        rintro σ' H' ⟨gb, rfl, rfl⟩
        exact st_third (by omega) nkn s3 hk3 ka nd g3 pl hh' hz hw fun σ H4 st kp => ⟨st, fun b xs e => kp _ _ (tk3 _ _ e) (ne_of (tk3 _ _ e) hk3 (by intro z; cases z)), kp _ _ hl3 (ne_of hl3 hk3 (by intro z; cases z))⟩
      | hrd kk te =>
        refine ⟨_, rfl, wa, _, _, _, rfl, rfl, SqT.of hw, rfl, rfl, ?_⟩
        dsimp only
        refine seq_ifR (fun σ' H' => ∃ gb : Bool, σ' = [some (.ref r), some (.int c), some (.ref kn), some (.int ((i : Int) + 1)), some (.int h), some (.int j), some (.str z), some (.ref wa), some (.bl gb)] ∧ H' = H3) ?_ (decide (V.str "heard" = V.str "heard")) (fun Q q => ⟨_, rfl, wa, _, _, _, rfl, rfl, SqT.of hw, rfl, rfl, _, rfl, q⟩) (fun _ hR => ?_) (fun h => absurd h (by decide +kernel))
        · rintro σ' H' ⟨gb, rfl, rfl⟩
          exact st_third (by omega) nkn s3 hk3 ka nd g3 pl hh' hz hw fun σ H4 st kp => ⟨st, fun b xs e => kp _ _ (tk3 _ _ e) (ne_of (tk3 _ _ e) hk3 (by intro z; cases z)), kp _ _ hl3 (ne_of hl3 hk3 (by intro z; cases z))⟩
        · have dg := DGet.k (k := Sum.inr te) hk3
          rcases kvA_get ks te with ⟨e1, no⟩ | ⟨p, mp, e1, e2⟩
          · rw [e1] at dg
            exact ⟨_, rfl, wa, _, _, _, rfl, rfl, SqT.of hw, rfl, _, rfl, kn, _, rfl, dg, _, rfl, iteF (hR _ _ ⟨_, rfl, rfl⟩)⟩
          · rw [e2] at dg
            obtain ⟨w2, hp2, _⟩ := ka p mp
            exact ⟨_, rfl, wa, _, _, _, rfl, rfl, SqT.of hw, rfl, _, rfl, kn, _, rfl, dg, _, rfl, iteT ⟨_, rfl, _, rfl, wa, _, _, _, rfl, rfl, SqT.of hw, rfl, kn, _, rfl, dg, p.2, _, _, _, rfl, rfl, SqT.of hp2, rfl, _, rfl, _, _, rfl, rfl, hR _ _ ⟨_, rfl, rfl⟩⟩⟩
    · rintro σ H3 ⟨⟨ks, e1, e2, e3, e4, e5, rfl, s3, hk3, ka, nd, g3⟩, tk3, hl3⟩
      have kl : ks.length ≤ 24 := by
        have := nodup_le nd (ps := ps) fun z hz => by
          obtain ⟨p, hp, rfl⟩ := List.mem_map.mp hz
          exact (g3 p hp).1
        rw [List.length_map] at this
        omega
      refine ⟨_, rfl, kn, kvA ks, ks.map (·.1.1), rfl, hk3, (by unfold kvA; rw [List.map_map, List.map_map]; rfl), (by rw [List.length_map]; omega), fun l2 zs nl2 znd pm srt => ?_⟩
      have s4 := Same.upd (o := .lst (zs.map V.str)) nl2
      have hl4 : upd H3 l2 (.lst (zs.map V.str)) l2 = some (.lst (zs.map V.str)) := upd_same
      generalize upd H3 l2 (.lst (zs.map V.str)) = H4 at s4 hl4
      have zl : zs.length = ks.length := by rw [pm.length_eq, List.length_map]
      refine ⟨l2, rfl, ⟨_, SqL.of hl4⟩, lcN_list (fun j H v => ∃ z, zs[j]? = some z ∧ ∃ p ∈ ks, p.1.1 = z ∧ EntL H v p.1) (fun _ _ _ _ tk ⟨z, e, p, m, e2, h⟩ => ⟨z, e, p, m, e2, h.mono tk⟩) (SqL.of hl4) (by rw [List.length_map]; omega) ?_ ?_⟩
      · intro j v H5 K1 hv s5 k1
        rw [List.getElem?_map] at hv
        obtain ⟨z, hz, rfl⟩ := Option.map_eq_some_iff.mp hv
        have hk5 := s5 _ _ (s4 _ _ hk3)
        have dg := DGet.k (k := Sum.inr z) hk5
        rcases kvA_get ks z with ⟨e1, no⟩ | ⟨p, mp, e1, e2⟩
        · exfalso
          obtain ⟨p, hp, e⟩ := List.mem_map.mp (pm.mem_iff.mp (List.mem_of_getElem? hz))
          exact no p hp e
        · rw [e2] at dg
          obtain ⟨w2, hp2, hw2⟩ := (ka.mono (Tk.of (s4.trans s5))) p mp
          refine ⟨_, rfl, _, rfl, _, rfl, kn, _, rfl, dg, p.2, _, _, _, rfl, rfl, SqT.of hp2, rfl, _, rfl, _, rfl, kn, _, rfl, dg, p.2, _, _, _, rfl, rfl, SqT.of hp2, rfl, by show 3 ≤ sizeLine; decide, fun c1 hc1 => ?_⟩
          have s6 := Same.upd (o := .tup [.str z, .int p.1.2.1, .ref w2]) hc1
          refine k1 _ _ s6 ⟨z, hz, p, mp, e1, c1, rfl, w2, ?_, hw2.mono (Tk.of s6)⟩
          rw [e1]
          exact upd_same
      · intro D' ys H' hD' s' hd' yl hy
        rw [List.length_map] at yl
        obtain ⟨st, e1, lz, ho⟩ := st_data (H := H') ys zs (by rw [yl]) fun j v z hv hz => by
          obtain ⟨z', hz', p, mp, e2, en⟩ := hy j v hv
          rw [hz] at hz'
          cases hz'
          exact ⟨p.1, e2, (g3 p mp).2, en⟩
        exact k D' ys st H' ((s3.trans s4).trans s') ((s3.trans s4).free hD') hd' lz (by rw [e1]; exact pm.nodup_iff.mpr znd) (by rw [← lz.1]; omega) ho
end
/-! ### the law's own fits -/
theorem any_take {α : Type} {f : α → Bool} {l : List α} {i : Nat} {d : α} (h : l[i]? = some d) (h0 : (l.take i).any f = false) (h1 : f d = false) : (l.take (i + 1)).any f = false := by
  rw [List.take_add_one, h, List.any_append, h0]
  show (false || (f d || false)) = false
  rw [h1]
  rfl
inductive LfP (vs : List V) (H : Hp) (Q : VK) : Prop
  | mk (l a : Addr) (ps : List Str) (us : List V) (st : List ED) (d : SD) (e : vs = [.ref l, .ref a]) (hl : H l = some (.lst us)) (lz : Lz EntL H us st) (nd : (st.map (·.1)).Nodup) (sl : st.length ≤ 24) (ho : ∀ d ∈ st, HourOk d.2.1) (ha : H a = some (.tup d.tup)) (ok : SdOk ps d) (k : ∀ H', Same H H' → Q (.bl (fitB st d)) H')
def spLf : Sp := fun vs H Q _ => LfP vs H Q
section
variable {P : Program} {w : World} {K : PySem.W.Frag} {mg : Str → Option Value} {base : Heap} {kw C : Addr}
theorem sc_l_fits : FnScope ["_law_story_here", "_law_saying_here", "_law_hours", "_law_person", "_law_hour_here", "_law_way", "_law_here"] ["_law_story_here", "_law_saying_here"] (defScope s_l_fits) := ⟨rfl, rfl, rfl, by decide +kernel, rfl, by decide +kernel, by decide +kernel⟩
theorem ok_lf {f : Addr} {fd : FuncData} (D : Df K mg "_law_fits" s_l_fits ["_law_story_here", "_law_saying_here"] f fd) (T : Txt K mg kw C) : Gd P w K mg base 1 "_law_fits" spLf := by
  refine J.def_ok D sc_l_fits (fun vs H Q E h => ?_) (fun X H vs Q E hh h => ?_)
  · obtain ⟨l, a, ps, us, st, d, rfl, _⟩ := h
    rfl
  · obtain ⟨l, a, ps, us, st, d, rfl, hl, lz, nd, sl, ho, ha, ok, k⟩ := h
    have S0 : L2.Slot X 0 "_law_story_here" := hh.slot 0 rfl (by first | exact .inl rfl | exact .inr rfl) (by decide) (by decide)
    have S1 : L2.Slot X 1 "_law_saying_here" := hh.slot 1 rfl (by first | exact .inl rfl | exact .inr rfl) (by decide) (by decide)
    have S2 : L2.Slot X 2 "_law_hours" := hh.slot 2 rfl (by first | exact .inl rfl | exact .inr rfl) (by decide) (by decide)
    have S3 : L2.Slot X 3 "_law_person" := hh.slot 3 rfl (by first | exact .inl rfl | exact .inr rfl) (by decide) (by decide)
    have S4 : L2.Slot X 4 "_law_hour_here" := hh.slot 4 rfl (by first | exact .inl rfl | exact .inr rfl) (by decide) (by decide)
    have S5 : L2.Slot X 5 "_law_way" := hh.slot 5 rfl (by first | exact .inl rfl | exact .inr rfl) (by decide) (by decide)
    have S6 : L2.Slot X 6 "_law_here" := hh.slot 6 rfl (by first | exact .inl rfl | exact .inr rfl) (by decide) (by decide)
    have hu := hu_of hh.room
    have hsz : sizeLine = 16777216 := sizeLine_eq
    refine ⟨_, (J.pss_cons (J.set S2 hh.nd J.pe_dnew)
 (J.pss_cons (J.ps_for hh.own hh.calm (J.pi_list (J.rd S0)) (J.pg_tup hh.calm (J.pgs_c (J.tgt S3 hh.nd) (J.pgs_c (J.tgt S4 hh.nd) (J.pgs_c (J.tgt S5 hh.nd) J.pgs_nil))))
 (J.pss_one (J.dput hu (J.rd S2) (J.rd S3) (J.rd S4))))
 (J.pss_cons (J.set S6 hh.nd (J.get2 hu (J.rd S2) (J.pe_ix J.ix_tup (J.rd S1) J.pe_int J.ix_con) (J.pe_op J.op_pow J.pe_int J.pe_int)))
 (J.pss_cons (J.ps_if (J.pt_cmpR J.op_eq (J.pe_ix J.ix_tup (J.rd S1) J.pe_int J.ix_con) J.pe_str (L2.nomark _))
 (J.pss_one (J.ps_ret (J.pe_cmpR J.op_le (J.rd S6) (J.pe_ix J.ix_tup (J.rd S1) J.pe_int J.ix_con) (L2.nomark _))))
 J.pss_nil)
 (J.pss_cons (J.ps_if (J.pt_cmpR J.op_eq (J.pe_ix J.ix_tup (J.rd S1) J.pe_int J.ix_con) J.pe_str (L2.nomark _))
 (J.pss_one (J.ps_ret (J.pe_or (J.pe_cmpR J.op_eq (J.rd S6) (J.pe_op J.op_pow J.pe_int J.pe_int) (L2.nomark _)) (J.pe_one (J.pe_and (J.pe_cmpR J.op_notN (J.pe_ix J.ix_tup (J.rd S1) J.pe_int J.ix_con) J.pe_non (L2.nomark _)) (J.pe_one (J.pe_cmpR J.op_gt (J.rd S6) (J.pe_ix J.ix_tup (J.rd S1) J.pe_int J.ix_con) (L2.nomark _))))))))
 J.pss_nil)
 (J.pss_cons (J.ps_for hh.own hh.calm (J.pi_list (J.rd S0)) (J.pg_tup hh.calm (J.pgs_c (J.tgt S3 hh.nd) (J.pgs_c (J.tgt S4 hh.nd) (J.pgs_c (J.tgt S5 hh.nd) J.pgs_nil))))
 (J.pss_cons (J.ps_if (J.pw_pt (J.pw_and (J.pt_cmpR J.op_eq (J.pe_ix J.ix_tup (J.rd S5) J.pe_int J.ix_con) J.pe_str (L2.nomark _)) (J.pw_and1 (J.pt_cmpR J.op_eq (J.pe_ix J.ix_tup (J.rd S1) J.pe_int J.ix_con) J.pe_str (L2.nomark _)))))
 (J.pss_one (J.ps_if (J.pw_pt (J.pw_and (J.pt_cmpR J.op_eq (J.pe_ix J.ix_tup (J.rd S5) J.pe_int J.ix_con) (J.pe_ix J.ix_tup (J.rd S1) J.pe_int J.ix_con) (L2.nomark _)) (J.pw_and (J.pt_cmpR J.op_le (J.pe_ix J.ix_tup (J.rd S1) J.pe_int J.ix_con) (J.rd S4) (L2.nomark _)) (J.pw_and1 (J.pt_cmpR J.op_le (J.rd S4) (J.pe_ix J.ix_tup (J.rd S1) J.pe_int J.ix_con) (L2.nomark _))))))
 (J.pss_one (J.ps_ret J.pe_bl))
 J.pss_nil))
 J.pss_nil)
 (J.pss_one (J.ps_if (J.pw_pt (J.pw_and (J.pt_cmpR J.op_eq (J.pe_ix J.ix_tup (J.rd S5) J.pe_int J.ix_con) J.pe_str (L2.nomark _)) (J.pw_and (J.pt_cmpR J.op_eq (J.pe_ix J.ix_tup (J.rd S1) J.pe_int J.ix_con) J.pe_str (L2.nomark _)) (J.pw_and1 (J.pt_cmpR (J.op_eqT hu) (J.pe_tup (J.pa_c (J.rd S3) (J.pa_c (J.pe_ix J.ix_tup (J.rd S5) J.pe_int J.ix_con) J.pa_nil))) (J.pe_slice J.sl_tup (J.rd S1) (J.po_some J.pe_int) J.po_none) (L2.nomark _))))))
 (J.pss_one (J.ps_ret J.pe_bl))
 J.pss_nil))))
 (J.pss_one (J.ps_ret J.pe_bl)))))))), ?_⟩
    intro kn nkn
    have s3 := Same.upd (o := .dK []) nkn
    have hk3 : upd H kn (.dK []) kn = some (.dK []) := upd_same
    generalize upd H kn (.dK []) = H3 at s3 hk3
    refine ⟨_, rfl, l, rfl, ⟨_, SqL.of (s3 _ _ hl)⟩, for_list (K := X.K) (a := l) (xs := us) (fun i σ H4 => ∃ e2 e3 e4 : Option V, σ = [some (.ref l), some (.ref a), some (.ref kn), e2, e3, e4, none] ∧ Same H H4 ∧ H4 kn = some (.dK (kvOf (st.take i)))) ⟨none, none, none, rfl, s3, hk3⟩ ?_ ?_ ?_⟩
    · rintro i σ H4 hi ⟨e2, e3, e4, rfl, s4, hk4⟩
      exact SqL.of (s4 _ _ hl)
    · rintro i v σ H4 hv ⟨e2, e3, e4, rfl, s4, hk4⟩
      obtain ⟨d, hd, a, rfl, wa, ha, hw⟩ := lz.at hv
      have il := (List.getElem?_eq_some_iff.mp hd).1
      have kl : (kvOf (st.take i)).length < sizeLine := by
        unfold kvOf
        rw [List.length_map, List.length_take]
        omega
      refine ⟨a, _, rfl, SqT.of (s4 _ _ ha), rfl, _, _, rfl, _, _, rfl, _, _, rfl, rfl, ?_⟩
      refine ⟨_, rfl, _, rfl, _, rfl, kn, _, rfl, DPut.k (k := Sum.inr d.1) hk4 kl, _, _, _, rfl, fun b o e => ?_, ?_⟩
      · rw [upd_ne (ne_of_none e nkn)]
        exact s4 _ _ e
      · rw [upd_same, kvOf_put nd hd]
    rintro σ H4 ⟨e2, e3, e4, rfl, s4, hk4⟩
    rw [lz.1, List.take_length] at hk4
    have ha4 := s4 _ _ ha
    have hF0 := kvOf_getF st
    have p18 : (10 : Int) ^ Int.toNat 18 = 1000000000000000000 := by decide +kernel
    have p19 : (10 : Int) ^ Int.toNat 19 = 10000000000000000000 := by decide +kernel
    have hv : ∀ {q : Str} {i : Int}, hF st q = some i → i ≤ 1000000000000000000 := fun {q i} h => by
      obtain ⟨d, md, _, rfl⟩ := hF_mem h
      have := (ho d md).2
      rw [p18] at this
      exact this
    have dg : ∀ q, DGet H4 kn (.str q) ((hF st q).map V.int) := fun q => by
      rw [← hF0 q]
      exact DGet.k (k := Sum.inr q) hk4
    have gd : ∀ q, ((hF st q).map V.int).getD (V.int ((10 : Int) ^ Int.toNat 19)) = V.int ((hF st q).getD ((10 : Int) ^ Int.toNat 19)) := fun q => by
      cases hF st q <;> rfl
    have isd : IsD H4 kn := .inl ⟨_, .inl hk4⟩
    cases d with
    | knew q h =>
      refine ⟨_, rfl, kn, rfl, isd, _, rfl, a, _, _, _, rfl, rfl, SqT.of ha4, rfl, _, _, rfl, rfl, ⟨by decide, by decide, by decide⟩, _, dg q, ?_⟩
      rw [gd]
      refine ⟨_, rfl, a, _, _, _, rfl, rfl, SqT.of ha4, rfl, rfl, _, rfl, iteP (by decide +kernel) ⟨_, rfl, _, rfl, a, _, _, _, rfl, rfl, SqT.of ha4, rfl, _, _, rfl, rfl, ?_⟩⟩
      have k4 := k H4 s4
      have e : decide ((hF st q).getD ((10 : Int) ^ Int.toNat 19) ≤ h) = knB (hF st) q h := by
        unfold knB
        have := ok.2.2
        cases hq : hF st q with
        | none =>
          show decide ((10 : Int) ^ Int.toNat 19 ≤ h) = false
          refine decide_eq_false fun z => ?_
          rw [p18] at this
          rw [p19] at z
          omega
        | some i => rfl
      rw [e]
      exact k4
    | unh q o =>
      refine ⟨_, rfl, kn, rfl, isd, _, rfl, a, _, _, _, rfl, rfl, SqT.of ha4, rfl, _, _, rfl, rfl, ⟨by decide, by decide, by decide⟩, _, dg q, ?_⟩
      rw [gd]
      refine ⟨_, rfl, a, _, _, _, rfl, rfl, SqT.of ha4, rfl, rfl, _, rfl, iteN (by decide +kernel) ⟨_, rfl, a, _, _, _, rfl, rfl, SqT.of ha4, rfl, rfl, _, rfl, iteP (by decide +kernel) ?_⟩⟩
      have k4 : Q (.bl (uhB (hF st) q o)) H4 := k H4 s4
      unfold uhB at k4
      refine ⟨_, rfl, _, _, rfl, rfl, ⟨by decide, by decide, by decide⟩, rfl, _, rfl, ?_⟩
      cases hq : hF st q with
      | none =>
        rw [hq] at k4
        exact iteP (by exact decide_eq_true rfl) k4
      | some i =>
        have il := hv hq
        rw [hq] at k4
        refine iteN (by
          intro z
          have z' : i = (10 : Int) ^ Int.toNat 19 := V.int.inj (of_decide_eq_true z)
          rw [p19] at z'
          omega) ?_
        cases o with
        | none => exact ⟨_, rfl, a, _, _, _, rfl, rfl, SqT.of ha4, rfl, rfl, _, rfl, iteF k4⟩
        | some jj => exact ⟨_, rfl, a, _, _, _, rfl, rfl, SqT.of ha4, rfl, rfl, _, rfl, iteT ⟨_, rfl, _, rfl, a, _, _, _, rfl, rfl, SqT.of ha4, rfl, _, _, rfl, rfl, k4⟩⟩
    | sil q b e =>
      refine ⟨_, rfl, kn, rfl, isd, _, rfl, a, _, _, _, rfl, rfl, SqT.of ha4, rfl, _, _, rfl, rfl, ⟨by decide, by decide, by decide⟩, _, dg q, ?_⟩
      rw [gd]
      generalize (hF st q).getD ((10 : Int) ^ Int.toNat 19) = hv'
      refine ⟨_, rfl, a, _, _, _, rfl, rfl, SqT.of ha4, rfl, rfl, _, rfl, iteN (by decide +kernel) ⟨_, rfl, a, _, _, _, rfl, rfl, SqT.of ha4, rfl, rfl, _, rfl, iteN (by decide +kernel) ?_⟩⟩
      refine ⟨_, rfl, l, rfl, ⟨_, SqL.of (s4 _ _ hl)⟩, for_list (K := X.K) (a := l) (xs := us) (fun i σ H5 => ∃ e2 e3 e4 : Option V, σ = [some (.ref l), some (.ref a), some (.ref kn), e2, e3, e4, some (.int hv')] ∧ Same H H5 ∧ (st.take i).any (siB q b e) = false) ⟨_, _, _, rfl, s4, rfl⟩ ?_ ?_ ?_⟩
      · rintro i σ H5 hi ⟨e2, e3, e4, rfl, s5, _⟩
        exact SqL.of (s5 _ _ hl)
      · rintro i v σ H5 hv5 ⟨e2, e3, e4, rfl, s5, an⟩
        obtain ⟨d, hd, da, rfl, wa, hda, hw⟩ := lz.at hv5
        have ha5 := s5 _ _ ha
        have no : siB q b e d = false → (st.take (i + 1)).any (siB q b e) = false := any_take hd an
        have yes : siB q b e d = true → Q (.bl false) H5 := fun h => by
          have := k H5 s5
          have e1 : fitB st (.sil q b e) = false := by
            show (!(st.any (siB q b e))) = false
            rw [List.any_eq_true.mpr ⟨d, List.mem_of_getElem? hd, h⟩]
            rfl
          rw [e1] at this
          exact this
        refine ⟨da, _, rfl, SqT.of (s5 _ _ hda), rfl, _, _, rfl, _, _, rfl, _, _, rfl, rfl, ?_⟩
        obtain ⟨z, h, w⟩ := d
        cases w with
        | saw i' =>
          have hw5 := s5 _ _ hw
          exact ⟨_, rfl, wa, _, _, _, rfl, rfl, SqT.of hw5, rfl, rfl, _, rfl, iteN (by decide +kernel) (iteF ⟨_, rfl, wa, _, _, _, rfl, rfl, SqT.of hw5, rfl, rfl, _, rfl, iteN (by decide +kernel) (iteF ⟨_, _, _, rfl, s5, no rfl⟩)⟩)⟩
        | hrd kk te =>
          have hw5 := s5 _ _ hw
          have eq0 : siB q b e (z, h, .hrd kk te) = (decide (te = q) && (decide (b ≤ h) && decide (h ≤ e))) := rfl
          rw [eq0] at no yes
          refine both (G := (decide (te = q) && (decide (b ≤ h) && decide (h ≤ e))) = false → _) ?_ fun other => ⟨_, rfl, wa, _, _, _, rfl, rfl, SqT.of hw5, rfl, rfl, _, rfl, iteP (by decide +kernel) ⟨_, rfl, a, _, _, _, rfl, rfl, SqT.of ha5, rfl, rfl, _, rfl, iteP (by decide +kernel) ⟨_, rfl, wa, _, _, _, rfl, rfl, SqT.of hw5, rfl, _, rfl, a, _, _, _, rfl, rfl, SqT.of ha5, rfl, rfl, _, rfl, ite2 (fun hq => ⟨_, rfl, a, _, _, _, rfl, rfl, SqT.of ha5, rfl, _, rfl, _, _, rfl, rfl, _, rfl, ite2 (fun hb => ⟨_, rfl, _, rfl, a, _, _, _, rfl, rfl, SqT.of ha5, rfl, _, _, rfl, rfl, _, rfl, ite2 (fun he' => ?_) (fun he' => other ?_)⟩) (fun hb => iteF (other ?_))⟩) (fun hq => iteF (other ?_))⟩⟩⟩
          · exact fun hk => ⟨_, rfl, wa, _, _, _, rfl, rfl, SqT.of hw5, rfl, rfl, _, rfl, iteP (by decide +kernel) ⟨_, rfl, a, _, _, _, rfl, rfl, SqT.of ha5, rfl, rfl, _, rfl, iteN (by decide +kernel) (iteF ⟨_, _, _, rfl, s5, no hk⟩)⟩⟩
          · refine yes ?_
            rw [decide_eq_true (V.str.inj (of_decide_eq_true hq)), hb, he']
            rfl
          · rw [eq_false_of_ne_true he', Bool.and_false, Bool.and_false]
          · rw [eq_false_of_ne_true hb, Bool.false_and, Bool.and_false]
          · rw [decide_eq_false (fun z => hq (decide_eq_true (congrArg V.str z))), Bool.false_and]
      · rintro σ H5 ⟨e2, e3, e4, rfl, s5, an⟩
        rw [lz.1, List.take_length] at an
        have := k H5 s5
        have e1 : fitB st (.sil q b e) = true := by
          show (!(st.any (siB q b e))) = true
          rw [an]
          rfl
        rw [e1] at this
        exact this
    | bar p q =>
      refine ⟨_, rfl, kn, rfl, isd, _, rfl, a, _, _, _, rfl, rfl, SqT.of ha4, rfl, _, _, rfl, rfl, ⟨by decide, by decide, by decide⟩, _, dg p, ?_⟩
      rw [gd]
      generalize (hF st p).getD ((10 : Int) ^ Int.toNat 19) = hv'
      refine ⟨_, rfl, a, _, _, _, rfl, rfl, SqT.of ha4, rfl, rfl, _, rfl, iteN (by decide +kernel) ⟨_, rfl, a, _, _, _, rfl, rfl, SqT.of ha4, rfl, rfl, _, rfl, iteN (by decide +kernel) ?_⟩⟩
      refine ⟨_, rfl, l, rfl, ⟨_, SqL.of (s4 _ _ hl)⟩, for_list (K := X.K) (a := l) (xs := us) (fun i σ H5 => ∃ e2 e3 e4 : Option V, σ = [some (.ref l), some (.ref a), some (.ref kn), e2, e3, e4, some (.int hv')] ∧ Same H H5 ∧ (st.take i).any (baB p q) = false) ⟨_, _, _, rfl, s4, rfl⟩ ?_ ?_ ?_⟩
      · rintro i σ H5 hi ⟨e2, e3, e4, rfl, s5, _⟩
        exact SqL.of (s5 _ _ hl)
      · rintro i v σ H5 hv5 ⟨e2, e3, e4, rfl, s5, an⟩
        obtain ⟨d, hd, da, rfl, wa, hda, hw⟩ := lz.at hv5
        have ha5 := s5 _ _ ha
        have no : baB p q d = false → (st.take (i + 1)).any (baB p q) = false := any_take hd an
        have yes : baB p q d = true → ∀ H6, Same H5 H6 → Q (.bl false) H6 := fun h H6 s6 => by
          have := k H6 (s5.trans s6)
          have e1 : fitB st (.bar p q) = false := by
            show (!(st.any (baB p q))) = false
            rw [List.any_eq_true.mpr ⟨d, List.mem_of_getElem? hd, h⟩]
            rfl
          rw [e1] at this
          exact this
        refine ⟨da, _, rfl, SqT.of (s5 _ _ hda), rfl, _, _, rfl, _, _, rfl, _, _, rfl, rfl, ?_⟩
        obtain ⟨z, h, w⟩ := d
        cases w with
        | saw i' =>
          have hw5 := s5 _ _ hw
          exact ⟨_, rfl, wa, _, _, _, rfl, rfl, SqT.of hw5, rfl, rfl, _, rfl, iteN (by decide +kernel) (iteF ⟨_, rfl, wa, _, _, _, rfl, rfl, SqT.of hw5, rfl, rfl, _, rfl, iteN (by decide +kernel) (iteF ⟨_, _, _, rfl, s5, no (Bool.and_false _)⟩)⟩)⟩
        | hrd kk te =>
          have hw5 := s5 _ _ hw
          have eq0 : baB p q (z, h, .hrd kk te) = eqL [decide (z = p), decide (te = q)] := by
            show ((decide (z = p) && true) && decide (te = q)) = (decide (z = p) && (decide (te = q) && true))
            rw [Bool.and_true, Bool.and_true]
          rw [eq0] at no yes
          refine ⟨_, rfl, wa, _, _, _, rfl, rfl, SqT.of hw5, rfl, rfl, _, rfl, iteP (by decide +kernel) ⟨_, rfl, a, _, _, _, rfl, rfl, SqT.of ha5, rfl, rfl, _, rfl, iteN (by decide +kernel) ⟨_, rfl, wa, _, _, _, rfl, rfl, SqT.of hw5, rfl, rfl, _, rfl, iteP (by decide +kernel) ⟨_, rfl, a, _, _, _, rfl, rfl, SqT.of ha5, rfl, rfl, _, rfl, iteP (by decide +kernel) ?_⟩⟩⟩⟩
          refine ⟨_, rfl, _, rfl, wa, _, _, _, rfl, rfl, SqT.of hw5, rfl, by show 2 ≤ sizeLine; decide, fun c2 hc2 => ?_⟩
          have s6 := Same.upd (o := .tup [.str z, .str te]) hc2
          have h2 : upd H5 c2 (.tup [.str z, .str te]) c2 = some (.tup [.str z, .str te]) := upd_same
          generalize upd H5 c2 (.tup [.str z, .str te]) = H6 at s6 h2
          refine ⟨_, rfl, _, rfl, a, _, rfl, SqT.of (s6 _ _ ha5), by rintro ⟨z, _⟩; exact absurd z (by show ¬ HT.sIx 3 0 (some 1) = 0; decide), fun c3 hc3 => ?_⟩
          have s7 := Same.upd (o := .tup (cutV (SD.bar p q).tup (some 1) none)) hc3
          have h3 : upd H6 c3 (.tup (cutV (SD.bar p q).tup (some 1) none)) c3 = some (.tup [.str p, .str q]) := upd_same
          generalize upd H6 c3 (.tup (cutV (SD.bar p q).tup (some 1) none)) = H7 at s7 h3
          refine ⟨c2, c3, _, _, [decide (z = p), decide (te = q)], rfl, rfl, SqT.of (s7 _ _ h2), SqT.of h3, rfl, rfl, fun jj u v c hu hv' hc => ?_, _, rfl, ite2 (fun hk => yes hk _ (s6.trans s7)) (fun hk => ⟨_, _, _, rfl, (s5.trans s6).trans s7, no (eq_false_of_ne_true hk)⟩)⟩
          match jj with
          | 0 =>
            cases hu
            cases hv'
            cases hc
            show some (z == p) = some (decide (z = p))
            rw [Bool.eq_iff_iff.mpr (by rw [decide_eq_true_iff]; exact beq_iff_eq : (z == p) = true ↔ decide (z = p) = true)]
          | 1 =>
            cases hu
            cases hv'
            cases hc
            show some (te == q) = some (decide (te = q))
            rw [Bool.eq_iff_iff.mpr (by rw [decide_eq_true_iff]; exact beq_iff_eq : (te == q) = true ↔ decide (te = q) = true)]
          | jj + 2 => cases hu
      · rintro σ H5 ⟨e2, e3, e4, rfl, s5, an⟩
        rw [lz.1, List.take_length] at an
        have := k H5 s5
        have e1 : fitB st (.bar p q) = true := by
          show (!(st.any (baB p q))) = true
          rw [an]
          rfl
        rw [e1] at this
        exact this
end
/-! ### right for one story -/
inductive RiP (C : Addr) (vs : List V) (H : Hp) (Q : VK) : Prop
  | mk (x r p s t y p' s' t' y' l : Addr) (ps : List Str) (ss ts ys us : List V) (sd : List SD) (st : List ED) (e : vs = [.ref x, .ref r, .ref l]) (bk : Bk C H x p' s' t' y' ps ss ts ys) (hr : H r = some (.lst [.ref p, .ref s, .ref t, .ref y])) (hy : H y = some (.lst ys)) (sy : Sys H ys sd) (sk : ∀ d ∈ sd, SdOk ps d) (l60 : ys.length ≤ 60) (hl : H l = some (.lst us)) (lz : Lz EntL H us st) (nd : (st.map (·.1)).Nodup) (sl : st.length ≤ 24) (ho : ∀ d ∈ st, HourOk d.2.1)
      (k : ∀ H', Same H H' → Q (.bl true) H')
def spRi (C : Addr) : Sp := fun vs H Q _ => RiP C vs H Q
theorem bx_ints (st : List ED) (sd : List SD) : ∀ v ∈ bx st sd, ∃ i : Int, v = .int i := fun v hv => by
  obtain ⟨i, _, rfl⟩ := List.mem_map.mp hv
  exact ⟨_, rfl⟩
theorem bx_len (st : List ED) (sd : List SD) : (bx st sd).length ≤ sd.length := by
  unfold bx
  rw [List.length_map]
  have := List.length_filter_le (atP sd fun d => !fitB st d) (List.range sd.length)
  rw [List.length_range] at this
  exact this
theorem ent_same {K : PySem.W.Frag} {H : Hp} {l m : Addr} {us : List V} {st : List ED} {Q : Prop} (hl : H l = some (.lst us)) (hm : H m = some (.lst us)) (lz : Lz EntL H us st) (q : Q) : RowsP2 K (.ref m) (.ref l) H Q := by
  refine ⟨m, l, us, us, rfl, rfl, SqL.of hm, SqL.of hl, rfl, fun i u v hu hv => ?_, q⟩
  rw [hu] at hv
  cases hv
  obtain ⟨d, hd, a, rfl, wa, ha, hw⟩ := lz.at hu
  refine ⟨a, a, _, _, rfl, rfl, SqT.of ha, SqT.of ha, rfl, fun j z y hz hy => ?_⟩
  rw [hz] at hy
  cases hy
  match j with
  | 0 =>
    cases hz
    exact .flat rfl (by show some (d.1 == d.1) = some true; rw [beq_self_eq_true])
  | 1 =>
    cases hz
    exact .flat rfl (by show some (d.2.1 == d.2.1) = some true; rw [beq_self_eq_true])
  | 2 =>
    cases hz
    obtain ⟨z, h, w⟩ := d
    cases w with
    | saw i' =>
      refine .tup wa wa _ rfl rfl (SqT.of hw) (SqT.of hw) fun x hx => ?_
      rcases List.mem_cons.mp hx with rfl | hx
      · rfl
      · rcases List.mem_cons.mp hx with rfl | hx
        · show some ((i' : Int) == (i' : Int)) = some true
          rw [beq_self_eq_true]
        · cases hx
    | hrd kk te =>
        refine .tup wa wa _ rfl rfl (SqT.of hw) (SqT.of hw) fun x hx => ?_
        rcases List.mem_cons.mp hx with rfl | hx
        · rfl
        · rcases List.mem_cons.mp hx with rfl | hx
          · show some ((kk : Int) == (kk : Int)) = some true
            rw [beq_self_eq_true]
          · rcases List.mem_cons.mp hx with rfl | hx
            · show some (te == te) = some true
              rw [beq_self_eq_true]
            · cases hx
  | j + 3 => cases hz
section
variable {P : Program} {w : World} {K : PySem.W.Frag} {mg : Str → Option Value} {base : Heap} {kw C : Addr}
theorem sc_l_right : FnScope ["_law_book_here", "_law_parts", "_law_story_here", "_law_due", "_law_handed", "_law_found"] ["_law_book_here", "_law_parts", "_law_story_here"] (defScope s_l_right) := ⟨rfl, rfl, rfl, by decide +kernel, rfl, by decide +kernel, by decide +kernel⟩
theorem ok_ri {f : Addr} {fd : FuncData} (D : Df K mg "_law_right" s_l_right ["_law_book_here", "_law_parts", "_law_story_here"] f fd) (T : Txt K mg kw C) (G__law_fits : Gd P w K mg base 1 "_law_fits" spLf) (G_unfitted : Gd P w K mg base 3 "unfitted" (spUf C)) (G__law_alike : Gd P w K mg base 2 "_law_alike" (spAl 2)) : Gd P w K mg base 4 "_law_right" (spRi C) := by
  refine J.def_ok D sc_l_right (fun vs H Q E h => ?_) (fun X H vs Q E hh h => ?_)
  · obtain ⟨x, r, p, s, t, y, p', s', t', y', l, ps, ss, ts, ys, us, sd, st, rfl, _⟩ := h
    rfl
  · obtain ⟨x, r, p, s, t, y, p', s', t', y', l, ps, ss, ts, ys, us, sd, st, rfl, bk, hr, hy, sy, sk, l60, hl, lz, nd, sl, ho, k⟩ := h
    have S0 : L2.Slot X 0 "_law_book_here" := hh.slot 0 rfl (by first | exact .inl rfl | exact .inr rfl) (by decide) (by decide)
    have S1 : L2.Slot X 1 "_law_parts" := hh.slot 1 rfl (by first | exact .inl rfl | exact .inr rfl) (by decide) (by decide)
    have S2 : L2.Slot X 2 "_law_story_here" := hh.slot 2 rfl (by first | exact .inl rfl | exact .inr rfl) (by decide) (by decide)
    have S3 : L2.Slot X 3 "_law_due" := hh.slot 3 rfl (by first | exact .inl rfl | exact .inr rfl) (by decide) (by decide)
    have S4 : L2.Slot X 4 "_law_handed" := hh.slot 4 rfl (by first | exact .inl rfl | exact .inr rfl) (by decide) (by decide)
    have S5 : L2.Slot X 5 "_law_found" := hh.slot 5 rfl (by first | exact .inl rfl | exact .inr rfl) (by decide) (by decide)
    have B_len : Bt X "len" := hh.bt T.b_len rfl (by decide) (by decide)
    have B_list : Bt X "list" := hh.bt T.b_list rfl (by decide) (by decide)
    have B_range : Bt X "range" := hh.bt T.b_range rfl (by decide) (by decide)
    have C__law_alike := hh.cal G__law_alike rfl (by first | decide | exact Nat.le_refl _) (by decide)
    have C_unfitted := hh.cal G_unfitted rfl (by first | decide | exact Nat.le_refl _) (by decide)
    have CI__law_fits := hh.cali G__law_fits (by first | decide | exact Nat.le_refl _) (by decide)
    have hsz : sizeLine = 16777216 := sizeLine_eq
    have yl := sy.1
    refine ⟨_, (J.pss_cons (J.setlcG (sc := L2.defScope s_l_right) (N := ["_law_book_here", "_law_parts", "_law_story_here", "_law_due", "_law_handed", "_law_found"]) (is := [1, 2]) (xs := ["_law_number"]) (ns := ["_law_parts", "_law_story_here"]) S3 hh.nd hh.calm (J.pi_range1 B_range (J.pa_c (J.blt B_len J.call_len_seq L2.bb_len (J.pa_c (J.pe_ix J.ix_list (J.rd S1) J.pe_int J.ix_con) J.pa_nil)) J.pa_nil)) ⟨rfl, by decide +kernel, by decide +kernel, by decide +kernel, rfl, by decide +kernel⟩ (fun _ _ _ _ _ => (J.lct (i := 0) (by decide +kernel) rfl rfl)) (fun _ _ _ _ _ => (J.pts_one (J.pt_not (J.pt_call (J.cal (CI__law_fits.lg rfl) (J.pa_c (J.lcf (i := 2) rfl rfl (by decide) (by decide)) (J.pa_c (J.pe_ix J.ix_listG (J.pe_ix J.ix_listG (J.lcf (i := 1) rfl rfl (by decide) (by decide)) J.pe_int J.ix_con) (J.lcv (i := 0) rfl rfl (by decide) (by decide)) J.ix_name) J.pa_nil))))))) (fun _ _ _ _ _ => (J.lcv (i := 0) rfl rfl (by decide) (by decide))) hh.hsc hh.hN (by decide +kernel))
 (J.pss_cons (J.set S4 hh.nd (J.bltT B_list J.call_list_of L2.bb_list (J.pa_c (J.rd S2) J.pa_nil)))
 (J.pss_cons (J.set S5 hh.nd (J.cal C_unfitted (J.pa_c (J.rd S0) (J.pa_c (J.rd S4) J.pa_nil))))
 (J.pss_cons (J.ps_if (J.pw_pt (J.pw_or (J.pt_not (J.pt_call (J.cal C__law_alike (J.pa_c (J.rd S5) (J.pa_c (J.rd S3) J.pa_nil))))) (J.pw_or1 (J.pt_cmpR (J.op_neRows2 (L2.hu3_of hh.room)) (J.rd S4) (J.rd S2) (L2.nomark _)))))
 (J.pss_one (J.ps_ret J.pe_bl))
 J.pss_nil)
 (J.pss_cons (J.ps_do (J.bm PySem.F.plainAttrs_list PySem.F.slot_list_append PySem.F.type_list_append J.mt_append (J.rd S5) (J.pa_c (J.pe_un J.un_neg J.pe_int) J.pa_nil)))
 (J.pss_one (J.ps_ret (J.cal C__law_alike (J.pa_c (J.cal C_unfitted (J.pa_c (J.rd S0) (J.pa_c (J.rd S4) J.pa_nil))) (J.pa_c (J.rd S3) J.pa_nil)))))))))), ?_⟩
    refine ⟨_, rfl, r, _, _, _, rfl, rfl, SqL.of hr, rfl, y, _, rfl, .inl (SqL.of hy), (ys.length : Int), rfl, by omega, by omega, ?_⟩
    refine lcG_range (lo := 0) (N := ((ys.length : Nat) : Int).toNat) (atP sd fun d => !fitB st d) (fun i => V.int (0 + (i : Int))) (by omega) ?_ ?_
    · intro i os H2 K1 K2 hi hos s2 k1 k2
      rw [Int.toNat_natCast] at hi
      match os, hos with
      | [o1], _ =>
        have hv : ys[i]? = some ys[i] := List.getElem?_eq_getElem hi
        generalize ys[i] = v at hv
        obtain ⟨d, a, hd, rfl, ha⟩ := sy.at hv
        rw [atP_at hd] at k1 k2
        have ix : atI ys (0 + (i : Int)) = some (.ref a) := by rw [Int.zero_add]; exact atI_nat hv
        refine ⟨⟨[_], rfl, rfl⟩, ?_⟩
        refine ⟨_, rfl, _, rfl, r, _, _, _, rfl, rfl, SqL.of (s2 _ _ hr), rfl, _, rfl, y, _, _, _, rfl, rfl, SqL.of (s2 _ _ hy), ix, l, a, ps, us, st, d, rfl, s2 _ _ hl, lz.mono (EntL.mono (Tk.of s2)), nd, sl, ho, s2 _ _ ha, sk d (List.mem_of_getElem? hd), fun H5 s5 => ⟨_, rfl, ite2 (fun hb => ⟨_, rfl, k1 hb _ s5⟩) (fun hb => k2 (eq_false_of_ne_true hb) _ s5)⟩⟩
    intro du H1 ndu s1 hdu
    rw [Int.toNat_natCast, yl] at hdu
    have e1 : ((List.range sd.length).filter (atP sd fun d => !fitB st d)).map (fun (i : Nat) => V.int (0 + (i : Int))) = bx st sd := by
      unfold bx
      exact List.map_congr_left fun i _ => by rw [Int.zero_add]
    rw [e1] at hdu
    refine ⟨_, rfl, l, us, rfl, .inl (SqL.of (s1 _ _ hl)), fun m nm => ?_⟩
    have s2 := Same.upd (o := .lst us) nm
    have hm2 : upd H1 m (.lst us) m = some (.lst us) := upd_same
    generalize upd H1 m (.lst us) = H2 at s2 hm2
    have s02 := s1.trans s2
    have em : ∀ {H' : Hp}, Same H H' → Lz EntL H' us st := fun s => lz.mono (EntL.mono (Tk.of s))
    refine ⟨_, rfl, _, rfl, x, p', s', t', y', m, ps, ss, ts, ys, us, sd, st, rfl, bk.mono s02, sy.mono (Tk.of s02), l60, hm2, em s02, nd, sl, fun o H3 s3 no ho3 => ?_⟩
    have s03 := s02.trans s3
    have hdu3 := s3 _ _ (s2 _ _ hdu)
    refine ⟨_, rfl, _, rfl, _, _, rfl, alk_ints (bx_ints st sd) ho3 hdu3, fun H4 s4 => ⟨_, rfl, iteF ⟨_, rfl, _, rfl, ent_same ((s03.trans s4) _ _ hl) (s4 _ _ (s3 _ _ hm2)) (em (s03.trans s4)) ⟨_, rfl, iteF ?_⟩⟩⟩⟩
    have ho4 := s4 _ _ ho3
    refine ⟨_, rfl, .inl ⟨rfl, _, SqL.of ho4⟩, _, rfl, o, _, _, rfl, rfl, ho4, (by have := bx_len st sd; omega), ?_⟩
    have s25 : Same H2 (upd H4 o (.lst (bx st sd ++ [V.int (-1)]))) := fun b u e => by
      rw [upd_ne (ne_of_none e no)]
      exact s4 _ _ (s3 _ _ e)
    generalize upd H4 o (.lst (bx st sd ++ [V.int (-1)])) = H5 at s25
    have s05 := s02.trans s25
    refine ⟨_, rfl, _, rfl, x, p', s', t', y', m, ps, ss, ts, ys, us, sd, st, rfl, bk.mono s05, sy.mono (Tk.of s05), l60, s25 _ _ hm2, em s05, nd, sl, fun o2 H6 s6 no2 ho6 => ?_⟩
    exact ⟨_, rfl, _, _, rfl, alk_ints (bx_ints st sd) ho6 (s6 _ _ (s25 _ _ (s2 _ _ hdu))), fun H7 s7 => k H7 ((s05.trans s6).trans s7)⟩
end
inductive spLawP  (K : PySem.W.Frag) (vs : List V) (H : Hp) (Q : VK) : Prop
  | mk (a : Addr) (ns : List Int) (h0 : vs = [.ref a]) (h1 : SqL K H a (ns.map V.int)) (h2 : ns.length ≤ 63) (h3 : ∀ H', Q (.bl true) H')
def spLaw  (K : PySem.W.Frag) : Sp := fun vs H Q _ => spLawP K vs H Q
section
variable {P : Program} {w : World} {K : PySem.W.Frag} {mg : Str → Option Value} {base : Heap} {kw C : Addr}
theorem sc_law : FnScope ["_law_script", "_law_parts", "_law_book_here", "_law_cell"] ["_law_script"] (defScope s_law) := ⟨rfl, rfl, rfl, by decide +kernel, rfl, by decide +kernel, by decide +kernel⟩
theorem ok_law {f : Addr} {fd : FuncData} (F : Fun K "law" "law" s_law f fd) (T : Txt K mg kw C) (G__law_book : Gd P w K mg base 3 "_law_book" (spBookL K)) (G_Book : Kd P w K mg base 7 "Book" C (spInit C)) (G__law_right : Gd P w K mg base 4 "_law_right" (spRi C)) (G__law_story : Gd P w K mg base 3 "_law_story" spSt) : FnOk P w K mg base CX0 9 f fd ["_law_script"] (spLaw K) := by
  refine J.here_fn F sc_law (fun vs H Q E h => ?_) (fun X H vs Q E hh h => ?_)
  · obtain ⟨a, ns, rfl, _⟩ := h
    rfl
  · obtain ⟨a, ns, rfl, hS, hlen, k⟩ := h
    have S0 : L2.Slot X 0 "_law_script" := hh.slot 0 rfl (by first | exact .inl rfl | exact .inr rfl) (by decide) (by decide)
    have S1 : L2.Slot X 1 "_law_parts" := hh.slot 1 rfl (by first | exact .inl rfl | exact .inr rfl) (by decide) (by decide)
    have S2 : L2.Slot X 2 "_law_book_here" := hh.slot 2 rfl (by first | exact .inl rfl | exact .inr rfl) (by decide) (by decide)
    have S3 : L2.Slot X 3 "_law_cell" := hh.slot 3 rfl (by first | exact .inl rfl | exact .inr rfl) (by decide) (by decide)
    have B_len : Bt X "len" := hh.bt T.b_len rfl (by decide) (by decide)
    have C__law_book := hh.cal G__law_book rfl (by first | decide | exact Nat.le_refl _) (by decide)
    have C__law_right := hh.cal G__law_right rfl (by first | decide | exact Nat.le_refl _) (by decide)
    have C__law_story := hh.cal G__law_story rfl (by first | decide | exact Nat.le_refl _) (by decide)
    have K_Book := hh.mak G_Book rfl (by decide) (by decide)
    obtain rfl := hh.fK
    have hsz : sizeLine = 16777216 := sizeLine_eq
    refine ⟨_, (J.pss_cons (J.set S1 hh.nd (J.cal C__law_book (J.pa_c (J.rd S0) (J.pa_c J.pe_int J.pa_nil))))
 (J.pss_cons (J.set S2 hh.nd (J.mak K_Book (J.pa_c (J.pe_ix J.ix_list (J.rd S1) J.pe_int J.ix_con) (J.pa_c (J.pe_ix J.ix_list (J.rd S1) J.pe_int J.ix_con) (J.pa_c (J.pe_ix J.ix_list (J.rd S1) J.pe_int J.ix_con) (J.pa_c (J.pe_ix J.ix_list (J.rd S1) J.pe_int J.ix_con) J.pa_nil))))))
 (J.pss_cons (J.ps_for hh.own hh.calm (J.pi_list (J.pe_op J.op_catS (J.pe_slice J.sl_list (J.rd S0) J.po_none (J.po_some J.pe_int)) (J.pe_lst (J.pa_c (J.blt B_len J.call_len_seq L2.bb_len (J.pa_c (J.rd S0) J.pa_nil)) J.pa_nil)))) (J.tgt S3 hh.nd)
 (J.pss_one (J.ps_if (J.pt_not (J.pt_call (J.cal C__law_right (J.pa_c (J.rd S2) (J.pa_c (J.rd S1) (J.pa_c (J.cal C__law_story (J.pa_c (J.rd S1) (J.pa_c (J.rd S3) J.pa_nil))) J.pa_nil))))))
 (J.pss_one (J.ps_ret J.pe_bl))
 J.pss_nil)))
 (J.pss_one (J.ps_ret (J.cal C__law_right (J.pa_c (J.rd S2) (J.pa_c (J.rd S1) (J.pa_c (J.pe_lst J.pa_nil) J.pa_nil))))))))), ?_⟩
    refine ⟨_, rfl, a, ns, rfl, hS, hlen, fun r p s t y ps ss ts ys H1 s1 nr np ns' nt ny nd hr hp hs ht hy g t60 y60 => ?_⟩
    refine ⟨_, rfl, r, _, _, _, rfl, rfl, SqL.of hr, rfl, _, rfl, r, _, _, _, rfl, rfl, SqL.of hr, rfl, _, rfl, r, _, _, _, rfl, rfl, SqL.of hr, rfl, _, rfl, r, _, _, _, rfl, rfl, SqL.of hr, rfl, fun x dx nx ndx nex => ?_⟩
    have s2 : Same H1 (upd (upd H1 dx (.own x)) x (.ins C dx [])) := fun b o e => by
      rw [upd_ne (ne_of_none e nx), upd_ne (ne_of_none e ndx)]
      exact e
    refine ⟨x, dx, p, s, t, y, ps, ss, ts, ys, rfl, upd_same, s2 _ _ hp, s2 _ _ hs, s2 _ _ ht, s2 _ _ hy, g.mono (Tk.of s2), fun p' s' t' y' H3 _ _ _ _ bk kp => ⟨rfl, ?_⟩⟩
    have s3 : Same H1 H3 := fun b o e => kp b o (s2 _ _ e) (ne_of_none e nx)
    have hr3 := s3 _ _ hr
    have hp3 := s3 _ _ hp
    have hs3 := s3 _ _ hs
    have ht3 := s3 _ _ ht
    have hy3 := s3 _ _ hy
    have g3 := g.mono (Tk.of s3)
    obtain ⟨sd, sy, sk⟩ := says_data g3.yg
    obtain ⟨sg, gs, gk⟩ := sights_data g3.sg
    obtain ⟨qd, qs, qk⟩ := talksq g3.tg
    have pl := g3.ok.hi
    have sl' := g3.sl
    have tl := g3.tl
    have s03 := s1.trans s3
    clear s2 kp
    have gsm : ∀ {H' : Hp}, Same H3 H' → Lz SightD H' ss sg := fun s => gs.mono (SightD.mono (Tk.of s))
    have qsm : ∀ {H' : Hp}, Same H3 H' → Lz TalkQ H' ts qd := fun s => qs.mono (TalkQ.mono (Tk.of s))
    have hS3 : SqL X.K H3 a (ns.map V.int) := s03.seq hS
    refine ⟨_, rfl, _, rfl, a, _, rfl, hS3, fun sl nsl => ?_⟩
    have slen := cutV_length (ns.map V.int) none (some 30)
    have sints : ∀ v ∈ cutV (ns.map V.int) none (some 30), ∃ c : Int, v = .int c := fun v hv => by
      obtain ⟨c, _, rfl⟩ := List.mem_map.mp (List.mem_of_mem_drop (List.mem_of_mem_take hv))
      exact ⟨c, rfl⟩
    rw [List.length_map] at slen
    have s4 := Same.upd (o := .lst (cutV (ns.map V.int) none (some 30))) nsl
    have hsl : upd H3 sl (.lst (cutV (ns.map V.int) none (some 30))) sl = some (.lst (cutV (ns.map V.int) none (some 30))) := upd_same
    generalize upd H3 sl (.lst (cutV (ns.map V.int) none (some 30))) = H4 at s4 hsl
    generalize cutV (ns.map V.int) none (some 30) = cs at slen sints hsl
    refine ⟨_, rfl, a, _, rfl, .inl (s4.seq hS3), by show 1 ≤ sizeLine; decide, fun ol nol => ?_⟩
    rw [List.length_map]
    have s5 := Same.upd (o := .lst [V.int ns.length]) nol
    have hol : upd H4 ol (.lst [V.int ns.length]) ol = some (.lst [V.int ns.length]) := upd_same
    generalize upd H4 ol (.lst [V.int ns.length]) = H5 at s5 hol
    refine ⟨sl, ol, cs, [V.int ns.length], rfl, rfl, SqL.of (s5 _ _ hsl), SqL.of hol, by show cs.length + 1 ≤ sizeLine; omega, fun cl ncl => ?_⟩
    have s6 := Same.upd (o := .lst (cs ++ [V.int ns.length])) ncl
    have hcl : upd H5 cl (.lst (cs ++ [V.int ns.length])) cl = some (.lst (cs ++ [V.int ns.length])) := upd_same
    generalize upd H5 cl (.lst (cs ++ [V.int ns.length])) = H6 at s6 hcl
    have ci : ∀ v ∈ cs ++ [V.int ns.length], ∃ c : Int, v = .int c := fun v hv => by
      rcases List.mem_append.mp hv with hv | hv
      · exact sints v hv
      · exact ⟨_, List.mem_singleton.mp hv⟩
    generalize cs ++ [V.int ns.length] = ds at hcl ci
    have s36 := (s4.trans s5).trans s6
    refine ⟨cl, rfl, ⟨_, SqL.of hcl⟩, for_list (K := X.K) (a := cl) (xs := ds) (fun i σ H7 => ∃ e : Option V, σ = [some (.ref a), some (.ref r), some (.ref x), e] ∧ Same H6 H7) ⟨none, rfl, Same.refl _⟩ ?_ ?_ ?_⟩
    · rintro i σ H7 hi ⟨e, rfl, s7⟩
      exact SqL.of (s7 _ _ hcl)
    · rintro i v σ H7 hv ⟨e, rfl, s7⟩
      obtain ⟨c, rfl⟩ := ci v (List.mem_of_getElem? hv)
      have s37 := s36.trans s7
      refine ⟨_, rfl, _, rfl, _, rfl, _, rfl, r, p, s, t, y, c, ps, ss, ts, sg, qd, rfl, s37 _ _ hr3, s37 _ _ hs3, s37 _ _ ht3, sl', tl, gsm s37, gk, qsm s37, qk, pl, fun l us st H8 s8 nl hl lz nds stl ho => ?_⟩
      have s38 := s37.trans s8
      exact ⟨x, r, p, s, t, y, p', s', t', y', l, ps, ss, ts, ys, us, sd, st, rfl, bk.mono s38, s38 _ _ hr3, s38 _ _ hy3, sy.mono (Tk.of s38), sk, y60, hl, lz, nds, stl, ho, fun H9 s9 => ⟨_, rfl, iteF ⟨_, rfl, (s7.trans s8).trans s9⟩⟩⟩
    · rintro σ H7 ⟨e, rfl, s7⟩
      have s37 := s36.trans s7
      refine ⟨_, rfl, _, rfl, by show 0 ≤ sizeLine; decide, fun l nl => ?_⟩
      have s8 := Same.upd (o := .lst []) nl
      have hl8 : upd H7 l (.lst []) l = some (.lst []) := upd_same
      generalize upd H7 l (.lst []) = H8 at s8 hl8
      have s38 := s37.trans s8
      exact ⟨x, r, p, s, t, y, p', s', t', y', l, ps, ss, ts, ys, [], sd, [], rfl, bk.mono s38, s38 _ _ hr3, s38 _ _ hy3, sy.mono (Tk.of s38), sk, y60, hl8, ⟨rfl, fun i v d h => by cases h⟩, List.nodup_nil, Nat.zero_le _, (fun d hd => nomatch hd), fun H9 _ => k H9⟩
end
end K15

namespace K15
open PySem L2
theorem len0 (us : List Value) (h : us.length = 0) : us = [] := List.eq_nil_of_length_eq_zero h
theorem lenS {n : Nat} (us : List Value) (h : us.length = n + 1) : ∃ a r, us = a :: r ∧ r.length = n := by
  cases us with
  | nil => cases h
  | cons a r => exact ⟨a, r, rfl, Nat.succ.inj h⟩
theorem len1 (us : List Value) (h : us.length = 1) : ∃ a, us = [a] := by
  obtain ⟨a, r, rfl, h'⟩ := lenS us h
  exact ⟨a, by rw [len0 r h']⟩
theorem len2 (us : List Value) (h : us.length = 2) : ∃ a b, us = [a, b] := by
  obtain ⟨a, r, rfl, h'⟩ := lenS us h
  obtain ⟨b, rfl⟩ := len1 r h'
  exact ⟨a, b, rfl⟩
theorem len3 (us : List Value) (h : us.length = 3) : ∃ a b c, us = [a, b, c] := by
  obtain ⟨a, r, rfl, h'⟩ := lenS us h
  obtain ⟨b, c, rfl⟩ := len2 r h'
  exact ⟨a, b, c, rfl⟩
theorem len4 (us : List Value) (h : us.length = 4) : ∃ a b c d, us = [a, b, c, d] := by
  obtain ⟨a, r, rfl, h'⟩ := lenS us h
  obtain ⟨b, c, d, rfl⟩ := len3 r h'
  exact ⟨a, b, c, d, rfl⟩
theorem len5 (us : List Value) (h : us.length = 5) : ∃ a b c d e, us = [a, b, c, d, e] := by
  obtain ⟨a, r, rfl, h'⟩ := lenS us h
  obtain ⟨b, c, d, e, rfl⟩ := len4 r h'
  exact ⟨a, b, c, d, e, rfl⟩
theorem len6 (us : List Value) (h : us.length = 6) : ∃ a b c d e f, us = [a, b, c, d, e, f] := by
  obtain ⟨a, r, rfl, h'⟩ := lenS us h
  obtain ⟨b, c, d, e, f, rfl⟩ := len5 r h'
  exact ⟨a, b, c, d, e, f, rfl⟩
theorem FF.d {K : PySem.W.Frag} {h : Heap} {mg : Str → Option Value} {x : Str} {st : Stmt} (F : FF K x st) (X : K.In h) (G : h.Ns mainGlobals mg) (ps : List Str) (hb : ∀ (kV doc pm : Value) (an : Option Addr) (cdv ct : Value) (us : List Value), us.length = ps.length → bindArgs (PySem.W.fnOf x x (defArgs st) (defBody st) (defScope st) .none kV doc pm an cdv ct) ⟨us, []⟩ = pure (ps.zip us) := by intro _ _ _ _ _ _ us hl; first | (obtain ⟨_, rfl⟩ := len1 us hl; rfl) | (obtain ⟨_, _, rfl⟩ := len2 us hl; rfl) | (obtain ⟨_, _, _, rfl⟩ := len3 us hl; rfl) | (obtain ⟨_, _, _, _, rfl⟩ := len4 us hl; rfl) | (obtain ⟨_, _, _, _, _, rfl⟩ := len5 us hl; rfl)) : ∃ f fd, Df K mg x st ps f fd := by
  obtain ⟨a, l, c, k⟩ := F
  have F1 := fun_mk (st := st) l c k
  exact ⟨_, _, F1, PySem.W.mg_of X G a, F1.binds hb⟩
/-! what the top has written, and the law's own head -/
theorem vals_of_strs : ∀ {zs : List Str} {us : List Value}, strsOf us = zs.map some → Vals (zs.map V.str) us
  | [], [], _ => .nil
  | [], _ :: _, h => by cases h
  | _ :: _, [], h => by cases h
  | z :: zs, u :: us, h => by
    have h1 : oneOf u :: strsOf us = some z :: zs.map some := h
    injection h1 with e1 e2
    refine .cons ?_ (vals_of_strs e2)
    cases u with
    | str x t =>
      cases e1
      exact ⟨t, rfl⟩
    | _ => cases e1
theorem all_mk {l : PySem.W.OpenLaw} {w : World} {K : PySem.W.Frag} {h : Heap} {mg : Str → Option Value} {fa : Addr} (X : K.In h) (G : h.Ns mainGlobals mg) (hfa : mg "law" = some (.ref fa)) (FX : Facts K) :
    ∃ fd : FuncData, (∀ (s : Shared) (v : Value), BindsTo s fd ⟨[v], []⟩ [("_law_script", v)]) ∧ ∀ base : Heap, K.In base → base.Ns mainGlobals mg → FnOk l.prog w K mg base CX0 9 fa fd ["_law_script"] (spLaw K) := by
  obtain @⟨kw, C, f39, f40, odw, od39, an39, od40, an40, slw, sl39, sl40, oc39, kV39, dc39, pm39, cd39, ct39, oc40, kV40, dc40, pm40, cd40, ct40, its, nW, tk1, tk2, tk3, tk4, tk5, aW, lW, vW, h1, h2, h3, h4, h5, h6, h7, h8, h9, h10, h11, h12, h13, h14, h15, h16, h17, h18, h19, h20, h21, h22, h23, h24, h25, h26, h27, h28, h29, h30, h31, h32, h33, h34, h35, h36, h37, h38, aC, pg, hd, po, sa, mk, kc, nP, nS, nT, nY, a39, i39, l39, c39, k39, a40, i40, l40, c40, k40, z1, z2, z3, z4, z5, z6, z7, z8, z9, z10, z11, z12, z13, z14, z15, z16, z17, z18, z19, g1, g2, g3, g4, g5⟩ := FX
  have vW := vals_of_strs (zs := kept) vW
  obtain @⟨f38, oc38, kV38, dc38, pm38, cd38, ct38, od38, an38, sl38, a38, l38, c38, k38⟩ := h38
  have e := hfa.symm.trans (PySem.W.mg_of X G a38)
  cases e
  have hsz : its.size ≤ sizeLine := by
    have e := vW.length
    have e2 : (kept.map V.str).length = 12 := by decide +kernel
    rw [e2, Array.length_toList] at e
    have : sizeLine = 16777216 := sizeLine_eq
    omega
  have T : Txt K mg kw C := ⟨PySem.W.mg_none_of X G z1, PySem.W.mg_none_of X G z2, PySem.W.mg_none_of X G z3, PySem.W.mg_none_of X G z4, PySem.W.mg_none_of X G z5, PySem.W.mg_none_of X G z6, PySem.W.mg_none_of X G z7, PySem.W.mg_none_of X G z8, PySem.W.mg_none_of X G z9, PySem.W.mg_none_of X G z10, PySem.W.mg_none_of X G z11, PySem.W.mg_none_of X G z12, PySem.W.mg_none_of X G z13, PySem.W.mg_none_of X G z14, PySem.W.mg_none_of X G z15, PySem.W.mg_none_of X G z16, PySem.W.mg_none_of X G z17, PySem.W.mg_none_of X G z18, PySem.W.mg_none_of X G z19, PySem.W.mg_of X G aW, ⟨_, its, nW, lW, rfl, rfl, hsz, vW⟩, ⟨_, PySem.W.mg_of X G g1, ⟨_, rfl⟩⟩, ⟨_, PySem.W.mg_of X G g2, ⟨_, rfl⟩⟩, ⟨_, PySem.W.mg_of X G g3, ⟨_, rfl⟩⟩, ⟨_, PySem.W.mg_of X G g4, ⟨_, rfl⟩⟩, ⟨_, PySem.W.mg_of X G g5, ⟨_, rfl⟩⟩, ⟨pg, hd, po, sa⟩, nP, nS, nT, nY⟩
  have F38 := fun_mk (st := s_law) l38 c38 k38
  have F39 := fun_mk (st := s_m_init) l39 c39 k39
  have F40 := fun_mk (st := s_m_sayings) l40 c40 k40
  obtain ⟨_, _, D_is_whole⟩ := h1.d X G ["thing"]
  obtain ⟨_, _, D_is_hour⟩ := h2.d X G ["thing"]
  obtain ⟨_, _, D_is_name⟩ := h3.d X G ["thing"]
  obtain ⟨_, _, D_is_list_up_to⟩ := h4.d X G ["thing", "most"]
  obtain ⟨_, _, D_is_tuple_of⟩ := h5.d X G ["thing", "length"]
  obtain ⟨_, _, D_is_person⟩ := h6.d X G ["persons", "thing"]
  obtain ⟨_, _, D_are_unlike_persons⟩ := h7.d X G ["persons", "one", "other"]
  obtain ⟨_, _, D_is_tale⟩ := h8.d X G ["thing"]
  obtain ⟨_, _, D_is_sight⟩ := h9.d X G ["persons", "thing"]
  obtain ⟨_, _, D_is_way⟩ := h10.d X G ["thing"]
  obtain ⟨_, _, D_is_talk⟩ := h11.d X G ["persons", "thing"]
  obtain ⟨_, _, D_is_span⟩ := h12.d X G ["begin", "end"]
  obtain ⟨_, _, D_is_short_saying⟩ := h13.d X G ["persons", "kind", "person", "behind"]
  obtain ⟨_, _, D_is_saying⟩ := h14.d X G ["persons", "thing"]
  obtain ⟨_, _, D_are_persons⟩ := h15.d X G ["thing"]
  obtain ⟨_, _, D_are_sights⟩ := h16.d X G ["persons", "thing"]
  obtain ⟨_, _, D_are_talks⟩ := h17.d X G ["persons", "thing"]
  obtain ⟨_, _, D_are_sayings⟩ := h18.d X G ["persons", "thing"]
  obtain ⟨_, _, D_l_names⟩ := h19.d X G ["_law_cell"]
  obtain ⟨_, _, D_l_hour⟩ := h20.d X G ["_law_number"]
  obtain ⟨_, _, D_l_tale⟩ := h21.d X G ["_law_number", "_law_names_here"]
  obtain ⟨_, _, D_l_talk⟩ := h22.d X G ["_law_number", "_law_persons"]
  obtain ⟨_, _, D_l_saying⟩ := h23.d X G ["_law_number", "_law_persons"]
  obtain ⟨_, _, D_l_book⟩ := h24.d X G ["_law_script", "_law_most"]
  obtain ⟨_, _, D_hours_in⟩ := h25.d X G ["story"]
  obtain ⟨_, _, D_fits_knew⟩ := h26.d X G ["hours", "person", "hour"]
  obtain ⟨_, _, D_fits_unheard⟩ := h27.d X G ["hours", "person", "hour"]
  obtain ⟨_, _, D_fits_silent⟩ := h28.d X G ["story", "person", "begin", "end"]
  obtain ⟨_, _, D_fits_barred⟩ := h29.d X G ["story", "person", "other"]
  obtain ⟨_, _, D_fits⟩ := h30.d X G ["story", "saying"]
  obtain ⟨_, _, D_unfitted⟩ := h31.d X G ["book", "story"]
  obtain ⟨_, _, D_l_alike⟩ := h32.d X G ["_law_found", "_law_due"]
  obtain ⟨_, _, D_l_mix⟩ := h33.d X G ["_law_cell", "_law_k"]
  obtain ⟨_, _, D_l_events⟩ := h34.d X G ["_law_parts", "_law_cell"]
  obtain ⟨_, _, D_l_story⟩ := h35.d X G ["_law_parts", "_law_cell"]
  obtain ⟨_, _, D_l_fits⟩ := h36.d X G ["_law_story_here", "_law_saying_here"]
  obtain ⟨_, _, D_l_right⟩ := h37.d X G ["_law_book_here", "_law_parts", "_law_story_here"]
  have b_m_init := F39.binds (ps := ["self", "persons", "sights", "talks", "sayings"]) fun _ _ _ _ _ _ us hl => by
    obtain ⟨_, _, _, _, _, rfl⟩ := len5 us hl
    rfl
  have F_m_init := F39
  have mk_m_init : Mk K C f39 := ⟨mk, a39, i39, kc⟩
  have b_m_sayings := F40.binds (ps := ["self"]) fun _ _ _ _ _ _ us hl => by
    obtain ⟨_, rfl⟩ := len1 us hl
    rfl
  have F_m_sayings := F40
  have me_m_sayings : Meth K C "sayings" f40 := ⟨a40, i40, k40⟩
  have nmB := PySem.W.mg_of X G aC
  refine ⟨PySem.W.fnOf "law" "law" (defArgs s_law) (defBody s_law) (defScope s_law) .none kV38 dc38 pm38 an38 cd38 ct38, fun s v => .of_eq rfl, fun base _ _ => ?_⟩
  have G1 : Gd l.prog w K mg base 2 "is_hour" (spHour K) := ⟨_, _, _, ok_hour D_is_hour.fn D_is_whole T, D_is_hour.nm, D_is_hour.fn.kp, D_is_hour.bi⟩
  have G2 : Gd l.prog w K mg base 1 "is_name" (spName K) := ⟨_, _, _, ok_name D_is_name.fn T, D_is_name.nm, D_is_name.fn.kp, D_is_name.bi⟩
  have G3 : Gd l.prog w K mg base 1 "is_list_up_to" spListUp := ok_list_up D_is_list_up_to T
  have G4 : Gd l.prog w K mg base 1 "is_tuple_of" spTupOf := ok_tup_of D_is_tuple_of T
  have G5 : Gd l.prog w K mg base 2 "is_person" spPerson := ok_person D_is_person G2
  have G6 : Gd l.prog w K mg base 3 "are_unlike_persons" spUnlike := ok_unlike D_are_unlike_persons G5
  have G7 : Gd l.prog w K mg base 2 "is_tale" spTale := ok_tale D_is_tale T G2
  have G8 : Gd l.prog w K mg base 3 "is_sight" spSight := ok_sight D_is_sight G4 G5 G1 G7
  have G9 : Gd l.prog w K mg base 1 "is_way" spWay := ok_way D_is_way T
  have G10 : Gd l.prog w K mg base 4 "is_talk" spTalk := ok_talk D_is_talk G4 G6 G1 G9
  have G11 : Gd l.prog w K mg base 3 "is_span" spSpan := ok_span D_is_span G1
  have G12 : Gd l.prog w K mg base 4 "is_short_saying" spShort := ok_short D_is_short_saying G6 G5 G1
  have G13 : Gd l.prog w K mg base 5 "is_saying" spSaying := ok_saying D_is_saying T G5 G11 G12
  have G14 : Gd l.prog w K mg base 2 "are_persons" spPersons := ok_persons D_are_persons T G3 G2
  have G15 : Gd l.prog w K mg base 4 "are_sights" (spMany SightIn 24) := ok_all_sights D_are_sights T G3 G8
  have G16 : Gd l.prog w K mg base 5 "are_talks" (spMany TalkIn 120) := ok_all_talks D_are_talks T G3 G10
  have G17 : Gd l.prog w K mg base 6 "are_sayings" (spMany SayIn 60) := ok_all_sayings D_are_sayings T G3 G13
  have GB : Kd l.prog w K mg base 7 "Book" C (spInit C) := ok_init F_m_init mk_m_init b_m_init nmB T G14 G15 G16 G17
  have G20 : Gd l.prog w K mg base 1 "_law_hour" spHourL := ok_l_hour D_l_hour
  have G21 : Gd l.prog w K mg base 1 "_law_names" spNames := ok_l_names D_l_names T
  have G22 : Gd l.prog w K mg base 1 "_law_tale" spTaleL := ok_l_tale D_l_tale T
  have G23 : Gd l.prog w K mg base 2 "_law_talk" spTalkL := ok_l_talk D_l_talk T G20
  have G24 : Gd l.prog w K mg base 2 "_law_saying" spSayL := ok_l_saying D_l_saying T G20
  have G25 : Gd l.prog w K mg base 3 "_law_book" (spBookL K) := ok_l_book D_l_book T G20 G21 G22 G23 G24
  have M4 : Md l.prog w K mg base 1 C "sayings" (spTell1 C fun _ _ _ y => y) := ok_m_sayings F_m_sayings me_m_sayings b_m_sayings T
  have G40 : Gd l.prog w K mg base 1 "hours_in" spHi := ok_hi D_hours_in
  have G41 : Gd l.prog w K mg base 1 "fits_knew" spFk := ok_fk D_fits_knew
  have G42 : Gd l.prog w K mg base 1 "fits_unheard" spFu := ok_fu D_fits_unheard
  have G43 : Gd l.prog w K mg base 1 "fits_silent" spFl := ok_fl D_fits_silent T
  have G44 : Gd l.prog w K mg base 1 "fits_barred" spFb := ok_fb D_fits_barred T
  have G45 : Gd l.prog w K mg base 2 "fits" spFt := ok_ft D_fits G40 G41 G42 G43 G44
  have G46 : Gd l.prog w K mg base 3 "unfitted" (spUf C) := ok_uf D_unfitted T M4 G45
  have G30 : Gd l.prog w K mg base 2 "_law_alike" (spAl 2) := ok_alike D_l_alike T 2
  have G47 : Gd l.prog w K mg base 1 "_law_mix" spMix := ok_mix D_l_mix
  have G48 : Gd l.prog w K mg base 2 "_law_events" spEv := ok_ev D_l_events T G47
  have G49 : Gd l.prog w K mg base 3 "_law_story" spSt := ok_st D_l_story T G47 G48
  have G50 : Gd l.prog w K mg base 1 "_law_fits" spLf := ok_lf D_l_fits T
  have G51 : Gd l.prog w K mg base 4 "_law_right" (spRi C) := ok_ri D_l_right T G50 G46 G30
  exact ok_law F38 T G25 GB G51 G49

theorem walk {l : PySem.W.OpenLaw} {q : Program} {loose : List Str} {XP : (Str → Option Value) → Heap → Prop} {YP : World → Heap → Prop} {d : DefRec} {K : Params → PySem.W.Frag} (hn : l.most = some 63) (hdf : d.params.defaults = [])
    (hY : ∀ (w : World) (h : Heap), YP w h → (K w.params).In h)
    (F : ∀ (w : World) (mg : Str → Option Value) (fa : Addr) (h : Heap), (K w.params).In h → h.Ns mainGlobals mg → mg d.name = some (.ref fa) →
      ∃ fd : FuncData, (∀ (s : Shared) (u : Value), BindsTo s fd ⟨[u], []⟩ [("_law_script", u)]) ∧ ∀ base : Heap, (K w.params).In base → base.Ns mainGlobals mg → FnOk l.prog w (K w.params) mg base CX0 9 fa fd ["_law_script"] (spLaw (K w.params))) :
    PySem.W.WalkO q loose XP YP l.row.toRowW d [] (fun f vs => PySem.call f vs) :=
  L2.walk_of (n := 63) (k := 9) (x := "_law_script") (CX := fun _ => CX0) (sp := fun w => spLaw (K w.params)) hn (by decide) hdf ⟨rfl, by decide, by decide⟩ hY F (fun _ _ a ns hl _ hS => ⟨a, ns, rfl, hS, hl, fun _ => rfl⟩) fun _ _ _ _ _ z => z
end K15
open PySem PySem.W PyProof.Rows
theorem PySem.Challenge.cw_knewby_k15_unfitted_holds : PySem.Challenge.rw_knewby_k15_unfitted.Holds :=
  K15.closing fun hdn hdf hY hF => K15.walk (l := PySem.Challenge.rw_knewby_k15_unfitted) rfl hdf hY fun w mg fa h KX G hmg => K15.all_mk KX G (by rw [← hdn]; exact hmg) (hF w mg fa h KX G hmg)

