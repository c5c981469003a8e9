import PyProof.Rows.All
import Wide.All
import OpenK.AllK
import Wide.FinOn
import Lean
import PyProof.EqAt
import PyProof.EqKinds
import PyProof.TupleCall
import PyProof.ListRange
import PyProof.Rows.SortStr
import KE.KRevIter
import KE.KDictOf
import PyProof.AttrMissSeq
import PySem.Challenge.RW_knewby_k41_what_is_a_line
set_option Elab.async false
set_option linter.all false
set_option maxRecDepth 100000
set_option maxHeartbeats 4000000
namespace L2
open PySem PySem.Spec PyProof.Rows
/-- the j-th statement of a class's body -/
def inClass (s : Stmt) (j : Nat) : Stmt := match s with
  | .ClassDef _ _ _ body _ _ _ _ _ _ _ => body.getD j (.Pass ⟨0, 0, 0, 0⟩)
  | _ => .Pass ⟨0, 0, 0, 0⟩
def defArgs (s : Stmt) : Arguments := match s with
  | .FunctionDef _ a _ _ _ _ _ _ _ _ => a
  | _ => { posonlyargs := [], args := [], vararg := none, kwonlyargs := [], kw_defaults := [], kwarg := none, defaults := [] }
def defBody (s : Stmt) : List Stmt := match s with
  | .FunctionDef _ _ b _ _ _ _ _ _ _ => b
  | _ => []
def defScope (s : Stmt) : Scope := match s with
  | .FunctionDef _ _ _ _ _ _ sc _ _ _ => sc
  | _ => { kind := .function, names := [], isGenerator := false, isCoroutine := false }

end L2
/-! ### the top's run over a tree of objects -/
namespace TR
open PySem PySem.W
def runT (stp : SharedT → Thread → Option (SharedT × Thread)) (ok : Thread → Bool) : Nat → SharedT → Thread → Option SharedT
  | 0, _, _ => none
  | n + 1, s, t => match through t with
    | true => some s
    | false => match ok t with
      | false => none
      | true => match stp s t with
        | some (s', t') => runT stp ok n s' t'
        | none => none
theorem runT_of {tb : String → Option Builtin} {p : Program} {w : World} {n₀ : Nat} {ann : Option Value} : ∀ {n : Nat} {s s' : SharedT} {t : Thread}, runT (stepT (denote tb) p w) (stepOk n₀ ann) n s t = some s' → topRun tb p w n₀ ann n s.abs t = some s'.abs
  | 0, _, _, _, h => by cases h
  | n + 1, s, s', t, h => by
    unfold runT at h
    unfold topRun
    cases he : through t with
    | true => rw [he] at h; cases h; rfl
    | false =>
      rw [he] at h
      cases hk : stepOk n₀ ann t with
      | false => rw [hk] at h; cases h
      | true =>
        rw [hk] at h
        cases hs : stepT (denote tb) p w s t with
        | none => rw [hs] at h; cases h
        | some r =>
          obtain ⟨s₂, t₂⟩ := r
          rw [hs] at h
          rw [stepT_spec hs]
          exact runT_of h
def grow : List Obj → BT → Nat → Option BT
  | [], t, _ => some t
  | o :: r, t, n => match ((t.ins n o).get n).isSome with
    | true => grow r (t.ins n o) (n + 1)
    | false => none
theorem grow_abs {life : Life} : ∀ {l : List Obj} {t t' : BT} {n : Nat}, grow l t n = some t' → absHeap t' (n + l.length) life = l.foldl (fun h o => h.push o) (absHeap t n life)
  | [], _, _, _, h => by cases h; rfl
  | o :: r, t, t', n, h => by
    unfold grow at h
    cases g : ((t.ins n o).get n).isSome with
    | false => rw [g] at h; cases h
    | true =>
      rw [g] at h
      have ih := grow_abs (life := life) h
      rw [absHeap_ins g] at ih
      rw [List.length_cons, List.foldl_cons, ← ih]
      congr 1
      omega
theorem push_all (life : Life) : ∀ (l m : List Obj), l.foldl (fun (h : Heap) o => h.push o) ⟨m.toArray, life⟩ = ⟨(m ++ l).toArray, life⟩
  | [], m => by rw [List.append_nil]; rfl
  | o :: r, m => by
    have : (⟨m.toArray, life⟩ : Heap).push o = ⟨(m ++ [o]).toArray, life⟩ := by
      show (⟨m.toArray.push o, life⟩ : Heap) = _
      rw [List.push_toArray]
    rw [List.foldl_cons, this, push_all life r, List.append_assoc]
    rfl
def ofS (s : Shared) (t : BT) : SharedT := ⟨t, s.heap.objs.size, s.heap.life, s.gens, s.drawn, s.toks, s.os⟩
theorem ofS_abs {s : Shared} {t : BT} (h : grow s.heap.objs.toList .nil 0 = some t) : (ofS s t).abs = s := by
  have := grow_abs (life := s.heap.life) h
  rw [Nat.zero_add, show absHeap .nil 0 s.heap.life = ⟨([] : List Obj).toArray, s.heap.life⟩ from rfl, push_all, List.nil_append, Array.length_toList] at this
  obtain ⟨⟨objs, life⟩, gens, drawn, toks, os⟩ := s
  show (⟨absHeap t objs.size life, gens, drawn, toks, os⟩ : Shared) = _
  rw [this]
theorem left {p q : Program} {loose : List Str} {Xt : Shared → Bool} {α : Type} {Yf : Shared → α} {Ya : World → α} {N : Nat}
    (h : ∀ w, ((fencedOpening treeTable p w N).bind fun s₀ => (grow s₀.heap.objs.toList .nil 0).bind fun t => match s₀.heap.isNs mainGlobals && s₀.gens.size == 0 with
      | true => (runT (stepT (denote treeTable) p w) (stepOk s₀.heap.objs.size (s₀.heap.nsMap mainGlobals "__annotations__")) N (ofS s₀ t) (topStub p)).bind fun s₁ => match staticsOk (importedModules p.main.body) s₀.heap s₁.abs.heap && namesBound p s₁.abs.heap && gensDone s₁.abs && laidKept s₀.heap s₁.abs.heap with
        | true => some (openSeen q loose (importedModules p.main.body) Xt true s₁.abs, Yf s₁.abs)
        | false => none
      | false => none) = some (openGood q loose, Ya w)) : LeftO p q loose Xt Yf Ya N := fun w => by
  have hw := h w
  unfold openEnds
  cases e0 : fencedOpening treeTable p w N with
  | none => rw [e0] at hw; cases hw
  | some s₀ =>
    rw [e0] at hw
    simp only [Option.bind_some] at hw ⊢
    cases eg : grow s₀.heap.objs.toList .nil 0 with
    | none => rw [eg] at hw; cases hw
    | some t =>
      rw [eg] at hw
      simp only [Option.bind_some] at hw
      unfold topFrom
      cases c : (s₀.heap.isNs mainGlobals && s₀.gens.size == 0) with
      | false => rw [c] at hw; cases hw
      | true =>
        rw [c] at hw
        dsimp only at hw ⊢
        cases er : runT (stepT (denote treeTable) p w) (stepOk s₀.heap.objs.size (s₀.heap.nsMap mainGlobals "__annotations__")) N (ofS s₀ t) (topStub p) with
        | none => rw [er] at hw; cases hw
        | some s₁ =>
          rw [er] at hw
          have r := runT_of er
          rw [ofS_abs eg] at r
          rw [r]
          simp only [Option.bind_some] at hw ⊢
          cases c2 : (staticsOk (importedModules p.main.body) s₀.heap s₁.abs.heap && namesBound p s₁.abs.heap && gensDone s₁.abs && laidKept s₀.heap s₁.abs.heap) with
          | false => rw [c2] at hw; cases hw
          | true =>
            rw [c2] at hw
            exact hw
end TR

section
namespace K41
open PySem L2
def top (i : Nat) : Stmt := PySem.Challenge.pw_knewby_k41_what_is_a_line.main.body.getD i (.Pass ⟨0, 0, 0, 0⟩)
abbrev s_floor_of : Stmt := top 2
abbrev s_floors_of_all : Stmt := top 3
abbrev s_is_above : Stmt := top 4
abbrev s_is_silent : Stmt := top 5
abbrev s_is_barred : Stmt := top 6
abbrev s_open_sights : Stmt := top 7
abbrev s_open_tellings : Stmt := top 8
abbrev s_hours_of_tellings : Stmt := top 10
abbrev s_seen_hours : Stmt := top 15
abbrev s_saw_ahead_of : Stmt := top 16
abbrev s_hours_of_open : Stmt := top 17
abbrev s_leads_to : Stmt := top 18
abbrev s_is_line : Stmt := top 19
abbrev s_is_whole : Stmt := top 22
abbrev s_is_hour : Stmt := top 23
abbrev s_is_name : Stmt := top 24
abbrev s_is_list_up_to : Stmt := top 31
abbrev s_is_tuple_of : Stmt := top 32
abbrev s_is_person : Stmt := top 33
abbrev s_are_unlike_persons : Stmt := top 34
abbrev s_is_tale : Stmt := top 35
abbrev s_is_sight : Stmt := top 36
abbrev s_is_way : Stmt := top 37
abbrev s_is_talk : Stmt := top 38
abbrev s_is_span : Stmt := top 39
abbrev s_is_short_saying : Stmt := top 40
abbrev s_is_saying : Stmt := top 41
abbrev s_are_persons : Stmt := top 42
abbrev s_are_sights : Stmt := top 43
abbrev s_are_talks : Stmt := top 44
abbrev s_are_sayings : Stmt := top 45
abbrev s_m_init : Stmt := inClass (top 46) 0
abbrev s_m_persons : Stmt := inClass (top 46) 1
abbrev s_m_sights : Stmt := inClass (top 46) 2
abbrev s_m_talks : Stmt := inClass (top 46) 3
abbrev s_m_sayings : Stmt := inClass (top 46) 4
abbrev s_m_with_sight : Stmt := inClass (top 46) 5
abbrev s_m_with_talk : Stmt := inClass (top 46) 6
abbrev s_m_with_saying : Stmt := inClass (top 46) 7
abbrev s_m_without_saying : Stmt := inClass (top 46) 8
abbrev s_m_tellings : Stmt := inClass (top 46) 9
abbrev s_l_cell_at : Stmt := top 48
abbrev s_l_mix : Stmt := top 49
abbrev s_l_names : Stmt := top 50
abbrev s_l_saying : Stmt := top 51
abbrev s_l_made : Stmt := top 52
abbrev s_l_book : Stmt := top 53
abbrev s_l_free : Stmt := top 54
abbrev s_l_open : Stmt := top 55
abbrev s_l_seen : Stmt := top 56
abbrev s_l_hour : Stmt := top 57
abbrev s_l_line_good : Stmt := top 58
abbrev s_l_onward : Stmt := top 59
abbrev s_l_grown : Stmt := top 60
abbrev s_l_all : Stmt := top 61
abbrev s_l_spoiled : Stmt := top 62
abbrev s_law : Stmt := top 63
def oneOf : Value → Option Str
  | .str x _ => some x
  | _ => none
def strsOf (l : List Value) : List (Option Str) := l.map oneOf
def keptOf : List (Option Str) := [some "person", some "talk", some "saw", some "knew", some "heard", some "told", some "not", some "nobody", some "never", some "by", some "from", some "to"]
/-- what the top has written -/
inductive Facts (K : PySem.W.Frag) : Prop
  | mk {kw C f1 f2 f3 f4 f5 f6 f7 f8 f9 f10 f11 f12 f13 f14 f15 f16 f17 f18 f19 f20 f21 f22 f23 f24 f25 f26 f27 f28 f29 f30 f31 f32 f33 f34 f35 f36 f37 f38 f39 f40 f41 f42 f43 f44 f45 f46 f47 f48 f49 f50 f51 f52 f53 : Addr}
    {odw od1 an1 od2 an2 od3 an3 od4 an4 od5 an5 od6 an6 od7 an7 od8 an8 od9 an9 od10 an10 od11 an11 od12 an12 od13 an13 od14 an14 od15 an15 od16 an16 od17 an17 od18 an18 od19 an19 od20 an20 od21 an21 od22 an22 od23 an23 od24 an24 od25 an25 od26 an26 od27 an27 od28 an28 od29 an29 od30 an30 od31 an31 od32 an32 od33 an33 od34 an34 od35 an35 od36 an36 od37 an37 od38 an38 od39 an39 od40 an40 od41 an41 od42 an42 od43 an43 od44 an44 od45 an45 od46 an46 od47 an47 od48 an48 od49 an49 od50 an50 od51 an51 od52 an52 od53 an53 : Option Addr} {slw sl1 sl2 sl3 sl4 sl5 sl6 sl7 sl8 sl9 sl10 sl11 sl12 sl13 sl14 sl15 sl16 sl17 sl18 sl19 sl20 sl21 sl22 sl23 sl24 sl25 sl26 sl27 sl28 sl29 sl30 sl31 sl32 sl33 sl34 sl35 sl36 sl37 sl38 sl39 sl40 sl41 sl42 sl43 sl44 sl45 sl46 sl47 sl48 sl49 sl50 sl51 sl52 sl53 : Array (Option Value)} {oc1 kV1 dc1 pm1 cd1 ct1 oc2 kV2 dc2 pm2 cd2 ct2 oc3 kV3 dc3 pm3 cd3 ct3 oc4 kV4 dc4 pm4 cd4 ct4 oc5 kV5 dc5 pm5 cd5 ct5 oc6 kV6 dc6 pm6 cd6 ct6 oc7 kV7 dc7 pm7 cd7 ct7 oc8 kV8 dc8 pm8 cd8 ct8 oc9 kV9 dc9 pm9 cd9 ct9 oc10 kV10 dc10 pm10 cd10 ct10 oc11 kV11 dc11 pm11 cd11 ct11 oc12 kV12 dc12 pm12 cd12 ct12 oc13 kV13 dc13 pm13 cd13 ct13 oc14 kV14 dc14 pm14 cd14 ct14 oc15 kV15 dc15 pm15 cd15 ct15 oc16 kV16 dc16 pm16 cd16 ct16 oc17 kV17 dc17 pm17 cd17 ct17 oc18 kV18 dc18 pm18 cd18 ct18 oc19 kV19 dc19 pm19 cd19 ct19 oc20 kV20 dc20 pm20 cd20 ct20 oc21 kV21 dc21 pm21 cd21 ct21 oc22 kV22 dc22 pm22 cd22 ct22 oc23 kV23 dc23 pm23 cd23 ct23 oc24 kV24 dc24 pm24 cd24 ct24 oc25 kV25 dc25 pm25 cd25 ct25 oc26 kV26 dc26 pm26 cd26 ct26 oc27 kV27 dc27 pm27 cd27 ct27 oc28 kV28 dc28 pm28 cd28 ct28 oc29 kV29 dc29 pm29 cd29 ct29 oc30 kV30 dc30 pm30 cd30 ct30 oc31 kV31 dc31 pm31 cd31 ct31 oc32 kV32 dc32 pm32 cd32 ct32 oc33 kV33 dc33 pm33 cd33 ct33 oc34 kV34 dc34 pm34 cd34 ct34 oc35 kV35 dc35 pm35 cd35 ct35 oc36 kV36 dc36 pm36 cd36 ct36 oc37 kV37 dc37 pm37 cd37 ct37 oc38 kV38 dc38 pm38 cd38 ct38 oc39 kV39 dc39 pm39 cd39 ct39 oc40 kV40 dc40 pm40 cd40 ct40 oc41 kV41 dc41 pm41 cd41 ct41 oc42 kV42 dc42 pm42 cd42 ct42 oc43 kV43 dc43 pm43 cd43 ct43 oc44 kV44 dc44 pm44 cd44 ct44 oc45 kV45 dc45 pm45 cd45 ct45 oc46 kV46 dc46 pm46 cd46 ct46 oc47 kV47 dc47 pm47 cd47 ct47 oc48 kV48 dc48 pm48 cd48 ct48 oc49 kV49 dc49 pm49 cd49 ct49 oc50 kV50 dc50 pm50 cd50 ct50 oc51 kV51 dc51 pm51 cd51 ct51 oc52 kV52 dc52 pm52 cd52 ct52 oc53 kV53 dc53 pm53 cd53 ct53 : Value} {its : Array Value} {nW : Nat} {tk1 tk2 tk3 tk4 tk5 : Tok}
    (aW : PySem.W.nsIn K mainGlobals "KEPT_WORDS" = some (some (.ref kw))) (lW : K.lookup kw = some ⟨.type "tuple", odw, .seq its nW, slw⟩) (vW : strsOf its.toList = keptOf)
    (a1 : PySem.W.nsIn K mainGlobals "is_whole" = some (some (.ref f1))) (l1 : K.lookup f1 = some ⟨oc1, od1, .func (PySem.W.fnOf "is_whole" "is_whole" (defArgs s_is_whole) (defBody s_is_whole) (defScope s_is_whole) .none kV1 dc1 pm1 an1 cd1 ct1), sl1⟩) (c1 : PySem.W.codeIn K cd1 "is_whole" = true) (k1 : PySem.W.keepIn K (.ref f1) = true)
    (a2 : PySem.W.nsIn K mainGlobals "is_hour" = some (some (.ref f2))) (l2 : K.lookup f2 = some ⟨oc2, od2, .func (PySem.W.fnOf "is_hour" "is_hour" (defArgs s_is_hour) (defBody s_is_hour) (defScope s_is_hour) .none kV2 dc2 pm2 an2 cd2 ct2), sl2⟩) (c2 : PySem.W.codeIn K cd2 "is_hour" = true) (k2 : PySem.W.keepIn K (.ref f2) = true)
    (a3 : PySem.W.nsIn K mainGlobals "is_name" = some (some (.ref f3))) (l3 : K.lookup f3 = some ⟨oc3, od3, .func (PySem.W.fnOf "is_name" "is_name" (defArgs s_is_name) (defBody s_is_name) (defScope s_is_name) .none kV3 dc3 pm3 an3 cd3 ct3), sl3⟩) (c3 : PySem.W.codeIn K cd3 "is_name" = true) (k3 : PySem.W.keepIn K (.ref f3) = true)
    (a4 : PySem.W.nsIn K mainGlobals "is_list_up_to" = some (some (.ref f4))) (l4 : K.lookup f4 = some ⟨oc4, od4, .func (PySem.W.fnOf "is_list_up_to" "is_list_up_to" (defArgs s_is_list_up_to) (defBody s_is_list_up_to) (defScope s_is_list_up_to) .none kV4 dc4 pm4 an4 cd4 ct4), sl4⟩) (c4 : PySem.W.codeIn K cd4 "is_list_up_to" = true) (k4 : PySem.W.keepIn K (.ref f4) = true)
    (a5 : PySem.W.nsIn K mainGlobals "is_tuple_of" = some (some (.ref f5))) (l5 : K.lookup f5 = some ⟨oc5, od5, .func (PySem.W.fnOf "is_tuple_of" "is_tuple_of" (defArgs s_is_tuple_of) (defBody s_is_tuple_of) (defScope s_is_tuple_of) .none kV5 dc5 pm5 an5 cd5 ct5), sl5⟩) (c5 : PySem.W.codeIn K cd5 "is_tuple_of" = true) (k5 : PySem.W.keepIn K (.ref f5) = true)
    (a6 : PySem.W.nsIn K mainGlobals "is_person" = some (some (.ref f6))) (l6 : K.lookup f6 = some ⟨oc6, od6, .func (PySem.W.fnOf "is_person" "is_person" (defArgs s_is_person) (defBody s_is_person) (defScope s_is_person) .none kV6 dc6 pm6 an6 cd6 ct6), sl6⟩) (c6 : PySem.W.codeIn K cd6 "is_person" = true) (k6 : PySem.W.keepIn K (.ref f6) = true)
    (a7 : PySem.W.nsIn K mainGlobals "are_unlike_persons" = some (some (.ref f7))) (l7 : K.lookup f7 = some ⟨oc7, od7, .func (PySem.W.fnOf "are_unlike_persons" "are_unlike_persons" (defArgs s_are_unlike_persons) (defBody s_are_unlike_persons) (defScope s_are_unlike_persons) .none kV7 dc7 pm7 an7 cd7 ct7), sl7⟩) (c7 : PySem.W.codeIn K cd7 "are_unlike_persons" = true) (k7 : PySem.W.keepIn K (.ref f7) = true)
    (a8 : PySem.W.nsIn K mainGlobals "is_tale" = some (some (.ref f8))) (l8 : K.lookup f8 = some ⟨oc8, od8, .func (PySem.W.fnOf "is_tale" "is_tale" (defArgs s_is_tale) (defBody s_is_tale) (defScope s_is_tale) .none kV8 dc8 pm8 an8 cd8 ct8), sl8⟩) (c8 : PySem.W.codeIn K cd8 "is_tale" = true) (k8 : PySem.W.keepIn K (.ref f8) = true)
    (a9 : PySem.W.nsIn K mainGlobals "is_sight" = some (some (.ref f9))) (l9 : K.lookup f9 = some ⟨oc9, od9, .func (PySem.W.fnOf "is_sight" "is_sight" (defArgs s_is_sight) (defBody s_is_sight) (defScope s_is_sight) .none kV9 dc9 pm9 an9 cd9 ct9), sl9⟩) (c9 : PySem.W.codeIn K cd9 "is_sight" = true) (k9 : PySem.W.keepIn K (.ref f9) = true)
    (a10 : PySem.W.nsIn K mainGlobals "is_way" = some (some (.ref f10))) (l10 : K.lookup f10 = some ⟨oc10, od10, .func (PySem.W.fnOf "is_way" "is_way" (defArgs s_is_way) (defBody s_is_way) (defScope s_is_way) .none kV10 dc10 pm10 an10 cd10 ct10), sl10⟩) (c10 : PySem.W.codeIn K cd10 "is_way" = true) (k10 : PySem.W.keepIn K (.ref f10) = true)
    (a11 : PySem.W.nsIn K mainGlobals "is_talk" = some (some (.ref f11))) (l11 : K.lookup f11 = some ⟨oc11, od11, .func (PySem.W.fnOf "is_talk" "is_talk" (defArgs s_is_talk) (defBody s_is_talk) (defScope s_is_talk) .none kV11 dc11 pm11 an11 cd11 ct11), sl11⟩) (c11 : PySem.W.codeIn K cd11 "is_talk" = true) (k11 : PySem.W.keepIn K (.ref f11) = true)
    (a12 : PySem.W.nsIn K mainGlobals "is_span" = some (some (.ref f12))) (l12 : K.lookup f12 = some ⟨oc12, od12, .func (PySem.W.fnOf "is_span" "is_span" (defArgs s_is_span) (defBody s_is_span) (defScope s_is_span) .none kV12 dc12 pm12 an12 cd12 ct12), sl12⟩) (c12 : PySem.W.codeIn K cd12 "is_span" = true) (k12 : PySem.W.keepIn K (.ref f12) = true)
    (a13 : PySem.W.nsIn K mainGlobals "is_short_saying" = some (some (.ref f13))) (l13 : K.lookup f13 = some ⟨oc13, od13, .func (PySem.W.fnOf "is_short_saying" "is_short_saying" (defArgs s_is_short_saying) (defBody s_is_short_saying) (defScope s_is_short_saying) .none kV13 dc13 pm13 an13 cd13 ct13), sl13⟩) (c13 : PySem.W.codeIn K cd13 "is_short_saying" = true) (k13 : PySem.W.keepIn K (.ref f13) = true)
    (a14 : PySem.W.nsIn K mainGlobals "is_saying" = some (some (.ref f14))) (l14 : K.lookup f14 = some ⟨oc14, od14, .func (PySem.W.fnOf "is_saying" "is_saying" (defArgs s_is_saying) (defBody s_is_saying) (defScope s_is_saying) .none kV14 dc14 pm14 an14 cd14 ct14), sl14⟩) (c14 : PySem.W.codeIn K cd14 "is_saying" = true) (k14 : PySem.W.keepIn K (.ref f14) = true)
    (a15 : PySem.W.nsIn K mainGlobals "are_persons" = some (some (.ref f15))) (l15 : K.lookup f15 = some ⟨oc15, od15, .func (PySem.W.fnOf "are_persons" "are_persons" (defArgs s_are_persons) (defBody s_are_persons) (defScope s_are_persons) .none kV15 dc15 pm15 an15 cd15 ct15), sl15⟩) (c15 : PySem.W.codeIn K cd15 "are_persons" = true) (k15 : PySem.W.keepIn K (.ref f15) = true)
    (a16 : PySem.W.nsIn K mainGlobals "are_sights" = some (some (.ref f16))) (l16 : K.lookup f16 = some ⟨oc16, od16, .func (PySem.W.fnOf "are_sights" "are_sights" (defArgs s_are_sights) (defBody s_are_sights) (defScope s_are_sights) .none kV16 dc16 pm16 an16 cd16 ct16), sl16⟩) (c16 : PySem.W.codeIn K cd16 "are_sights" = true) (k16 : PySem.W.keepIn K (.ref f16) = true)
    (a17 : PySem.W.nsIn K mainGlobals "are_talks" = some (some (.ref f17))) (l17 : K.lookup f17 = some ⟨oc17, od17, .func (PySem.W.fnOf "are_talks" "are_talks" (defArgs s_are_talks) (defBody s_are_talks) (defScope s_are_talks) .none kV17 dc17 pm17 an17 cd17 ct17), sl17⟩) (c17 : PySem.W.codeIn K cd17 "are_talks" = true) (k17 : PySem.W.keepIn K (.ref f17) = true)
    (a18 : PySem.W.nsIn K mainGlobals "are_sayings" = some (some (.ref f18))) (l18 : K.lookup f18 = some ⟨oc18, od18, .func (PySem.W.fnOf "are_sayings" "are_sayings" (defArgs s_are_sayings) (defBody s_are_sayings) (defScope s_are_sayings) .none kV18 dc18 pm18 an18 cd18 ct18), sl18⟩) (c18 : PySem.W.codeIn K cd18 "are_sayings" = true) (k18 : PySem.W.keepIn K (.ref f18) = true)
    (a19 : PySem.W.nsIn K mainGlobals "floor_of" = some (some (.ref f19))) (l19 : K.lookup f19 = some ⟨oc19, od19, .func (PySem.W.fnOf "floor_of" "floor_of" (defArgs s_floor_of) (defBody s_floor_of) (defScope s_floor_of) .none kV19 dc19 pm19 an19 cd19 ct19), sl19⟩) (c19 : PySem.W.codeIn K cd19 "floor_of" = true) (k19 : PySem.W.keepIn K (.ref f19) = true)
    (a20 : PySem.W.nsIn K mainGlobals "floors_of_all" = some (some (.ref f20))) (l20 : K.lookup f20 = some ⟨oc20, od20, .func (PySem.W.fnOf "floors_of_all" "floors_of_all" (defArgs s_floors_of_all) (defBody s_floors_of_all) (defScope s_floors_of_all) .none kV20 dc20 pm20 an20 cd20 ct20), sl20⟩) (c20 : PySem.W.codeIn K cd20 "floors_of_all" = true) (k20 : PySem.W.keepIn K (.ref f20) = true)
    (a21 : PySem.W.nsIn K mainGlobals "is_above" = some (some (.ref f21))) (l21 : K.lookup f21 = some ⟨oc21, od21, .func (PySem.W.fnOf "is_above" "is_above" (defArgs s_is_above) (defBody s_is_above) (defScope s_is_above) .none kV21 dc21 pm21 an21 cd21 ct21), sl21⟩) (c21 : PySem.W.codeIn K cd21 "is_above" = true) (k21 : PySem.W.keepIn K (.ref f21) = true)
    (a22 : PySem.W.nsIn K mainGlobals "is_silent" = some (some (.ref f22))) (l22 : K.lookup f22 = some ⟨oc22, od22, .func (PySem.W.fnOf "is_silent" "is_silent" (defArgs s_is_silent) (defBody s_is_silent) (defScope s_is_silent) .none kV22 dc22 pm22 an22 cd22 ct22), sl22⟩) (c22 : PySem.W.codeIn K cd22 "is_silent" = true) (k22 : PySem.W.keepIn K (.ref f22) = true)
    (a23 : PySem.W.nsIn K mainGlobals "is_barred" = some (some (.ref f23))) (l23 : K.lookup f23 = some ⟨oc23, od23, .func (PySem.W.fnOf "is_barred" "is_barred" (defArgs s_is_barred) (defBody s_is_barred) (defScope s_is_barred) .none kV23 dc23 pm23 an23 cd23 ct23), sl23⟩) (c23 : PySem.W.codeIn K cd23 "is_barred" = true) (k23 : PySem.W.keepIn K (.ref f23) = true)
    (a24 : PySem.W.nsIn K mainGlobals "open_sights" = some (some (.ref f24))) (l24 : K.lookup f24 = some ⟨oc24, od24, .func (PySem.W.fnOf "open_sights" "open_sights" (defArgs s_open_sights) (defBody s_open_sights) (defScope s_open_sights) .none kV24 dc24 pm24 an24 cd24 ct24), sl24⟩) (c24 : PySem.W.codeIn K cd24 "open_sights" = true) (k24 : PySem.W.keepIn K (.ref f24) = true)
    (a25 : PySem.W.nsIn K mainGlobals "open_tellings" = some (some (.ref f25))) (l25 : K.lookup f25 = some ⟨oc25, od25, .func (PySem.W.fnOf "open_tellings" "open_tellings" (defArgs s_open_tellings) (defBody s_open_tellings) (defScope s_open_tellings) .none kV25 dc25 pm25 an25 cd25 ct25), sl25⟩) (c25 : PySem.W.codeIn K cd25 "open_tellings" = true) (k25 : PySem.W.keepIn K (.ref f25) = true)
    (a26 : PySem.W.nsIn K mainGlobals "hours_of_tellings" = some (some (.ref f26))) (l26 : K.lookup f26 = some ⟨oc26, od26, .func (PySem.W.fnOf "hours_of_tellings" "hours_of_tellings" (defArgs s_hours_of_tellings) (defBody s_hours_of_tellings) (defScope s_hours_of_tellings) .none kV26 dc26 pm26 an26 cd26 ct26), sl26⟩) (c26 : PySem.W.codeIn K cd26 "hours_of_tellings" = true) (k26 : PySem.W.keepIn K (.ref f26) = true)
    (a27 : PySem.W.nsIn K mainGlobals "seen_hours" = some (some (.ref f27))) (l27 : K.lookup f27 = some ⟨oc27, od27, .func (PySem.W.fnOf "seen_hours" "seen_hours" (defArgs s_seen_hours) (defBody s_seen_hours) (defScope s_seen_hours) .none kV27 dc27 pm27 an27 cd27 ct27), sl27⟩) (c27 : PySem.W.codeIn K cd27 "seen_hours" = true) (k27 : PySem.W.keepIn K (.ref f27) = true)
    (a28 : PySem.W.nsIn K mainGlobals "saw_ahead_of" = some (some (.ref f28))) (l28 : K.lookup f28 = some ⟨oc28, od28, .func (PySem.W.fnOf "saw_ahead_of" "saw_ahead_of" (defArgs s_saw_ahead_of) (defBody s_saw_ahead_of) (defScope s_saw_ahead_of) .none kV28 dc28 pm28 an28 cd28 ct28), sl28⟩) (c28 : PySem.W.codeIn K cd28 "saw_ahead_of" = true) (k28 : PySem.W.keepIn K (.ref f28) = true)
    (a29 : PySem.W.nsIn K mainGlobals "hours_of_open" = some (some (.ref f29))) (l29 : K.lookup f29 = some ⟨oc29, od29, .func (PySem.W.fnOf "hours_of_open" "hours_of_open" (defArgs s_hours_of_open) (defBody s_hours_of_open) (defScope s_hours_of_open) .none kV29 dc29 pm29 an29 cd29 ct29), sl29⟩) (c29 : PySem.W.codeIn K cd29 "hours_of_open" = true) (k29 : PySem.W.keepIn K (.ref f29) = true)
    (a30 : PySem.W.nsIn K mainGlobals "leads_to" = some (some (.ref f30))) (l30 : K.lookup f30 = some ⟨oc30, od30, .func (PySem.W.fnOf "leads_to" "leads_to" (defArgs s_leads_to) (defBody s_leads_to) (defScope s_leads_to) .none kV30 dc30 pm30 an30 cd30 ct30), sl30⟩) (c30 : PySem.W.codeIn K cd30 "leads_to" = true) (k30 : PySem.W.keepIn K (.ref f30) = true)
    (a31 : PySem.W.nsIn K mainGlobals "is_line" = some (some (.ref f31))) (l31 : K.lookup f31 = some ⟨oc31, od31, .func (PySem.W.fnOf "is_line" "is_line" (defArgs s_is_line) (defBody s_is_line) (defScope s_is_line) .none kV31 dc31 pm31 an31 cd31 ct31), sl31⟩) (c31 : PySem.W.codeIn K cd31 "is_line" = true) (k31 : PySem.W.keepIn K (.ref f31) = true)
    (a32 : PySem.W.nsIn K mainGlobals "_law_cell_at" = some (some (.ref f32))) (l32 : K.lookup f32 = some ⟨oc32, od32, .func (PySem.W.fnOf "_law_cell_at" "_law_cell_at" (defArgs s_l_cell_at) (defBody s_l_cell_at) (defScope s_l_cell_at) .none kV32 dc32 pm32 an32 cd32 ct32), sl32⟩) (c32 : PySem.W.codeIn K cd32 "_law_cell_at" = true) (k32 : PySem.W.keepIn K (.ref f32) = true)
    (a33 : PySem.W.nsIn K mainGlobals "_law_mix" = some (some (.ref f33))) (l33 : K.lookup f33 = some ⟨oc33, od33, .func (PySem.W.fnOf "_law_mix" "_law_mix" (defArgs s_l_mix) (defBody s_l_mix) (defScope s_l_mix) .none kV33 dc33 pm33 an33 cd33 ct33), sl33⟩) (c33 : PySem.W.codeIn K cd33 "_law_mix" = true) (k33 : PySem.W.keepIn K (.ref f33) = true)
    (a34 : PySem.W.nsIn K mainGlobals "_law_names" = some (some (.ref f34))) (l34 : K.lookup f34 = some ⟨oc34, od34, .func (PySem.W.fnOf "_law_names" "_law_names" (defArgs s_l_names) (defBody s_l_names) (defScope s_l_names) .none kV34 dc34 pm34 an34 cd34 ct34), sl34⟩) (c34 : PySem.W.codeIn K cd34 "_law_names" = true) (k34 : PySem.W.keepIn K (.ref f34) = true)
    (a35 : PySem.W.nsIn K mainGlobals "_law_saying" = some (some (.ref f35))) (l35 : K.lookup f35 = some ⟨oc35, od35, .func (PySem.W.fnOf "_law_saying" "_law_saying" (defArgs s_l_saying) (defBody s_l_saying) (defScope s_l_saying) .none kV35 dc35 pm35 an35 cd35 ct35), sl35⟩) (c35 : PySem.W.codeIn K cd35 "_law_saying" = true) (k35 : PySem.W.keepIn K (.ref f35) = true)
    (a36 : PySem.W.nsIn K mainGlobals "_law_made" = some (some (.ref f36))) (l36 : K.lookup f36 = some ⟨oc36, od36, .func (PySem.W.fnOf "_law_made" "_law_made" (defArgs s_l_made) (defBody s_l_made) (defScope s_l_made) .none kV36 dc36 pm36 an36 cd36 ct36), sl36⟩) (c36 : PySem.W.codeIn K cd36 "_law_made" = true) (k36 : PySem.W.keepIn K (.ref f36) = true)
    (a37 : PySem.W.nsIn K mainGlobals "_law_book" = some (some (.ref f37))) (l37 : K.lookup f37 = some ⟨oc37, od37, .func (PySem.W.fnOf "_law_book" "_law_book" (defArgs s_l_book) (defBody s_l_book) (defScope s_l_book) .none kV37 dc37 pm37 an37 cd37 ct37), sl37⟩) (c37 : PySem.W.codeIn K cd37 "_law_book" = true) (k37 : PySem.W.keepIn K (.ref f37) = true)
    (a38 : PySem.W.nsIn K mainGlobals "_law_free" = some (some (.ref f38))) (l38 : K.lookup f38 = some ⟨oc38, od38, .func (PySem.W.fnOf "_law_free" "_law_free" (defArgs s_l_free) (defBody s_l_free) (defScope s_l_free) .none kV38 dc38 pm38 an38 cd38 ct38), sl38⟩) (c38 : PySem.W.codeIn K cd38 "_law_free" = true) (k38 : PySem.W.keepIn K (.ref f38) = true)
    (a39 : PySem.W.nsIn K mainGlobals "_law_open" = some (some (.ref f39))) (l39 : K.lookup f39 = some ⟨oc39, od39, .func (PySem.W.fnOf "_law_open" "_law_open" (defArgs s_l_open) (defBody s_l_open) (defScope s_l_open) .none kV39 dc39 pm39 an39 cd39 ct39), sl39⟩) (c39 : PySem.W.codeIn K cd39 "_law_open" = true) (k39 : PySem.W.keepIn K (.ref f39) = true)
    (a40 : PySem.W.nsIn K mainGlobals "_law_seen" = some (some (.ref f40))) (l40 : K.lookup f40 = some ⟨oc40, od40, .func (PySem.W.fnOf "_law_seen" "_law_seen" (defArgs s_l_seen) (defBody s_l_seen) (defScope s_l_seen) .none kV40 dc40 pm40 an40 cd40 ct40), sl40⟩) (c40 : PySem.W.codeIn K cd40 "_law_seen" = true) (k40 : PySem.W.keepIn K (.ref f40) = true)
    (a41 : PySem.W.nsIn K mainGlobals "_law_hour" = some (some (.ref f41))) (l41 : K.lookup f41 = some ⟨oc41, od41, .func (PySem.W.fnOf "_law_hour" "_law_hour" (defArgs s_l_hour) (defBody s_l_hour) (defScope s_l_hour) .none kV41 dc41 pm41 an41 cd41 ct41), sl41⟩) (c41 : PySem.W.codeIn K cd41 "_law_hour" = true) (k41 : PySem.W.keepIn K (.ref f41) = true)
    (a42 : PySem.W.nsIn K mainGlobals "_law_line_good" = some (some (.ref f42))) (l42 : K.lookup f42 = some ⟨oc42, od42, .func (PySem.W.fnOf "_law_line_good" "_law_line_good" (defArgs s_l_line_good) (defBody s_l_line_good) (defScope s_l_line_good) .none kV42 dc42 pm42 an42 cd42 ct42), sl42⟩) (c42 : PySem.W.codeIn K cd42 "_law_line_good" = true) (k42 : PySem.W.keepIn K (.ref f42) = true)
    (a43 : PySem.W.nsIn K mainGlobals "_law_onward" = some (some (.ref f43))) (l43 : K.lookup f43 = some ⟨oc43, od43, .func (PySem.W.fnOf "_law_onward" "_law_onward" (defArgs s_l_onward) (defBody s_l_onward) (defScope s_l_onward) .none kV43 dc43 pm43 an43 cd43 ct43), sl43⟩) (c43 : PySem.W.codeIn K cd43 "_law_onward" = true) (k43 : PySem.W.keepIn K (.ref f43) = true)
    (a44 : PySem.W.nsIn K mainGlobals "_law_grown" = some (some (.ref f44))) (l44 : K.lookup f44 = some ⟨oc44, od44, .func (PySem.W.fnOf "_law_grown" "_law_grown" (defArgs s_l_grown) (defBody s_l_grown) (defScope s_l_grown) .none kV44 dc44 pm44 an44 cd44 ct44), sl44⟩) (c44 : PySem.W.codeIn K cd44 "_law_grown" = true) (k44 : PySem.W.keepIn K (.ref f44) = true)
    (a45 : PySem.W.nsIn K mainGlobals "_law_all" = some (some (.ref f45))) (l45 : K.lookup f45 = some ⟨oc45, od45, .func (PySem.W.fnOf "_law_all" "_law_all" (defArgs s_l_all) (defBody s_l_all) (defScope s_l_all) .none kV45 dc45 pm45 an45 cd45 ct45), sl45⟩) (c45 : PySem.W.codeIn K cd45 "_law_all" = true) (k45 : PySem.W.keepIn K (.ref f45) = true)
    (a46 : PySem.W.nsIn K mainGlobals "_law_spoiled" = some (some (.ref f46))) (l46 : K.lookup f46 = some ⟨oc46, od46, .func (PySem.W.fnOf "_law_spoiled" "_law_spoiled" (defArgs s_l_spoiled) (defBody s_l_spoiled) (defScope s_l_spoiled) .none kV46 dc46 pm46 an46 cd46 ct46), sl46⟩) (c46 : PySem.W.codeIn K cd46 "_law_spoiled" = true) (k46 : PySem.W.keepIn K (.ref f46) = true)
    (a47 : PySem.W.nsIn K mainGlobals "law" = some (some (.ref f47))) (l47 : K.lookup f47 = some ⟨oc47, od47, .func (PySem.W.fnOf "law" "law" (defArgs s_law) (defBody s_law) (defScope s_law) .none kV47 dc47 pm47 an47 cd47 ct47), sl47⟩) (c47 : PySem.W.codeIn K cd47 "law" = true) (k47 : PySem.W.keepIn K (.ref f47) = true)
    (aC : PySem.W.nsIn K mainGlobals "Book" = some (some (.ref C))) (pg : PySem.W.plainGet K C Str.empty = true) (hd : PySem.W.hasDictIn K C = true) (po : PySem.W.plainOver K C = true) (sa : PySem.W.findIn K (.ref C) "__setattr__" = some (some (.builtin "object.__setattr__"))) (mk : PySem.W.makesIn K C = true) (kc : PySem.W.keepIn K (.ref C) = true)
    (nP : PySem.W.findIn K (.ref C) "kept_persons" = some none) (nS : PySem.W.findIn K (.ref C) "kept_sights" = some none) (nT : PySem.W.findIn K (.ref C) "kept_talks" = some none) (nY : PySem.W.findIn K (.ref C) "kept_sayings" = some none)
    (a48 : PySem.W.findIn K (.ref C) "__init__" = some (some (.ref f48))) (i48 : PySem.W.isFn K (.ref f48) = true) (l48 : K.lookup f48 = some ⟨oc48, od48, .func (PySem.W.fnOf "__init__" "Book.__init__" (defArgs s_m_init) (defBody s_m_init) (defScope s_m_init) .none kV48 dc48 pm48 an48 cd48 ct48), sl48⟩) (c48 : PySem.W.codeIn K cd48 "Book.__init__" = true) (k48 : PySem.W.keepIn K (.ref f48) = true)
    (a49 : PySem.W.findIn K (.ref C) "persons" = some (some (.ref f49))) (i49 : PySem.W.isFn K (.ref f49) = true) (l49 : K.lookup f49 = some ⟨oc49, od49, .func (PySem.W.fnOf "persons" "Book.persons" (defArgs s_m_persons) (defBody s_m_persons) (defScope s_m_persons) .none kV49 dc49 pm49 an49 cd49 ct49), sl49⟩) (c49 : PySem.W.codeIn K cd49 "Book.persons" = true) (k49 : PySem.W.keepIn K (.ref f49) = true)
    (a50 : PySem.W.findIn K (.ref C) "sights" = some (some (.ref f50))) (i50 : PySem.W.isFn K (.ref f50) = true) (l50 : K.lookup f50 = some ⟨oc50, od50, .func (PySem.W.fnOf "sights" "Book.sights" (defArgs s_m_sights) (defBody s_m_sights) (defScope s_m_sights) .none kV50 dc50 pm50 an50 cd50 ct50), sl50⟩) (c50 : PySem.W.codeIn K cd50 "Book.sights" = true) (k50 : PySem.W.keepIn K (.ref f50) = true)
    (a51 : PySem.W.findIn K (.ref C) "talks" = some (some (.ref f51))) (i51 : PySem.W.isFn K (.ref f51) = true) (l51 : K.lookup f51 = some ⟨oc51, od51, .func (PySem.W.fnOf "talks" "Book.talks" (defArgs s_m_talks) (defBody s_m_talks) (defScope s_m_talks) .none kV51 dc51 pm51 an51 cd51 ct51), sl51⟩) (c51 : PySem.W.codeIn K cd51 "Book.talks" = true) (k51 : PySem.W.keepIn K (.ref f51) = true)
    (a52 : PySem.W.findIn K (.ref C) "sayings" = some (some (.ref f52))) (i52 : PySem.W.isFn K (.ref f52) = true) (l52 : K.lookup f52 = some ⟨oc52, od52, .func (PySem.W.fnOf "sayings" "Book.sayings" (defArgs s_m_sayings) (defBody s_m_sayings) (defScope s_m_sayings) .none kV52 dc52 pm52 an52 cd52 ct52), sl52⟩) (c52 : PySem.W.codeIn K cd52 "Book.sayings" = true) (k52 : PySem.W.keepIn K (.ref f52) = true)
    (a53 : PySem.W.findIn K (.ref C) "tellings" = some (some (.ref f53))) (i53 : PySem.W.isFn K (.ref f53) = true) (l53 : K.lookup f53 = some ⟨oc53, od53, .func (PySem.W.fnOf "tellings" "Book.tellings" (defArgs s_m_tellings) (defBody s_m_tellings) (defScope s_m_tellings) .none kV53 dc53 pm53 an53 cd53 ct53), sl53⟩) (c53 : PySem.W.codeIn K cd53 "Book.tellings" = true) (k53 : PySem.W.keepIn K (.ref f53) = true)
    (z1 : PySem.W.nsIn K mainGlobals "isinstance" = some none) (z2 : PySem.W.nsIn K mainGlobals "int" = some none) (z3 : PySem.W.nsIn K mainGlobals "bool" = some none) (z4 : PySem.W.nsIn K mainGlobals "str" = some none) (z5 : PySem.W.nsIn K mainGlobals "len" = some none) (z6 : PySem.W.nsIn K mainGlobals "all" = some none) (z7 : PySem.W.nsIn K mainGlobals "range" = some none) (z8 : PySem.W.nsIn K mainGlobals "list" = some none) (z9 : PySem.W.nsIn K mainGlobals "tuple" = some none) (z10 : PySem.W.nsIn K mainGlobals "set" = some none) (z11 : PySem.W.nsIn K mainGlobals "zip" = some none) (z12 : PySem.W.nsIn K mainGlobals "enumerate" = some none) (z13 : PySem.W.nsIn K mainGlobals "min" = some none) (z14 : PySem.W.nsIn K mainGlobals "max" = some none) (z15 : PySem.W.nsIn K mainGlobals "any" = some none) (z16 : PySem.W.nsIn K mainGlobals "sorted" = some none) (z17 : PySem.W.nsIn K mainGlobals "dict" = some none) (z18 : PySem.W.nsIn K mainGlobals "sum" = some none) (z19 : PySem.W.nsIn K mainGlobals "reversed" = some none)
    (g1 : PySem.W.nsIn K mainGlobals "MOST_PERSONS" = some (some (.int 24 tk1))) (g2 : PySem.W.nsIn K mainGlobals "MOST_SIGHTS" = some (some (.int 24 tk2))) (g3 : PySem.W.nsIn K mainGlobals "MOST_TALKS" = some (some (.int 120 tk3))) (g4 : PySem.W.nsIn K mainGlobals "MOST_SAYINGS" = some (some (.int 60 tk4))) (g5 : PySem.W.nsIn K mainGlobals "MOST_WORDS" = some (some (.int 6 tk5))) : Facts K
open PySem.W in
/-- the text's lines that bind a name of its own -/
def vw : Program := view PySem.Challenge.rw_knewby_k41_what_is_a_line.row.toRowW.prog [0, 2, 3, 4, 5, 6, 7, 8, 10, 12, 13, 15, 16, 17, 18, 19, 21, 22, 23, 24, 26, 27, 28, 29, 30, 31, 32, 33, 34, 35, 36, 37, 38, 39, 40, 41, 42, 43, 44, 45, 46, 48, 49, 50, 51, 52, 53, 54, 55, 56, 57, 58, 59, 60, 61, 62, 63]
end K41
open PySem PySem.W PyProof.Rows
/- the top's run at once, by the kernel: the whole head is then some MB (in pieces it grows by the square of the names) -/
local macro_rules
  | `(tactic| o_head $H) => `(tactic| (
    refine holds_open (N := 20000) (q := K41.vw) (loose := [])
      (Xt := fun s => xlAt K41.vw [] s && recOk (RowW.records (OpenRow.toRowW PySem.Challenge.rw_knewby_k41_what_is_a_line.row)) s)
      (XP := XL K41.vw []) (YP := Hook.says $H) (Ya := Hook.val $H) (Yf := Hook.obs $H)
      ?hl (Hook.of $H) (Hook.keeps $H)
      (fun s e => xl_of s (Bool.and_eq_true_iff.mp e).1) XL.keeps
      (by rfl) (by rfl) (by rfl)
      (fun s e => recFacts_of (Bool.and_eq_true_iff.mp e).2)
      (by rfl) (by first | assumption | decide +kernel) (by decide +kernel)
      ⟨rfl, rfl, rfl, rfl, rfl, by decide +kernel⟩ ?hw ?hc
    (case hl => (refine TR.left fun w => ?_; delta PySem.W.fencedOpening; rw [PySem.W.Fast.te10274390034422433532, PySem.W.Fast.te4187177175401517315, PySem.W.Fast.te1435165496053646825, PySem.W.Fast.te14289696077712309145, PySem.W.Fast.te11892475500146522536, PySem.W.Fast.te10156331382660048174, PySem.W.Fast.te6613529449190102663, PySem.W.Fast.te14364793385576792824, PySem.W.Fast.te5923862056798008813]; kernel_rfl))))
set_option maxRecDepth 100000 in
set_option maxHeartbeats 0 in
theorem K41.closing (HW : ∀ {q : Program} {loose : List Str} {XP : (Str → Option Value) → Heap → Prop} {YP : World → Heap → Prop} {d : DefRec} {K : Params → PySem.W.Frag}, d.name = "law" → d.params.defaults = [] → (∀ (w : World) (h : Heap), YP w h → (K w.params).In h) →
    (∀ (w : World) (mg : Str → Option Value) (fa : Addr) (h : Heap), (K w.params).In h → h.Ns mainGlobals mg → mg d.name = some (.ref fa) → K41.Facts (K w.params)) → PySem.W.WalkO q loose XP YP PySem.Challenge.rw_knewby_k41_what_is_a_line.row.toRowW d [] (fun f vs => PySem.call f vs)) : PySem.Challenge.rw_knewby_k41_what_is_a_line.Holds := by
  w_on; o_law; k_head; (case hw => w_witness2)
  k_fill
  refine HW rfl rfl (fun w h Y => PySem.W.kIn_of Y) ?F
  case F =>
    intro w mg fa h KX G hmg
    refine' K41.Facts.mk ?aW ?lW ?vW ?a1 ?l1 ?c1 ?k1 ?a2 ?l2 ?c2 ?k2 ?a3 ?l3 ?c3 ?k3 ?a4 ?l4 ?c4 ?k4 ?a5 ?l5 ?c5 ?k5 ?a6 ?l6 ?c6 ?k6 ?a7 ?l7 ?c7 ?k7 ?a8 ?l8 ?c8 ?k8 ?a9 ?l9 ?c9 ?k9 ?a10 ?l10 ?c10 ?k10 ?a11 ?l11 ?c11 ?k11 ?a12 ?l12 ?c12 ?k12 ?a13 ?l13 ?c13 ?k13 ?a14 ?l14 ?c14 ?k14 ?a15 ?l15 ?c15 ?k15 ?a16 ?l16 ?c16 ?k16 ?a17 ?l17 ?c17 ?k17 ?a18 ?l18 ?c18 ?k18 ?a19 ?l19 ?c19 ?k19 ?a20 ?l20 ?c20 ?k20 ?a21 ?l21 ?c21 ?k21 ?a22 ?l22 ?c22 ?k22 ?a23 ?l23 ?c23 ?k23 ?a24 ?l24 ?c24 ?k24 ?a25 ?l25 ?c25 ?k25 ?a26 ?l26 ?c26 ?k26 ?a27 ?l27 ?c27 ?k27 ?a28 ?l28 ?c28 ?k28 ?a29 ?l29 ?c29 ?k29 ?a30 ?l30 ?c30 ?k30 ?a31 ?l31 ?c31 ?k31 ?a32 ?l32 ?c32 ?k32 ?a33 ?l33 ?c33 ?k33 ?a34 ?l34 ?c34 ?k34 ?a35 ?l35 ?c35 ?k35 ?a36 ?l36 ?c36 ?k36 ?a37 ?l37 ?c37 ?k37 ?a38 ?l38 ?c38 ?k38 ?a39 ?l39 ?c39 ?k39 ?a40 ?l40 ?c40 ?k40 ?a41 ?l41 ?c41 ?k41 ?a42 ?l42 ?c42 ?k42 ?a43 ?l43 ?c43 ?k43 ?a44 ?l44 ?c44 ?k44 ?a45 ?l45 ?c45 ?k45 ?a46 ?l46 ?c46 ?k46 ?a47 ?l47 ?c47 ?k47 ?aC ?pg ?hd ?po ?sa ?mk ?kc ?nP ?nS ?nT ?nY ?a48 ?i48 ?l48 ?c48 ?k48 ?a49 ?i49 ?l49 ?c49 ?k49 ?a50 ?i50 ?l50 ?c50 ?k50 ?a51 ?i51 ?l51 ?c51 ?k51 ?a52 ?i52 ?l52 ?c52 ?k52 ?a53 ?i53 ?l53 ?c53 ?k53 ?z1 ?z2 ?z3 ?z4 ?z5 ?z6 ?z7 ?z8 ?z9 ?z10 ?z11 ?z12 ?z13 ?z14 ?z15 ?z16 ?z17 ?z18 ?z19 ?g1 ?g2 ?g3 ?g4 ?g5
    (case aW => k_is)
    (case lW => k_is)
    (case a1 => k_is)
    (case l1 => k_is)
    (case c1 => k_is)
    (case k1 => k_is)
    (case a2 => k_is)
    (case l2 => k_is)
    (case c2 => k_is)
    (case k2 => k_is)
    (case a3 => k_is)
    (case l3 => k_is)
    (case c3 => k_is)
    (case k3 => k_is)
    (case a4 => k_is)
    (case l4 => k_is)
    (case c4 => k_is)
    (case k4 => k_is)
    (case a5 => k_is)
    (case l5 => k_is)
    (case c5 => k_is)
    (case k5 => k_is)
    (case a6 => k_is)
    (case l6 => k_is)
    (case c6 => k_is)
    (case k6 => k_is)
    (case a7 => k_is)
    (case l7 => k_is)
    (case c7 => k_is)
    (case k7 => k_is)
    (case a8 => k_is)
    (case l8 => k_is)
    (case c8 => k_is)
    (case k8 => k_is)
    (case a9 => k_is)
    (case l9 => k_is)
    (case c9 => k_is)
    (case k9 => k_is)
    (case a10 => k_is)
    (case l10 => k_is)
    (case c10 => k_is)
    (case k10 => k_is)
    (case a11 => k_is)
    (case l11 => k_is)
    (case c11 => k_is)
    (case k11 => k_is)
    (case a12 => k_is)
    (case l12 => k_is)
    (case c12 => k_is)
    (case k12 => k_is)
    (case a13 => k_is)
    (case l13 => k_is)
    (case c13 => k_is)
    (case k13 => k_is)
    (case a14 => k_is)
    (case l14 => k_is)
    (case c14 => k_is)
    (case k14 => k_is)
    (case a15 => k_is)
    (case l15 => k_is)
    (case c15 => k_is)
    (case k15 => k_is)
    (case a16 => k_is)
    (case l16 => k_is)
    (case c16 => k_is)
    (case k16 => k_is)
    (case a17 => k_is)
    (case l17 => k_is)
    (case c17 => k_is)
    (case k17 => k_is)
    (case a18 => k_is)
    (case l18 => k_is)
    (case c18 => k_is)
    (case k18 => k_is)
    (case a19 => k_is)
    (case l19 => k_is)
    (case c19 => k_is)
    (case k19 => k_is)
    (case a20 => k_is)
    (case l20 => k_is)
    (case c20 => k_is)
    (case k20 => k_is)
    (case a21 => k_is)
    (case l21 => k_is)
    (case c21 => k_is)
    (case k21 => k_is)
    (case a22 => k_is)
    (case l22 => k_is)
    (case c22 => k_is)
    (case k22 => k_is)
    (case a23 => k_is)
    (case l23 => k_is)
    (case c23 => k_is)
    (case k23 => k_is)
    (case a24 => k_is)
    (case l24 => k_is)
    (case c24 => k_is)
    (case k24 => k_is)
    (case a25 => k_is)
    (case l25 => k_is)
    (case c25 => k_is)
    (case k25 => k_is)
    (case a26 => k_is)
    (case l26 => k_is)
    (case c26 => k_is)
    (case k26 => k_is)
    (case a27 => k_is)
    (case l27 => k_is)
    (case c27 => k_is)
    (case k27 => k_is)
    (case a28 => k_is)
    (case l28 => k_is)
    (case c28 => k_is)
    (case k28 => k_is)
    (case a29 => k_is)
    (case l29 => k_is)
    (case c29 => k_is)
    (case k29 => k_is)
    (case a30 => k_is)
    (case l30 => k_is)
    (case c30 => k_is)
    (case k30 => k_is)
    (case a31 => k_is)
    (case l31 => k_is)
    (case c31 => k_is)
    (case k31 => k_is)
    (case a32 => k_is)
    (case l32 => k_is)
    (case c32 => k_is)
    (case k32 => k_is)
    (case a33 => k_is)
    (case l33 => k_is)
    (case c33 => k_is)
    (case k33 => k_is)
    (case a34 => k_is)
    (case l34 => k_is)
    (case c34 => k_is)
    (case k34 => k_is)
    (case a35 => k_is)
    (case l35 => k_is)
    (case c35 => k_is)
    (case k35 => k_is)
    (case a36 => k_is)
    (case l36 => k_is)
    (case c36 => k_is)
    (case k36 => k_is)
    (case a37 => k_is)
    (case l37 => k_is)
    (case c37 => k_is)
    (case k37 => k_is)
    (case a38 => k_is)
    (case l38 => k_is)
    (case c38 => k_is)
    (case k38 => k_is)
    (case a39 => k_is)
    (case l39 => k_is)
    (case c39 => k_is)
    (case k39 => k_is)
    (case a40 => k_is)
    (case l40 => k_is)
    (case c40 => k_is)
    (case k40 => k_is)
    (case a41 => k_is)
    (case l41 => k_is)
    (case c41 => k_is)
    (case k41 => k_is)
    (case a42 => k_is)
    (case l42 => k_is)
    (case c42 => k_is)
    (case k42 => k_is)
    (case a43 => k_is)
    (case l43 => k_is)
    (case c43 => k_is)
    (case k43 => k_is)
    (case a44 => k_is)
    (case l44 => k_is)
    (case c44 => k_is)
    (case k44 => k_is)
    (case a45 => k_is)
    (case l45 => k_is)
    (case c45 => k_is)
    (case k45 => k_is)
    (case a46 => k_is)
    (case l46 => k_is)
    (case c46 => k_is)
    (case k46 => k_is)
    (case a47 => k_is)
    (case l47 => k_is)
    (case c47 => k_is)
    (case k47 => k_is)
    (case aC => k_is)
    (case pg => k_is)
    (case hd => k_is)
    (case po => k_is)
    (case sa => k_is)
    (case mk => k_is)
    (case kc => k_is)
    (case nP => k_is)
    (case nS => k_is)
    (case nT => k_is)
    (case nY => k_is)
    (case a48 => k_is)
    (case i48 => k_is)
    (case l48 => k_is)
    (case c48 => k_is)
    (case k48 => k_is)
    (case a49 => k_is)
    (case i49 => k_is)
    (case l49 => k_is)
    (case c49 => k_is)
    (case k49 => k_is)
    (case a50 => k_is)
    (case i50 => k_is)
    (case l50 => k_is)
    (case c50 => k_is)
    (case k50 => k_is)
    (case a51 => k_is)
    (case i51 => k_is)
    (case l51 => k_is)
    (case c51 => k_is)
    (case k51 => k_is)
    (case a52 => k_is)
    (case i52 => k_is)
    (case l52 => k_is)
    (case c52 => k_is)
    (case k52 => k_is)
    (case a53 => k_is)
    (case i53 => k_is)
    (case l53 => k_is)
    (case c53 => k_is)
    (case k53 => k_is)
    (case z1 => k_is)
    (case z2 => k_is)
    (case z3 => k_is)
    (case z4 => k_is)
    (case z5 => k_is)
    (case z6 => k_is)
    (case z7 => k_is)
    (case z8 => k_is)
    (case z9 => k_is)
    (case z10 => k_is)
    (case z11 => k_is)
    (case z12 => k_is)
    (case z13 => k_is)
    (case z14 => k_is)
    (case z15 => k_is)
    (case z16 => k_is)
    (case z17 => k_is)
    (case z18 => k_is)
    (case z19 => k_is)
    (case g1 => k_is)
    (case g2 => k_is)
    (case g3 => k_is)
    (case g4 => k_is)
    (case g5 => k_is)
    (case vW => rfl)


end
/-! THE HAND LAYER, for ints, bools, texts, own classes, LISTS and tuples (index, slices, in, append, pop ..), calls, loops. Paste it whole ahead of your own text; what your proof does not reach may be deleted. -/
namespace L2
open PySem PySem.Spec PyProof.Rows

/-- a key: an int or a str -/
abbrev Key := Sum Int Str
def keyIs : Key → Value → Bool
  | .inl k, v => Value.isInt k v
  | .inr x, v => Value.isStrOf x v
def keyH (w : World) : Key → Int
  | .inl k => hashInt k
  | .inr x => hashStr w x
theorem keyIs_shape : ∀ {k : Key} {v : Value}, keyIs k v = true → (∃ i t, k = Sum.inl i ∧ v = Value.int i t) ∨ (∃ x t, k = Sum.inr x ∧ v = Value.str x t)
  | .inl i, v, h => by
    obtain ⟨t, e⟩ := Value.isInt_shape (k := i) (v := v) h
    exact .inl ⟨i, t, rfl, e⟩
  | .inr x, v, h => by
    obtain ⟨t, e⟩ := Value.isStrOf_shape (x := x) (v := v) h
    exact .inr ⟨x, t, rfl, e⟩
theorem keyIs_int (i : Int) (t : Tok) : keyIs (.inl i) (.int i t) = true := by simp [keyIs, Value.isInt]
theorem keyIs_str (x : Str) (t : Tok) : keyIs (.inr x) (.str x t) = true := by simp [keyIs, Value.isStrOf]
theorem key_ll (a b : Int) : decide ((Sum.inl a : Key) = Sum.inl b) = (a == b) := by
  by_cases e : a = b
  · subst e; simp
  · have h : ¬ (Sum.inl a : Key) = Sum.inl b := fun q => e (Sum.inl.inj q)
    rw [decide_eq_false h]
    exact (beq_eq_false_iff_ne.mpr e).symm
theorem key_rr (a b : Str) : decide ((Sum.inr a : Key) = Sum.inr b) = decide (a = b) := by
  by_cases e : a = b
  · subst e; simp
  · have h : ¬ (Sum.inr a : Key) = Sum.inr b := fun q => e (Sum.inr.inj q)
    rw [decide_eq_false h, decide_eq_false e]
theorem key_lr (a : Int) (b : Str) : decide ((Sum.inl a : Key) = Sum.inr b) = false := decide_eq_false (fun q => nomatch q)
theorem key_rl (a : Str) (b : Int) : decide ((Sum.inr a : Key) = Sum.inl b) = false := decide_eq_false (fun q => nomatch q)

def mixKind (prog : Program) (w : World) : PySem.KeyKind prog w Key where
  is := keyIs
  hash := keyH w
  inj := fun v a b ha hb => by
    rcases keyIs_shape ha with ⟨i, t, rfl, rfl⟩ | ⟨x, t, rfl, rfl⟩
    · rcases keyIs_shape hb with ⟨j, u, rfl, e⟩ | ⟨y, u, rfl, e⟩
      · injection e with e1 _; rw [e1]
      · exact nomatch e
    · rcases keyIs_shape hb with ⟨j, u, rfl, e⟩ | ⟨y, u, rfl, e⟩
      · exact nomatch e
      · injection e with e1 _; rw [e1]
  byValue := fun k v h => by
    rcases keyIs_shape h with ⟨i, t, rfl, rfl⟩ | ⟨x, t, rfl, rfl⟩ <;> rfl
  pyHash := fun hv h => by
    rcases keyIs_shape hv with ⟨i, t, rfl, rfl⟩ | ⟨x, t, rfl, rfl⟩
    · exact wpAny_pyHash_int h
    · exact wpAny_pyHash_str h
  eqBool := fun hu hv h => by
    rcases keyIs_shape hu with ⟨i, t, rfl, rfl⟩ | ⟨x, t, rfl, rfl⟩
    · rcases keyIs_shape hv with ⟨j, u, rfl, rfl⟩ | ⟨y, u, rfl, rfl⟩
      · rw [key_ll] at h; exact wpAny_eqBool_int h
      · rw [key_lr] at h; exact SeqAt.EqAt.int_str i t y u _ _ _ _ h
    · rcases keyIs_shape hv with ⟨j, u, rfl, rfl⟩ | ⟨y, u, rfl, rfl⟩
      · rw [key_rl] at h; exact SeqAt.EqAt.str_int x t j u _ _ _ _ h
      · rw [key_rr] at h; exact wpAny_eqBool_str h
  «strs» := fun k x t v h => by
    rcases keyIs_shape h with ⟨i, u, rfl, e⟩ | ⟨y, u, rfl, e⟩
    · exact nomatch e
    · injection e with e1 _
      subst e1
      cases v <;> rfl

theorem mixKind_int (prog : Program) (w : World) (i : Int) (t : Tok) : (mixKind prog w).is (.inl i) (.int i t) = true := keyIs_int i t
theorem mixKind_str (prog : Program) (w : World) (x : Str) (t : Tok) : (mixKind prog w).is (.inr x) (.str x t) = true := keyIs_str x t
end L2

namespace L2
open PySem PySem.Spec PyProof.Rows

/-- a value, without the heap -/
inductive V where
  | non | bl (b : Bool) | int (i : Int) | str (x : Str) | byt (b : Array UInt8) | flt (b : UInt64) | ref (a : Addr) | ty (n : String)
  deriving DecidableEq

def RelV : V → Value → Prop
  | .non, u => u = Value.none
  | .bl b, u => u = Value.bool b
  | .int i, u => ∃ t, u = Value.int i t
  | .str x, u => ∃ t, u = Value.str x t
  | .byt b, u => ∃ t, u = Value.bytes b t
  | .flt b, u => ∃ t, u = Value.float b t
  | .ref a, u => u = Value.ref a
  | .ty n, u => u = Value.type n

abbrev Vals : List V → List Value → Prop := Paired RelV
theorem Vals.length {xs : List V} {us : List Value} (r : Vals xs us) : xs.length = us.length := Paired.length r
theorem Vals.get : ∀ {xs : List V} {us : List Value} {i : Nat} {x : V}, Vals xs us → xs[i]? = some x → ∃ u, us[i]? = some u ∧ RelV x u
  | _, _, _, _, .nil, e => by simp at e
  | _, _, 0, _, .cons r _, e => by simp at e; subst e; exact ⟨_, rfl, r⟩
  | _, _, i + 1, x, .cons _ t, e => by
    obtain ⟨u, h1, h2⟩ := Vals.get (i := i) (x := x) t (by simpa using e)
    exact ⟨u, by simpa using h1, h2⟩
theorem Vals.append : ∀ {xs ys : List V} {us ws : List Value}, Vals xs us → Vals ys ws → Vals (xs ++ ys) (us ++ ws)
  | _, _, _, _, .nil, s => s
  | _, _, _, _, .cons r t, s => .cons r (Vals.append t s)
theorem Vals.take : ∀ {xs : List V} {us : List Value} (n : Nat), Vals xs us → Vals (xs.take n) (us.take n)
  | _, _, 0, _ => .nil
  | _, _, _ + 1, .nil => .nil
  | _, _, n + 1, .cons r t => .cons r (Vals.take n t)
theorem Vals.drop : ∀ {xs : List V} {us : List Value} (n : Nat), Vals xs us → Vals (xs.drop n) (us.drop n)
  | _, _, 0, r => r
  | _, _, _ + 1, .nil => .nil
  | _, _, n + 1, .cons _ t => Vals.drop n t

def RelO : Option V → Option Value → Prop
  | some v, some u => RelV v u
  | none, none => True
  | _, _ => False
def KV {κ : Type} : List (κ × V) → List (κ × Value) → Prop := Paired fun (p : κ × V) (q : κ × Value) => p.1 = q.1 ∧ RelV p.2 q.2

/-- a key of a dict (00_mix): an int or a text -/
def kV : Key → V
  | .inl i => .int i
  | .inr x => .str x

/-- what stands at a tracked address -/
inductive HO where
  /-- a list -/
  | lst (xs : List V)
  /-- a tuple (never changes) -/
  | tup (xs : List V)
  /-- a dict whose keys are ints and texts; one whose keys are tuples of ints and texts (the empty one is both) -/
  | dK (kvs : List (Key × V)) | dT (kvs : List (List Key × V))
  /-- a set of ints: its members, its size -/
  | set (S : Int → Bool) (n : Nat)
  /-- an instance of the class at C, its dict at dx, its attributes -/
  | ins (C dx : Addr) (fs : List (Str × V))
  /-- the dict of the instance at x -/
  | own (x : Addr)
  /-- the dict of an exception -/
  | xd (fs : List (Str × V))
  /-- a bound method, f of x -/
  | met (f x : Addr)
  /-- a range object lo, lo + 1, .. below hi -/
  | rng (lo hi : Int)
  /-- a thing that is known to the object (the script; a dict while a loop walks it): read, never written while it is so -/
  | frz (o : Obj) (u : HO)
  /-- a code object's table -/
  | tbl (ps : Array Value)
  /-- any other thing, by what is true of its one object (a def of one's own: SetO a S n := HO.ext fun h => ..) -/
  | ext (φ : Heap → Prop)

abbrev Hp := Addr → Option HO
def upd (H : Hp) (a : Addr) (o : HO) : Hp := fun b => if b = a then some o else H b
theorem upd_same {H : Hp} {a : Addr} {o : HO} : upd H a o a = some o := by unfold upd; rw [if_pos rfl]
theorem upd_ne {H : Hp} {a b : Addr} {o : HO} (h : b ≠ a) : upd H a o b = H b := by unfold upd; rw [if_neg h]
theorem upd_upd {H : Hp} {a : Addr} {o u : HO} : upd (upd H a o) a u = upd H a u := by
  funext b; unfold upd; split <;> rfl
/-- two objects of different content stand apart -/
theorem ne_of {H : Hp} {a b : Addr} {o u : HO} (h : H a = some o) (h' : H b = some u) (d : o ≠ u) : a ≠ b := by
  intro e; subst e; rw [h] at h'; exact d (Option.some.inj h')
theorem ne_of_none {H : Hp} {a b : Addr} {o : HO} (h : H a = some o) (h' : H b = none) : a ≠ b := by
  intro e; subst e; rw [h] at h'; cases h'

section
variable (P : Program) (w : World)
def ObjOk (H : Hp) (h : Heap) (a : Addr) : HO → Prop
  | .lst xs => xs.length ≤ sizeLine ∧ ∃ (its : List Value) (n : Nat), Vals xs its ∧ h.get? a = some { cls := .type "list", data := .seq its.toArray n }
  | .tup xs => xs.length ≤ sizeLine ∧ ∃ its : List Value, Vals xs its ∧ IsTup h a its.toArray
  | .dK kvs => kvs.length ≤ sizeLine ∧ (a == sysModules) = false ∧ ∃ vs, KV kvs vs ∧ h.DictOf (mixKind P w) a vs
  | .dT kvs => kvs.length ≤ sizeLine ∧ (a == sysModules) = false ∧ ∃ xs : List (List Key × Addr × Value),
      Paired (fun (p : List Key × V) (q : List Key × Addr × Value) => p.1 = q.1 ∧ H q.2.1 = some (.tup (p.1.map kV)) ∧ RelV p.2 q.2.2) kvs xs ∧
      ∃ o es ep, h.get? a = some o ∧ o.ExactDict ∧ o.data = .dict es ep ∧ es.toList = xs.map (entryOfKey (tupleKind (mixKind P w))) ∧ (xs.map (·.1)).Nodup
  | .set S n => h.SetOf (intKind P w) a S n
  | .ins C dx fs => H dx = some (.own a) ∧ fs.length ≤ 1000 ∧ dx ≠ a ∧ h.get? a = some (PySem.W.instObj C dx) ∧
      ∃ mA, h.Ns1 dx mA ∧ (∀ f, RelO (fs.lookup f) (mA f)) ∧ PySem.Within mA (fs.map (·.1))
  | .own _ => ∃ o, h.get? a = some o
  | .xd fs => ∃ mA, h.Ns1 a mA ∧ ∀ f, RelO (fs.lookup f) (mA f)
  | .rng lo hi => ∃ t u v, h.get? a = some { cls := .type "range", data := .fields #[.int lo t, .int hi u, .int 1 v] }
  | .frz o u => h.get? a = some o ∧ ObjOk H h a u
  | .tbl ps => h.get? a = some { cls := .none, data := .fields ps }
  | .met f x => h.get? a = some (PySem.W.methodObj (.ref f) (.ref x))
  | .ext φ => φ h ∧ (∃ o, h.get? a = some o) ∧ ∀ h1 h2 : Heap, φ h1 → (∀ o, h1.get? a = some o → h2.get? a = some o) → φ h2
/-- the abstract heap is held -/
def HOk (H : Hp) (h : Heap) : Prop := ∀ a o, H a = some o → ObjOk P w H h a o
end

section
variable {P : Program} {w : World} {H H' : Hp} {h h' : Heap} {a : Addr} {o : HO}
theorem ObjOk.lt (x : ObjOk P w H h a o) : a < h.objs.size := by
  cases o with
  | lst xs => obtain ⟨_, _, _, _, e⟩ := x; exact Heap.lt_size e
  | tup xs => obtain ⟨_, _, _, p⟩ := x; exact p.lt
  | dK kvs => obtain ⟨_, _, _, _, o, _, _, e, _⟩ := x; exact Heap.lt_size e
  | dT kvs => obtain ⟨_, _, _, _, o, _, _, e, _⟩ := x; exact Heap.lt_size e
  | set S n => obtain ⟨o, _, _, _, e, _⟩ := x; exact Heap.lt_size e
  | ins C dx fs => obtain ⟨_, _, _, e, _⟩ := x; exact Heap.lt_size e
  | own y => obtain ⟨_, e⟩ := x; exact Heap.lt_size e
  | xd fs => obtain ⟨_, ⟨_, _, _, e, _⟩, _⟩ := x; exact Heap.lt_size e
  | rng lo hi => obtain ⟨_, _, _, e⟩ := x; exact Heap.lt_size e
  | frz ob u => obtain ⟨e, _⟩ := x; exact Heap.lt_size e
  | tbl ps => exact Heap.lt_size (show h.get? a = some _ from x)
  | met f y => exact Heap.lt_size (show h.get? a = some _ from x)
  | ext φ => obtain ⟨_, ⟨_, e⟩, _⟩ := x; exact Heap.lt_size e
theorem Paired.mapP {α β : Type} {F G : α → β → Prop} : ∀ {l₁ : List α} {l₂ : List β}, Paired F l₁ l₂ → (∀ a b, F a b → G a b) → Paired G l₁ l₂
  | _, _, .nil, _ => .nil
  | _, _, .cons r t, f => .cons (f _ _ r) (Paired.mapP t f)
/-- what an object's description leans on: its own object, its own dict, the tuples -/
theorem ObjOk.stay (x : ObjOk P w H h a o) (k : ∀ b u, (b = a ∨ H b = some (.own a)) → h.get? b = some u → h'.get? b = some u)
    (ho : ∀ b, H b = some (.own a) → H' b = some (.own a)) (ht : ∀ b xs, H b = some (.tup xs) → H' b = some (.tup xs)) : ObjOk P w H' h' a o := by
  induction o with
  | lst xs => obtain ⟨z, its, n, r, e⟩ := x; exact ⟨z, its, n, r, k _ _ (.inl rfl) e⟩
  | tup xs => obtain ⟨z, its, r, ob, e, c⟩ := x; exact ⟨z, its, r, ob, k _ _ (.inl rfl) e, c⟩
  | dK kvs => obtain ⟨z, y, vs, r, ob, es, ep, e, c⟩ := x; exact ⟨z, y, vs, r, ob, es, ep, k _ _ (.inl rfl) e, c⟩
  | dT kvs =>
    obtain ⟨z, y, xs, r, ob, es, ep, e, c⟩ := x
    exact ⟨z, y, xs, Paired.mapP r fun p q z => ⟨z.1, ht _ _ z.2.1, z.2.2⟩, ob, es, ep, k _ _ (.inl rfl) e, c⟩
  | set S n => obtain ⟨ob, es, ep, t, e, c⟩ := x; exact ⟨ob, es, ep, t, k _ _ (.inl rfl) e, c⟩
  | ins C dx fs =>
    obtain ⟨d, z, ne, e, mA, ⟨od, es, ep, e2, c⟩, r⟩ := x
    exact ⟨ho _ d, z, ne, k _ _ (.inl rfl) e, mA, ⟨od, es, ep, k _ _ (.inr d) e2, c⟩, r⟩
  | own y => obtain ⟨ob, e⟩ := x; exact ⟨ob, k _ _ (.inl rfl) e⟩
  | xd fs => obtain ⟨mA, ⟨od, es, ep, e, c⟩, r⟩ := x; exact ⟨mA, ⟨od, es, ep, k _ _ (.inl rfl) e, c⟩, r⟩
  | rng lo hi => obtain ⟨t, u, v, e⟩ := x; exact ⟨t, u, v, k _ _ (.inl rfl) e⟩
  | frz ob u ih => obtain ⟨e, q⟩ := x; exact ⟨k _ _ (.inl rfl) e, ih q⟩
  | tbl ps =>
    have e : h.get? a = some { cls := .none, data := .fields ps } := x
    show h'.get? a = some { cls := .none, data := .fields ps }
    exact k a _ (.inl rfl) e
  | met f y =>
    have e : h.get? a = some (PySem.W.methodObj (.ref f) (.ref y)) := x
    show h'.get? a = some (PySem.W.methodObj (.ref f) (.ref y))
    exact k a _ (.inl rfl) e
  | ext φ => obtain ⟨p, ⟨o, e⟩, st⟩ := x; exact ⟨st _ _ p fun o q => k _ _ (.inl rfl) q, ⟨o, k _ _ (.inl rfl) e⟩, st⟩
theorem HOk.lt (x : HOk P w H h) (e : H a = some o) : a < h.objs.size := (x a o e).lt
theorem HOk.fresh (x : HOk P w H h) (e : h.objs.size ≤ a) : H a = none := by
  cases q : H a with
  | none => rfl
  | some u => exact absurd (Nat.lt_of_lt_of_le (x.lt q) e) (Nat.lt_irrefl _)
/-- every object of the heap is kept -/
theorem HOk.kept (x : HOk P w H h) (k : ∀ b u, h.get? b = some u → h'.get? b = some u) : HOk P w H h' := fun a o e =>
  (x a o e).stay (fun b u _ q => k b u q) (fun _ q => q) fun _ _ q => q
/-- a new object is laid and tracked -/
theorem HOk.laid (x : HOk P w H h) (k : ∀ b u, h.get? b = some u → h'.get? b = some u) (hp : h.objs.size ≤ a) (new : ObjOk P w (upd H a o) h' a o) : HOk P w (upd H a o) h' := fun b u e => by
  have hn := x.fresh hp
  by_cases hb : b = a
  · subst hb; rw [upd_same] at e; cases e; exact new
  · rw [upd_ne hb] at e
    exact (x b u e).stay (fun c v _ q => k c v q) (fun c q => by rw [upd_ne (ne_of_none q hn)]; exact q) fun c xs q => by rw [upd_ne (ne_of_none q hn)]; exact q
end

/-- what may be read as u: it is u, or a known u -/
def Rd (H : Hp) (a : Addr) (u : HO) : Prop := H a = some u ∨ ∃ o, H a = some (.frz o u)
theorem Rd.ok {P : Program} {w : World} {H : Hp} {h : Heap} {a : Addr} {u : HO} (r : Rd H a u) (x : HOk P w H h) : ObjOk P w H h a u := by
  rcases r with r | ⟨o, r⟩
  · exact x a u r
  · obtain ⟨_, q⟩ := x a _ r
    exact q
/-- what may be written -/
def Mut : Option HO → Prop
  | some (.lst _) => True
  | some (.dK _) => True
  | some (.dT _) => True
  | some (.set _ _) => True
  | some (.ins _ _ _) => True
  | some (.ext _) => True
  | _ => False
section
variable {P : Program} {w : World} {H : Hp} {h h' : Heap} {x e : Addr} {o' : HO}
/-- the object at e is changed: x itself, or the dict of the instance x -/
theorem HOk.write (ok : HOk P w H h) (mu : Mut (H x)) (he : e = x ∨ H e = some (.own x)) (k : ∀ b u, b ≠ e → h.get? b = some u → h'.get? b = some u) (heo : ∃ u, h'.get? e = some u)
    (new : ObjOk P w (upd H x o') h' x o') : HOk P w (upd H x o') h' := fun b u q => by
  have nown : ∀ c y, H c = some (.own y) → c ≠ x := fun c y r z => by subst z; rw [r] at mu; exact mu
  have ntup : ∀ c xs, H c = some (.tup xs) → c ≠ x := fun c xs r z => by subst z; rw [r] at mu; exact mu
  by_cases hb : b = x
  · subst hb; rw [upd_same] at q; cases q; exact new
  · rw [upd_ne hb] at q
    by_cases hbe : b = e
    · have q' : H b = some (.own x) := by
        rcases he with z | z
        · exact absurd (hbe.trans z) hb
        · rw [hbe]; exact z
      rw [q] at q'; cases q'
      obtain ⟨v, hv⟩ := heo
      exact ⟨v, by rw [hbe]; exact hv⟩
    · refine (ok b u q).stay (fun c v hc r => k c v ?_ r) (fun c r => by rw [upd_ne (nown c b r)]; exact r) fun c xs r => by rw [upd_ne (ntup c xs r)]; exact r
      rcases hc with rfl | hc
      · exact hbe
      · rintro rfl
        rcases he with z | z
        · exact nown c b hc z
        · rw [hc] at z; cases z; exact hb rfl
end

/-! ### kept unless tracked; of the frames at fs (the callers') the slots may change (an exception that passes writes there); of the records at ex (iterators) nothing is said -/
structure Un (fs ex : List Addr) (H H' : Hp) (h h' : Heap) : Prop where
  keep : ∀ b o, h.get? b = some o → H b = none → b ∉ fs → b ∉ ex → h'.get? b = some o
  slot : ∀ b o, h.get? b = some o → H b = none → b ∈ fs → b ∉ ex → ∃ sl, h'.get? b = some { o with slots := sl }
  free : ∀ b o, h.get? b = some o → H b = none → b ∉ ex → H' b = none
  there : ∀ b o, h.get? b = some o → b ∉ ex → ∃ o', h'.get? b = some o'
  tups : ∀ b xs, H b = some (.tup xs) → H' b = some (.tup xs)
  frzs : ∀ b o u, H b = some (.frz o u) → H' b = some (.frz o u)
  tbls : ∀ b ps, H b = some (.tbl ps) → ∃ more, H' b = some (.tbl (ps ++ more))
section
variable {fs fs' ex ex' : List Addr} {H H1 H2 : Hp} {h h1 h2 h' : Heap} {a x e : Addr} {o : HO}
theorem Un.any (u : Un fs ex H H1 h h1) {b : Addr} {ob : Obj} (q : h.get? b = some ob) (n : H b = none) (hx : b ∉ ex) : ∃ sl, h1.get? b = some { ob with slots := sl } := by
  by_cases hb : b ∈ fs
  · exact u.slot b ob q n hb hx
  · exact ⟨ob.slots, u.keep b ob q n hb hx⟩
theorem Un.kept (k : ∀ b u, h.get? b = some u → h'.get? b = some u) : Un fs ex H H h h' :=
  ⟨fun b ob q _ _ _ => k b ob q, fun b ob q _ _ _ => ⟨ob.slots, k b ob q⟩, fun _ _ _ n _ => n, fun b ob q _ => ⟨ob, k b ob q⟩, fun _ _ q => q, fun _ _ _ q => q, fun _ ps q => ⟨#[], by rw [q]; simp⟩⟩
theorem Un.refl : Un fs ex H H h h := Un.kept fun _ _ q => q
theorem Un.laid (k : ∀ b u, h.get? b = some u → h'.get? b = some u) (hp : h.objs.size ≤ a) (hn : H a = none) : Un fs ex H (upd H a o) h h' where
  keep := fun b u q _ _ _ => k b u q
  slot := fun b u q _ _ _ => ⟨u.slots, k b u q⟩
  free := fun b u q n _ => by rw [upd_ne (Nat.ne_of_lt (Nat.lt_of_lt_of_le (Heap.lt_size q) hp))]; exact n
  there := fun b u q _ => ⟨u, k b u q⟩
  tups := fun b xs q => by rw [upd_ne (ne_of_none q hn)]; exact q
  frzs := fun b u xs q => by rw [upd_ne (ne_of_none q hn)]; exact q
  tbls := fun b ps q => ⟨#[], by rw [upd_ne (ne_of_none q hn), q]; simp⟩
theorem Un.write (mu : Mut (H x)) (he : e = x ∨ H e = some (.own x)) (k : ∀ b u, b ≠ e → h.get? b = some u → h'.get? b = some u) (heo : ∃ u, h'.get? e = some u) : Un fs ex H (upd H x o) h h' := by
  have hx : ∀ b, H b = none → b ≠ x := fun b n z => by subst z; rw [n] at mu; exact mu
  have hb : ∀ b, H b = none → b ≠ e := fun b n z => by
    subst z
    rcases he with r | r
    · exact hx b n r
    · rw [n] at r; cases r
  have hm : ∀ b u, H b = some u → ¬ Mut (some u) → b ≠ x := fun b u q nm z => by subst z; rw [q] at mu; exact nm mu
  refine ⟨fun b u q n _ _ => k b u (hb b n) q, fun b u q n _ _ => ⟨u.slots, k b u (hb b n) q⟩, fun b u q n _ => by rw [upd_ne (hx b n)]; exact n, fun b u q _ => ?_,
    fun b xs q => by rw [upd_ne (hm b _ q fun z => z)]; exact q, fun b u xs q => by rw [upd_ne (hm b _ q fun z => z)]; exact q, fun b ps q => ⟨#[], by rw [upd_ne (hm b _ q fun z => z), q]; simp⟩⟩
  by_cases hbe : b = e
  · subst hbe; exact heo
  · exact ⟨u, k b u hbe q⟩
end

/-! ### the heap without what is tracked -/
def trk (h : Heap) (H : Hp) : List Addr := (List.range h.objs.size).filter fun a => (H a).isSome
def hidT (h : Heap) (H : Hp) : Heap := PySem.W.hideAll h (trk h H)
theorem hidT_size (h : Heap) (H : Hp) : (hidT h H).objs.size = h.objs.size := PySem.W.hideAll_size _ _
theorem hidT_get {h : Heap} {H : Hp} {b : Addr} {o : Obj} (e : h.get? b = some o) (n : H b = none) : (hidT h H).get? b = some o :=
  PySem.W.hideAll_get _ e fun hm => by
    have q : (H b).isSome = true := (List.mem_filter.mp hm).2
    rw [n] at q; simp at q
theorem of_hidT {h : Heap} {H : Hp} {b : Addr} {o : Obj} (e : (hidT h H).get? b = some o) : h.get? b = some o ∧ H b = none := by
  have e' : h.get? b = some o := PySem.W.of_hideAll (trk h H) e
  refine ⟨e', ?_⟩
  cases q : H b with
  | none => rfl
  | some x =>
    have hm : b ∈ trk h H := List.mem_filter.mpr ⟨List.mem_range.mpr (Heap.lt_size e'), by simp [q]⟩
    have z : (hidT h H).get? b = none := PySem.W.hideAll_none (trk h H) hm
    rw [z] at e; cases e

/-! ### OpenK's ledger, filled with every new object but one -/
def allNews (g h : Heap) (L : Addr) : List (Addr × Obj) := (List.range h.objs.size).filterMap fun a => if a = L ∨ (g.get? a).isSome = true then none else (h.get? a).map fun o => (a, o)
def rest (g h : Heap) (L d : Addr) : List (Addr × Obj) := (allNews g h L).filter fun p => decide (p.1 ≠ d)
end L2

namespace L2
open PySem PySem.Spec PyProof.Rows

/-- the module's facts, over the base: the heap at the law's entry without what is tracked there -/
structure Mod (K : PySem.W.Frag) (mg : Str → Option Value) (base : Heap) : Prop where
  kin : K.In base
  glob : base.Ns mainGlobals mg
  blt : ∃ mb, base.Ns builtinsNs mb ∧ ∀ x : Str, x ≠ "__name__" → mb x = bootBuiltins x
  nolimit : base.NoLimit

/-- the context: a def's body (or a comprehension's block) running. base: fixed through the whole law; s₀, H₀: the entry; outer: the frames whose slots others may change (a def's callers); stack: all frames that run;
   ex: iterators that were made ahead of the entry and are walked here (a comprehension's); fn: the names whose cells were made at the entry (a def: all; a comprehension's block: its own); calm: not within an except suite; pn: pins that every state bears; xe: what is wanted of an exception that leaves the code -/
structure Cx where
  prog : Program
  w : World
  K : PySem.W.Frag
  mg : Str → Option Value
  base : Heap
  A : Around
  N : List Str
  s₀ : Shared
  H₀ : Hp
  env : Env
  outer : List Env
  stack : List Env
  ex : List Addr
  fn : Str → Bool
  calm : Bool
  pn : List (Addr × Obj)
  xe : Value → Shared → Prop
/-- the callers' frames -/
def frs (l : List Env) : List Addr := l.filterMap (·.frame)
abbrev Cx.fs (X : Cx) : List Addr := frs X.outer

def Vis (sc : Scope) (x : Str) : Prop := sc.names.lookup x = some .local ∨ sc.names.lookup x = some .cell ∨ sc.names.lookup x = some .free
def Loc (sc : Scope) (x : Str) : Prop := sc.names.lookup x = some .local ∨ sc.names.lookup x = some .cell
def Look (env : Env) (h : Heap) (m : Str → Option Value) (x : Str) (u : Value) : Prop :=
  (env.kindOf x = some .local ∧ m x = some u) ∨ ((env.kindOf x = some .cell ∨ env.kindOf x = some .free) ∧ ∃ c, env.cells.lookup x = some c ∧ h.IsCell c (some u))

structure Cx.Ok (X : Cx) : Prop where
  mod : Mod X.K X.mg X.base
  kind : X.env.scope.kind = .function
  glob : X.env.globals = mainGlobals
  blt : X.env.builtins = builtinsNs
  above : X.s₀.heap.objs.size ≤ X.env.locals
  inj : ∀ x y c, X.env.cells.lookup x = some c → X.env.cells.lookup y = some c → x = y
  has : ∀ x, (X.env.kindOf x = some .cell ∨ X.env.kindOf x = some .free) → ∃ c, X.env.cells.lookup x = some c
  cab : ∀ x c, X.fn x = true → X.env.cells.lookup x = some c → X.s₀.heap.objs.size ≤ c
  hd : X.calm = true → X.A.handled = none
  frames : X.A.frames = some X.stack
  stk : X.stack = X.outer ∨ (X.stack = X.env :: X.outer ∧ X.env.frame = some X.env.locals)
  exf : ∀ b ∈ X.ex, b ≠ X.env.locals ∧ ∀ x c, X.env.cells.lookup x = some c → c ≠ b
  bs : ∀ b o, X.base.get? b = some o → X.s₀.heap.get? b = some o ∧ X.H₀ b = none
  bsz : X.base.objs.size ≤ X.s₀.heap.objs.size
  noex : ∀ b o, X.base.get? b = some o → b ∉ X.ex
  exfs : ∀ b ∈ X.ex, b ∉ X.fs
  funs : X.s₀.heap.FunFrames X.base X.outer
  frf : ∀ b ∈ X.fs, X.H₀ b = none

structure Inv (X : Cx) (pins : List (Addr × Obj)) (σ : List (Option V)) (H : Hp) (s : Shared) : Prop where
  ok : X.Ok
  os : s.os = X.s₀.os
  bare : AllBare s.gens
  base : Un X.fs X.ex X.H₀ H X.s₀.heap s.heap
  loc : ∃ m, s.heap.Ns X.env.locals m ∧ ∀ (i : Nat) (x : Str) (v : V), X.N[i]? = some x → σ[i]? = some (some v) → Vis X.env.scope x → ∃ u, RelV v u ∧ Look X.env s.heap m x u
  cell : ∀ x c, X.env.cells.lookup x = some c → ∃ v, s.heap.IsCell c v
  free : H X.env.locals = none
  freeC : ∀ x c, X.env.cells.lookup x = some c → H c = none
  pin : ∀ p ∈ X.pn ++ pins, s.heap.get? p.1 = some p.2 ∧ H p.1 = none ∧ p.1 ≠ X.env.locals ∧ p.1 ∉ X.fs ∧ ∀ v, p.2.data ≠ .cell v
  hok : HOk X.prog X.w H s.heap
  len : σ.length = X.N.length

section
variable {X : Cx} {pins : List (Addr × Obj)} {σ : List (Option V)} {H H' : Hp} {s : Shared} {h' : Heap}

theorem Cx.Ok.nofr (ok : X.Ok) {b : Addr} {o : Obj} (e : X.base.get? b = some o) : b ∉ X.fs := fun hb => by
  have := (ok.funs.mem hb).1
  rw [e] at this; cases this
theorem Inv.bs (I : Inv X pins σ H s) : ∀ b o, X.base.get? b = some o → s.heap.get? b = some o ∧ H b = none := fun b o e =>
  ⟨I.base.keep b o (I.ok.bs b o e).1 (I.ok.bs b o e).2 (I.ok.nofr e) (I.ok.noex b o e), I.base.free b o (I.ok.bs b o e).1 (I.ok.bs b o e).2 (I.ok.noex b o e)⟩
theorem Inv.bk (I : Inv X pins σ H s) : ∀ b o, X.base.get? b = some o → s.heap.get? b = some o := fun b o e => (I.bs b o e).1
theorem Inv.mod (I : Inv X pins σ H s) : Mod X.K X.mg X.base := I.ok.mod
theorem Inv.kIn (I : Inv X pins σ H s) : X.K.In s.heap := I.ok.mod.kin.keeps I.bk
theorem Inv.lt (I : Inv X pins σ H s) : X.env.locals < s.heap.objs.size := let ⟨_, hn, _⟩ := I.loc; hn.lt
theorem Inv.sz (I : Inv X pins σ H s) : X.s₀.heap.objs.size ≤ s.heap.objs.size := Nat.le_trans I.ok.above (Nat.le_of_lt I.lt)
theorem Inv.nofs (I : Inv X pins σ H s) {a : Addr} (h : s.heap.objs.size ≤ a) : a ∉ X.fs := fun hb => by
  obtain ⟨_, o, ho, _⟩ := I.ok.funs.mem hb
  exact absurd (Nat.lt_of_lt_of_le (Heap.lt_size ho) (Nat.le_trans I.sz h)) (Nat.lt_irrefl _)
theorem Inv.cne (I : Inv X pins σ H s) : ∀ x c, X.env.cells.lookup x = some c → c ≠ X.env.locals := fun x c e z => by
  obtain ⟨v, o, ho, hd⟩ := I.cell x c e
  obtain ⟨m, ⟨o', es, ep, ho', hd', _⟩, _⟩ := I.loc
  rw [z, ho'] at ho; cases ho; rw [hd'] at hd; cases hd
theorem Inv.funs (I : Inv X pins σ H s) : s.heap.FunFrames X.base X.outer := by
  have all : ∀ (l : List Env), (∀ b ∈ frs l, b ∈ X.fs) → X.s₀.heap.FunFrames X.base l → s.heap.FunFrames X.base l := by
    intro l
    induction l with
    | nil => intro _ _; trivial
    | cons env r ih =>
      intro hs hl
      obtain ⟨hk, ⟨L, o, hf, hn, ho, hd⟩, hr⟩ := hl
      have hL : L ∈ X.fs := hs L (by unfold frs; rw [List.filterMap_cons, hf]; exact List.mem_cons_self)
      obtain ⟨sl, e⟩ := I.base.slot L o ho (I.ok.frf L hL) hL fun z => I.ok.exfs L z hL
      exact ⟨hk, ⟨L, _, hf, hn, e, hd⟩, ih (fun b hb => hs b (by unfold frs; rw [List.filterMap_cons, hf]; exact List.mem_cons_of_mem _ hb)) hr⟩
  exact all X.outer (fun _ hb => hb) I.ok.funs

/-- the frames that run, for a call -/
theorem Inv.stack (I : Inv X pins σ H s) : s.heap.FunFrames X.base X.stack := by
  rcases I.ok.stk with e | ⟨e, hf⟩
  · rw [e]; exact I.funs
  · rw [e]
    obtain ⟨m, hn, _⟩ := I.loc
    refine .cons (by rw [I.ok.kind]; decide) hf hn ?_ I.funs
    exact Heap.get?_none_of_le (Nat.le_trans I.ok.bsz I.ok.above)
theorem Inv.stkSub (I : Inv X pins σ H s) : ∀ b ∈ frs X.stack, b ∈ X.env.locals :: X.fs := fun b hb => by
  rcases I.ok.stk with e | ⟨e, hf⟩
  · rw [e] at hb; exact List.mem_cons_of_mem _ hb
  · rw [e] at hb
    unfold frs at hb
    rw [List.filterMap_cons, hf] at hb
    exact hb
theorem Inv.stkFree (I : Inv X pins σ H s) : ∀ b ∈ frs X.stack, H b = none := fun b hb => by
  rcases List.mem_cons.mp (I.stkSub b hb) with e | hb
  · rw [e]; exact I.free
  · obtain ⟨_, o, ho, _⟩ := I.ok.funs.mem hb
    exact I.base.free b o ho (I.ok.frf b hb) fun z => I.ok.exfs b z hb

/-- THE STEP: the untracked objects but the frame and the records at ch are kept (the callers' frames up to slots), the frame's map is kept, the new abstract heap is held -/
theorem Inv.step {g' : Array GenState} {t' : Nat} {d' : Drawn} {ch : List Addr} (I : Inv X pins σ H s)
    (hch : ∀ b ∈ ch, (b ∈ X.ex ∨ X.s₀.heap.objs.size ≤ b) ∧ b ≠ X.env.locals ∧ (∀ x c, X.env.cells.lookup x = some c → c ≠ b) ∧ ∀ p ∈ X.pn ++ pins, p.1 ≠ b)
    (keep : ∀ b o, b ≠ X.env.locals → b ∉ X.fs → b ∉ ch → s.heap.get? b = some o → H b = none → h'.get? b = some o)
    (slot : ∀ b o, b ≠ X.env.locals → b ∈ X.fs → b ∉ ch → s.heap.get? b = some o → H b = none → ∃ sl, h'.get? b = some { o with slots := sl }) (free : ∀ b o, b ∉ ch → s.heap.get? b = some o → H b = none → H' b = none)
    (there : ∀ b o, b ∉ ch → s.heap.get? b = some o → ∃ o', h'.get? b = some o')
    (tups : ∀ b xs, H b = some (.tup xs) → H' b = some (.tup xs)) (frzs : ∀ b o u, H b = some (.frz o u) → H' b = some (.frz o u)) (tbls : ∀ b ps, H b = some (.tbl ps) → ∃ more, H' b = some (.tbl (ps ++ more)))
    (ns : ∀ m, s.heap.Ns X.env.locals m → h'.Ns X.env.locals m) (hok : HOk X.prog X.w H' h') (hg : AllBare g') :
    Inv X pins σ H' { s with heap := h', gens := g', drawn := d', toks := t' } := by
  have neL : ∀ b o, X.s₀.heap.get? b = some o → b ≠ X.env.locals := fun b o e => Nat.ne_of_lt (Nat.lt_of_lt_of_le (Heap.lt_size e) I.ok.above)
  have neC : ∀ b o, X.s₀.heap.get? b = some o → b ∉ X.ex → b ∉ ch := fun b o e hx hb => by
    rcases (hch b hb).1 with z | z
    · exact hx z
    · exact absurd (Nat.lt_of_lt_of_le (Heap.lt_size e) z) (Nat.lt_irrefl _)
  have cellK : ∀ x c, X.env.cells.lookup x = some c → ∀ v, s.heap.IsCell c v → h'.IsCell c v := fun x c e v ⟨o, ho, hd⟩ => by
    have nch : c ∉ ch := fun z => (hch c z).2.2.1 x c e rfl
    by_cases hc : c ∈ X.fs
    · obtain ⟨sl, q⟩ := slot c o (I.cne x c e) hc nch ho (I.freeC x c e)
      exact ⟨_, q, hd⟩
    · exact ⟨o, keep c o (I.cne x c e) hc nch ho (I.freeC x c e), hd⟩
  refine ⟨I.ok, I.os, hg, ⟨fun b o e n hb hx => ?_, fun b o e n hb hx => ?_, fun b o e n hx => ?_, fun b o e hx => ?_, fun b xs e => tups b xs (I.base.tups b xs e), fun b o xs e => frzs b o xs (I.base.frzs b o xs e), fun b ps e => ?_⟩, ?_, fun x c e => ?_, ?_, fun x c e => ?_, fun p hp => ?_, hok, I.len⟩
  · exact keep b o (neL b o e) hb (neC b o e hx) (I.base.keep b o e n hb hx) (I.base.free b o e n hx)
  · obtain ⟨sl, e1⟩ := I.base.slot b o e n hb hx
    obtain ⟨sl', e2⟩ := slot b _ (neL b o e) hb (neC b o e hx) e1 (I.base.free b o e n hx)
    exact ⟨sl', e2⟩
  · obtain ⟨o', e1⟩ := I.base.there b o e hx
    exact free b o' (neC b o e hx) e1 (I.base.free b o e n hx)
  · obtain ⟨o', e1⟩ := I.base.there b o e hx
    exact there b o' (neC b o e hx) e1
  · obtain ⟨m1, e1⟩ := I.base.tbls b ps e
    obtain ⟨m2, e2⟩ := tbls b _ e1
    exact ⟨m1 ++ m2, by rw [e2, Array.append_assoc]⟩
  · obtain ⟨m, hn, hl⟩ := I.loc
    refine ⟨m, ns m hn, fun i x v e1 e2 e3 => ?_⟩
    obtain ⟨u, r, l⟩ := hl i x v e1 e2 e3
    refine ⟨u, r, ?_⟩
    rcases l with l | ⟨k, c, e, z⟩
    · exact .inl l
    · exact .inr ⟨k, c, e, cellK x c e _ z⟩
  · obtain ⟨v, z⟩ := I.cell x c e
    exact ⟨v, cellK x c e v z⟩
  · obtain ⟨m, ⟨o, _, _, ho, _⟩, _⟩ := I.loc
    exact free _ o (fun z => (hch _ z).2.1 rfl) ho I.free
  · obtain ⟨v, o, ho, hd⟩ := I.cell x c e
    exact free c o (fun z => (hch c z).2.2.1 x c e rfl) ho (I.freeC x c e)
  · obtain ⟨e, n, ne, nf, d⟩ := I.pin p hp
    have nch : p.1 ∉ ch := fun z => (hch p.1 z).2.2.2 p hp rfl
    exact ⟨keep p.1 p.2 ne nf nch e n, free p.1 p.2 nch e n, ne, nf, d⟩
/-- .. where the frame's own object is kept too -/
theorem Inv.un {t' : Nat} (I : Inv X pins σ H s) (u : Un X.fs [] H H' s.heap h') (hok : HOk X.prog X.w H' h') : Inv X pins σ H' { s with heap := h', toks := t' } := by
  obtain ⟨m, ⟨o, es, ep, ho, r⟩, _⟩ := id I.loc
  obtain ⟨sl, hL⟩ := u.any ho I.free (by simp)
  exact I.step (g' := s.gens) (d' := s.drawn) (ch := []) (fun _ z => nomatch z) (fun b o _ hb _ e n => u.keep b o e n hb (by simp)) (fun b o _ hb _ e n => u.slot b o e n hb (by simp)) (fun b o _ e n => u.free b o e n (by simp)) (fun b o _ e => u.there b o e (by simp)) u.tups u.frzs u.tbls (fun m' hm => by
    obtain ⟨o', es', ep', ho', r'⟩ := hm
    rw [ho] at ho'; cases ho'
    exact ⟨_, es', ep', hL, r'⟩) hok I.bare
/-- behind a call (or a comprehension's block): the slots of this frame may have changed too, the records at ch may have turned -/
theorem Inv.call {g' : Array GenState} {t' : Nat} {d' : Drawn} {ch : List Addr} (I : Inv X pins σ H s) (u : Un (frs X.stack) ch H H' s.heap h') (hok : HOk X.prog X.w H' h') (hg : AllBare g')
    (hch : ∀ b ∈ ch, (b ∈ X.ex ∨ X.s₀.heap.objs.size ≤ b) ∧ b ≠ X.env.locals ∧ (∀ x c, X.env.cells.lookup x = some c → c ≠ b) ∧ ∀ p ∈ X.pn ++ pins, p.1 ≠ b) :
    Inv X pins σ H' { s with heap := h', gens := g', drawn := d', toks := t' } := by
  obtain ⟨m, ⟨o, es, ep, ho, r⟩, _⟩ := id I.loc
  obtain ⟨sl, hL⟩ := u.any ho I.free fun z => (hch _ z).2.1 rfl
  exact I.step (ch := ch) hch (fun b o hL hb hc e n => u.keep b o e n (fun z => (List.mem_cons.mp (I.stkSub b z)).elim hL hb) hc) (fun b o _ _ hc e n => u.any e n hc) (fun b o hc e n => u.free b o e n hc) (fun b o hc e => u.there b o e hc) u.tups u.frzs u.tbls (fun m' hm => by
    obtain ⟨o', es', ep', ho', r'⟩ := hm
    rw [ho] at ho'; cases ho'
    exact ⟨_, es', ep', hL, r'⟩) hok hg
/-- an untracked record of ours (an iterator) has turned -/
theorem Inv.turned {t' : Nat} {it : Addr} (I : Inv X pins σ H s) (k : ∀ b o, b ≠ it → s.heap.get? b = some o → h'.get? b = some o) (hn : H it = none) (hL : it ≠ X.env.locals)
    (h1 : it ∈ X.ex ∨ X.s₀.heap.objs.size ≤ it) (h2 : ∀ x c, X.env.cells.lookup x = some c → c ≠ it) (h3 : ∀ p ∈ X.pn ++ pins, p.1 ≠ it) : Inv X pins σ H { s with heap := h', toks := t' } := by
  have nit : ∀ b u, H b = some u → b ≠ it := fun b u e z => by rw [z, hn] at e; cases e
  refine I.step (g' := s.gens) (d' := s.drawn) (ch := [it]) (fun b hb => ?_) (fun b o _ _ hc e _ => k b o (fun z => hc (by simp [z])) e) (fun b o _ _ hc e _ => ⟨o.slots, k b o (fun z => hc (by simp [z])) e⟩) (fun _ _ _ _ n => n)
    (fun b o hc e => ⟨o, k b o (fun z => hc (by simp [z])) e⟩) (fun _ _ e => e) (fun _ _ _ e => e) (fun b ps e => ⟨#[], by rw [e]; simp⟩) (fun m hm => ?_) (fun b u e => ?_) I.bare
  · have e : b = it := by simpa using hb
    subst e
    exact ⟨h1, hL, h2, h3⟩
  · obtain ⟨o, es, ep, ho, r⟩ := hm
    exact ⟨o, es, ep, k _ o (Ne.symm hL) ho, r⟩
  · refine (I.hok b u e).stay (fun c v hc q => k c v ?_ q) (fun _ q => q) fun _ _ q => q
    rcases hc with z | z
    · rw [z]; exact nit b u e
    · exact nit c _ z
theorem Inv.tok (I : Inv X pins σ H s) (t : Nat) : Inv X pins σ H { s with toks := t } := I.un (h' := s.heap) (t' := t) Un.refl I.hok
/-- all objects kept -/
theorem Inv.kept {t' : Nat} (I : Inv X pins σ H s) (k : ∀ b u, s.heap.get? b = some u → h'.get? b = some u) : Inv X pins σ H { s with heap := h', toks := t' } := I.un (Un.kept k) (I.hok.kept k)
/-- a new object laid and tracked -/
theorem Inv.laid {a : Addr} {o : HO} {t' : Nat} (I : Inv X pins σ H s) (k : ∀ b u, s.heap.get? b = some u → h'.get? b = some u) (hp : s.heap.objs.size ≤ a) (new : ObjOk X.prog X.w (upd H a o) h' a o) :
    Inv X pins σ (upd H a o) { s with heap := h', toks := t' } := I.un (Un.laid k hp (I.hok.fresh hp)) (I.hok.laid k hp new)
/-- an object written -/
theorem Inv.write {x e : Addr} {o : HO} {t' : Nat} (I : Inv X pins σ H s) (mu : Mut (H x)) (he : e = x ∨ H e = some (.own x)) (k : ∀ b u, b ≠ e → s.heap.get? b = some u → h'.get? b = some u) (heo : ∃ u, h'.get? e = some u)
    (new : ObjOk X.prog X.w (upd H x o) h' x o) : Inv X pins σ (upd H x o) { s with heap := h', toks := t' } := I.un (Un.write mu he k heo) (I.hok.write mu he k heo new)
theorem Inv.pins_of {pins' : List (Addr × Obj)} (I : Inv X pins σ H s) (h : ∀ p ∈ pins', s.heap.get? p.1 = some p.2 ∧ H p.1 = none ∧ p.1 ≠ X.env.locals ∧ p.1 ∉ X.fs ∧ ∀ v, p.2.data ≠ .cell v) : Inv X pins' σ H s :=
  ⟨I.ok, I.os, I.bare, I.base, I.loc, I.cell, I.free, I.freeC, fun p hp => (List.mem_append.mp hp).elim (fun z => I.pin p (List.mem_append_left _ z)) (h p), I.hok, I.len⟩

theorem nodup_ix {N : List Str} (hN : N.Nodup) {i j : Nat} {x : Str} (a : N[i]? = some x) (b : N[j]? = some x) : i = j := by
  obtain ⟨h1, e1⟩ := List.getElem?_eq_some_iff.mp a
  obtain ⟨h2, e2⟩ := List.getElem?_eq_some_iff.mp b
  exact (List.getElem_inj hN).mp (e1.trans e2.symm)

/-- a name is stored; what changed -/
theorem store_ok2 {M : Model} {A : Around} {E : Value → Shared → Prop} {i : Nat} {x : Str} {v : V} {u : Value} {Q : Unit → Shared → Prop} (I : Inv X pins σ H s) (hN : X.N.Nodup) (hi : X.N[i]? = some x) (hx : Loc X.env.scope x) (r : RelV v u)
    (h : ∀ s', Inv X pins (σ.set i (some v)) H s' → (∃ a, Heap.SameBut a s.heap s'.heap ∧ (a = X.env.locals ∨ X.env.cells.lookup x = some a)) → Q () s') (hf : X.fn x = true ∨ X.env.scope.names.lookup x = some .local := by first | exact .inl rfl | exact .inr rfl | assumption) : wpAny M A (storeName X.env x u) Q E s := by
  obtain ⟨m, hn, hl⟩ := id I.loc
  have hcls : (X.env.scope.kind == .class || (X.env.scope.kind == .module && X.env.locals != X.env.globals)) = false := by rw [I.ok.kind]; rfl
  have hiσ : i < σ.length := by rw [I.len]; exact (List.getElem?_eq_some_iff.mp hi).1
  have cne := I.cne
  have tracked : ∀ {a : Addr} {h' : Heap}, (∃ o, s.heap.get? a = some o ∧ H a = none) → Heap.SameBut a s.heap h' → HOk X.prog X.w H h' := fun {a h'} ha hs b ob e => by
    obtain ⟨_, _, hfree⟩ := ha
    refine (I.hok b ob e).stay (fun c w' hc q => (hs.2 c ?_).trans q) (fun _ q => q) fun _ _ q => q
    rintro rfl
    rcases hc with rfl | hc
    · rw [hfree] at e; cases e
    · rw [hfree] at hc; cases hc
  rcases hx with hk | hk
  · refine wpAny_storeName_local hk hn (fun h' hn' hs => ?_) hcls
    obtain ⟨oL, _, _, hoL, _⟩ := id hn
    refine h _ ⟨I.ok, I.os, I.bare, ⟨fun b o e n hb hx => ?_, fun b o e n hb hx => ?_, I.base.free, fun b o e hx => ?_, I.base.tups, I.base.frzs, I.base.tbls⟩, ⟨_, hn', fun j y v' e1 e2 e3 => ?_⟩, fun y c e => ?_, I.free, I.freeC, fun p hp => ?_, tracked ⟨oL, hoL, I.free⟩ hs, by simpa using I.len⟩ ⟨_, hs, .inl rfl⟩
    · exact (hs.2 b (Nat.ne_of_lt (Nat.lt_of_lt_of_le (Heap.lt_size e) I.ok.above))).trans (I.base.keep b o e n hb hx)
    · obtain ⟨sl, e1⟩ := I.base.slot b o e n hb hx
      exact ⟨sl, (hs.2 b (Nat.ne_of_lt (Nat.lt_of_lt_of_le (Heap.lt_size e) I.ok.above))).trans e1⟩
    · obtain ⟨o', e1⟩ := I.base.there b o e hx
      exact ⟨o', (hs.2 b (Nat.ne_of_lt (Nat.lt_of_lt_of_le (Heap.lt_size e) I.ok.above))).trans e1⟩
    · by_cases hj : j = i
      · subst hj
        rw [hi] at e1; cases e1
        rw [List.getElem?_set_self hiσ] at e2
        cases e2
        exact ⟨u, r, .inl ⟨hk, by simp⟩⟩
      · rw [List.getElem?_set_ne (Ne.symm hj)] at e2
        obtain ⟨u', r', q⟩ := hl j y v' e1 e2 e3
        refine ⟨u', r', ?_⟩
        rcases q with ⟨k, e⟩ | ⟨k, c, e, z⟩
        · refine .inl ⟨k, ?_⟩
          have : y ≠ x := fun e => hj (nodup_ix hN e1 (e ▸ hi))
          simp [this, e]
        · exact .inr ⟨k, c, e, z.sameBut hs (cne y c e)⟩
    · obtain ⟨w', z⟩ := I.cell y c e
      exact ⟨w', z.sameBut hs (cne y c e)⟩
    · obtain ⟨e, n, ne, nf, d⟩ := I.pin p hp
      exact ⟨(hs.2 p.1 ne).trans e, n, ne, nf, d⟩
  · have hfn : X.fn x = true := by
      rcases hf with z | z
      · exact z
      · rw [z] at hk; cases hk
    obtain ⟨c, hc⟩ := I.ok.has x (.inl hk)
    obtain ⟨w', z⟩ := I.cell x c hc
    refine wpAny_storeName_cell I.ok.kind hk hc z (fun h' hc' hs => ?_)
    obtain ⟨oc, hoc, hocd⟩ := id z
    refine h { s with heap := h' } ⟨I.ok, I.os, I.bare, ⟨fun b o e n hb hx => ?_, fun b o e n hb hx => ?_, I.base.free, fun b o e hx => ?_, I.base.tups, I.base.frzs, I.base.tbls⟩, ⟨m, hn.sameBut hs (Ne.symm (cne x c hc)), fun j y v' e1 e2 e3 => ?_⟩, fun y c' e => ?_, I.free, I.freeC, fun p hp => ?_, tracked ⟨oc, hoc, I.freeC x c hc⟩ hs, by simpa using I.len⟩ ⟨c, hs, .inr hc⟩
    · exact (hs.2 b (Nat.ne_of_lt (Nat.lt_of_lt_of_le (Heap.lt_size e) (I.ok.cab x c hfn hc)))).trans (I.base.keep b o e n hb hx)
    · obtain ⟨sl, e1⟩ := I.base.slot b o e n hb hx
      exact ⟨sl, (hs.2 b (Nat.ne_of_lt (Nat.lt_of_lt_of_le (Heap.lt_size e) (I.ok.cab x c hfn hc)))).trans e1⟩
    · obtain ⟨o', e1⟩ := I.base.there b o e hx
      exact ⟨o', (hs.2 b (Nat.ne_of_lt (Nat.lt_of_lt_of_le (Heap.lt_size e) (I.ok.cab x c hfn hc)))).trans e1⟩
    · by_cases hj : j = i
      · subst hj
        rw [hi] at e1; cases e1
        rw [List.getElem?_set_self hiσ] at e2
        cases e2
        exact ⟨u, r, .inr ⟨.inl hk, c, hc, hc'⟩⟩
      · rw [List.getElem?_set_ne (Ne.symm hj)] at e2
        obtain ⟨u', r', q⟩ := hl j y v' e1 e2 e3
        refine ⟨u', r', ?_⟩
        rcases q with q | ⟨k, c', e, z'⟩
        · exact .inl q
        · refine .inr ⟨k, c', e, z'.sameBut hs ?_⟩
          rintro rfl
          exact hj (nodup_ix hN e1 (I.ok.inj _ _ _ e hc ▸ hi))
    · by_cases hcc : c' = c
      · subst hcc; exact ⟨_, hc'⟩
      · obtain ⟨w2, z2⟩ := I.cell y c' e
        exact ⟨w2, z2.sameBut hs hcc⟩
    · obtain ⟨e, n, ne, nf, d⟩ := I.pin p hp
      refine ⟨(hs.2 p.1 ?_).trans e, n, ne, nf, d⟩
      intro q
      rw [q, hoc] at e
      have q' : oc = p.2 := Option.some.inj e
      exact d w' (by rw [← q']; exact hocd)
theorem store_ok {M : Model} {A : Around} {E : Value → Shared → Prop} {i : Nat} {x : Str} {v : V} {u : Value} {Q : Unit → Shared → Prop} (I : Inv X pins σ H s) (hN : X.N.Nodup) (hi : X.N[i]? = some x) (hx : Loc X.env.scope x) (r : RelV v u)
    (h : ∀ s', Inv X pins (σ.set i (some v)) H s' → Q () s') (hf : X.fn x = true ∨ X.env.scope.names.lookup x = some .local := by first | exact .inl rfl | exact .inr rfl | assumption) : wpAny M A (storeName X.env x u) Q E s :=
  store_ok2 I hN hi hx r (fun s' I' _ => h s' I') hf
/-- behind a call or a block, the state as it is -/
theorem Inv.call' {s' : Shared} {ch : List Addr} (I : Inv X pins σ H s) (ho : s'.os = s.os) (u : Un (frs X.stack) ch H H' s.heap s'.heap) (hok : HOk X.prog X.w H' s'.heap) (hg : AllBare s'.gens)
    (hch : ∀ b ∈ ch, (b ∈ X.ex ∨ X.s₀.heap.objs.size ≤ b) ∧ b ≠ X.env.locals ∧ (∀ x c, X.env.cells.lookup x = some c → c ≠ b) ∧ ∀ p ∈ X.pn ++ pins, p.1 ≠ b) : Inv X pins σ H' s' := by
  obtain ⟨h', g', d', t', o'⟩ := s'
  have e : o' = s.os := ho
  subst e
  exact I.call (g' := g') (t' := t') (d' := d') u hok hg hch
end

/-! ### the judgements -/
/-- an exception: its class, its own dict's address (where it has one), the abstract heap behind it -/
abbrev XK := Value → Option Addr → Hp → Prop
abbrev St := List (Option V)
abbrev VK := V → Hp → Prop
/-- an expression's reading; a test's; an argument list's -/
abbrev TE := St → Hp → VK → Prop
abbrev TT := St → Hp → (Bool → Hp → Prop) → Prop
abbrev TA := St → Hp → (List V → Hp → Prop) → Prop
/-- what is wanted behind a statement -/
structure Ends where
  nx : St → Hp → Prop
  rt : VK
  bk : St → Hp → Prop := fun _ _ => False
  ct : St → Hp → Prop := fun _ _ => False
abbrev TS := Ends → St → Hp → Prop

inductive EP (X : Cx) (pins : List (Addr × Obj)) (σ : St) (Q : VK) (u : Value) (s' : Shared) : Prop
  | mk (v : V) (H' : Hp) (I : Inv X pins σ H' s') (r : RelV v u) (q : Q v H')
inductive TP (X : Cx) (pins : List (Addr × Obj)) (σ : St) (Q : Bool → Hp → Prop) (b : Bool) (s' : Shared) : Prop
  | mk (H' : Hp) (I : Inv X pins σ H' s') (q : Q b H')
inductive AP (X : Cx) (pins : List (Addr × Obj)) (σ : St) (Q : List V → Hp → Prop) (us : List Value) (s' : Shared) : Prop
  | mk (vs : List V) (H' : Hp) (I : Inv X pins σ H' s') (r : Vals vs us) (q : Q vs H')
inductive SN (X : Cx) (pins : List (Addr × Obj)) (k : St → Hp → Prop) (s' : Shared) : Prop
  | mk (σ' : St) (H' : Hp) (I : Inv X pins σ' H' s') (q : k σ' H')
def SP (X : Cx) (pins : List (Addr × Obj)) (D : Ends) (f : Flow) (s' : Shared) : Prop :=
  match f with
  | .next => SN X pins D.nx s'
  | .brk => SN X pins D.bk s'
  | .cont => SN X pins D.ct s'
  | .ret u => ∃ v σ' H', Inv X pins σ' H' s' ∧ RelV v u ∧ D.rt v H'

def PE (X : Cx) (e : Expr) (t : TE) : Prop :=
  ∀ (pins : List (Addr × Obj)) (s : Shared) (σ : St) (H : Hp) (Q : VK), Inv X pins σ H s → t σ H Q → wpAny (model X.prog X.w) X.A (eval e X.env) (EP X pins σ Q) X.xe s
def PT (X : Cx) (e : Expr) (t : TT) : Prop :=
  ∀ (pins : List (Addr × Obj)) (s : Shared) (σ : St) (H : Hp) (Q : Bool → Hp → Prop), Inv X pins σ H s → t σ H Q → wpAny (model X.prog X.w) X.A (isTrue e X.env (eval e X.env)) (TP X pins σ Q) X.xe s
/-- a test whatever its 'whole' is (and, or) -/
def PW (X : Cx) (e : Expr) (t : TT) : Prop :=
  ∀ (whole : Sem Value) (pins : List (Addr × Obj)) (s : Shared) (σ : St) (H : Hp) (Q : Bool → Hp → Prop), Inv X pins σ H s → t σ H Q → wpAny (model X.prog X.w) X.A (isTrue e X.env whole) (TP X pins σ Q) X.xe s
theorem PW.pt {X : Cx} {e : Expr} {t : TT} (h : PW X e t) : PT X e t := h _
/-- an argument list (no star), from the left -/
def PA (X : Cx) (es : List Expr) (t : TA) : Prop :=
  ∀ (pos : Pos) (pins : List (Addr × Obj)) (s : Shared) (σ : St) (H : Hp) (Q : List V → Hp → Prop), Inv X pins σ H s → t σ H Q → wpAny (model X.prog X.w) X.A (spliced (backTo pos (starEach es X.env))) (AP X pins σ Q) X.xe s
def PS (X : Cx) (st : Stmt) (t : TS) : Prop :=
  ∀ (pins : List (Addr × Obj)) (s : Shared) (σ : St) (H : Hp) (D : Ends), Inv X pins σ H s → t D σ H → wpAny (model X.prog X.w) X.A (exec st X.env) (SP X pins D) X.xe s
def PSs (X : Cx) (st : List Stmt) (t : TS) : Prop :=
  ∀ (pins : List (Addr × Obj)) (s : Shared) (σ : St) (H : Hp) (D : Ends), Inv X pins σ H s → t D σ H → wpAny (model X.prog X.w) X.A (execs st X.env) (SP X pins D) X.xe s
/-- weaken the end -/
theorem thn {α : Type} {t : Sem α} {Q Q' : α → Shared → Prop} {M : Model} {A : Around} {E : Value → Shared → Prop} {s : Shared} (h : wpAny M A t Q E s) (hQ : ∀ a s, Q a s → Q' a s) : wpAny M A t Q' E s := wpAny_mono h hQ fun _ _ x => x
end L2

namespace L2
open PySem PySem.Spec PyProof.Rows
section
variable {X : Cx}


/-! ### names and constants -/
inductive VarP (i : Nat) (σ : St) (H : Hp) (Q : VK) : Prop
  | mk (v : V) (h : σ[i]? = some (some v)) (q : Q v H)
def tVar (i : Nat) : TE := fun σ H Q => VarP i σ H Q
inductive IsB (x : V) (H : Hp) (Q : Bool → Hp → Prop) : Prop
  | mk (c : Bool) (h : x = .bl c) (q : Q c H)
def tC (v : V) : TE := fun _ H Q => Q v H
theorem pe_var {i : Nat} {x : Str} {pos : Pos} (hN : X.N[i]? = some x) (hv : Vis X.env.scope x) (hd : (x == ("__debug__" : Str)) = false := by decide) (hcd : (x == ("__classdict__" : Str)) = false := by decide) : PE X (.Name x pos) (tVar i) := by
  intro pins s σ H Q I h
  obtain ⟨v, e, h⟩ := h
  obtain ⟨m, hn, hl⟩ := I.loc
  obtain ⟨u, r, l⟩ := hl i x v hN e hv
  have fin : EP X pins σ Q u s := ⟨v, H, I, r, h⟩
  rcases l with ⟨hk, hm⟩ | ⟨hk, c, hc, hcell⟩
  · exact wpAny_Name (wpAny_loadName_local I.ok.kind hk hn hm fin) hd
  · rcases hk with hk | hk
    · exact wpAny_Name (wpAny_loadName_cell I.ok.kind hk hc hcell fin) hd
    · exact wpAny_Name (wpAny_loadName_free I.ok.kind hk hc hcell fin hcd) hd
theorem pe_int {i j pos} : PE X (.Constant (.int i) j pos) (tC (.int i)) := fun _ _ _ H _ I h => wpAny_Constant_int ⟨.int i, H, I.tok _, ⟨_, rfl⟩, h⟩
theorem pe_bl {b j pos} : PE X (.Constant (.bool b) j pos) (tC (.bl b)) := fun _ _ _ H _ I h => Constant_bool ⟨.bl b, H, I, rfl, h⟩
theorem pe_non {j pos} : PE X (.Constant .none j pos) (tC .non) := fun _ _ _ H _ I h => Constant_none ⟨.non, H, I, rfl, h⟩
theorem pe_str {x j pos} : PE X (.Constant (.str x) j pos) (tC (.str x)) := fun _ _ _ H _ I h => Calls.Constant_str ⟨.str x, H, I.tok _, ⟨_, rfl⟩, h⟩

/-- a global name of the def -/
def Gl (X : Cx) (x : Str) : Prop := X.env.kindOf x = some .globalImplicit
theorem ld_glob {E : Value → Shared → Prop} {pins : List (Addr × Obj)} {s : Shared} {σ : St} {H : Hp} {x : Str} {u : Value} {pos : Pos} {Q : Value → Shared → Prop} (I : Inv X pins σ H s) (hg : Gl X x) (hm : X.mg x = some u) (h : Q u s)
    (hd : (x == ("__debug__" : Str)) = false := by decide) : wpAny (model X.prog X.w) X.A (eval (.Name x pos) X.env) Q E s :=
  Calls.Name_function_global I.ok.kind hg (Calls.loadGlobal_global (by rw [I.ok.glob]; exact I.mod.glob.keeps I.bk) hm h) hd
theorem ld_blt {E : Value → Shared → Prop} {pins : List (Addr × Obj)} {s : Shared} {σ : St} {H : Hp} {x : Str} {u : Value} {pos : Pos} {Q : Value → Shared → Prop} (I : Inv X pins σ H s) (hg : Gl X x) (hm : X.mg x = none) (hv : bootBuiltins x = some u) (h : Q u s)
    (hn : x ≠ "__name__" := by decide) (hd : (x == ("__debug__" : Str)) = false := by decide) : wpAny (model X.prog X.w) X.A (eval (.Name x pos) X.env) Q E s := by
  obtain ⟨mb, h1, h2⟩ := I.mod.blt
  exact Calls.Name_function_global I.ok.kind hg (Calls.loadGlobal_builtin (by rw [I.ok.glob]; exact I.mod.glob.keeps I.bk) hm (by rw [I.ok.blt]; exact h1.keeps I.bk) ((h2 x hn).trans hv) h) hd
/-- a module's constant, a class, a function, as a value -/
theorem pe_glob {x : Str} {v : V} {u : Value} {pos : Pos} (hg : Gl X x) (hm : X.mg x = some u) (r : RelV v u) (hd : (x == ("__debug__" : Str)) = false := by decide) : PE X (.Name x pos) (tC v) :=
  fun _ _ _ H _ I h => ld_glob I hg hm ⟨v, H, I, r, h⟩ hd
theorem pe_bltn {x : Str} {v : V} {u : Value} {pos : Pos} (hg : Gl X x) (hm : X.mg x = none) (hv : bootBuiltins x = some u) (r : RelV v u) (hn : x ≠ "__name__" := by decide) (hd : (x == ("__debug__" : Str)) = false := by decide) : PE X (.Name x pos) (tC v) :=
  fun _ _ _ H _ I h => ld_blt I hg hm hv ⟨v, H, I, r, h⟩ hn hd

/-! ### arithmetic -/
/-- two ints -/
def t2I (ta tb : TE) (k : Int → Int → Hp → Prop) : St → Hp → Prop := fun σ H => ta σ H fun x H1 => tb σ H1 fun y H2 => ∃ i j, x = .int i ∧ y = .int j ∧ k i j H2
def tAdd (ta tb : TE) : TE := fun σ H Q => t2I ta tb (fun i j H2 => Q (.int (i + j)) H2) σ H
def tSub (ta tb : TE) : TE := fun σ H Q => t2I ta tb (fun i j H2 => Q (.int (i - j)) H2) σ H
/-- the left factor below 2^64 -/
def tMul (ta tb : TE) : TE := fun σ H Q => t2I ta tb (fun i j H2 => (-(2 ^ 64) < i ∧ i < 2 ^ 64) ∧ Q (.int (i * j)) H2) σ H
variable {a b : Expr} {ta tb : TE} {pos : Pos}

/-! ### comparisons -/
def PC (X : Cx) (op : CmpOp) (a b : Expr) (t : TE) : Prop :=
  ∀ (pins : List (Addr × Obj)) (s : Shared) (σ : St) (H : Hp) (Q : VK), Inv X pins σ H s → t σ H Q →
    wpAny (model X.prog X.w) X.A (eval a X.env) (fun v s₁ => wpAny (model X.prog X.w) X.A (eval b X.env) (fun u s₂ => wpAny (model X.prog X.w) X.A (compareOp op v u) (EP X pins σ Q) X.xe s₂) X.xe s₁) X.xe s
def tCmp (p : Int → Int → Bool) (ta tb : TE) : TE := fun σ H Q => t2I ta tb (fun i j H2 => Q (.bl (p i j)) H2) σ H
abbrev tLt : TE → TE → TE := tCmp fun i j => decide (i < j)
abbrev tLe : TE → TE → TE := tCmp fun i j => decide (i ≤ j)
abbrev tGt : TE → TE → TE := tCmp fun i j => decide (j < i)
abbrev tGe : TE → TE → TE := tCmp fun i j => decide (j ≤ i)
abbrev tEqI : TE → TE → TE := tCmp fun i j => decide (i = j)
abbrev tNeI : TE → TE → TE := tCmp fun i j => !decide (i = j)
/-- is None -/
def tIsN (ta : TE) : TE := fun σ H Q => ta σ H fun x H1 => Q (.bl (decide (x = .non))) H1
def tNotN (ta : TE) : TE := fun σ H Q => ta σ H fun x H1 => Q (.bl (!decide (x = .non))) H1
/-- a comparison as a value, as a test -/
def tB (t : TE) : TT := fun σ H Q => t σ H fun x H1 => IsB x H1 Q
theorem pe_cmp {op : CmpOp} {t : TE} (h : PC X op a b t) (h1 : behindInMarks op b = false := by first | exact nobehind _ (by decide) (by decide) | rfl) : PE X (.Compare a [op] [b] pos) t := fun pins s σ H Q I hw => wpAny_Compare1 (h pins s σ H Q I hw) h1
theorem pt_cmp {op : CmpOp} {t : TE} (h : PC X op a b t) (h1 : behindInMarks op b = false := by first | exact nobehind _ (by decide) (by decide) | rfl) : PT X (.Compare a [op] [b] pos) (tB t) := by
  intro pins s σ H Q I hw
  refine wpAny_isTrue_Compare1 (thn (h pins s σ H _ I hw) fun v s1 h1 => thn h1 fun u s2 h2 => thn h2 fun c s3 hpat => ?_) h1
  obtain ⟨x, H1, I1, r1, q1⟩ := hpat
  obtain ⟨d, rfl, q⟩ := q1
  cases r1
  exact wpAny_truthy_bool ⟨H1, I1, q⟩
/-- an expression whose value is a bool, as a test -/
theorem pt_val {e : Expr} {t : TE} (h : PE X e t) (he : ∀ whole, isTrue e X.env whole = (do let v ← whole; standAt e.pos; holding [v] (truthy v)) := by intro _; rfl) : PT X e (tB t) := by
  intro pins s σ H Q I hw
  refine isTrue_plain (thn (h pins s σ H _ I hw) fun v s1 hpat => ?_) (he _)
  obtain ⟨x, H1, I1, r1, q1⟩ := hpat
  obtain ⟨d, rfl, q⟩ := q1
  cases r1
  exact wpAny_truthy_bool ⟨H1, I1, q⟩

/-! ### and, or, not -/
variable {tA tB' : TT} {rest : List Expr}
def tAnd (t u : TT) : TT := fun σ H Q => t σ H fun c H1 => if c = true then u σ H1 Q else Q false H1
def tOr (t u : TT) : TT := fun σ H Q => t σ H fun c H1 => if c = true then Q true H1 else u σ H1 Q
def tNot (t : TT) : TT := fun σ H Q => t σ H fun c H1 => Q (!c) H1
theorem pw_and1 (ha : PT X a tA) : PW X (.BoolOp .And [a] pos) tA := by
  intro wh pins s σ H Q I h
  refine isTrue_and (thn (ha pins s σ H Q I h) fun c s1 e => ?_)
  cases c with
  | true => exact isTrue_and_nil e
  | false => exact e
theorem pw_or1 (ha : PT X a tA) : PW X (.BoolOp .Or [a] pos) tA := by
  intro wh pins s σ H Q I h
  refine isTrue_or (thn (ha pins s σ H Q I h) fun c s1 e => ?_)
  cases c with
  | false => exact isTrue_or_nil e
  | true => exact e
theorem pw_and (ha : PT X a tA) (hb : PW X (.BoolOp .And (b :: rest) pos) tB') : PW X (.BoolOp .And (a :: b :: rest) pos) (tAnd tA tB') := by
  intro wh pins s σ H Q I h
  refine isTrue_and (thn (ha pins s σ H _ I h) fun c s1 ⟨H1, I1, q1⟩ => ?_)
  cases c with
  | true => exact hb wh pins s1 σ H1 Q I1 q1
  | false => exact ⟨H1, I1, q1⟩
theorem pw_or (ha : PT X a tA) (hb : PW X (.BoolOp .Or (b :: rest) pos) tB') : PW X (.BoolOp .Or (a :: b :: rest) pos) (tOr tA tB') := by
  intro wh pins s σ H Q I h
  refine isTrue_or (thn (ha pins s σ H _ I h) fun c s1 ⟨H1, I1, q1⟩ => ?_)
  cases c with
  | true => exact ⟨H1, I1, q1⟩
  | false => exact hb wh pins s1 σ H1 Q I1 q1
theorem pt_not (ha : PT X a tA) : PT X (.UnaryOp .Not a pos) (tNot tA) := by
  intro pins s σ H Q I h
  exact isTrue_not (thn (ha pins s σ H (fun c H1 => Q (!c) H1) I h) fun c s1 q => q.casesOn fun H1 I1 q1 => ⟨H1, I1, q1⟩)
/-- .. as values (bools) -/
def tAndV (ta tb : TE) : TE := fun σ H Q => ta σ H fun x H1 => IsB x H1 fun c H2 => if c = true then tb σ H2 Q else Q (.bl false) H2
def tOrV (ta tb : TE) : TE := fun σ H Q => ta σ H fun x H1 => IsB x H1 fun c H2 => if c = true then Q (.bl true) H2 else tb σ H2 Q
def tNotV (ta : TE) : TE := fun σ H Q => ta σ H fun x H1 => IsB x H1 fun c H2 => Q (.bl (!c)) H2
theorem pe_one {op} {t : TE} (h : PE X a t) : PE X (.BoolOp op [a] pos) t := fun pins s σ H Q I hw => BoolOp_one (h pins s σ H Q I hw)
theorem pe_and (ha : PE X a ta) (hb : PE X (.BoolOp .And (b :: rest) pos) tb) : PE X (.BoolOp .And (a :: b :: rest) pos) (tAndV ta tb) := by
  intro pins s σ H Q I h
  refine BoolOp_and (thn (ha pins s σ H _ I h) fun v s1 hpat => ?_)
  obtain ⟨x, H1, I1, r1, q1⟩ := hpat
  obtain ⟨c, rfl, q1⟩ := q1
  cases r1
  refine wpAny_truthy_bool ?_
  cases c with
  | true => exact hb pins s1 σ H1 Q I1 q1
  | false => exact ⟨.bl false, H1, I1, rfl, q1⟩
theorem pe_or (ha : PE X a ta) (hb : PE X (.BoolOp .Or (b :: rest) pos) tb) : PE X (.BoolOp .Or (a :: b :: rest) pos) (tOrV ta tb) := by
  intro pins s σ H Q I h
  refine BoolOp_or (thn (ha pins s σ H _ I h) fun v s1 hpat => ?_)
  obtain ⟨x, H1, I1, r1, q1⟩ := hpat
  obtain ⟨c, rfl, q1⟩ := q1
  cases r1
  refine wpAny_truthy_bool ?_
  cases c with
  | false => exact hb pins s1 σ H1 Q I1 q1
  | true => exact ⟨.bl true, H1, I1, rfl, q1⟩
theorem pe_not (ha : PE X a ta) : PE X (.UnaryOp .Not a pos) (tNotV ta) := by
  intro pins s σ H Q I h
  refine UnaryOp_ (thn (ha pins s σ H _ I h) fun v s1 hpat => ?_)
  obtain ⟨x, H1, I1, r1, q1⟩ := hpat
  obtain ⟨c, rfl, q1⟩ := q1
  cases r1
  exact not_of (wpAny_truthy_bool ⟨.bl (!c), H1, I1, rfl, q1⟩)
/-- a if t else b -/
def tIf (t : TT) (ta tb : TE) : TE := fun σ H Q => t σ H fun c H1 => if c = true then ta σ H1 Q else tb σ H1 Q
end
end L2

namespace L2
open PySem PySem.Spec PyProof.Rows

/-! ### a list, a tuple that is read: tracked, frozen, or an object of the module -/
def SqL (K : PySem.W.Frag) (H : Hp) (a : Addr) (xs : List V) : Prop :=
  Rd H a (.lst xs) ∨
    ∃ (o : Obj) (its : Array Value) (n : Nat), K.lookup a = some o ∧ o.cls = .type "list" ∧ o.dict = none ∧ o.data = .seq its n ∧ its.size ≤ sizeLine ∧ Vals xs its.toList
def SqT (K : PySem.W.Frag) (H : Hp) (a : Addr) (xs : List V) : Prop :=
  Rd H a (.tup xs) ∨
    ∃ (o : Obj) (its : Array Value) (n : Nat), K.lookup a = some o ∧ o.cls = .type "tuple" ∧ o.data = .seq its n ∧ its.size ≤ sizeLine ∧ Vals xs its.toList
def absV : Value → Option V
  | .none => some .non
  | .bool b => some (.bl b)
  | .int i _ => some (.int i)
  | .str x _ => some (.str x)
  | .bytes b _ => some (.byt b)
  | .float b _ => some (.flt b)
  | .ref a => some (.ref a)
  | .type n => some (.ty n)
  | _ => none
theorem RelV.abs {x : V} {u : Value} (r : RelV x u) : absV u = some x := by
  cases x with
  | non => cases r; rfl
  | bl _ => cases r; rfl
  | int _ => obtain ⟨t, rfl⟩ := r; rfl
  | str _ => obtain ⟨t, rfl⟩ := r; rfl
  | byt _ => obtain ⟨t, rfl⟩ := r; rfl
  | flt _ => obtain ⟨t, rfl⟩ := r; rfl
  | ref _ => cases r; rfl
  | ty _ => cases r; rfl
theorem RelV.inj {x y : V} {u : Value} (r : RelV x u) (q : RelV y u) : x = y := Option.some.inj (r.abs.symm.trans q.abs)
theorem Vals.inj : ∀ {xs ys : List V} {us : List Value}, Vals xs us → Vals ys us → xs = ys
  | _, _, _, .nil, .nil => rfl
  | _, _, _, .cons r t, .cons r' t' => by rw [r.inj r', Vals.inj t t']
section
variable {X : Cx} {pins : List (Addr × Obj)} {σ : St} {H : Hp} {s : Shared} {a : Addr} {xs ys : List V}
theorem SqL.of {K : PySem.W.Frag} (h : H a = some (.lst xs)) : SqL K H a xs := .inl (.inl h)
theorem SqT.of {K : PySem.W.Frag} (h : H a = some (.tup xs)) : SqT K H a xs := .inl (.inl h)
theorem Inv.list (I : Inv X pins σ H s) (h : SqL X.K H a xs) : ∃ its : List Value, Vals xs its ∧ PlainL s.heap a its.toArray ∧ xs.length ≤ sizeLine := by
  rcases h with h | ⟨o, its, n, hk, hc, hd, hs, hz, r⟩
  · obtain ⟨z, its, n, r, e⟩ := h.ok I.hok
    exact ⟨its, r, ⟨_, n, e, rfl, rfl, rfl⟩, z⟩
  · refine ⟨its.toList, r, ⟨o, n, I.kIn a o hk, hc, hd, by simpa using hs⟩, ?_⟩
    have e := r.length
    simp only [Array.length_toList] at e
    omega
theorem Inv.tuple (I : Inv X pins σ H s) (h : SqT X.K H a xs) : ∃ its : List Value, Vals xs its ∧ IsTup s.heap a its.toArray ∧ xs.length ≤ sizeLine := by
  rcases h with h | ⟨o, its, n, hk, hc, hs, hz, r⟩
  · obtain ⟨z, its, r, p⟩ := h.ok I.hok
    exact ⟨its, r, p, z⟩
  · refine ⟨its.toList, r, ⟨o, I.kIn a o hk, hc, n, by simpa using hs⟩, ?_⟩
    have e := r.length
    simp only [Array.length_toList] at e
    omega
theorem Inv.list_inj (I : Inv X pins σ H s) (h : SqL X.K H a xs) (h' : SqL X.K H a ys) : xs = ys := by
  obtain ⟨its, r, ⟨o, n, e, _, _, d⟩, _⟩ := I.list h
  obtain ⟨its', r', ⟨o', n', e', _, _, d'⟩, _⟩ := I.list h'
  rw [e] at e'; cases e'
  rw [d] at d'
  injection d' with d1 _
  have : its = its' := by simpa using congrArg Array.toList d1
  subst this
  exact r.inj r'
theorem Inv.tuple_inj (I : Inv X pins σ H s) (h : SqT X.K H a xs) (h' : SqT X.K H a ys) : xs = ys := by
  obtain ⟨its, r, ⟨o, e, _, n, d⟩, _⟩ := I.tuple h
  obtain ⟨its', r', ⟨o', e', _, n', d'⟩, _⟩ := I.tuple h'
  rw [e] at e'; cases e'
  rw [d] at d'
  injection d' with d1 _
  have : its = its' := by simpa using congrArg Array.toList d1
  subst this
  exact r.inj r'
end

/-! ### another wish about exceptions -/
abbrev Cx.wish (X : Cx) (E : Value → Shared → Prop) : Cx := { X with xe := E }
/-- no exception leaves -/
abbrev Cx.nox (X : Cx) : Cx := X.wish fun _ _ => False
theorem Cx.Ok.wish {X : Cx} (ok : X.Ok) (E : Value → Shared → Prop) : (X.wish E).Ok :=
  ⟨ok.mod, ok.kind, ok.glob, ok.blt, ok.above, ok.inj, ok.has, ok.cab, ok.hd, ok.frames, ok.stk, ok.exf, ok.bs, ok.bsz, ok.noex, ok.exfs, ok.funs, ok.frf⟩
theorem Cx.Ok.unwish {X : Cx} {E : Value → Shared → Prop} (ok : (X.wish E).Ok) : X.Ok :=
  ⟨ok.mod, ok.kind, ok.glob, ok.blt, ok.above, ok.inj, ok.has, ok.cab, ok.hd, ok.frames, ok.stk, ok.exf, ok.bs, ok.bsz, ok.noex, ok.exfs, ok.funs, ok.frf⟩
section
variable {X : Cx} {pins : List (Addr × Obj)} {σ : St} {H : Hp} {s : Shared} {E : Value → Shared → Prop}
theorem Inv.wish (I : Inv X pins σ H s) (E : Value → Shared → Prop) : Inv (X.wish E) pins σ H s := ⟨I.ok.wish E, I.os, I.bare, I.base, I.loc, I.cell, I.free, I.freeC, I.pin, I.hok, I.len⟩
theorem Inv.unwish (I : Inv (X.wish E) pins σ H s) : Inv X pins σ H s := ⟨I.ok.unwish, I.os, I.bare, I.base, I.loc, I.cell, I.free, I.freeC, I.pin, I.hok, I.len⟩
theorem SP.unwish {D : Ends} {f : Flow} {s' : Shared} (h : SP (X.wish E) pins D f s') : SP X pins D f s' := by
  cases f with
  | next => obtain ⟨σ', H', I, q⟩ := h; exact ⟨σ', H', I.unwish, q⟩
  | brk => obtain ⟨σ', H', I, q⟩ := h; exact ⟨σ', H', I.unwish, q⟩
  | cont => obtain ⟨σ', H', I, q⟩ := h; exact ⟨σ', H', I.unwish, q⟩
  | ret u => obtain ⟨v, σ', H', I, r, q⟩ := h; exact ⟨v, σ', H', I.unwish, r, q⟩
theorem PSs.nox {st : List Stmt} {t : TS} (h : PSs X.nox st t) : PSs X st t := fun pins s σ H D I hw =>
  wpAny_mono (h pins s σ H D (I.wish _) hw) (fun _ _ q => q.unwish) fun _ _ z => False.elim z
end

/-! ### blocks and small statements -/
section
variable {X : Cx} {st : Stmt} {rest : List Stmt} {t u : TS} {e : Expr} {te : TE} {pos : Pos}
def tNext : TS := fun D σ H => D.nx σ H
def tSeq (t u : TS) : TS := fun D σ H => t { D with nx := u D } σ H
theorem pss_nil : PSs X [] tNext := fun _ _ σ H _ I h => wpAny_execs_nil ⟨σ, H, I, h⟩
theorem pss_cons (h1 : PS X st t) (h2 : PSs X rest u) : PSs X (st :: rest) (tSeq t u) := by
  intro pins s σ H D I h
  refine wpAny_execs_cons (thn (h1 pins s σ H { D with nx := u D } I h) fun f s1 q => ?_)
  cases f with
  | next =>
    obtain ⟨σ', H', I', q⟩ := q
    exact h2 pins s1 σ' H' D I' q
  | ret v => exact q
  | brk => exact q
  | cont => exact q
theorem pss_one (h1 : PS X st t) : PSs X [st] t := by
  intro pins s σ H D I h
  refine wpAny_execs_cons (thn (h1 pins s σ H D I h) fun f s1 q => ?_)
  cases f with
  | next => exact wpAny_execs_nil q
  | ret v => exact q
  | brk => exact q
  | cont => exact q
def tBreak : TS := fun D σ H => D.bk σ H
def tCont : TS := fun D σ H => D.ct σ H
/-- in a def's body nothing is shown -/
theorem Inv.quiet {pins : List (Addr × Obj)} {σ : St} {H : Hp} {s : Shared} (I : Inv X pins σ H s) : interactive X.env = false := by simp [interactive, I.ok.kind]
/-- an expression whose value is dropped -/
def tDrop (te : TE) : TS := fun D σ H => te σ H fun _ H1 => D.nx σ H1
theorem ps_expr (he : PE X e te) (hs : swapsWith e none pos.line X.env = pure false := by rfl) : PS X (.Expr e pos) (tDrop te) := by
  intro pins s σ H D I h
  exact wpAny_Expr_any (thn (he pins s σ H _ I h) fun v s1 ⟨x, H1, I1, r1, q1⟩ => ⟨σ, H1, I1, q1⟩) I.quiet hs
def tRet (te : TE) : TS := fun D σ H => te σ H D.rt
theorem ps_ret (he : PE X e te) : PS X (.Return (some e) pos) (tRet te) := by
  intro pins s σ H D I h
  exact wpAny_Return_some (thn (he pins s σ H _ I h) fun v s1 ⟨x, H1, I1, r1, q1⟩ => ⟨x, σ, H1, I1, r1, q1⟩)
def tRetN : TS := fun D _ H => D.rt .non H
def tIfS (c : TT) (t u : TS) : TS := fun D σ H => c σ H fun b H1 => if b = true then t D σ H1 else u D σ H1
theorem ps_if {c : Expr} {a b : List Stmt} {tc : TT} (hc : PT X c tc) (ha : PSs X a t) (hb : PSs X b u) : PS X (.If c a b pos) (tIfS tc t u) := by
  intro pins s σ H D I h
  refine wpAny_If (thn (hc pins s σ H _ I h) fun d s1 ⟨H1, I1, q1⟩ => ?_)
  cases d with
  | true => exact ha pins s1 σ H1 D I1 q1
  | false => exact hb pins s1 σ H1 D I1 q1
/-- code that the proof never comes to -/
def tNever : TS := fun _ _ _ => False
theorem pss_never {sts : List Stmt} : PSs X sts tNever := fun _ _ _ _ _ _ h => h.elim
end

/-! ### targets -/
abbrev TG := V → St → Hp → (St → Hp → Prop) → Prop
abbrev TGs := List V → St → Hp → (St → Hp → Prop) → Prop
def PG (X : Cx) (target : Expr) (t : TG) : Prop :=
  ∀ (pins : List (Addr × Obj)) (s : Shared) (σ : St) (H : Hp) (v : V) (u : Value) (Q : St → Hp → Prop), Inv X pins σ H s → RelV v u → t v σ H Q →
    wpAny (model X.prog X.w) X.A (assign target X.env u) (fun _ s' => ∃ σ' H', Inv X pins σ' H' s' ∧ Q σ' H') X.xe s
/-- several targets, one after another -/
def PGs (X : Cx) (ts : List Expr) (t : TGs) : Prop :=
  ∀ (pins : List (Addr × Obj)) (s : Shared) (σ : St) (H : Hp) (vs : List V) (us : List Value) (Q : St → Hp → Prop), Inv X pins σ H s → Vals vs us → t vs σ H Q →
    wpAny (model X.prog X.w) X.A (assignInOrder ((assignEach ts X.env).map (·.2)) us) (fun _ s' => ∃ σ' H', Inv X pins σ' H' s' ∧ Q σ' H') X.xe s
/-- o[i] = v, by values -/
abbrev TSet := V → V → V → Hp → (Hp → Prop) → Prop
def PSet (X : Cx) (t : TSet) : Prop :=
  ∀ (pins : List (Addr × Obj)) (s : Shared) (σ : St) (H : Hp) (o i v : V) (ov iv u : Value) (Q : Hp → Prop), Inv X pins σ H s → RelV o ov → RelV i iv → RelV v u → t o i v H Q →
    wpAny (model X.prog X.w) X.A (setItem ov iv u) (fun _ s' => ∃ H', Inv X pins σ H' s' ∧ Q H') X.xe s
/-- a op= b, by values -/
abbrev TIp := V → V → Hp → VK → Prop
def PIp (X : Cx) (op : Operator) (t : TIp) : Prop :=
  ∀ (pins : List (Addr × Obj)) (s : Shared) (σ : St) (H : Hp) (x y : V) (v u : Value) (Q : VK), Inv X pins σ H s → RelV x v → RelV y u → t x y H Q →
    wpAny (model X.prog X.w) X.A (inplaceOp op v u) (EP X pins σ Q) X.xe s
section
variable {X : Cx} {pos : Pos}
def gName (i : Nat) : TG := fun v σ H Q => Q (σ.set i (some v)) H
theorem pg_name {i : Nat} {x : Str} (hN : X.N.Nodup) (hi : X.N[i]? = some x) (hx : Loc X.env.scope x) (hf : X.fn x = true ∨ X.env.scope.names.lookup x = some .local := by first | exact .inl rfl | exact .inr rfl | assumption) : PG X (.Name x pos) (gName i) := by
  intro pins s σ H v u Q I r h
  exact wpAny_assign_Name (store_ok I hN hi hx r (fun s' I' => ⟨_, H, I', h⟩) hf)
def gNil : TGs := fun vs σ H Q => vs = [] ∧ Q σ H
inductive ConsP (t : TG) (u : TGs) (vs : List V) (σ : St) (H : Hp) (Q : St → Hp → Prop) : Prop
  | mk (v : V) (r : List V) (e : vs = v :: r) (q : t v σ H fun σ' H' => u r σ' H' Q)
def gCons (t : TG) (u : TGs) : TGs := fun vs σ H Q => ConsP t u vs σ H Q
theorem pgs_nil : PGs X [] gNil := by
  intro pins s σ H vs us Q I r h
  obtain ⟨e, h⟩ := h
  subst e
  cases r
  exact assignInOrder_nil ⟨σ, H, I, h⟩
theorem pgs_cons {e : Expr} {es : List Expr} {t : TG} {u : TGs} (h1 : PG X e t) (h2 : PGs X es u)
    (hs : (assignEach (e :: es) X.env).map (·.2) = assign e X.env :: (assignEach es X.env).map (·.2) := by rfl) : PGs X (e :: es) (gCons t u) := by
  intro pins s σ H vs us Q I r h
  obtain ⟨v, vr, e1, h⟩ := h
  subst e1
  cases r with
  | cons r rr =>
    rw [hs]
    refine assignInOrder_cons (thn (h1 pins s σ H _ _ _ I r h) fun _ s1 hpat => ?_)
    obtain ⟨σ1, H1, I1, q1⟩ := hpat
    exact h2 pins s1 σ1 H1 _ _ Q I1 rr q1
/-- (a, b, ..) = a tuple of that length -/
inductive TupP (K : PySem.W.Frag) (n : Nat) (t : TGs) (v : V) (σ : St) (H : Hp) (Q : St → Hp → Prop) : Prop
  | mk (a : Addr) (xs : List V) (hv : v = .ref a) (s : SqT K H a xs) (e : xs.length = n) (q : t xs σ H Q)
def gTup (K : PySem.W.Frag) (n : Nat) (t : TGs) : TG := fun v σ H Q => TupP K n t v σ H Q
theorem pg_tup {es : List Expr} {k : Nat} {t : TGs} {n : Nat} (hc : X.calm = true) (h : PGs X es t)
    (hn : (assignEach es X.env).length = n := by rfl) (hst : (assignEach es X.env).findIdx? (·.1) = none := by rfl) : PG X (.Tuple es k pos) (gTup X.K n t) := by
  intro pins s σ H v u Q I r hw
  obtain ⟨a, xs, e1, hq, hl, hw⟩ := hw
  subst e1
  cases r
  obtain ⟨its, rv, ht, hz⟩ := I.tuple hq
  refine assign_Tuple_tuple (I.ok.hd hc) ht (by simp [hn, ← hl, rv.length]) hst fun h' hx => ?_
  have I1 : Inv X pins σ H { s with heap := h' } := I.kept (t' := s.toks) fun b o e => hx b o (Nat.ne_of_lt (Heap.lt_size e)) e
  exact h pins _ σ H xs _ Q I1 (by simpa using rv) hw
/-- o[i] = .. -/
def gSub (to ti : TE) (t : TSet) : TG := fun v σ H Q => to σ H fun o H1 => ti σ H1 fun i H2 => t o i v H2 fun H3 => Q σ H3
/-- target = value -/
def tAsg (te : TE) (g : TG) : TS := fun D σ H => te σ H fun x H1 => g x σ H1 D.nx
theorem ps_asg {tg e : Expr} {te : TE} {g : TG} (he : PE X e te) (hg : PG X tg g) (hs : swapsWithSole [tg] e pos.line X.env = pure false := by rfl) (hw : swappedStores [tg] e X.env = pure none := by rfl)
    (h1 : (assignEach [tg] X.env).map (·.2) = [assign tg X.env] := by rfl) : PS X (.Assign [tg] e pos) (tAsg te g) := by
  intro pins s σ H D I h
  refine wpAny_Assign_stores (thn (he pins s σ H _ I h) fun v s1 hpat => ?_) hs hw
  obtain ⟨x, H1, I1, r1, q1⟩ := hpat
  rw [h1]
  exact thn (hg pins s1 σ H1 x v _ I1 r1 q1) fun _ s2 ⟨a, b, c, d⟩ => ⟨a, b, c, d⟩
/-- name = value -/
theorem ps_set {i : Nat} {x : Str} {e : Expr} {te : TE} {pos' : Pos} (hN : X.N.Nodup) (hi : X.N[i]? = some x) (hx : Loc X.env.scope x) (he : PE X e te) (hs : swapsWith e (some (.Name x pos')) pos.line X.env = pure false := by rfl) (hf : X.fn x = true ∨ X.env.scope.names.lookup x = some .local := by first | exact .inl rfl | exact .inr rfl | assumption) :
    PS X (.Assign [.Name x pos'] e pos) (tAsg te (gName i)) := by
  intro pins s σ H D I h
  refine wpAny_Assign_Name (thn (he pins s σ H _ I h) fun v s1 hpat => ?_) hs
  obtain ⟨y, H1, I1, r1, q1⟩ := hpat
  exact store_ok I1 hN hi hx r1 (fun s2 I2 => ⟨_, H1, I2, q1⟩) hf
/-- a, b = x, y with plain local names: stored from the right; the pair itself is not tracked (the opening rows as in PyProof/Rows/TupAssign.lean:23) -/
def tPar (i j : Nat) (ta : TA) : TS := fun D σ H => ta σ H fun vs H1 => ∃ v w, vs = [v, w] ∧ D.nx ((σ.set i (some v)).set j (some w)) H1
/-- name op= e -/
def tAug (i : Nat) (te : TE) (ti : TIp) : TS := fun D σ H => ∃ x, σ[i]? = some (some x) ∧ te σ H fun y H1 => ti x y H1 fun z H2 => D.nx (σ.set i (some z)) H2
/-- o[i] op= e -/
def tAugS (to ti te : TE) (tget : V → V → Hp → VK → Prop) (tip : TIp) (tset : TSet) : TS := fun D σ H => to σ H fun o H1 => ti σ H1 fun i H2 => tget o i H2 fun x H3 => te σ H3 fun y H4 => tip x y H4 fun z H5 => tset o i z H5 fun H6 => D.nx σ H6
/-- o[i], by values -/
def PGet (X : Cx) (t : V → V → Hp → VK → Prop) : Prop :=
  ∀ (pins : List (Addr × Obj)) (s : Shared) (σ : St) (H : Hp) (o i : V) (ov iv : Value) (Q : VK), Inv X pins σ H s → RelV o ov → RelV i iv → t o i H Q →
    wpAny (model X.prog X.w) X.A (getItem ov iv) (EP X pins σ Q) X.xe s
/-- ints -/
def ipI (f : Int → Int → Int) : TIp := fun x y H Q => ∃ i j, x = .int i ∧ y = .int j ∧ Q (.int (f i j)) H
end

/-! ### while -/
section
variable {X : Cx} {pos : Pos}
/-- the invariant W with its measure -/
def tWhile (c : TT) (tb : TS) : TS := fun D σ H => ∃ W : Nat → St → Hp → Prop, (∃ m, W m σ H) ∧ ∀ m σ H, W m σ H →
  c σ H fun b H1 => if b = true then ∃ N : St → Hp → Prop, (∀ σ' H', N σ' H' → ∃ m', m' < m ∧ W m' σ' H') ∧ tb { D with nx := N, ct := N, bk := D.nx } σ H1 else D.nx σ H1
end

/-! ### what a loop or a comprehension walks -/
/-- at turn i: it yields x (the heap may grow), or it stops -/
structure It where
  go : Nat → Hp → Prop
  yld : Nat → Hp → V → Hp → Prop
  stop : Nat → Hp → Prop
/-- the iterator's own objects may turn: they are not the frame's, not pinned, younger than the entry (or a comprehension's own) -/
def FpOk (X : Cx) (pins : List (Addr × Obj)) (H : Hp) (b : Addr) : Prop :=
  H b = none ∧ b ≠ X.env.locals ∧ b ∉ X.fs ∧ (b ∈ X.ex ∨ X.s₀.heap.objs.size ≤ b) ∧ (∀ x c, X.env.cells.lookup x = some c → c ≠ b) ∧ ∀ p ∈ X.pn ++ pins, p.1 ≠ b
theorem Inv.fpOk {X : Cx} {pins : List (Addr × Obj)} {σ : St} {H H' : Hp} {s : Shared} {b : Addr} (I : Inv X pins σ H s) (hb : s.heap.objs.size ≤ b) (hn : H' b = none) : FpOk X pins H' b := by
  refine ⟨hn, Nat.ne_of_gt (Nat.lt_of_lt_of_le I.lt hb), I.nofs hb, .inr (Nat.le_trans I.sz hb), fun x c e z => ?_, fun p hp z => ?_⟩
  · obtain ⟨v, q⟩ := I.cell x c e
    exact absurd (Nat.lt_of_lt_of_le q.lt (by rw [z]; exact hb)) (Nat.lt_irrefl _)
  · exact absurd (Nat.lt_of_lt_of_le (Heap.lt_size (I.pin p hp).1) (by rw [z]; exact hb)) (Nat.lt_irrefl _)
structure Turn (P : Program) (w : World) (K : PySem.W.Frag) (tg : Expr) (J : It) (fp : List Addr) (it : Addr) (tn : Nat → Heap → Prop) : Prop where
  mem : it ∈ fp
  obj : ∀ i h, tn i h → ∀ b ∈ fp, ∃ o, h.get? b = some o ∧ ∀ v, o.data ≠ .cell v
  keep : ∀ i h h', tn i h → (∀ b ∈ fp, ∀ o, h.get? b = some o → h'.get? b = some o) → tn i h'
  item : ∀ (X : Cx), X.prog = P → X.w = w → X.K = K → X.calm = true → ∀ (i : Nat) (pins : List (Addr × Obj)) (s : Shared) (σ : St) (H : Hp) (E : Value → Shared → Prop), Inv X pins σ H s → (∀ b ∈ fp, FpOk X pins H b) → tn i s.heap → J.go i H →
    wpAny (model P w) X.A (pyNext (.ref it)) (fun r s1 => ∃ u, r = some u ∧
      wpAny (model P w) X.A (letOwnedTupleGo tg (.ref it) u) (fun _ s2 => ∃ x H', Inv X pins σ H' s2 ∧ RelV x u ∧ J.yld i H x H' ∧ tn (i + 1) s2.heap ∧ ∀ b ∈ fp, H' b = none) E s1) E s
  done : ∀ (X : Cx), X.prog = P → X.w = w → X.K = K → X.calm = true → ∀ (i : Nat) (pins : List (Addr × Obj)) (s : Shared) (σ : St) (H : Hp) (E : Value → Shared → Prop), Inv X pins σ H s → (∀ b ∈ fp, FpOk X pins H b) → tn i s.heap → J.stop i H →
    wpAny (model P w) X.A (pyNext (.ref it)) (fun r s1 => r = none ∧ Inv X pins σ H s1) E s
  self : ∀ (A : Around) (i : Nat) (s : Shared) (Q : Value → Shared → Prop) (E : Value → Shared → Prop), tn i s.heap → Q (.ref it) s → wpAny (model P w) A (pyIter (.ref it)) Q E s
abbrev TI := St → Hp → (It → Hp → Prop) → Prop
/-- an iterator has come -/
def PIE (X : Cx) (pins : List (Addr × Obj)) (σ : St) (tg : Expr) (R : It → Hp → Prop) (itv : Value) (s2 : Shared) : Prop :=
  ∃ (it : Addr) (fp : List Addr) (tn : Nat → Heap → Prop) (J : It) (H' : Hp), itv = .ref it ∧ Inv X pins σ H' s2 ∧ Turn X.prog X.w X.K tg J fp it tn ∧ tn 0 s2.heap ∧ (∀ b ∈ fp, FpOk X pins H' b) ∧ R J H'
def PI (X : Cx) (tg iter : Expr) (wi : TI) : Prop :=
  ∀ (pins : List (Addr × Obj)) (s : Shared) (σ : St) (H : Hp) (R : It → Hp → Prop), Inv X pins σ H s → wi σ H R →
    wpAny (model X.prog X.w) X.A (eval iter X.env) (fun v s1 => wpAny (model X.prog X.w) X.A (pyIter v) (PIE X pins σ tg R) X.xe s1) X.xe s

/-- the step ahead of the store is nothing for an iterator that keeps no tuple -/
theorem go_of {M : Model} {A : Around} {E : Value → Shared → Prop} {s : Shared} {tg : Expr} {it : Addr} {u : Value} {o : Obj} {n : String} {vs : Array Value} {Q : Unit → Shared → Prop} (ho : s.heap.get? it = some o) (hc : o.cls = .type n) (hd : o.data = .fields vs)
    (hn : ["enumerate", "zip", "dict_itemiterator", "dict_reverseitemiterator", "odict_iterator", "itertools.zip_longest", "itertools.pairwise"].contains n = false) (hQ : Q () s) : wpAny M A (letOwnedTupleGo tg (.ref it) u) Q E s := by
  unfold letOwnedTupleGo
  cases tg <;> first
    | exact wpAny_pure hQ
    | (cases u <;> first
        | exact wpAny_pure hQ
        | (refine wpAny_bind (wpAny_load ho ?_)
           rw [hc, hd]
           show wpAny M A (if (["enumerate", "zip", "dict_itemiterator", "dict_reverseitemiterator", "odict_iterator", "itertools.zip_longest", "itertools.pairwise"].contains n && vs[0]? == some (rawInt _)) = true then _ else _) Q E s
           rw [if_neg (by intro h; rw [hn, Bool.false_and] at h; cases h)]
           exact wpAny_pure hQ))

/-- the list at a, as it stands at each turn (a loop may append to it) -/
def Itl (K : PySem.W.Frag) (a : Addr) : It :=
  ⟨fun i H => ∃ xs x, SqL K H a xs ∧ xs[i]? = some x, fun i H x H' => H' = H ∧ ∀ xs, SqL K H a xs → xs[i]? = some x, fun i H => ∃ xs, SqL K H a xs ∧ xs.length ≤ i⟩
def Itt (K : PySem.W.Frag) (a : Addr) : It :=
  ⟨fun i H => ∃ xs x, SqT K H a xs ∧ xs[i]? = some x, fun i H x H' => H' = H ∧ ∀ xs, SqT K H a xs → xs[i]? = some x, fun i H => ∃ xs, SqT K H a xs ∧ xs.length ≤ i⟩
/-- lo, lo + 1, .. (n of them) -/
def Itr (lo : Int) (n : Nat) : It := ⟨fun i _ => i < n, fun i H x H' => H' = H ∧ x = .int (lo + i), fun i _ => n ≤ i⟩
theorem turn_list {P : Program} {w : World} {K : PySem.W.Frag} {tg : Expr} (a it : Addr) : Turn P w K tg (Itl K a) [it] it (fun i h => h.IsListIter it a i) where
  mem := by simp
  obj := fun i h st b hb => by
    have e : b = it := by simpa using hb
    subst e
    obtain ⟨o, e, c, d⟩ := st
    exact ⟨o, e, fun v z => by rw [d] at z; cases z⟩
  keep := fun i h h' st k => st.at fun o e => k it (by simp) o e
  item := by
    intro X hP hw hK hc i pins s σ H E I hf st hg
    subst hP hw hK
    obtain ⟨xs, x, hq, hx⟩ := hg
    obtain ⟨its, rv, p, hz⟩ := I.list hq
    obtain ⟨u, hu, ru⟩ := rv.get hx
    obtain ⟨f0, f1, f2, f3, f4, f5⟩ := hf it (by simp)
    refine wpAny_pyNext_list_item st p.isList (x := u) (by simpa using hu) fun h' st' sb => ?_
    have I1 : Inv X pins σ H { s with heap := h' } := I.turned (t' := s.toks) (fun b o hb e => (sb.2 b hb).trans e) f0 f1 f3 f4 f5
    obtain ⟨o, e, c, d⟩ := id st'
    exact ⟨u, rfl, go_of (s := { s with heap := h' }) e c d (by decide) ⟨x, H, I1, ru, ⟨rfl, fun ys hy => by rw [I.list_inj hy hq]; exact hx⟩, st', fun b hb => (hf b hb).1⟩⟩
  done := by
    intro X hP hw hK hc i pins s σ H E I hf st hg
    subst hP hw hK
    obtain ⟨xs, hq, hx⟩ := hg
    obtain ⟨its, rv, p, hz⟩ := I.list hq
    obtain ⟨f0, f1, f2, f3, f4, f5⟩ := hf it (by simp)
    have hl := rv.length
    exact wpAny_pyNext_list_end (I.ok.hd hc) st p.isList (by simp; omega) fun h' eb => ⟨rfl, I.turned (t' := s.toks) (fun b o hb e => eb b o hb e) f0 f1 f3 f4 f5⟩
  self := fun _ _ _ _ _ st h => wpAny_pyIter_listiter st h
theorem turn_tuple {P : Program} {w : World} {K : PySem.W.Frag} {tg : Expr} (a it : Addr) : Turn P w K tg (Itt K a) [it] it (fun i h => h.IsTupleIter it a i) where
  mem := by simp
  obj := fun i h st b hb => by
    have e : b = it := by simpa using hb
    subst e
    obtain ⟨o, e, c, d⟩ := st
    exact ⟨o, e, fun v z => by rw [d] at z; cases z⟩
  keep := fun i h h' st k => st.at fun o e => k it (by simp) o e
  item := by
    intro X hP hw hK hc i pins s σ H E I hf st hg
    subst hP hw hK
    obtain ⟨xs, x, hq, hx⟩ := hg
    obtain ⟨its, rv, p, hz⟩ := I.tuple hq
    obtain ⟨u, hu, ru⟩ := rv.get hx
    obtain ⟨f0, f1, f2, f3, f4, f5⟩ := hf it (by simp)
    refine wpAny_pyNext_tuple_item st (show s.heap.IsTuple a its.toArray from p) (x := u) (by simpa using hu) fun h' st' sb => ?_
    have I1 : Inv X pins σ H { s with heap := h' } := I.turned (t' := s.toks) (fun b o hb e => (sb.2 b hb).trans e) f0 f1 f3 f4 f5
    obtain ⟨o, e, c, d⟩ := id st'
    exact ⟨u, rfl, go_of (s := { s with heap := h' }) e c d (by decide) ⟨x, H, I1, ru, ⟨rfl, fun ys hy => by rw [I.tuple_inj hy hq]; exact hx⟩, st', fun b hb => (hf b hb).1⟩⟩
  done := by
    intro X hP hw hK hc i pins s σ H E I hf st hg
    subst hP hw hK
    obtain ⟨xs, hq, hx⟩ := hg
    obtain ⟨its, rv, p, hz⟩ := I.tuple hq
    obtain ⟨f0, f1, f2, f3, f4, f5⟩ := hf it (by simp)
    have hl := rv.length
    exact wpAny_pyNext_tuple_end (I.ok.hd hc) st (show s.heap.IsTuple a its.toArray from p) (by simp; omega) fun h' eb => ⟨rfl, I.turned (t' := s.toks) (fun b o hb e => eb b o hb e) f0 f1 f3 f4 f5⟩
  self := fun _ _ _ _ _ st h => wpAny_pyIter_tupleiter st h
theorem turn_range {P : Program} {w : World} {K : PySem.W.Frag} {tg : Expr} (it : Addr) (lo : Int) (n : Nat) : Turn P w K tg (Itr lo n) [it] it (fun i h => IsRangeIter h it (lo + (i : Nat) * 1) ((n : Int) - (i : Nat)) 1) where
  mem := by simp
  obj := fun i h st b hb => by
    have e : b = it := by simpa using hb
    subst e
    exact ⟨_, st, fun v z => by
      have z' : Data.fields _ = Data.cell v := z
      cases z'⟩
  keep := fun i h h' st k => k it (by simp) _ st
  item := by
    intro X hP hw hK hc i pins s σ H E I hf st hg
    subst hP hw hK
    obtain ⟨f0, f1, f2, f3, f4, f5⟩ := hf it (by simp)
    have W := Walks.range (prog := X.prog) (w := X.w) (I.ok.hd hc) it lo 1 n
    refine W.item i s _ _ hg st fun v h' tk hv st' kk => ?_
    obtain ⟨t, rfl⟩ := hv
    have I1 : Inv X pins σ H { s with heap := h', toks := tk } := I.turned (fun b o hb e => kk b o (by simpa using hb) e) f0 f1 f3 f4 f5
    refine ⟨_, rfl, go_of (s := { s with heap := h', toks := tk }) (n := "range_iterator") st' rfl rfl (by decide) ⟨.int (lo + i), H, I1, ⟨t, ?_⟩, ⟨rfl, rfl⟩, st', fun b hb => (hf b hb).1⟩⟩
    rw [Int.mul_one]
  done := by
    intro X hP hw hK hc i pins s σ H E I hf st hg
    subst hP hw hK
    obtain ⟨f0, f1, f2, f3, f4, f5⟩ := hf it (by simp)
    exact wpAny_pyNext_range_end (I.ok.hd hc) st (by have : n ≤ i := hg; omega) fun h' eb => ⟨rfl, I.turned (t' := s.toks) (fun b o hb e => eb b o hb e) f0 f1 f3 f4 f5⟩
  self := fun _ _ _ _ _ st h => wpAny_pyIter_rangeiter st h
end L2

namespace L2
open PySem PySem.Spec PyProof.Rows
section
variable {X : Cx} {tg : Expr}
inductive IListP (K : PySem.W.Frag) (x : V) (H : Hp) (R : It → Hp → Prop) : Prop
  | mk (a : Addr) (e : x = .ref a) (s : ∃ xs, SqL K H a xs) (q : R (Itl K a) H)
def iList (K : PySem.W.Frag) (tl : TE) : TI := fun σ H R => tl σ H fun x H1 => IListP K x H1 R
def iTup (K : PySem.W.Frag) (tl : TE) : TI := fun σ H R => tl σ H fun x H1 => ∃ a, x = .ref a ∧ (∃ xs, SqT K H1 a xs) ∧ R (Itt K a) H1
theorem pi_list {l : Expr} {tl : TE} (hl : PE X l tl) : PI X tg l (iList X.K tl) := by
  intro pins s σ H R I h
  refine thn (hl pins s σ H _ I h) fun v s1 hpat => ?_
  obtain ⟨x, H1, I1, r1, q1⟩ := hpat
  obtain ⟨a, e, ⟨xs, hq⟩, q⟩ := q1
  subst e
  cases r1
  obtain ⟨its, rv, p, hz⟩ := I1.list hq
  refine wpAny_pyIter_list p.isList ?_
  refine ⟨s1.heap.objs.size, [s1.heap.objs.size], _, _, H1, rfl, I1.kept (t' := s1.toks) fun b o e => Heap.get?_push_of_some _ e, turn_list a _, ⟨_, Heap.get?_push_size _ rfl, rfl, rfl⟩, fun b hb => ?_, q⟩
  have e : b = s1.heap.objs.size := by simpa using hb
  subst e
  exact I1.fpOk (Nat.le_refl _) (I1.hok.fresh (Nat.le_refl _))
theorem pi_tup {l : Expr} {tl : TE} (hl : PE X l tl) : PI X tg l (iTup X.K tl) := by
  intro pins s σ H R I h
  refine thn (hl pins s σ H _ I h) fun v s1 hpat => ?_
  obtain ⟨x, H1, I1, r1, q1⟩ := hpat
  obtain ⟨a, e, ⟨xs, hq⟩, q⟩ := q1
  subst e
  cases r1
  obtain ⟨its, rv, p, hz⟩ := I1.tuple hq
  refine wpAny_pyIter_tuple (show s1.heap.IsTuple a its.toArray from p) ?_
  refine ⟨s1.heap.objs.size, [s1.heap.objs.size], _, _, H1, rfl, I1.kept (t' := s1.toks) fun b o e => Heap.get?_push_of_some _ e, turn_tuple a _, ⟨_, Heap.get?_push_size _ rfl, rfl, rfl⟩, fun b hb => ?_, q⟩
  have e : b = s1.heap.objs.size := by simpa using hb
  subst e
  exact I1.fpOk (Nat.le_refl _) (I1.hok.fresh (Nat.le_refl _))
/-- a range object just made, walked -/
theorem range_it {pins : List (Addr × Obj)} {σ : St} {H : Hp} {s : Shared} {R : It → Hp → Prop} {E : Value → Shared → Prop} {lo hi : Int} {t u v : Tok} {tk : Nat} (I : Inv X pins σ H s) (h1 : -(2 ^ 62) ≤ lo) (h2 : lo < 2 ^ 62) (h3 : -(2 ^ 62) ≤ hi) (h4 : hi < 2 ^ 62)
    (q : R (Itr lo (hi - lo).toNat) H) : wpAny (model X.prog X.w) X.A (pyIter (.ref s.heap.objs.size)) (PIE X pins σ tg R) E { s with heap := s.heap.push { cls := .type "range", data := .fields #[.int lo t, .int hi u, .int 1 v] }, toks := tk } := by
  refine wpAny_pyIter_range (IsRange.new ..) (small_one h1 h2 h3 h4) ?_
  have I1 : Inv X pins σ H { s with heap := s.heap.push { cls := .type "range", data := .fields #[.int lo t, .int hi u, .int 1 v] }, toks := tk } := I.kept fun b o e => Heap.get?_push_of_some _ e
  refine ⟨(s.heap.push { cls := .type "range", data := .fields #[.int lo t, .int hi u, .int 1 v] }).objs.size, [(s.heap.push { cls := .type "range", data := .fields #[.int lo t, .int hi u, .int 1 v] }).objs.size], _, _, H, rfl,
    I1.kept (t' := tk) fun b o e => Heap.get?_push_of_some _ e, turn_range _ lo (hi - lo).toNat, ?_, fun b hb => ?_, q⟩
  · have e1 : lo + ((0 : Nat) : Int) * 1 = lo := by simp
    have e2 : (((hi - lo).toNat : Nat) : Int) - ((0 : Nat) : Int) = Builtin.Range.rangeSize lo hi 1 := by rw [rangeSize_one]; split <;> omega
    show IsRangeIter _ _ (lo + ((0 : Nat) : Int) * 1) ((((hi - lo).toNat : Nat) : Int) - ((0 : Nat) : Int)) 1
    rw [e1, e2]
    exact Heap.get?_push_size _ rfl
  · have e : b = (s.heap.push { cls := .type "range", data := .fields #[.int lo t, .int hi u, .int 1 v] }).objs.size := by simpa using hb
    subst e
    exact I1.fpOk (Nat.le_refl _) (I1.hok.fresh (Nat.le_refl _))
def iRng1 (ta : TA) : TI := fun σ H R => ta σ H fun vs H1 => ∃ j : Int, vs = [.int j] ∧ -(2 ^ 62) ≤ j ∧ j < 2 ^ 62 ∧ R (Itr 0 j.toNat) H1
def iRng2 (ta : TA) : TI := fun σ H R => ta σ H fun vs H1 => ∃ i j : Int, vs = [.int i, .int j] ∧ (-(2 ^ 62) ≤ i ∧ i < 2 ^ 62 ∧ -(2 ^ 62) ≤ j ∧ j < 2 ^ 62) ∧ R (Itr i (j - i).toNat) H1
theorem pi_range1 {a : Expr} {ta : TA} {p pos : Pos} (hg : Gl X "range") (hm : X.mg "range" = none) (ha : PA X [a] ta) (hs : starEach [a] X.env = [(false, eval a X.env)] := by rfl) : PI X tg (.Call (.Name "range" p) [a] [] pos) (iRng1 ta) := by
  intro pins s σ H R I h
  refine Call_ (ld_blt I hg hm boot_range (PyProof.Rows.callWith_type1 (thn (ha pos pins s σ H _ I h) fun us s1 hpat => ?_) hs rfl))
  obtain ⟨vs, H1, I1, r1, q1⟩ := hpat
  obtain ⟨j, e, q1, q2, q⟩ := q1
  subst e
  cases r1 with
  | cons r rr =>
    cases rr
    obtain ⟨t, rfl⟩ := r
    exact call_range_1 (range_it I1 (by omega) (by omega) q1 q2 (by simpa using q))
theorem pi_range2 {a b : Expr} {ta : TA} {p pos : Pos} (hg : Gl X "range") (hm : X.mg "range" = none) (ha : PA X [a, b] ta) (hs : starEach [a, b] X.env = [(false, eval a X.env), (false, eval b X.env)] := by rfl) (hs2 : starEach [b] X.env = [(false, eval b X.env)] := by rfl) :
    PI X tg (.Call (.Name "range" p) [a, b] [] pos) (iRng2 ta) := by
  intro pins s σ H R I h
  refine Call_ (ld_blt I hg hm boot_range (PyProof.Rows.callWith_type1 (thn (ha pos pins s σ H _ I h) fun us s1 hpat => ?_) (by rw [hs, hs2]) (by rw [hs2]; rfl)))
  obtain ⟨vs, H1, I1, r1, q1⟩ := hpat
  obtain ⟨i, j, e, ⟨q1, q2, q3, q4⟩, q⟩ := q1
  subst e
  cases r1 with
  | cons r rr =>
    cases rr with
    | cons r' rr =>
      cases rr
      obtain ⟨t, rfl⟩ := r
      obtain ⟨t', rfl⟩ := r'
      exact call_range_2 (range_it I1 q1 q2 q3 q4 q)

/-! ### for -/
/-- W: the invariant by the turn and a measure; N: what the body is to reach -/
def tFor (wi : TI) (g : TG) (tb : TS) : TS := fun D σ H => wi σ H fun J H1 => ∃ W : Nat → Nat → St → Hp → Prop, (∃ m, W 0 m σ H1) ∧ ∀ i m σ H, W i m σ H →
  (J.stop i H ∧ D.nx σ H) ∨ (J.go i H ∧ ∃ N : St → Hp → Prop, (∀ σ' H', N σ' H' → ∃ m', m' < m ∧ W (i + 1) m' σ' H') ∧ ∀ x H', J.yld i H x H' → g x σ H' fun σ2 H2 => tb { D with nx := N, ct := N, bk := D.nx } σ2 H2)
/-- the records at fp as they stand -/
def pinsAt (fp : List Addr) (h : Heap) : List (Addr × Obj) := fp.filterMap fun b => (h.get? b).map fun o => (b, o)
theorem mem_pinsAt {fp : List Addr} {h : Heap} {b : Addr} {o : Obj} (hb : b ∈ fp) (e : h.get? b = some o) : (b, o) ∈ pinsAt fp h := List.mem_filterMap.mpr ⟨b, hb, by rw [e]; rfl⟩
theorem of_pinsAt {fp : List Addr} {h : Heap} {p : Addr × Obj} (hp : p ∈ pinsAt fp h) : p.1 ∈ fp ∧ h.get? p.1 = some p.2 := by
  obtain ⟨b, hb, e⟩ := List.mem_filterMap.mp hp
  cases q : h.get? b with
  | none => rw [q] at e; cases e
  | some o =>
    rw [q] at e
    have e' : (b, o) = p := Option.some.inj e
    subst e'
    exact ⟨hb, q⟩
theorem Inv.pinned {pins : List (Addr × Obj)} {σ : St} {H : Hp} {s : Shared} {fp : List Addr} (I : Inv X pins σ H s) (hf : ∀ b ∈ fp, FpOk X pins H b) (ho : ∀ b ∈ fp, ∃ o, s.heap.get? b = some o ∧ ∀ v, o.data ≠ .cell v) : Inv X (pins ++ pinsAt fp s.heap) σ H s :=
  I.pins_of fun p hp => (List.mem_append.mp hp).elim (fun z => I.pin p (List.mem_append_right _ z)) fun z => by
    obtain ⟨hb, e⟩ := of_pinsAt z
    obtain ⟨f0, f1, f2, _⟩ := hf p.1 hb
    obtain ⟨o, e', d⟩ := ho p.1 hb
    rw [e] at e'; cases e'
    exact ⟨e, f0, f1, f2, d⟩
theorem Inv.unpinned {pins pl : List (Addr × Obj)} {σ : St} {H : Hp} {s : Shared} (I : Inv X (pins ++ pl) σ H s) : Inv X pins σ H s := I.pins_of fun p hp => I.pin p (List.mem_append_right _ (List.mem_append_left _ hp))
theorem ps_for {iter : Expr} {body : List Stmt} {wi : TI} {g : TG} {tb : TS} {pos : Pos} (hp : PassesOwn (model X.prog X.w) X.A X.env X.xe) (hc : X.calm = true) (hi : PI X tg iter wi) (hg : PG X tg g) (hb : PSs X body tb)
    (hs : ∀ x, foldedSetIterable iter X.env x = pure x := by intro _; rfl) : PS X (.For tg iter body [] pos) (tFor wi g tb) := by
  intro pins s σ H D I h
  refine wpAny_For (thn (hi pins s σ H _ I h) fun v s1 h1 => thn h1 fun itv s2 h2 => ?_) hs
  obtain ⟨it, fp, tn, J, H2, e, I2, T, st2, f2, W, ⟨m0, w0⟩, turn⟩ := h2
  subst e
  -- what stays true of the iterator's objects through the loop
  have stat : ∀ {H' : Hp}, (∀ b ∈ fp, H' b = none) → ∀ b ∈ fp, FpOk X pins H' b := fun hn b hb => ⟨hn b hb, (f2 b hb).2⟩
  refine codeAny_forLoop_any (fun n s' => ∃ i σ' H', Inv X pins σ' H' s' ∧ tn i s'.heap ∧ (∀ b ∈ fp, H' b = none) ∧ W i n σ' H') ?_ m0 ⟨0, σ, H2, I2, st2, fun b hb => (f2 b hb).1, w0⟩
  rintro n s3 ⟨i, σ3, H3, I3, st3, fr3, w3⟩
  rcases turn i n σ3 H3 w3 with ⟨stop, qn⟩ | ⟨go, N, hN, step⟩
  · refine wpAny_passesOwn hp (thn (T.done X rfl rfl rfl hc i pins s3 σ3 H3 X.xe I3 (stat fr3) st3 stop) fun r s4 ⟨hr, I4⟩ => ?_)
    subst hr
    exact wpAny_execs_nil ⟨σ3, H3, I4, qn⟩
  · refine wpAny_passesOwn hp (thn (T.item X rfl rfl rfl hc i pins s3 σ3 H3 X.xe I3 (stat fr3) st3 go) fun r s4 ⟨u, hr, h4⟩ => ?_)
    subst hr
    refine wpAny_passesOwn hp (thn h4 fun _ s5 hpat => ?_)
    obtain ⟨x, H5, I5, r5, y5, st5, fr5⟩ := hpat
    have I5' := I5.pinned (stat fr5) (T.obj _ _ st5)
    refine wpAny_passesOwn hp (thn (hg _ s5 σ3 H5 x u _ I5' r5 (step x H5 y5)) fun _ s6 hpat => ?_)
    obtain ⟨σ6, H6, I6, q6⟩ := hpat
    refine wpAny_passesOwn hp (thn (hb _ s6 σ6 H6 _ I6 q6) fun f s7 q7 => ?_)
    have again : ∀ {σ7 : St} {H7 : Hp}, Inv X (pins ++ pinsAt fp s5.heap) σ7 H7 s7 → N σ7 H7 → ∃ m, m < n ∧ ∃ i σ' H', Inv X pins σ' H' s7 ∧ tn i s7.heap ∧ (∀ b ∈ fp, H' b = none) ∧ W i m σ' H' := fun {σ7 H7} I7 n7 => by
      obtain ⟨m', hm, w7⟩ := hN σ7 H7 n7
      refine ⟨m', hm, i + 1, σ7, H7, I7.unpinned, T.keep _ _ _ st5 fun b hb o e => (I7.pin (b, o) (List.mem_append_right _ (List.mem_append_right _ (mem_pinsAt hb e)))).1, fun b hb => ?_, w7⟩
      obtain ⟨o, e, d⟩ := T.obj _ _ st5 b hb
      exact (I7.pin (b, o) (List.mem_append_right _ (List.mem_append_right _ (mem_pinsAt hb e)))).2.1
    cases f with
    | next => obtain ⟨σ7, H7, I7, n7⟩ := q7; exact again I7 n7
    | cont => obtain ⟨σ7, H7, I7, n7⟩ := q7; exact again I7 n7
    | brk => obtain ⟨σ7, H7, I7, q7⟩ := q7; exact ⟨σ7, H7, I7.unpinned, q7⟩
    | ret v => obtain ⟨x7, σ7, H7, I7, r7, q7⟩ := q7; exact ⟨x7, σ7, H7, I7.unpinned, r7, q7⟩
end

/-! ### the forms one uses -/
/-- over a list that the body leaves as it is -/
theorem for_list {K : PySem.W.Frag} {a : Addr} {xs : List V} {g : TG} {tb : TS} {D : Ends} {σ : St} {H : Hp} (Pv : Nat → St → Hp → Prop) (h0 : Pv 0 σ H) (hl : ∀ i σ H, i ≤ xs.length → Pv i σ H → SqL K H a xs)
    (hs : ∀ i x σ H, xs[i]? = some x → Pv i σ H → g x σ H fun σ2 H2 => tb { D with nx := Pv (i + 1), ct := Pv (i + 1), bk := D.nx } σ2 H2) (hd : ∀ σ H, Pv xs.length σ H → D.nx σ H) :
    ∃ W : Nat → Nat → St → Hp → Prop, (∃ m, W 0 m σ H) ∧ ∀ i m σ H, W i m σ H →
      ((Itl K a).stop i H ∧ D.nx σ H) ∨ ((Itl K a).go i H ∧ ∃ N : St → Hp → Prop, (∀ σ' H', N σ' H' → ∃ m', m' < m ∧ W (i + 1) m' σ' H') ∧ ∀ x H', (Itl K a).yld i H x H' → g x σ H' fun σ2 H2 => tb { D with nx := N, ct := N, bk := D.nx } σ2 H2) := by
  refine ⟨fun i m σ H => m = xs.length - i ∧ i ≤ xs.length ∧ Pv i σ H, ⟨xs.length, by simp, Nat.zero_le _, h0⟩, ?_⟩
  rintro i m σ H ⟨rfl, hi, p⟩
  have q := hl i σ H hi p
  by_cases hlt : i < xs.length
  · refine .inr ⟨⟨xs, xs[i], q, by simp [hlt]⟩, Pv (i + 1), fun σ' H' p' => ⟨xs.length - (i + 1), by omega, rfl, hlt, p'⟩, fun x H' y => ?_⟩
    obtain ⟨e, y⟩ := y
    subst e
    exact hs i x σ _ (y xs q) p
  · have e : i = xs.length := by omega
    subst e
    exact .inl ⟨⟨xs, q, Nat.le_refl _⟩, hd σ H p⟩
theorem for_range {lo : Int} {n : Nat} {g : TG} {tb : TS} {D : Ends} {σ : St} {H : Hp} (Pv : Nat → St → Hp → Prop) (h0 : Pv 0 σ H)
    (hs : ∀ i σ H, i < n → Pv i σ H → g (.int (lo + i)) σ H fun σ2 H2 => tb { D with nx := Pv (i + 1), ct := Pv (i + 1), bk := D.nx } σ2 H2) (hd : ∀ σ H, Pv n σ H → D.nx σ H) :
    ∃ W : Nat → Nat → St → Hp → Prop, (∃ m, W 0 m σ H) ∧ ∀ i m σ H, W i m σ H →
      ((Itr lo n).stop i H ∧ D.nx σ H) ∨ ((Itr lo n).go i H ∧ ∃ N : St → Hp → Prop, (∀ σ' H', N σ' H' → ∃ m', m' < m ∧ W (i + 1) m' σ' H') ∧ ∀ x H', (Itr lo n).yld i H x H' → g x σ H' fun σ2 H2 => tb { D with nx := N, ct := N, bk := D.nx } σ2 H2) := by
  refine ⟨fun i m σ H => m = n - i ∧ i ≤ n ∧ Pv i σ H, ⟨n, by simp, Nat.zero_le _, h0⟩, ?_⟩
  rintro i m σ H ⟨rfl, hi, p⟩
  by_cases hlt : i < n
  · refine .inr ⟨hlt, Pv (i + 1), fun σ' H' p' => ⟨n - (i + 1), by omega, rfl, hlt, p'⟩, fun x H' y => ?_⟩
    obtain ⟨e, y⟩ := y
    subst e y
    exact hs i σ _ hlt p
  · have e : i = n := by omega
    subst e
    exact .inl ⟨Nat.le_refl _, hd σ H p⟩
end L2

namespace L2
open PySem PySem.Spec PyProof.Rows

abbrev R2 := V → V → Hp → VK → Prop
/-- a two-place operation on values: f is binaryOp op, inplaceOp op or compareOp op -/
def OpR (X : Cx) (f : Value → Value → Sem Value) (r : R2) : Prop :=
  ∀ (pins : List (Addr × Obj)) (s : Shared) (σ : St) (H : Hp) (x y : V) (v u : Value) (Q : VK), Inv X pins σ H s → RelV x v → RelV y u → r x y H Q →
    wpAny (model X.prog X.w) X.A (f v u) (EP X pins σ Q) X.xe s
/-- a one-place operation -/
def UnR (X : Cx) (f : Value → Sem Value) (r : V → Hp → VK → Prop) : Prop :=
  ∀ (pins : List (Addr × Obj)) (s : Shared) (σ : St) (H : Hp) (x : V) (v : Value) (Q : VK), Inv X pins σ H s → RelV x v → r x H Q →
    wpAny (model X.prog X.w) X.A (f v) (EP X pins σ Q) X.xe s
/-- a call of a value that is known (a builtin, a type) with values -/
def CallR (X : Cx) (f : Value) (r : List V → Hp → VK → Prop) : Prop :=
  ∀ (pins : List (Addr × Obj)) (s : Shared) (σ : St) (H : Hp) (xs : List V) (us : List Value) (Q : VK), Inv X pins σ H s → Vals xs us → r xs H Q →
    wpAny (model X.prog X.w) X.A (call f us) (EP X pins σ Q) X.xe s
/-- a value's truth -/
def TruR (X : Cx) (r : V → Hp → (Bool → Hp → Prop) → Prop) : Prop :=
  ∀ (pins : List (Addr × Obj)) (s : Shared) (σ : St) (H : Hp) (x : V) (v : Value) (Q : Bool → Hp → Prop), Inv X pins σ H s → RelV x v → r x H Q →
    wpAny (model X.prog X.w) X.A (truthy v) (TP X pins σ Q) X.xe s

def tOp (r : R2) (ta tb : TE) : TE := fun σ H Q => ta σ H fun x H1 => tb σ H1 fun y H2 => r x y H2 Q
def tUn (r : V → Hp → VK → Prop) (ta : TE) : TE := fun σ H Q => ta σ H fun x H1 => r x H1 Q
/-- ints in, under C, and a value out -/
inductive IntP (C : Int → Int → Prop) (g : Int → Int → V) (x y : V) (H : Hp) (Q : VK) : Prop
  | mk (i j : Int) (hx : x = .int i) (hy : y = .int j) (c : C i j) (q : Q (g i j) H)
inductive IntP0 (g : Int → Int → V) (x y : V) (H : Hp) (Q : VK) : Prop
  | mk (i j : Int) (hx : x = .int i) (hy : y = .int j) (q : Q (g i j) H)
def rI (C : Int → Int → Prop) (g : Int → Int → V) : R2 := fun x y H Q => IntP C g x y H Q
def rI0 (g : Int → Int → V) : R2 := fun x y H Q => IntP0 g x y H Q
def rU (g : Int → V) : V → Hp → VK → Prop := fun x H Q => ∃ i, x = .int i ∧ Q (g i) H

section
variable {X : Cx} {a b c : Expr} {ta tb tc : TE} {pos : Pos}

theorem binT (ha : PE X a ta) (hb : PE X b tb) {pins : List (Addr × Obj)} {s : Shared} {σ : St} {H : Hp} {R : V → V → Hp → Prop} (I : Inv X pins σ H s)
    (h : ta σ H fun x H1 => tb σ H1 fun y H2 => R x y H2) {Q : Value → Shared → Prop} {f : Value → Value → Sem Value}
    (hf : ∀ v u s2 x y H2, Inv X pins σ H2 s2 → RelV x v → RelV y u → R x y H2 → wpAny (model X.prog X.w) X.A (f v u) Q X.xe s2) :
    wpAny (model X.prog X.w) X.A (eval a X.env) (fun v s₁ => wpAny (model X.prog X.w) X.A (eval b X.env) (fun u s₂ => wpAny (model X.prog X.w) X.A (f v u) Q X.xe s₂) X.xe s₁) X.xe s := by
  refine thn (ha pins s σ H _ I h) fun v s1 hpat => ?_
  obtain ⟨x, H1, I1, r1, q1⟩ := hpat
  refine thn (hb pins s1 σ H1 _ I1 q1) fun u s2 hpat => ?_
  obtain ⟨y, H2, I2, r2, q2⟩ := hpat
  exact hf v u s2 x y H2 I2 r1 r2 q2

theorem pe_op {op : Operator} {r : R2} (ho : OpR X (binaryOp op) r) (ha : PE X a ta) (hb : PE X b tb) : PE X (.BinOp a op b pos) (tOp r ta tb) := by
  intro pins s σ H Q I h
  exact wpAny_BinOp (binT ha hb I h fun v u s2 x y H2 I2 rx ry q => ho pins s2 σ H2 x y v u Q I2 rx ry q)
theorem pe_un {op : UnaryOp} {r : V → Hp → VK → Prop} (ho : UnR X (unaryOp op) r) (ha : PE X a ta) : PE X (.UnaryOp op a pos) (tUn r ta) := by
  intro pins s σ H Q I h
  exact UnaryOp_ (thn (ha pins s σ H _ I h) fun v s1 ⟨x, H1, I1, r1, q1⟩ => ho pins s1 σ H1 x v Q I1 r1 q1)

/-! ### ints -/
theorem opI {f : Value → Value → Sem Value} {C : Int → Int → Prop} {g : Int → Int → Int}
    (rule : ∀ (i j : Int) (t u : Tok) (s : Shared) (Q : Value → Shared → Prop) (E : Value → Shared → Prop), C i j → Q (.int (g i j) s.toks) { s with toks := s.toks + 1 } → wpAny (model X.prog X.w) X.A (f (.int i t) (.int j u)) Q E s) :
    OpR X f (rI C fun i j => .int (g i j)) := by
  intro pins s σ H x y v u Q I rx ry h
  obtain ⟨i, j, rfl, rfl, hc, q⟩ := h
  obtain ⟨t, rfl⟩ := rx
  obtain ⟨t', rfl⟩ := ry
  exact rule i j t t' s _ _ hc ⟨.int (g i j), H, I.tok _, ⟨_, rfl⟩, q⟩
theorem opI0 {f : Value → Value → Sem Value} {g : Int → Int → Int}
    (rule : ∀ (i j : Int) (t u : Tok) (s : Shared) (Q : Value → Shared → Prop) (E : Value → Shared → Prop), Q (.int (g i j) s.toks) { s with toks := s.toks + 1 } → wpAny (model X.prog X.w) X.A (f (.int i t) (.int j u)) Q E s) :
    OpR X f (rI0 fun i j => .int (g i j)) := by
  intro pins s σ H x y v u Q I rx ry h
  obtain ⟨i, j, rfl, rfl, q⟩ := h
  obtain ⟨t, rfl⟩ := rx
  obtain ⟨t', rfl⟩ := ry
  exact rule i j t t' s _ _ ⟨.int (g i j), H, I.tok _, ⟨_, rfl⟩, q⟩
theorem opB0 {f : Value → Value → Sem Value} {g : Int → Int → Bool}
    (rule : ∀ (i j : Int) (t u : Tok) (s : Shared) (Q : Value → Shared → Prop) (E : Value → Shared → Prop), Q (.bool (g i j)) s → wpAny (model X.prog X.w) X.A (f (.int i t) (.int j u)) Q E s) :
    OpR X f (rI0 fun i j => .bl (g i j)) := by
  intro pins s σ H x y v u Q I rx ry h
  obtain ⟨i, j, rfl, rfl, q⟩ := h
  obtain ⟨t, rfl⟩ := rx
  obtain ⟨t', rfl⟩ := ry
  exact rule i j t t' s _ _ ⟨.bl (g i j), H, I, rfl, q⟩

def CDiv (i j : Int) : Prop := 0 < j ∧ j < 1073741824
def CDivN (i j : Int) : Prop := j ≠ 0 ∧ j.natAbs < 1073741824
def CPow (i j : Int) : Prop := 0 ≤ j ∧ j ≤ 1000000 ∧ i.natAbs < 2 ^ 64
def CMul (i j : Int) : Prop := (-(2 ^ 64) < i ∧ i < 2 ^ 64) ∨ (-(2 ^ 64) < j ∧ j < 2 ^ 64)
theorem CMul.ok {i j : Int} (h : CMul i j) : IntMulOk i j := by
  rcases h with ⟨h1, h2⟩ | ⟨h1, h2⟩
  · exact .of_left (intBits_le_64 h1 h2)
  · exact .of_right (intBits_le_64 h1 h2)

theorem op_add : OpR X (binaryOp .Add) (rI0 fun i j => .int (i + j)) := opI0 fun _ _ _ _ _ _ _ q => add_int q
theorem op_sub : OpR X (binaryOp .Sub) (rI0 fun i j => .int (i - j)) := opI0 fun _ _ _ _ _ _ _ q => sub_int q
theorem op_mul : OpR X (binaryOp .Mult) (rI CMul fun i j => .int (i * j)) := opI fun _ _ _ _ _ _ _ hc q => mul_int q hc.ok
/-- // by a positive divisor -/
theorem op_fdiv : OpR X (binaryOp .FloorDiv) (rI CDiv fun i j => .int (i / j)) := opI fun i j _ _ _ _ _ hc q => by
  have h1 : (0 : Int) < j := hc.1
  have h2 : j < 1073741824 := hc.2
  exact floordiv_int (by omega) (by rw [Int.fdiv_eq_ediv_of_nonneg i (by omega)]; exact q) (.inl (PyProof.noPylong_small (by omega)))
/-- % by a positive divisor of any size -/
theorem op_mod : OpR X (binaryOp .Mod) (rI (fun _ j => 0 < j) fun i j => .int (i % j)) := opI fun i j _ _ _ _ _ hc q => by
  have h1 : (0 : Int) < j := hc
  exact mod_int' (by omega) (by rw [Int.fmod_eq_emod_of_nonneg i (by omega)]; exact q)
theorem op_pow : OpR X (binaryOp .Pow) (rI CPow fun i j => .int (i ^ j.toNat)) := opI fun _ _ _ _ _ _ _ hc q => pow_int_small hc.1 hc.2.1 hc.2.2 q


theorem unI {f : Value → Sem Value} {g : Int → Int}
    (rule : ∀ (i : Int) (t : Tok) (s : Shared) (Q : Value → Shared → Prop) (E : Value → Shared → Prop), Q (.int (g i) s.toks) { s with toks := s.toks + 1 } → wpAny (model X.prog X.w) X.A (f (.int i t)) Q E s) :
    UnR X f (rU fun i => .int (g i)) := by
  intro pins s σ H x v Q I rx h
  obtain ⟨i, rfl, q⟩ := h
  obtain ⟨t, rfl⟩ := rx
  exact rule i t s _ _ ⟨.int (g i), H, I.tok _, ⟨_, rfl⟩, q⟩
theorem un_neg : UnR X (unaryOp .USub) (rU fun i => .int (-i)) := unI fun _ _ _ _ _ q => neg_int q

/-! ### bools among ints: n += (a < b) -/
end

/-! ### comparisons -/
/-- the scalars that == tells apart as data does -/
def scal : V → V → Bool
  | .non, .non => true | .non, .int _ => true | .int _, .non => true | .non, .bl _ => true | .bl _, .non => true | .non, .str _ => true | .str _, .non => true
  | .int _, .int _ => true | .bl _, .bl _ => true | .str _, .str _ => true | .byt _, .byt _ => true
  | .int _, .str _ => true | .str _, .int _ => true | .bl _, .str _ => true | .str _, .bl _ => true
  | _, _ => false
def rEq : R2 := fun x y H Q => scal x y = true ∧ Q (.bl (decide (x = y))) H
def rNe : R2 := fun x y H Q => scal x y = true ∧ Q (.bl (!decide (x = y))) H

theorem dec_int {i j : Int} : decide (V.int i = V.int j) = (i == j) := by
  rw [Bool.eq_iff_iff]
  simp
theorem dec_bl {i j : Bool} : decide (V.bl i = V.bl j) = (i == j) := by
  rw [Bool.eq_iff_iff]
  simp
theorem dec_str {i j : Str} : decide (V.str i = V.str j) = (i == j) := by
  rw [Bool.eq_iff_iff]
  simp
theorem dec_byt {i j : Array UInt8} : decide (V.byt i = V.byt j) = (i.toList == j.toList) := by
  rw [Bool.eq_iff_iff]
  cases i
  cases j
  simp

section
variable {X : Cx} {a b c : Expr} {ta tb tc : TE} {pos : Pos}
theorem fin_bl {pins : List (Addr × Obj)} {σ : St} {H : Hp} {s : Shared} {Q : VK} {k k' : Bool} (I : Inv X pins σ H s) (q : Q (.bl k) H) (e : k = k') : EP X pins σ Q (.bool k') s := by
  subst e
  exact ⟨.bl k, H, I, rfl, q⟩
theorem op_eq : OpR X (compareOp .Eq) rEq := by
  intro pins s σ H x y v u Q I rx ry h
  obtain ⟨hs, q⟩ := h
  cases x with
  | non =>
    cases rx
    cases y with
    | non => cases ry; exact PySem.EqNone.eq_none_none (fin_bl I q (by simp))
    | bl j => cases ry; exact PySem.EqNone.eq_none_bool (fin_bl I q (by simp))
    | int j => obtain ⟨t', rfl⟩ := ry; exact PySem.EqNone.eq_none_int (fin_bl I q (by simp))
    | str j => obtain ⟨t', rfl⟩ := ry; exact PySem.EqNone.eq_none_str (fin_bl I q (by simp))
    | _ => exact absurd (show false = true from hs) Bool.false_ne_true
  | bl i =>
    cases rx
    cases y with
    | non => cases ry; exact PySem.EqNone.eq_bool_none (fin_bl I q (by simp))
    | bl j => cases ry; exact eq_bool (fin_bl I q dec_bl)
    | str j => obtain ⟨t', rfl⟩ := ry; exact PySem.EqMixed.eq_bool_str (fin_bl I q (by simp))
    | _ => exact absurd (show false = true from hs) Bool.false_ne_true
  | int i =>
    obtain ⟨t, rfl⟩ := rx
    cases y with
    | non => cases ry; exact PySem.EqNone.eq_int_none (fin_bl I q (by simp))
    | int j => obtain ⟨t', rfl⟩ := ry; exact eq_int (fin_bl I q dec_int)
    | str j => obtain ⟨t', rfl⟩ := ry; exact PySem.EqMixed.eq_int_str (fin_bl I q (by simp))
    | _ => exact absurd (show false = true from hs) Bool.false_ne_true
  | str i =>
    obtain ⟨t, rfl⟩ := rx
    cases y with
    | non => cases ry; exact PySem.EqNone.eq_str_none (fin_bl I q (by simp))
    | bl j => cases ry; exact PySem.EqMixed.eq_str_bool (fin_bl I q (by simp))
    | int j => obtain ⟨t', rfl⟩ := ry; exact PySem.EqMixed.eq_str_int (fin_bl I q (by simp))
    | str j => obtain ⟨t', rfl⟩ := ry; exact eq_str (fin_bl I q dec_str)
    | _ => exact absurd (show false = true from hs) Bool.false_ne_true
  | byt i =>
    obtain ⟨t, rfl⟩ := rx
    cases y with
    | byt j => obtain ⟨t', rfl⟩ := ry; exact PySem.W.eq_bytes (fin_bl I q dec_byt)
    | _ => exact absurd (show false = true from hs) Bool.false_ne_true
  | _ => cases y <;> exact absurd (show false = true from hs) Bool.false_ne_true
theorem op_ne : OpR X (compareOp .NotEq) rNe := by
  intro pins s σ H x y v u Q I rx ry h
  obtain ⟨hs, q⟩ := h
  cases x with
  | non =>
    cases rx
    cases y with
    | non => cases ry; exact PySem.EqNone.ne_none_none (fin_bl I q (by simp))
    | bl j => cases ry; exact PySem.EqNone.ne_none_bool (fin_bl I q (by simp))
    | int j => obtain ⟨t', rfl⟩ := ry; exact PySem.EqNone.ne_none_int (fin_bl I q (by simp))
    | str j => obtain ⟨t', rfl⟩ := ry; exact PySem.EqNone.ne_none_str (fin_bl I q (by simp))
    | _ => exact absurd (show false = true from hs) Bool.false_ne_true
  | bl i =>
    cases rx
    cases y with
    | non => cases ry; exact PySem.EqNone.ne_bool_none (fin_bl I q (by simp))
    | bl j => cases ry; exact ne_bool (fin_bl I q (congrArg not dec_bl))
    | str j => obtain ⟨t', rfl⟩ := ry; exact PySem.EqMixed.ne_bool_str (fin_bl I q (by simp))
    | _ => exact absurd (show false = true from hs) Bool.false_ne_true
  | int i =>
    obtain ⟨t, rfl⟩ := rx
    cases y with
    | non => cases ry; exact PySem.EqNone.ne_int_none (fin_bl I q (by simp))
    | int j => obtain ⟨t', rfl⟩ := ry; exact ne_int (fin_bl I q (congrArg not dec_int))
    | str j => obtain ⟨t', rfl⟩ := ry; exact PySem.EqMixed.ne_int_str (fin_bl I q (by simp))
    | _ => exact absurd (show false = true from hs) Bool.false_ne_true
  | str i =>
    obtain ⟨t, rfl⟩ := rx
    cases y with
    | non => cases ry; exact PySem.EqNone.ne_str_none (fin_bl I q (by simp))
    | bl j => cases ry; exact PySem.EqMixed.ne_str_bool (fin_bl I q (by simp))
    | int j => obtain ⟨t', rfl⟩ := ry; exact PySem.EqMixed.ne_str_int (fin_bl I q (by simp))
    | str j => obtain ⟨t', rfl⟩ := ry; exact ne_str (fin_bl I q (congrArg not dec_str))
    | _ => exact absurd (show false = true from hs) Bool.false_ne_true
  | byt i =>
    obtain ⟨t, rfl⟩ := rx
    cases y with
    | byt j => obtain ⟨t', rfl⟩ := ry; exact PySem.W.ne_bytes (fin_bl I q (congrArg not dec_byt))
    | _ => exact absurd (show false = true from hs) Bool.false_ne_true
  | _ => cases y <;> exact absurd (show false = true from hs) Bool.false_ne_true

theorem op_lt : OpR X (compareOp .Lt) (rI0 fun i j => .bl (decide (i < j))) := opB0 fun _ _ _ _ _ _ _ q => lt_int q
theorem op_le : OpR X (compareOp .LtE) (rI0 fun i j => .bl (decide (i ≤ j))) := opB0 fun _ _ _ _ _ _ _ q => le_int q
theorem op_gt : OpR X (compareOp .Gt) (rI0 fun i j => .bl (decide (j < i))) := opB0 fun _ _ _ _ _ _ _ q => gt_int q
theorem op_ge : OpR X (compareOp .GtE) (rI0 fun i j => .bl (decide (j ≤ i))) := opB0 fun _ _ _ _ _ _ _ q => ge_int q

/-- is None, is not None: the right side a value none -/
theorem op_isN : OpR X (compareOp .Is) (fun x y H Q => y = .non ∧ Q (.bl (decide (x = .non))) H) := by
  intro pins s σ H x y v u Q I rx ry h
  obtain ⟨rfl, q⟩ := h
  cases ry
  refine is_none_gen (fin_bl I q ?_)
  cases x <;> first
    | (cases rx; rfl)
    | (obtain ⟨t, rfl⟩ := rx; rfl)
theorem op_notN : OpR X (compareOp .IsNot) (fun x y H Q => y = .non ∧ Q (.bl (!decide (x = .non))) H) := by
  intro pins s σ H x y v u Q I rx ry h
  obtain ⟨rfl, q⟩ := h
  cases ry
  refine isnot_none_gen (fin_bl I q ?_)
  cases x <;> first
    | (cases rx; rfl)
    | (obtain ⟨t, rfl⟩ := rx; rfl)

/-- is, is not of two objects that are tracked lists or instances -/
def isObj : HO → Bool
  | .lst _ => true
  | .ins _ _ _ => true
  | _ => false


theorem nomark (b : Expr) {op : CmpOp} (h : op ≠ .In := by decide) (h2 : op ≠ .NotIn := by decide) : behindInMarks op b = false := by
  have e1 : (op == CmpOp.In) = false := by cases op <;> first | rfl | exact absurd rfl h
  have e2 : (op == CmpOp.NotIn) = false := by cases op <;> first | rfl | exact absurd rfl h2
  cases b <;> simp [behindInMarks, e1, e2]
/-- a comparison as a value; hm: nomark b, or (for in, not in) by with_unfolding_all rfl -/
theorem pe_cmpR {op : CmpOp} {r : R2} (ho : OpR X (compareOp op) r) (ha : PE X a ta) (hb : PE X b tb) (hm : behindInMarks op b = false) : PE X (.Compare a [op] [b] pos) (tOp r ta tb) := by
  intro pins s σ H Q I h
  exact wpAny_Compare1 (binT ha hb I h fun v u s2 x y H2 I2 rx ry q => ho pins s2 σ H2 x y v u Q I2 rx ry q) hm
/-- a reading of a value as a test -/
def tTest (t : TE) : TT := fun σ H Q => t σ H fun x H' => IsB x H' Q
theorem pt_cmpR {op : CmpOp} {r : R2} (ho : OpR X (compareOp op) r) (ha : PE X a ta) (hb : PE X b tb) (hm : behindInMarks op b = false) : PT X (.Compare a [op] [b] pos) (tTest (tOp r ta tb)) := by
  intro pins s σ H Q I h
  refine wpAny_isTrue_Compare1 (thn (ha pins s σ H _ I h) fun v s1 ⟨x, H1, I1, r1, q1⟩ => thn (hb pins s1 σ H1 _ I1 q1) fun u s2 ⟨y, H2, I2, r2, q2⟩ =>
    thn (ho pins s2 σ H2 x y v u _ I2 r1 r2 q2) fun c s3 ⟨z, H3, I3, r3, k, e, q3⟩ => ?_) hm
  subst e
  cases r3
  exact wpAny_truthy_bool ⟨H3, I3, q3⟩
/-- a op1 b op2 c -/
def tChain (r r' : R2) (ta tb tc : TE) : TE := fun σ H Q => ta σ H fun x H1 => tb σ H1 fun y H2 => r x y H2 fun z H3 => ∃ k, z = .bl k ∧
  (if k = true then tc σ H3 fun w' H4 => r' y w' H4 Q else Q (.bl false) H3)
theorem pe_chain {op op' : CmpOp} {r r' : R2} (ho : OpR X (compareOp op) r) (ho' : OpR X (compareOp op') r') (ha : PE X a ta) (hb : PE X b tb) (hc : PE X c tc)
    (hm : lastMarks [op, op'] [b, c] = false := by with_unfolding_all rfl) : PE X (.Compare a [op, op'] [b, c] pos) (tChain r r' ta tb tc) := by
  intro pins s σ H Q I h
  refine Compare_chain (thn (ha pins s σ H _ I h) fun v s1 ⟨x, H1, I1, r1, q1⟩ => chain_link (thn (hb pins s1 σ H1 _ I1 q1) fun u s2 ⟨y, H2, I2, r2, q2⟩ =>
    thn (ho pins s2 σ H2 x y v u _ I2 r1 r2 q2) fun d s3 ⟨z, H3, I3, r3, k, e, q3⟩ => ?_)) hm
  subst e
  cases r3
  refine wpAny_truthy_bool ?_
  cases k with
  | false => exact ite_ff ⟨.bl false, H3, I3, rfl, q3⟩
  | true => exact ite_tt (chain_last (thn (hc pins s3 σ H3 _ I3 q3) fun w' s4 ⟨z', H4, I4, r4, q4⟩ => ho' pins s4 σ H4 y z' u w' Q I4 r2 r4 q4))
theorem pt_chain {op op' : CmpOp} {r r' : R2} (ho : OpR X (compareOp op) r) (ho' : OpR X (compareOp op') r') (ha : PE X a ta) (hb : PE X b tb) (hc : PE X c tc)
    (hm : lastMarks [op, op'] [b, c] = false := by with_unfolding_all rfl) : PT X (.Compare a [op, op'] [b, c] pos) (tTest (tChain r r' ta tb tc)) := by
  intro pins s σ H Q I h
  refine isTrue_chain (thn (ha pins s σ H _ I h) fun v s1 ⟨x, H1, I1, r1, q1⟩ => test_link (thn (hb pins s1 σ H1 _ I1 q1) fun u s2 ⟨y, H2, I2, r2, q2⟩ =>
    thn (ho pins s2 σ H2 x y v u _ I2 r1 r2 q2) fun d s3 ⟨z, H3, I3, r3, k, e, q3⟩ => ?_)) hm
  subst e
  cases r3
  refine wpAny_truthy_bool ?_
  cases k with
  | false =>
    obtain ⟨k', e', q'⟩ := q3
    cases e'
    exact ite_ff ⟨H3, I3, q'⟩
  | true =>
    refine ite_tt (test_last (thn (hc pins s3 σ H3 _ I3 q3) fun w' s4 ⟨z', H4, I4, r4, q4⟩ => thn (ho' pins s4 σ H4 y z' u w' _ I4 r2 r4 q4) fun d' s5 hpat => ?_))
    obtain ⟨z2, H5, I5, r5, k2, e2, q5⟩ := hpat
    subst e2
    cases r5
    exact wpAny_truthy_bool ⟨H5, I5, q5⟩

/-! ### truth -/
/-- a value's truth by the abstract heap -/
def TruV (K : PySem.W.Frag) (x : V) (H : Hp) (k : Bool) : Prop :=
  match x with
  | .non => k = false
  | .bl b => k = b
  | .int i => k = (i != 0)
  | .str y => y.length ≤ sizeLine ∧ k = ((y.length : Int) != 0)
  | .byt y => y.size ≤ sizeLine ∧ k = ((y.size : Int) != 0)
  | .ref p => (∃ xs, SqL K H p xs ∧ k = !xs.isEmpty) ∨ (∃ xs, SqT K H p xs ∧ k = !xs.isEmpty) ∨ ∃ kvs, H p = some (.dK kvs) ∧ k = !kvs.isEmpty
  | _ => False
theorem line63 : (sizeLine : Nat) < 2 ^ 63 := by rw [sizeLine_eq]; decide

/-! ### strs and bytes -/
theorem op_add_str : OpR X (binaryOp .Add) (fun x y H Q => ∃ i j, x = .str i ∧ y = .str j ∧ i.length + j.length ≤ sizeLine ∧ Q (.str (i ++ j)) H) := by
  intro pins s σ H x y v u Q I rx ry h
  obtain ⟨i, j, rfl, rfl, hz, q⟩ := h
  obtain ⟨t, rfl⟩ := rx
  obtain ⟨t', rfl⟩ := ry
  exact add_str (fun t' tk => ⟨.str (i ++ j), H, I.tok _, ⟨_, rfl⟩, q⟩) hz

def PlainIxT (b : Expr) : Prop := ∀ o i, subscripted b false o i = operate [o, i] (getItem o i)

/-! ### scalar builtins, by CallR -/
theorem vals1 {x : V} {us : List Value} (r : Vals [x] us) : ∃ u, us = [u] ∧ RelV x u := by
  cases r with
  | cons r1 r2 => cases r2; exact ⟨_, rfl, r1⟩
theorem vals2 {x y : V} {us : List Value} (r : Vals [x, y] us) : ∃ u w', us = [u, w'] ∧ RelV x u ∧ RelV y w' := by
  cases r with
  | cons r1 r2 =>
    cases r2 with
    | cons r3 r4 => cases r4; exact ⟨_, _, rfl, r1, r3⟩
theorem call_max2 (hc : X.calm = true) : CallR X (.builtin "max") (fun xs H Q => ∃ i j, xs = [.int i, .int j] ∧ Q (.int (if j > i then j else i)) H) := by
  intro pins s σ H xs us Q I r h
  obtain ⟨i, j, rfl, q⟩ := h
  obtain ⟨u, w', rfl, ⟨t, rfl⟩, ⟨t', rfl⟩⟩ := vals2 r
  refine max_two_ints (I.ok.hd hc) fun h' tk k => ⟨_, H, I.kept k, ?_, q⟩
  by_cases hj : j > i
  · rw [if_pos hj, if_pos hj]; exact ⟨_, rfl⟩
  · rw [if_neg hj, if_neg hj]; exact ⟨_, rfl⟩
theorem call_min2 (hc : X.calm = true) : CallR X (.builtin "min") (fun xs H Q => ∃ i j, xs = [.int i, .int j] ∧ Q (.int (if j < i then j else i)) H) := by
  intro pins s σ H xs us Q I r h
  obtain ⟨i, j, rfl, q⟩ := h
  obtain ⟨u, w', rfl, ⟨t, rfl⟩, ⟨t', rfl⟩⟩ := vals2 r
  refine min_two_ints (I.ok.hd hc) fun h' tk k => ⟨_, H, I.kept k, ?_, q⟩
  by_cases hj : j < i
  · rw [if_pos hj, if_pos hj]; exact ⟨_, rfl⟩
  · rw [if_neg hj, if_neg hj]; exact ⟨_, rfl⟩
theorem call_int1 : CallR X (.type "int") (fun xs H Q => (∃ i, xs = [.int i] ∧ Q (.int i) H) ∨ ∃ k, xs = [.bl k] ∧ Q (.int (if k then 1 else 0)) H) := by
  intro pins s σ H xs us Q I r h
  rcases h with ⟨i, rfl, q⟩ | ⟨k, rfl, q⟩
  · obtain ⟨u, rfl, t, rfl⟩ := vals1 r
    exact call_int_int ⟨.int i, H, I, ⟨_, rfl⟩, q⟩
  · obtain ⟨u, rfl, r1⟩ := vals1 r
    cases r1
    exact call_int_bool ⟨.int (if k then 1 else 0), H, I.tok _, ⟨_, rfl⟩, q⟩
/-- len of a str, a bytes, a list, a tuple -/
def LenV (K : PySem.W.Frag) (x : V) (H : Hp) (n : Nat) : Prop :=
  match x with
  | .str y => y.length ≤ sizeLine ∧ n = y.length
  | .byt y => y.size ≤ sizeLine ∧ n = y.size
  | .ref p => (∃ xs, SqL K H p xs ∧ n = xs.length) ∨ ∃ xs, SqT K H p xs ∧ n = xs.length
  | _ => False
end
end L2

namespace L2
open PySem PySem.Spec PyProof.Rows

/-! ### an instance, its attributes a map -/
structure ObjM (h : Heap) (x dx C : Addr) (mA : Str → Option Value) : Prop where
  obj : h.get? x = some (PySem.W.instObj C dx)
  ns : h.Ns1 dx mA
  ne : dx ≠ x

theorem lookIn_ns {h : Heap} {dx : Addr} {mA : Str → Option Value} (n : h.Ns1 dx mA) : ∃ od, h.get? dx = some od ∧ ∀ name, PySem.W.lookIn name od = some (mA name) := by
  obtain ⟨o, es, ep, ho, hd, hk, _, hm⟩ := n
  refine ⟨o, ho, fun name => ?_⟩
  have e := hm name
  unfold nsFind findBy at e
  rw [← Array.find?_toList] at e
  unfold PySem.W.lookIn
  rw [hd]
  dsimp only
  split
  · rename_i y q
    rw [q] at e
    exact congrArg some e
  · rename_i q
    rw [q] at e
    have a : es.toList.any (·.refKey) = false := by
      rw [List.any_eq_false]
      intro y hy
      obtain ⟨z, t, hkey⟩ := hk y (Array.mem_toList_iff.mp hy)
      simp [DictEntry.refKey, hkey]
    have a' : ¬ es.toList.any (·.refKey) = true := by rw [a]; exact Bool.false_ne_true
    rw [if_neg a']
    exact congrArg some e

theorem ObjM.look {h : Heap} {x dx C : Addr} {mA : Str → Option Value} (I : ObjM h x dx C mA) : ∃ od, PySem.W.InstAt h x (PySem.W.instObj C dx) C (some od) ∧ ∀ name, PySem.W.lookIn name od = some (mA name) :=
  let ⟨od, ho, hl⟩ := lookIn_ns I.ns
  ⟨od, ⟨I.obj, rfl, rfl, ho⟩, hl⟩

section
variable {prog : Program} {w : World} {A : Around} {E : Value → Shared → Prop} {s : Shared} {K : PySem.W.Frag} {x dx C f : Addr} {mA : Str → Option Value} {name : Str} {v : Value}

theorem get_map {expr : Bool} {Q : Value → Shared → Prop} (X : K.In s.heap) (I : ObjM s.heap x dx C mA) (hg : PySem.W.plainGet K C name = true) (hh : PySem.W.hasDictIn K C = true)
    (ha : PySem.W.findIn K (.ref C) name = some none) (hv : mA name = some v) (hv' : PySem.W.handedIn v = true) (h : Q v { s with toks := s.toks + 1 }) :
    wpAny (model prog w) A (getAttr (.ref x) name expr) Q E s := by
  obtain ⟨od, J, hl⟩ := I.look
  exact PySem.W.get_value X J (PySem.W.plainGet_of hg).1 (PySem.W.findObj_own hh ha rfl (by rw [hl, hv])) hv' h


theorem get_meth {pl : Sem Bool} {Q : Value × List Value → Shared → Prop} (X : K.In s.heap) (I : ObjM s.heap x dx C mA) (hg : PySem.W.plainGet K C name = true)
    (hf : PySem.W.findIn K (.ref C) name = some (some (.ref f))) (ht : PySem.W.isFn K (.ref f) = true) (hv : mA name = none) (h : Q (.ref f, [.ref x]) s) :
    wpAny (model prog w) A (getMethod (.ref x) name pl) Q E s := by
  obtain ⟨od, J, hl⟩ := I.look
  exact PySem.W.method_fn X J (PySem.W.plainGet_of hg).1 (PySem.W.plainGet_of hg).2 hf (beq_iff_eq.mp ht) (by show (PySem.W.lookIn name od).map (·.isSome) = some false; rw [hl, hv]; rfl) h

theorem set_map {ns : List Str} {Q : Unit → Shared → Prop} (X : K.In s.heap) (I : ObjM s.heap x dx C mA)
    (hs : PySem.W.findIn K (.ref C) "__setattr__" = some (some (.builtin "object.__setattr__"))) (hp : PySem.W.plainOver K C = true) (ht : PySem.W.takerIn K C name = some none) (hh : PySem.W.hasDictIn K C = true)
    (hw : PySem.Within mA ns) (hsz : ns.length ≤ sizeLine)
    (h : ∀ h', ObjM h' x dx C (fun y => if y = name then some v else mA y) → Heap.SameBut dx s.heap h' → Q () { s with heap := h', toks := s.toks + 2 }) :
    wpAny (model prog w) A (setAttr (.ref x) name v) Q E s := by
  obtain ⟨od, J, hl⟩ := I.look
  refine PySem.W.set_plain X J hs (PySem.W.osa_open (s := { s with toks := s.toks + 1 }) (r := none) X J hp ht fun b => ?_)
  obtain ⟨cd, hc, hd'⟩ := PySem.W.any_some hh
  have hx : s.heap.get? x = some ⟨.ref C, some dx, .plain, #[]⟩ := I.obj
  refine wpAny_bind (wpAny_pure (wpAny_bind (wpAny_bind (wpAny_loadPart hx (wpAny_bind (PySem.W.Looks.here (s := { s with toks := s.toks + 1 }) (PySem.W.looks_clsIn X hc) ?_))))))
  rw [hd']
  refine wpAny_pure (a := some dx) (wpAny_bind (wpAny_pure (wpAny_bind ?_)))
  refine wpAny_nsSet1 (s := { s with toks := s.toks + 1 }) I.ns fun h' hn2 hs2 => ?_
  obtain ⟨oD, esD, epD, hoD, hdD, hcD⟩ := hn2.count (PySem.Within.cons name v hw)
  refine wpAny_bind (wpAny_lookBehind hoD (by rw [hdD]; exact pastItsLine_dict (Nat.le_trans hcD (by rw [List.length_cons]; omega))) ?_)
  exact wpAny_pure (h _ ⟨(hs2.2 _ (Ne.symm I.ne)).trans I.obj, hn2, I.ne⟩ hs2)

/-- C(..): the dict at the heap's end, the instance behind it; then its __init__ -/
theorem make_map {R : Result → Shared → Prop} {vs : List Value} {kw : List (Str × Value)} (X : K.In s.heap) (hm : PySem.W.makesIn K C = true)
    (hi : PySem.W.findIn K (.ref C) "__init__" = some (some (.ref f))) (hf : PySem.W.typeIn K (.ref f) = some (.type "function"))
    (h : codeAny (model prog w) (A.under (.builtin "type.__call__" ⟨.ref C :: vs, kw⟩)) (.call (.ref f) ⟨.ref (s.heap.objs.size + 1) :: vs, kw⟩) (PySem.W.InitBack (s.heap.objs.size + 1) R)
      { s with heap := (s.heap.push PySem.W.emptyDict).push (PySem.W.instObj C s.heap.objs.size) }) :
    codeAny (model prog w) A (.call (.ref C) ⟨vs, kw⟩) R s := by
  obtain ⟨hh, g, d, t, os⟩ := s
  exact PySem.W.make_core (PySem.W.makes_of X hm) (PySem.W.looks_findIn X hi) (fun self => PySem.W.bind_fn X self hf) (.inl rfl) h
end

/-! ### the attributes as a list of pairs -/
def putF (f : Str) (v : V) : List (Str × V) → List (Str × V)
  | [] => [(f, v)]
  | (g, x) :: r => if g = f then (g, v) :: r else (g, x) :: putF f v r
theorem lookup_putF (f g : Str) (v : V) : ∀ fs : List (Str × V), (putF f v fs).lookup g = if g = f then some v else fs.lookup g
  | [] => by
    show List.lookup g [(f, v)] = _
    by_cases h : g = f
    · have hb : (g == f) = true := beq_iff_eq.mpr h
      simp only [List.lookup, hb, if_pos h]
    · have hb : (g == f) = false := beq_eq_false_iff_ne.mpr h
      simp only [List.lookup, hb, if_neg h]
  | (k, x) :: r => by
    have ih := lookup_putF f g v r
    rw [show putF f v ((k, x) :: r) = (if k = f then (k, v) :: r else (k, x) :: putF f v r) from rfl]
    by_cases hk : k = f
    · rw [if_pos hk]
      by_cases h : g = k
      · have hb : (g == k) = true := beq_iff_eq.mpr h
        simp only [List.lookup, hb, if_pos (h.trans hk)]
      · have hb : (g == k) = false := beq_eq_false_iff_ne.mpr h
        simp only [List.lookup, hb, if_neg (fun e : g = f => h (e.trans hk.symm))]
    · rw [if_neg hk]
      by_cases h : g = k
      · have hb : (g == k) = true := beq_iff_eq.mpr h
        simp only [List.lookup, hb, if_neg (fun e : g = f => hk (h.symm.trans e))]
      · have hb : (g == k) = false := beq_eq_false_iff_ne.mpr h
        simp only [List.lookup, hb]
        exact ih
theorem keys_putF (f : Str) (v : V) : ∀ fs : List (Str × V), f ∈ (putF f v fs).map (·.1) ∧ ∀ g, g ∈ fs.map (·.1) → g ∈ (putF f v fs).map (·.1)
  | [] => ⟨by simp [putF], fun g h => by simp at h⟩
  | (k, x) :: r => by
    obtain ⟨i1, i2⟩ := keys_putF f v r
    rw [show putF f v ((k, x) :: r) = (if k = f then (k, v) :: r else (k, x) :: putF f v r) from rfl]
    by_cases hk : k = f
    · rw [if_pos hk]
      subst hk
      exact ⟨by simp, fun g h => by simpa using h⟩
    · rw [if_neg hk]
      refine ⟨?_, fun g h => ?_⟩
      · rw [List.map_cons]
        exact List.mem_cons_of_mem _ i1
      · rw [List.map_cons] at h ⊢
        rcases List.mem_cons.mp h with e | e
        · exact List.mem_cons.mpr (.inl e)
        · exact List.mem_cons_of_mem _ (i2 g e)
theorem length_putF (f : Str) (v : V) : ∀ fs : List (Str × V), (putF f v fs).length ≤ fs.length + 1
  | [] => by simp [putF]
  | (k, x) :: r => by
    have ih := length_putF f v r
    rw [show putF f v ((k, x) :: r) = (if k = f then (k, v) :: r else (k, x) :: putF f v r) from rfl]
    by_cases hk : k = f
    · rw [if_pos hk, List.length_cons, List.length_cons]; omega
    · rw [if_neg hk, List.length_cons, List.length_cons]; omega

theorem RelO.some_of {v : V} {o : Option Value} (r : RelO (some v) o) : ∃ u, o = some u ∧ RelV v u := by
  cases o with
  | none => exact (show False from r).elim
  | some u => exact ⟨u, rfl, r⟩
theorem RelO.none_of {o : Option Value} (r : RelO none o) : o = none := by
  cases o with
  | none => rfl
  | some u => exact (show False from r).elim
theorem handed_of {v : V} {u : Value} (r : RelV v u) : PySem.W.handedIn u = true := by
  cases v with
  | non => cases (show u = Value.none from r); rfl
  | bl b => cases (show u = Value.bool b from r); rfl
  | int i => obtain ⟨t, e⟩ := (show ∃ t, u = Value.int i t from r); cases e; rfl
  | str x => obtain ⟨t, e⟩ := (show ∃ t, u = Value.str x t from r); cases e; rfl
  | byt b => obtain ⟨t, e⟩ := (show ∃ t, u = Value.bytes b t from r); cases e; rfl
  | flt b => obtain ⟨t, e⟩ := (show ∃ t, u = Value.float b t from r); cases e; rfl
  | ref a => cases (show u = Value.ref a from r); rfl
  | ty n => cases (show u = Value.type n from r); rfl

section
variable {P : Program} {w : World} {H H' : Hp} {h h' : Heap} {a C dx : Addr} {fs fs' : List (Str × V)}
theorem ins_get (hok : HOk P w H h) (e : H a = some (.ins C dx fs)) : ∃ mA, ObjM h a dx C mA ∧ (∀ f, RelO (fs.lookup f) (mA f)) ∧ PySem.Within mA (fs.map (·.1)) ∧ fs.length ≤ 1000 ∧ H dx = some (.own a) := by
  obtain ⟨d, z, ne, ob, mA, n, r, q⟩ := (show ObjOk P w H h a (.ins C dx fs) from hok a _ e)
  exact ⟨mA, ⟨ob, n, ne⟩, r, q, z, d⟩
end

/-! ### what of the text a class must have -/
structure Cls (K : PySem.W.Frag) (C : Addr) : Prop where
  pg : PySem.W.plainGet K C Str.empty = true
  hd : PySem.W.hasDictIn K C = true
  po : PySem.W.plainOver K C = true
  sa : PySem.W.findIn K (.ref C) "__setattr__" = some (some (.builtin "object.__setattr__"))
theorem Cls.get {K : PySem.W.Frag} {C : Addr} (c : Cls K C) (f : Str) : PySem.W.plainGet K C f = true := c.pg
/-- no class of it has the name -/
def NoAttr (K : PySem.W.Frag) (C : Addr) (f : Str) : Prop := PySem.W.findIn K (.ref C) f = some none
theorem NoAttr.taker {K : PySem.W.Frag} {C : Addr} {f : Str} (n : NoAttr K C f) : PySem.W.takerIn K C f = some none := by
  unfold PySem.W.takerIn
  rw [show PySem.W.findIn K (.ref C) f = some none from n]
  rfl
/-- a constant of the class -/
structure Con (K : PySem.W.Frag) (C : Addr) (f : Str) (v : V) (u : Value) : Prop where
  at_ : PySem.W.findIn K (.ref C) f = some (some u)
  rel : RelV v u
  get : PySem.W.specialIn K u "__get__" = some none
  cp : PySem.W.copiedNames.contains f = false
/-- a method: a plain def of the class or of one above it -/
structure Meth (K : PySem.W.Frag) (C : Addr) (m : Str) (f : Addr) : Prop where
  at_ : PySem.W.findIn K (.ref C) m = some (some (.ref f))
  fn : PySem.W.isFn K (.ref f) = true
  kp : PySem.W.keepIn K (.ref f) = true

section
variable {X : Cx} {pins : List (Addr × Obj)} {σ : St} {H : Hp} {s : Shared} {a C dx : Addr} {fs : List (Str × V)} {f : Str} {v : V} {A : Around} {E : Value → Shared → Prop}

theorem getattr_ok {b : Bool} {Q : Value → Shared → Prop} (I : Inv X pins σ H s) (e : H a = some (.ins C dx fs)) (c : Cls X.K C) (n : NoAttr X.K C f) (l : fs.lookup f = some v)
    (h : ∀ u s', Inv X pins σ H s' → RelV v u → Q u s') : wpAny (model X.prog X.w) A (getAttr (.ref a) f b) Q E s := by
  obtain ⟨mA, O, r, _, _, _⟩ := ins_get I.hok e
  obtain ⟨u, hu, ru⟩ := RelO.some_of (v := v) (o := mA f) (by rw [← l]; exact r f)
  exact get_map I.kIn O (c.get f) c.hd n hu (handed_of ru) (h u _ (I.tok _) ru)


theorem getmeth_ok {m : Str} {g : Addr} {pl : Sem Bool} {Q : Value × List Value → Shared → Prop} (I : Inv X pins σ H s) (e : H a = some (.ins C dx fs)) (c : Cls X.K C) (k : Meth X.K C m g) (l : fs.lookup m = none)
    (h : Q (.ref g, [.ref a]) s) : wpAny (model X.prog X.w) A (getMethod (.ref a) m pl) Q E s := by
  obtain ⟨mA, O, r, _, _, _⟩ := ins_get I.hok e
  have hn : mA m = none := RelO.none_of (by rw [← l]; exact r m)
  exact get_meth I.kIn O (c.get m) k.at_ k.fn hn h

theorem setattr_ok {y : V} {u : Value} {Q : Unit → Shared → Prop} (I : Inv X pins σ H s) (e : H a = some (.ins C dx fs)) (c : Cls X.K C) (n : NoAttr X.K C f) (hl : fs.length < 1000) (ry : RelV y u)
    (h : ∀ s', Inv X pins σ (upd H a (.ins C dx (putF f y fs))) s' → Q () s') : wpAny (model X.prog X.w) A (setAttr (.ref a) f u) Q E s := by
  obtain ⟨mA, O, r, wi, _, ho⟩ := ins_get I.hok e
  have hz : (fs.map (·.1)).length ≤ sizeLine := by rw [List.length_map, sizeLine_eq]; omega
  refine set_map I.kIn O c.sa c.po n.taker c.hd wi hz fun h' O' sb => h _ ?_
  have hd : ∃ o, h'.get? dx = some o := let ⟨o, _, _, e', _⟩ := O'.ns; ⟨o, e'⟩
  refine I.write (x := a) (e := dx) (by rw [e]; exact True.intro) (.inr ho) (fun b q hb z => (sb.2 b hb).trans z) hd ?_
  refine ⟨by rw [upd_ne O.ne]; exact ho, ?_, O.ne, O'.obj, _, O'.ns, fun g => ?_, fun g hg => ?_⟩
  · have := length_putF f y fs; omega
  · show RelO ((putF f y fs).lookup g) (if g = f then some u else mA g)
    rw [lookup_putF]
    by_cases q : g = f
    · rw [if_pos q, if_pos q]; exact ry
    · rw [if_neg q, if_neg q]; exact r g
  · by_cases q : g = f
    · rw [q]; exact (keys_putF f y fs).1
    · refine (keys_putF f y fs).2 g (wi g fun z => hg ?_)
      show (if g = f then some u else mA g) = none
      rw [if_neg q]; exact z

/-- a new instance, tracked, without attributes -/
theorem Inv.made (I : Inv X pins σ H s) : Inv X pins σ (upd (upd H s.heap.objs.size (.own (s.heap.objs.size + 1))) (s.heap.objs.size + 1) (.ins C s.heap.objs.size []))
    { s with heap := (s.heap.push PySem.W.emptyDict).push (PySem.W.instObj C s.heap.objs.size) } := by
  have e1 : (s.heap.push PySem.W.emptyDict).get? s.heap.objs.size = some PySem.W.emptyDict := Heap.get?_push_size s.heap rfl
  have e2 : ((s.heap.push PySem.W.emptyDict).push (PySem.W.instObj C s.heap.objs.size)).get? (s.heap.objs.size + 1) = some (PySem.W.instObj C s.heap.objs.size) := by
    have := Heap.get?_push_size (s.heap.push PySem.W.emptyDict) (o := PySem.W.instObj C s.heap.objs.size) rfl
    rwa [Heap.size_push] at this
  have e3 : (s.heap.push PySem.W.emptyDict).Ns s.heap.objs.size (fun _ => none) := ⟨PySem.W.emptyDict, #[], _, e1, rfl, (fun e he => absurd he (by simp)), fun _ => rfl⟩
  have I1 := I.laid (a := s.heap.objs.size) (o := .own (s.heap.objs.size + 1)) (h' := s.heap.push PySem.W.emptyDict) (t' := s.toks) (fun b u q => Heap.get?_push_of_some _ q) (Nat.le_refl _) ⟨_, e1⟩
  refine I1.laid (a := s.heap.objs.size + 1) (o := .ins C s.heap.objs.size []) (t' := s.toks) (fun b u q => Heap.get?_push_of_some _ q) (Nat.le_of_eq (Heap.size_push _ _)) ?_
  have ne : s.heap.objs.size ≠ s.heap.objs.size + 1 := Nat.ne_of_lt (Nat.lt_succ_self _)
  refine ⟨by rw [upd_ne ne, upd_same], Nat.zero_le _, ne, e2, fun _ => none, (Heap.Ns1.of_empty e3).at fun o q => Heap.get?_push_of_some _ q, fun _ => True.intro, fun y hy => absurd rfl hy⟩

/-- e.f where nothing but the object is asked: through attributeBase (super) and the last hold -/
theorem attr_of {prog : Program} {w : World} {env : Env} {e : Expr} {f : Str} {pos : Pos} {s : Shared} {Q : Value → Shared → Prop} (hb : attributeBase e f env (eval e env) = eval e env)
    (h : wpAny (model prog w) A (eval e env) (fun o s₁ => wpAny (model prog w) A (getAttr o f true) Q E s₁) E s) : wpAny (model prog w) A (eval (.Attribute e f pos) env) Q E s :=
  Attribute_any_ h (by rw [arm_eval_Attribute, hb])
end

/-! ### readings and rules -/
/-- e.f, an attribute of the instance -/
inductive FldP (K : PySem.W.Frag) (f : Str) (x : V) (H : Hp) (Q : VK) : Prop
  | mk (a C dx : Addr) (fs : List (Str × V)) (v : V) (hx : x = .ref a) (h : H a = some (.ins C dx fs)) (c : Cls K C) (n : NoAttr K C f) (l : fs.lookup f = some v) (q : Q v H)
def tFld (K : PySem.W.Frag) (ta : TE) (f : Str) : TE := fun σ H Q => ta σ H fun x H1 => FldP K f x H1 Q
/-- e.f, a constant of the class -/
def tCon (K : PySem.W.Frag) (ta : TE) (f : Str) : TE := fun σ H Q => ta σ H fun x H1 => ∃ a C dx fs v u, x = .ref a ∧ H1 a = some (.ins C dx fs) ∧ Cls K C ∧ Con K C f v u ∧ fs.lookup f = none ∧ Q v H1
/-- e.f = value -/
def sFld (K : PySem.W.Frag) (ta tv : TE) (f : Str) : TS := fun D σ H => tv σ H fun y H1 => ta σ H1 fun x H2 => ∃ a C dx fs, x = .ref a ∧ H2 a = some (.ins C dx fs) ∧ Cls K C ∧ NoAttr K C f ∧ fs.length < 1000 ∧
  D.nx σ (upd H2 a (.ins C dx (putF f y fs)))
/-- an augmented operator on two values -/
def InOp (X : Cx) (op : Operator) (rd : V → V → Hp → VK → Prop) : Prop :=
  ∀ (pins : List (Addr × Obj)) (s : Shared) (σ : St) (H : Hp) (x y : V) (u v : Value) (Q : VK), Inv X pins σ H s → RelV x u → RelV y v → rd x y H Q → wpAny (model X.prog X.w) X.A (inplaceOp op u v) (EP X pins σ Q) X.xe s
/-- e.f op= value -/
def sFldAug (K : PySem.W.Frag) (ta tv : TE) (rd : V → V → Hp → VK → Prop) (f : Str) : TS := fun D σ H => ta σ H fun x H1 => ∃ a C dx fs v, x = .ref a ∧ H1 a = some (.ins C dx fs) ∧ Cls K C ∧ NoAttr K C f ∧ fs.lookup f = some v ∧
  tv σ H1 fun y H2 => rd v y H2 fun z H3 => ∃ dx' fs', H3 a = some (.ins C dx' fs') ∧ fs'.length < 1000 ∧ D.nx σ (upd H3 a (.ins C dx' (putF f z fs')))

section
variable {X : Cx} {o e value : Expr} {f : Str} {pos pos' tpos : Pos} {ta tv : TE}
theorem pe_fld (he : PE X e ta) (hb : attributeBase e f X.env (eval e X.env) = eval e X.env) : PE X (.Attribute e f pos) (tFld X.K ta f) := by
  intro pins s σ H Q I h
  refine attr_of hb (thn (he pins s σ H _ I h) fun u s1 hpat => ?_)
  obtain ⟨x, H1, I1, rx, a, C, dx, fs, v, ex, ea, c, n, l, q⟩ := hpat
  subst ex
  obtain rfl : u = Value.ref a := rx
  exact getattr_ok I1 ea c n l fun u' s2 I2 ru => ⟨v, H1, I2, ru, q⟩
theorem ps_fld (ha : PE X o ta) (hv : PE X value tv) (hs : swapsWith value (some (.Attribute o f pos')) pos.line X.env = pure false) : PS X (.Assign [.Attribute o f pos'] value pos) (sFld X.K ta tv f) := by
  intro pins s σ H D I h
  refine plainObj_wpAny_Assign_Attribute (thn (hv pins s σ H _ I h) fun u s1 ⟨y, H1, I1, ry, q⟩ => thn (ha pins s1 σ H1 _ I1 q) fun ov s2 hpat => ?_) hs
  obtain ⟨x, H2, I2, rx, a, C, dx, fs, ex, ea, c, n, l, q2⟩ := hpat
  subst ex
  obtain rfl : ov = Value.ref a := rx
  exact setattr_ok I2 ea c n l ry fun s3 I3 => ⟨σ, _, I3, q2⟩
def rAdd : V → V → Hp → VK → Prop := fun x y H Q => ∃ i j, x = .int i ∧ y = .int j ∧ Q (.int (i + j)) H
def rSub : V → V → Hp → VK → Prop := fun x y H Q => ∃ i j, x = .int i ∧ y = .int j ∧ Q (.int (i - j)) H

end

/-! ### isinstance -/
section
variable {X : Cx} {pins : List (Addr × Obj)} {σ : St} {H : Hp} {s : Shared} {A : Around} {E : Value → Shared → Prop} {Q : Value → Shared → Prop} {c : Value} {b : Bool}
/-- the type of a value, as the fragment's deciders take it; for an instance its class -/
inductive TyOf (K : PySem.W.Frag) (H : Hp) : V → Value → Prop where
  | non : TyOf K H .non (.type "NoneType")
  | bl (x : Bool) : TyOf K H (.bl x) (.type "bool")
  | int (i : Int) : TyOf K H (.int i) (.type "int")
  | str (x : Str) : TyOf K H (.str x) (.type "str")
  | flt (x : UInt64) : TyOf K H (.flt x) (.type "float")
  | lst {a : Addr} {xs : List V} (e : H a = some (.lst xs)) : TyOf K H (.ref a) (.type "list")
  | frz {a : Addr} {o : Obj} {xs : List V} (e : H a = some (.frz o (.lst xs))) : TyOf K H (.ref a) (.type "list")
  | tup {a : Addr} {xs : List V} (e : H a = some (.tup xs)) : TyOf K H (.ref a) (.type "tuple")
  | dK {a : Addr} {kvs : List (Key × V)} (e : H a = some (.dK kvs)) : TyOf K H (.ref a) (.type "dict")
  | dT {a : Addr} {kvs : List (List Key × V)} (e : H a = some (.dT kvs)) : TyOf K H (.ref a) (.type "dict")
  | ins {a C dx : Addr} {fs : List (Str × V)} (e : H a = some (.ins C dx fs)) (cl : Cls K C) (ha : PySem.W.findIn K (.ref C) "__class__" = some (some (.builtin "object.__class__")))
      (hn : PySem.W.specialIn K (.builtin "object.__class__") "__get__" = some (some (.builtin "getset_descriptor.__get__"))) (htk : PySem.W.takesIn K (.builtin "object.__class__") = some true)
      (hm : PySem.W.mroIn K C (.type "object") = some true) : TyOf K H (.ref a) (.ref C)
/-- isinstance(x, c) for one class c, a built-in or an own one: kitOne's answer -/
theorem isinst_ok {x : V} {u t : Value} (I : Inv X pins σ H s) (rx : RelV x u) (ty : TyOf X.K H x t) (e : PySem.W.kitOne X.K t c = some b) (h : ∀ tk, Q (.bool b) { s with toks := tk }) :
    wpAny (model X.prog X.w) A (call (.builtin "isinstance") [u, c]) Q E s := by
  cases ty with
  | non => cases (show u = Value.none from rx); exact PySem.W.kia_one PySem.W.kitx_none I.kIn True.intro e (fun z => nomatch z) h
  | bl y => cases (show u = Value.bool y from rx); exact PySem.W.kia_one PySem.W.kitx_bool I.kIn True.intro e (fun z => nomatch z) h
  | int i => obtain ⟨t, q⟩ := (show ∃ t, u = Value.int i t from rx); cases q; exact PySem.W.kia_one PySem.W.kitx_int I.kIn True.intro e (fun z => nomatch z) h
  | str y => obtain ⟨t, q⟩ := (show ∃ t, u = Value.str y t from rx); cases q; exact PySem.W.kia_one PySem.W.kitx_str I.kIn True.intro e (fun z => nomatch z) h
  | flt y => obtain ⟨t, q⟩ := (show ∃ t, u = Value.float y t from rx); cases q; exact PySem.W.kia_one PySem.W.kitx_float I.kIn True.intro e (fun z => nomatch z) h
  | @lst a xs ea =>
    cases (show u = Value.ref a from rx)
    obtain ⟨_, _, n, _, h1⟩ := (show ObjOk X.prog X.w H s.heap a (.lst xs) from I.hok a _ ea)
    exact PySem.W.kia_one PySem.W.kitx_list I.kIn ⟨_, h1, rfl⟩ e (fun z => nomatch z) h
  | @frz a ob xs ea =>
    cases (show u = Value.ref a from rx)
    obtain ⟨_, _, _, n, _, h1⟩ := (show ObjOk X.prog X.w H s.heap a (.frz ob (.lst xs)) from I.hok a _ ea)
    exact PySem.W.kia_one PySem.W.kitx_list I.kIn ⟨_, h1, rfl⟩ e (fun z => nomatch z) h
  | @tup a xs ea =>
    cases (show u = Value.ref a from rx)
    obtain ⟨_, _, _, p⟩ := (show ObjOk X.prog X.w H s.heap a (.tup xs) from I.hok a _ ea)
    obtain ⟨o, h1, h2, _⟩ := p
    exact PySem.W.kia_one PySem.W.kitx_tuple I.kIn ⟨o, h1, h2⟩ e (fun z => nomatch z) h
  | @dK a kvs ea =>
    cases (show u = Value.ref a from rx)
    obtain ⟨_, _, vs, _, p⟩ := (show ObjOk X.prog X.w H s.heap a (.dK kvs) from I.hok a _ ea)
    obtain ⟨o, es, ep, h1, h2, _⟩ := p
    exact PySem.W.kia_one PySem.W.kitx_dict I.kIn ⟨o, h1, h2.1⟩ e (fun z => nomatch z) h
  | @dT a kvs ea =>
    cases (show u = Value.ref a from rx)
    obtain ⟨_, _, xs, _, o, es, ep, h1, h2, _⟩ := (show ObjOk X.prog X.w H s.heap a (.dT kvs) from I.hok a _ ea)
    exact PySem.W.kia_one PySem.W.kitx_dict I.kIn ⟨o, h1, h2.1⟩ e (fun z => nomatch z) h
  | @ins a C dx fs ea cl ha hn htk hm =>
    cases (show u = Value.ref a from rx)
    obtain ⟨mA, O, _⟩ := ins_get I.hok ea
    obtain ⟨od, J, _⟩ := O.look
    exact PySem.W.kia_one (PySem.W.kitx_own (cl.get _) cl.hd ha hn htk hm) I.kIn J e (fun z => nomatch z) h
end
end L2

namespace L2
open PySem PySem.Spec PyProof.Rows

/-! ### room -/
structure Room (k : Nat) (A : Around) : Prop where
  hd : A.handled = none
  dp : A.depth + 3 * k + 5 < recursionLimit
  un : A.units + 16 * k + 200 < cLine
theorem Room.mono {j k : Nat} {A : Around} (r : Room k A) (h : j ≤ k) : Room j A := ⟨r.hd, by have := r.dp; omega, by have := r.un; omega⟩
theorem Room.deeper {k : Nat} {A : Around} (r : Room (k + 1) A) (env : Env) : Room k (A.deeper env) :=
  ⟨r.hd, by have := r.dp; show A.depth + 1 + 3 * k + 5 < _; omega, by have := r.un; show A.units + 3 + 16 * k + 200 < _; omega⟩
theorem make_depth {A : Around} {C : Addr} {us : List Value} {kw : List (Str × Value)} : (A.under (.builtin "type.__call__" ⟨.ref C :: us, kw⟩)).depth = A.depth + 1 := by
  first | rfl | simp [Around.under, Code.weight, Code.isCreation, Code.isGuard, Code.isCaller, Code.frames, Code.isFrame, guardIds]
theorem make_units {A : Around} {C : Addr} {us : List Value} {kw : List (Str × Value)} : (A.under (.builtin "type.__call__" ⟨.ref C :: us, kw⟩)).units = A.units + 1 := by
  first | rfl | simp [Around.under, Code.cUnits, Code.frames, Code.isFrame]
theorem Room.make {k : Nat} {A : Around} (r : Room (k + 1) A) (C : Addr) (us : List Value) (kw : List (Str × Value)) : Room k (A.under (.builtin "type.__call__" ⟨.ref C :: us, kw⟩)) :=
  ⟨r.hd, by have := r.dp; rw [make_depth]; omega, by have := r.un; rw [make_units]; omega⟩
theorem Room.depth {k : Nat} {A : Around} (r : Room k A) : A.depth < recursionLimit := by have := r.dp; omega
theorem Room.units {k : Nat} {A : Around} (r : Room k A) : A.units + 64 < cLine := by have := r.un; omega

/-! ### argument lists and displays -/
def tNil : TA := fun _ H Q => Q [] H
def tCons (ta : TE) (tr : TA) : TA := fun σ H Q => ta σ H fun x H1 => tr σ H1 fun xs H2 => Q (x :: xs) H2
section
variable {X : Cx} {e : Expr} {es : List Expr} {te : TE} {t : TA} {pos : Pos}
theorem pa_nil : PA X [] tNil := fun _ _ _ _ H Q I h => Calls.spliced_nil ⟨[], H, I, .nil, h⟩
theorem pa_cons (ha : PE X e te) (hr : PA X es t) (hs : starEach (e :: es) X.env = (false, eval e X.env) :: starEach es X.env := by rfl) : PA X (e :: es) (tCons te t) := by
  intro pos pins s σ H Q I h
  rw [hs]
  show wpAny _ _ (spliced ((false, eval e X.env) :: backTo pos (starEach es X.env))) _ _ s
  refine Calls.spliced_cons (thn (ha pins s σ H _ I h) fun u s1 hpat => ?_)
  obtain ⟨x, H1, I1, r1, q1⟩ := hpat
  exact thn (hr pos pins s1 σ H1 _ I1 q1) fun us s2 ⟨xs, H2, I2, r2, q2⟩ => ⟨x :: xs, H2, I2, .cons r1 r2, q2⟩

/-- a tuple, a list of written items -/
def tTup (t : TA) : TE := fun σ H Q => t σ H fun xs H1 => xs.length ≤ sizeLine ∧ ∀ p, H1 p = none → Q (.ref p) (upd H1 p (.tup xs))
def tLst (t : TA) : TE := fun σ H Q => t σ H fun xs H1 => xs.length ≤ sizeLine ∧ ∀ p, H1 p = none → Q (.ref p) (upd H1 p (.lst xs))
theorem pe_tup {x1} (h : PA X es t) : PE X (.Tuple es x1 pos) (tTup t) := by
  intro pins s σ H Q I hq
  refine wpAny_Tuple_spliced (thn (h pos pins s σ H _ I hq) fun us s1 ⟨xs, H1, I1, r, z, q⟩ => ⟨by rw [← r.length]; exact z, ?_⟩)
  have hf : H1 s1.heap.objs.size = none := I1.hok.fresh (Nat.le_refl _)
  refine ⟨.ref s1.heap.objs.size, upd H1 s1.heap.objs.size (.tup xs), I1.laid (t' := s1.toks) (fun b u e => Heap.get?_push_of_some _ e) (Nat.le_refl _) ?_, rfl, q _ hf⟩
  exact ⟨z, us, r, ⟨_, Heap.get?_push_size _ rfl, rfl, _, rfl⟩⟩
theorem pe_lst (h : PA X es t) : PE X (.List es pos) (tLst t) := by
  intro pins s σ H Q I hq
  refine wpAny_List_spliced (thn (h pos pins s σ H _ I hq) fun us s1 ⟨xs, H1, I1, r, z, q⟩ => ⟨by rw [← r.length]; exact z, ?_⟩)
  have hf : H1 s1.heap.objs.size = none := I1.hok.fresh (Nat.le_refl _)
  refine ⟨.ref s1.heap.objs.size, upd H1 s1.heap.objs.size (.lst xs), I1.laid (t' := s1.toks) (fun b u e => Heap.get?_push_of_some _ e) (Nat.le_refl _) ?_, rfl, q _ hf⟩
  exact ⟨z, us, 0, r, Heap.get?_push_size _ rfl⟩
end

/-! ### what a def promises -/
/-- a def's promise: the bound arguments in the parameters' order, the heap, the wanted end, the wanted exception -/
abbrev Sp := List V → Hp → VK → XK → Prop
/-- how an exception lies behind a call (file 08 gives it): the callers' frames, abstract heap and state ahead of the call, the wish, the exception, the state -/
abbrev CXT := List Env → Hp → Shared → XK → Value → Shared → Prop

/-- the state at a call -/
structure Env0 (P : Program) (w : World) (K : PySem.W.Frag) (mg : Str → Option Value) (base : Heap) (A : Around) (outer : List Env) (s : Shared) (H : Hp) : Prop where
  frames : A.frames = some outer
  mod : Mod K mg base
  bs : ∀ b o, base.get? b = some o → s.heap.get? b = some o ∧ H b = none
  bsz : base.objs.size ≤ s.heap.objs.size
  funs : s.heap.FunFrames base outer
  frf : ∀ b ∈ frs outer, H b = none
  hok : HOk P w H s.heap
  bare : AllBare s.gens
/-- a call's end -/
def CE (outer : List Env) (P : Program) (w : World) (H : Hp) (s : Shared) (Q : VK) (u : Value) (s' : Shared) : Prop :=
  ∃ v H', s'.os = s.os ∧ AllBare s'.gens ∧ Un (frs outer) [] H H' s.heap s'.heap ∧ HOk P w H' s'.heap ∧ RelV v u ∧ Q v H'
def CR (CX : CXT) (outer : List Env) (P : Program) (w : World) (H : Hp) (s : Shared) (Q : VK) (E : XK) (r : Result) (s' : Shared) : Prop :=
  match r with
  | .ok (.ret u) => CE outer P w H s Q u s'
  | .ok _ => False
  | .error e => CX outer H s E e s'
structure FnOk (P : Program) (w : World) (K : PySem.W.Frag) (mg : Str → Option Value) (base : Heap) (CX : CXT) (k : Nat) (f : Addr) (fd : FuncData) (ps : List Str) (sp : Sp) : Prop where
  len : ∀ vs H Q E, sp vs H Q E → vs.length = ps.length
  run : ∀ (A : Around) (outer : List Env) (s : Shared) (H : Hp) (args : Args) (us : List Value) (vs : List V) (Q : VK) (E : XK), Room k A → Env0 P w K mg base A outer s H → BindsTo s fd args (ps.zip us) → Vals vs us → sp vs H Q E →
    codeAny (model P w) A (.call (.ref f) args) (CR CX outer P w H s Q E) s

theorem Env0.make {P : Program} {w : World} {K : PySem.W.Frag} {mg : Str → Option Value} {base : Heap} {A : Around} {outer : List Env} {s : Shared} {H : Hp} (e : Env0 P w K mg base A outer s H) (C : Addr) (us : List Value) (kw : List (Str × Value)) :
    Env0 P w K mg base (A.under (.builtin "type.__call__" ⟨.ref C :: us, kw⟩)) outer s H := ⟨by first | exact e.frames | (simpa [Around.under, Code.envs, Code.isFrame, pushEnvs] using e.frames), e.mod, e.bs, e.bsz, e.funs, e.frf, e.hok, e.bare⟩

section
variable {X : Cx} {pins : List (Addr × Obj)} {σ : St} {H : Hp} {s s' : Shared}
/-- from a body: what a callee wants -/
theorem Inv.env0 (I : Inv X pins σ H s) : Env0 X.prog X.w X.K X.mg X.base X.A X.stack s H :=
  ⟨I.ok.frames, I.ok.mod, I.bs, Nat.le_trans I.ok.bsz I.sz, I.stack, I.stkFree, I.hok, I.bare⟩
/-- behind a call -/
theorem Inv.after {Q : VK} {u : Value} (I : Inv X pins σ H s) (h : CE X.stack X.prog X.w H s Q u s') : EP X pins σ Q u s' := by
  obtain ⟨v, H', os, bare, un, hok, r, q⟩ := h
  obtain ⟨hh, g, d, t, os'⟩ := s'
  obtain rfl : os' = s.os := os
  exact ⟨v, H', I.call (h' := hh) (g' := g) (d' := d) (t' := t) (ch := []) un hok bare (fun b z => absurd z (by simp)), r, q⟩
end

/-! ### calls -/
/-- f(..): the written arguments, then the defaults dvs; E: what is wanted of an exception -/
def tCall (sp : Sp) (dvs : List V) (E : XK) (t : TA) : TE := fun σ H Q => t σ H fun vs H1 => sp (vs ++ dvs) H1 Q E
inductive MethP (C : Addr) (m : Str) (x : V) (H : Hp) (G : Prop) : Prop
  | mk (a dx : Addr) (fs : List (Str × V)) (hx : x = .ref a) (h : H a = some (.ins C dx fs)) (l : fs.lookup m = none) (q : G)
/-- o.m(..) of an instance of the class at C -/
def tMeth (C : Addr) (m : Str) (sp : Sp) (dvs : List V) (E : XK) (ta : TE) (t : TA) : TE := fun σ H Q => ta σ H fun x H1 => MethP C m x H1 (t σ H1 fun vs H2 => sp (x :: (vs ++ dvs)) H2 Q E)
/-- C(..): a new instance and its dict, then __init__ -/
def tMake (C : Addr) (sp : Sp) (dvs : List V) (E : XK) (t : TA) : TE := fun σ H Q => t σ H fun vs H1 => ∀ x dx, H1 x = none → H1 dx = none → dx ≠ x →
  sp (.ref x :: (vs ++ dvs)) (upd (upd H1 dx (.own x)) x (.ins C dx [])) (fun v H2 => v = .non ∧ Q (.ref x) H2) E

/-- how the parameters are bound: us the positional arguments, kw the keywords' values by name, ds the defaults that fill up -/
def Binds (K : PySem.W.Frag) (fd : FuncData) (ps : List Str) (ds : List Value) : Prop :=
  ∀ (s : Shared) (us : List Value), K.In s.heap → (us ++ ds).length = ps.length → BindsTo s fd ⟨us, []⟩ (ps.zip (us ++ ds))
/-- every parameter is given -/
theorem Binds.all {K : PySem.W.Frag} {fd : FuncData} {ps : List Str} (h : ∀ us : List Value, us.length = ps.length → bindArgs fd ⟨us, []⟩ = pure (ps.zip us)) : Binds K fd ps [] := fun s us _ hl => by
  rw [List.append_nil] at hl ⊢
  exact .of_eq (h us hl)

/-- an exception of a callee reaches what this body wants of exceptions -/
def Passes (CX : CXT) (X : Cx) (E : XK) : Prop := ∀ (pins : List (Addr × Obj)) (σ : St) (H : Hp) (s : Shared) (e : Value) (s' : Shared), Inv X pins σ H s → CX X.stack H s E e s' → X.xe e s'

section
variable {X : Cx} {CX : CXT} {k : Nat} {f C : Addr} {fd : FuncData} {ps : List Str} {sp : Sp} {dvs : List V} {ds : List Value} {E : XK} {x m : Str} {p pos apos : Pos} {e o : Expr} {es : List Expr} {ta : TE} {t : TA}

/-- the callee runs -/
theorem run_fn {pins : List (Addr × Obj)} {σ : St} {H : Hp} {s : Shared} {Q : VK} {us : List Value} {vs : List V} (F : FnOk X.prog X.w X.K X.mg X.base CX k f fd ps sp) (hr : Room k X.A) (hb : Binds X.K fd ps ds) (hd : Vals dvs ds) (hx : Passes CX X E)
    (I : Inv X pins σ H s) (r : Vals vs us) (h : sp (vs ++ dvs) H Q E) : wpAny (model X.prog X.w) X.A (call (.ref f) us) (EP X pins σ Q) X.xe s := by
  have r2 : Vals (vs ++ dvs) (us ++ ds) := r.append hd
  have hl : (us ++ ds).length = ps.length := by rw [← r2.length]; exact F.len _ _ _ _ h
  refine wpAny_call (codeAny_mono (F.run X.A X.stack s H ⟨us, []⟩ (us ++ ds) (vs ++ dvs) Q E hr I.env0 (hb s us I.kIn hl) r2 h) fun r s' hq => ?_)
  cases r with
  | error e => exact hx pins σ H s e s' I hq
  | ok fl =>
    cases fl with
    | ret u => exact I.after hq
    | next => exact False.elim hq
    | brk => exact False.elim hq
    | cont => exact False.elim hq

theorem pe_call (F : FnOk X.prog X.w X.K X.mg X.base CX k f fd ps sp) (hr : Room k X.A) (hg : Gl X x) (hm : X.mg x = some (.ref f)) (hk : PySem.W.keepIn X.K (.ref f) = true) (hb : Binds X.K fd ps ds) (hd : Vals dvs ds) (hx : Passes CX X E)
    (ha : PA X (e :: es) t) (hdb : (x == ("__debug__" : Str)) = false := by decide) (he : starEach (e :: es) X.env = (false, eval e X.env) :: starEach es X.env := by rfl) (hpl : (backTo pos (starEach es X.env)).any (·.1) = false := by rfl) :
    PE X (.Call (.Name x p) (e :: es) [] pos) (tCall sp dvs E t) := by
  intro pins s σ H Q I h
  refine wpAny_Call_Name_kw (ld_glob I hg hm ?_ hdb)
  refine PySem.W.callWith_K (h₀ := X.base) I.ok.mod.kin hk (thn (ha pos pins s σ H _ I h) fun us s1 ⟨vs, H1, I1, r, q⟩ => ⟨I1.kIn, ?_⟩) he hpl
  exact run_fn F hr hb hd hx I1 r q

/-- o.m() -/
theorem pe_meth0 {pl : Sem Bool} (he : PE X o ta) (c : Cls X.K C) (hm : Meth X.K C m f) (F : FnOk X.prog X.w X.K X.mg X.base CX k f fd ps sp) (hr : Room k X.A) (hb : Binds X.K fd ps ds) (hd : Vals dvs ds) (hx : Passes CX X E)
    (ht : eval (.Call (.Attribute o m apos) [] [] pos) X.env = (do
      let ov ← eval o X.env
      standAt apos.atName
      let (f, first) ← holding [ov] (getMethod ov m pl)
      callWith pos f first (backTo pos (starEach [] X.env)) (backToKw pos (keywordEach [] X.env))) := by rfl) :
    PE X (.Call (.Attribute o m apos) [] [] pos) (tMeth C m sp dvs E ta tNil) := by
  intro pins s σ H Q I h
  refine PySem.W.methodCall_KW (pl := pl) (thn (he pins s σ H _ I h) fun u s1 hpat => ?_) ht
  obtain ⟨x, H1, I1, rx, a, dx, fs, ex, ea, l, q⟩ := hpat
  subst ex
  obtain rfl : u = Value.ref a := rx
  refine getmeth_ok I1 ea c hm l ?_
  exact PySem.W.callWith_K0 (first := [.ref a]) I1.kIn hm.kp (run_fn (us := [.ref a]) (vs := [.ref a]) F hr hb hd hx I1 (.cons rfl .nil) q)

/-- what a class must have to be made -/
structure Mk (K : PySem.W.Frag) (C f : Addr) : Prop where
  makes : PySem.W.makesIn K C = true
  init : PySem.W.findIn K (.ref C) "__init__" = some (some (.ref f))
  fn : PySem.W.isFn K (.ref f) = true
  kp : PySem.W.keepIn K (.ref C) = true

theorem run_make {pins : List (Addr × Obj)} {σ : St} {H : Hp} {s : Shared} {Q : VK} {us : List Value} {vs : List V} (M : Mk X.K C f) (F : FnOk X.prog X.w X.K X.mg X.base CX k f fd ps sp) (hr : Room (k + 1) X.A) (hb : Binds X.K fd ps ds) (hd : Vals dvs ds)
    (hx : Passes CX X E) (I : Inv X pins σ H s) (r : Vals vs us)
    (h : ∀ x dx, H x = none → H dx = none → dx ≠ x → sp (.ref x :: (vs ++ dvs)) (upd (upd H dx (.own x)) x (.ins C dx [])) (fun v H2 => v = .non ∧ Q (.ref x) H2) E) :
    wpAny (model X.prog X.w) X.A (call (.ref C) us) (EP X pins σ Q) X.xe s := by
  have hq := h (s.heap.objs.size + 1) s.heap.objs.size (I.hok.fresh (Nat.le_succ _)) (I.hok.fresh (Nat.le_refl _)) (Nat.ne_of_lt (Nat.lt_succ_self _))
  have I2 := Inv.made (C := C) I
  have r2 : Vals (V.ref (s.heap.objs.size + 1) :: (vs ++ dvs)) (Value.ref (s.heap.objs.size + 1) :: (us ++ ds)) := .cons rfl (r.append hd)
  have hl : (Value.ref (s.heap.objs.size + 1) :: us ++ ds).length = ps.length := by
    have e := r2.length
    rw [F.len _ _ _ _ hq] at e
    exact e.symm
  refine wpAny_call (make_map (f := f) I.kIn M.makes M.init (beq_iff_eq.mp M.fn) (codeAny_mono (F.run _ X.stack _ _ ⟨Value.ref (s.heap.objs.size + 1) :: us, []⟩ (Value.ref (s.heap.objs.size + 1) :: (us ++ ds)) _ _ E (hr.make C us [])
    (I2.env0.make C us []) (hb _ (Value.ref (s.heap.objs.size + 1) :: us) I2.kIn hl) r2 hq) fun r s' hq' => ?_))
  cases r with
  | error e => exact hx pins σ _ _ e s' I2 hq'
  | ok fl =>
    cases fl with
    | ret u =>
      obtain ⟨v, H', I3, rv, ev, q3⟩ := I2.after hq'
      subst ev
      exact ⟨rv, ⟨V.ref (s.heap.objs.size + 1), H', I3, rfl, q3⟩⟩
    | next => exact False.elim hq'
    | brk => exact False.elim hq'
    | cont => exact False.elim hq'
theorem pe_make (M : Mk X.K C f) (F : FnOk X.prog X.w X.K X.mg X.base CX k f fd ps sp) (hr : Room (k + 1) X.A) (hg : Gl X x) (hm : X.mg x = some (.ref C)) (hb : Binds X.K fd ps ds) (hd : Vals dvs ds) (hx : Passes CX X E)
    (ha : PA X (e :: es) t) (hdb : (x == ("__debug__" : Str)) = false := by decide) (he : starEach (e :: es) X.env = (false, eval e X.env) :: starEach es X.env := by rfl) (hpl : (backTo pos (starEach es X.env)).any (·.1) = false := by rfl) :
    PE X (.Call (.Name x p) (e :: es) [] pos) (tMake C sp dvs E t) := by
  intro pins s σ H Q I h
  refine wpAny_Call_Name_kw (ld_glob I hg hm ?_ hdb)
  refine PySem.W.callWith_K (h₀ := X.base) I.ok.mod.kin M.kp (thn (ha pos pins s σ H _ I h) fun us s1 ⟨vs, H1, I1, r, q⟩ => ⟨I1.kIn, ?_⟩) he hpl
  exact run_make M F hr hb hd hx I1 r q
end

/-! ### keywords -/
/-- the values of the keywords, from the left -/
def PK (X : Cx) (kws : List Keyword) (t : TA) : Prop :=
  ∀ (pos : Pos) (pins : List (Addr × Obj)) (s : Shared) (σ : St) (H : Hp) (Q : List V → Hp → Prop), Inv X pins σ H s → t σ H Q → wpAny (model X.prog X.w) X.A (evalAll ((backToKw pos (keywordEach kws X.env)).map (·.2))) (AP X pins σ Q) X.xe s
section
variable {X : Cx} {CX : CXT} {k : Nat} {f C : Addr} {fd : FuncData} {ps ks : List Str} {sp : Sp} {E : XK} {x m : Str} {p pos apos kpos : Pos} {e o : Expr} {es : List Expr} {kws : List Keyword} {te ta : TE} {t tk : TA} {nm : Option Str}

/-- how a call with keywords binds: g puts the positional values us and the keywords' values ws (names ks) in the parameters' order, defaults among them -/
structure KBinds (K : PySem.W.Frag) (fd : FuncData) (ps ks : List Str) (g : List Value → List Value → List Value) (gV : List V → List V → List V) : Prop where
  to : ∀ (s : Shared) (us ws : List Value), K.In s.heap → (g us ws).length = ps.length → BindsTo s fd ⟨us, ks.zip ws⟩ (ps.zip (g us ws))
  rel : ∀ {vs : List V} {us : List Value} {zs : List V} {ws : List Value}, Vals vs us → Vals zs ws → Vals (gV vs zs) (g us ws)
def tCallK (sp : Sp) (gV : List V → List V → List V) (E : XK) (t tk : TA) : TE := fun σ H Q => t σ H fun vs H1 => tk σ H1 fun zs H2 => sp (gV vs zs) H2 Q E
variable {g : List Value → List Value → List Value} {gV : List V → List V → List V}
end

/-! ### a def's body keeps its promise -/
/-- names: the parameters first -/
structure FnScope (N P : List Str) (sc : Scope) : Prop where
  kind : sc.kind = .function
  co : sc.isCoroutine = false
  gen : sc.isGenerator = false
  nd : N.Nodup
  pre : N.take P.length = P
  par : ∀ x ∈ P, sc.names.lookup x = some .local ∨ sc.names.lookup x = some .cell
  nofree : ∀ y ∈ sc.names, y.2 ≠ .free

theorem bindL_out {kindOf : Str → Option NameKind} {x : Str} : ∀ {binds : List (Str × Value)} {m : Str → Option Value}, (∀ v, (x, v) ∉ binds) → bindL kindOf binds m x = m x
  | [], _, _ => rfl
  | (n, v) :: r, m, h => by
    unfold bindL
    rw [bindL_out fun w hw => h w (List.mem_cons_of_mem _ hw)]
    split
    · have : x ≠ n := by rintro rfl; exact h v List.mem_cons_self
      simp [this]
    · rfl
theorem bindC_out {kindOf : Str → Option NameKind} {x : Str} : ∀ {binds : List (Str × Value)} {m : Str → Option Value}, (∀ v, (x, v) ∉ binds) → bindC kindOf binds m x = m x
  | [], _, _ => rfl
  | (n, v) :: r, m, h => by
    unfold bindC
    rw [bindC_out fun w hw => h w (List.mem_cons_of_mem _ hw)]
    split
    · rfl
    · have : x ≠ n := by rintro rfl; exact h v List.mem_cons_self
      simp [this]
theorem bindL_get {kindOf : Str → Option NameKind} {x : Str} {v : Value} : ∀ {P : List Str} {vs : List Value} {i : Nat} {m : Str → Option Value}, P.Nodup → P[i]? = some x → vs[i]? = some v → kindOf x = some .local →
    bindL kindOf (P.zip vs) m x = some v
  | [], _, _, _, _, h, _, _ => by simp at h
  | _ :: _, [], _, _, _, _, h, _ => by simp at h
  | p :: P, w :: vs, 0, m, nd, h1, h2, hk => by
    simp at h1 h2; subst h1; subst h2
    show bindL kindOf ((p, w) :: P.zip vs) m p = _
    unfold bindL
    rw [bindL_out fun v hv => (List.nodup_cons.mp nd).1 (List.of_mem_zip hv).1, if_pos hk]
    simp
  | p :: P, w :: vs, i + 1, m, nd, h1, h2, hk => by
    show bindL kindOf ((p, w) :: P.zip vs) m x = _
    unfold bindL
    exact bindL_get (i := i) (List.nodup_cons.mp nd).2 (by simpa using h1) (by simpa using h2) hk
theorem bindC_get {kindOf : Str → Option NameKind} {x : Str} {v : Value} : ∀ {P : List Str} {vs : List Value} {i : Nat} {m : Str → Option Value}, P.Nodup → P[i]? = some x → vs[i]? = some v → kindOf x ≠ some .local →
    bindC kindOf (P.zip vs) m x = some v
  | [], _, _, _, _, h, _, _ => by simp at h
  | _ :: _, [], _, _, _, _, h, _ => by simp at h
  | p :: P, w :: vs, 0, m, nd, h1, h2, hk => by
    simp at h1 h2; subst h1; subst h2
    show bindC kindOf ((p, w) :: P.zip vs) m p = _
    unfold bindC
    rw [bindC_out fun v hv => (List.nodup_cons.mp nd).1 (List.of_mem_zip hv).1, if_neg hk]
    simp
  | p :: P, w :: vs, i + 1, m, nd, h1, h2, hk => by
    show bindC kindOf ((p, w) :: P.zip vs) m x = _
    unfold bindC
    exact bindC_get (i := i) (List.nodup_cons.mp nd).2 (by simpa using h1) (by simpa using h2) hk

/-- the names' values at the entry -/
def start (N : List Str) (vs : List V) : St := vs.map some ++ List.replicate (N.length - vs.length) none

/-- the context of a def's body, at its entry; an exception leaves the frame, then lies as CX says -/
def cxOf (CX : CXT) (P : Program) (w : World) (K : PySem.W.Frag) (mg : Str → Option Value) (base : Heap) (N : List Str) (qual : Str) (scope : Scope) (f : Addr) (cd : Value) (A : Around) (outer : List Env) (s : Shared) (H : Hp) (E : XK) : Cx where
  prog := P
  w := w
  K := K
  mg := mg
  base := base
  A := A.deeper (envOfC qual scope s.heap.objs.size f cd)
  N := N
  s₀ := s
  H₀ := H
  env := envOfC qual scope s.heap.objs.size f cd
  outer := outer
  stack := envOfC qual scope s.heap.objs.size f cd :: outer
  ex := []
  calm := true
  fn := fun _ => true
  pn := []
  xe := fun e s' => wpAny (model P w) (A.deeper (envOfC qual scope s.heap.objs.size f cd)) (leaving (envOfC qual scope s.heap.objs.size f cd) e) (fun _ s'' => CX outer H s E e s'') (fun e' s'' => CX outer H s E e' s'') s'

theorem cell_has {sc : Scope} {n : Nat} {x : Str} (h : sc.names.lookup x = some .cell) : ∃ c, (cellsFrom n sc.names []).lookup x = some c := by
  have q := PySem.W.cellsFrom_some sc.names n [] (.inl h)
  exact Option.isSome_iff_exists.mp q

theorem inv_start {CX : CXT} {P : Program} {w : World} {K : PySem.W.Frag} {mg : Str → Option Value} {base : Heap} {N ps : List Str} {qual : Str} {scope : Scope} {f : Addr} {cd : Value} {A : Around} {outer : List Env} {s s1 : Shared} {H : Hp} {E : XK} {us : List Value} {vs : List V}
    (S : FnScope N ps scope) (hd : A.handled = none) (e0 : Env0 P w K mg base A outer s H) (hl : vs.length = ps.length) (r : Vals vs us)
    (x : InCallC s s.heap.objs.size (bindL (envOfC qual scope s.heap.objs.size f cd).kindOf (ps.zip us) fun _ => none) (cellsFrom (s.heap.objs.size + 1) scope.names []) (bindC (envOfC qual scope s.heap.objs.size f cd).kindOf (ps.zip us) fun _ => none) s1) :
    Inv (cxOf CX P w K mg base N qual scope f cd A outer s H E) [] (start N vs) H s1 := by
  have hpl : ps.length ≤ N.length := by have := congrArg List.length S.pre; rw [List.length_take] at this; omega
  obtain ⟨h1, tk, rfl, hk⟩ := x.done
  have noA : ∀ b : Addr, b ∉ (cxOf CX P w K mg base N qual scope f cd A outer s H E).ex := fun b z => absurd (show b ∈ ([] : List Addr) from z) (by simp)
  refine ⟨⟨e0.mod, S.kind, rfl, rfl, Nat.le_refl _, fun y z c h1 h2 => ?_, fun y hy => ?_, fun y c _ h => ?_, fun _ => hd, Around.frames_deeper e0.frames, .inr ⟨rfl, rfl⟩, fun b z => absurd z (noA b), e0.bs, e0.bsz, fun b _ _ => noA b, fun b z => absurd z (noA b), e0.funs, e0.frf⟩,
    rfl, e0.bare, Un.kept hk, ⟨_, x.toInCall.ns, fun i y v h1 h2 h3 => ?_⟩, fun y c h => ⟨_, x.cell y c h⟩, e0.hok.fresh (Nat.le_refl _), fun y c h => ?_, fun p hp => absurd (show p ∈ ([] : List (Addr × Obj)) from hp) (by simp), e0.hok.kept hk, ?_⟩
  · exact name_of_addr x.apart (PySem.mem_of_lookup h1) (PySem.mem_of_lookup h2)
  · have hy : scope.names.lookup y = some .cell ∨ scope.names.lookup y = some .free := hy
    rcases hy with hy | hy
    · exact cell_has hy
    · exact absurd rfl (S.nofree _ (PySem.mem_of_lookup hy))
  · exact Nat.le_of_lt (x.above y c (PySem.mem_of_lookup h))
  · have hi : i < vs.length := by
      unfold start at h2
      by_cases hi : i < vs.length
      · exact hi
      · rw [List.getElem?_append_right (by simpa using hi)] at h2
        rw [List.getElem?_replicate] at h2
        split at h2 <;> cases h2
    have ha : vs[i]? = some v := by
      unfold start at h2
      rw [List.getElem?_append_left (by simpa using hi), List.getElem?_map] at h2
      cases e : vs[i]? with
      | none => rw [e] at h2; cases h2
      | some a => rw [e] at h2; cases h2; rfl
    obtain ⟨u, hu, rv⟩ := r.get ha
    have hp : ps[i]? = some y := by
      rw [← S.pre, List.getElem?_take_of_lt (by omega)]; exact h1
    have ndP : ps.Nodup := by rw [← S.pre]; exact S.nd.sublist (List.take_sublist _ _)
    refine ⟨u, rv, ?_⟩
    rcases S.par y (List.mem_of_getElem? hp) with k | k
    · exact .inl ⟨k, bindL_get ndP hp hu k⟩
    · obtain ⟨c, e⟩ := cell_has (n := s.heap.objs.size + 1) k
      refine .inr ⟨.inl k, c, e, ?_⟩
      have q := x.cell y c e
      rw [bindC_get ndP hp hu (by show scope.names.lookup y ≠ _; rw [k]; decide)] at q
      exact q
  · exact e0.hok.fresh (Nat.le_of_lt (x.above y c (PySem.mem_of_lookup h)))
  · unfold start
    show _ = N.length
    rw [List.length_append, List.length_map, List.length_replicate]
    omega

/-- THE RULE: a def (or a method) of the text, by its body. The body's reading t is chosen for each entry; it is run at the parameters' values -/
theorem fn_of {CX : CXT} {P : Program} {w : World} {K : PySem.W.Frag} {mg : Str → Option Value} {base : Heap} {k : Nat} {f : Addr} {name qual : Str} {params : Arguments} {body : List Stmt} {scope : Scope} {dV kV doc pm cdv ct oc : Value} {an od : Option Addr}
    {osl : Array (Option Value)} {N ps : List Str} {sp : Sp} (lk : K.lookup f = some ⟨oc, od, .func (PySem.W.fnOf name qual params body scope dV kV doc pm an cdv ct), osl⟩) (hcd : PySem.W.codeIn K cdv qual = true) (S : FnScope N ps scope)
    (len : ∀ vs H Q E, sp vs H Q E → vs.length = ps.length)
    (hbody : ∀ (A : Around) (outer : List Env) (s : Shared) (H : Hp) (vs : List V) (Q : VK) (E : XK), Room k (A.deeper (envOfC qual scope s.heap.objs.size f cdv)) → sp vs H Q E →
      ∃ t, PSs (cxOf CX P w K mg base N qual scope f cdv A outer s H E) body t ∧ t { nx := fun _ H' => Q .non H', rt := Q } (start N vs) H) :
    FnOk P w K mg base CX (k + 1) f (PySem.W.fnOf name qual params body scope dV kV doc pm an cdv ct) ps sp := by
  refine ⟨len, fun A outer s H args us vs Q E hr e0 hb r hsp => ?_⟩
  have hl := len _ _ _ _ hsp
  have KX : K.In s.heap := e0.mod.kin.keeps fun b o e => (e0.bs b o e).1
  have lim : s.heap.NoLimit := e0.mod.nolimit.keeps fun b o e => (e0.bs b o e).1
  have hkind : ∀ y ∈ ps.zip us, scope.names.lookup y.1 = some .local ∨ (scope.names.lookup y.1 = some .cell ∧ ((cellsFrom (s.heap.objs.size + 1) scope.names []).lookup y.1).isSome = true) := fun ⟨n, v⟩ hy => by
    rcases S.par n (List.of_mem_zip hy).1 with q | q
    · exact .inl q
    · exact .inr ⟨q, PySem.W.cellsFrom_some _ _ _ (.inl q)⟩
  refine codeAny_call_function hr.depth (KX _ _ lk) rfl S.co S.gen rfl (PySem.W.codeRec_of KX hcd) (hb _ _ _ _ ?_)
  refine wpAny_newFunctionEnv_cells S.kind hkind fun env he s1 x => ?_
  subst he
  refine ⟨lim.keeps x.toInCall.keep, codeAny_func ?_⟩
  obtain ⟨t, ht, hq⟩ := hbody A outer s H vs Q E (hr.deeper _) hsp
  have I : Inv (cxOf CX P w K mg base N qual scope f cdv A outer s H E) [] (start N vs) H s1 := inv_start S hr.hd e0 hl r x
  refine wpAny_mono (ht [] s1 (start N vs) H _ I hq) (fun fl s' hs => ?_) fun e s' hs => hs
  have fin : ∀ {σ' : St} {H' : Hp} {v : V} {u : Value}, Inv (cxOf CX P w K mg base N qual scope f cdv A outer s H E) [] σ' H' s' → RelV v u → Q v H' → CE outer P w H s Q u s' :=
    fun {σ' H' v u} J rv q => ⟨v, H', J.os, J.bare, J.base, J.hok, rv, q⟩
  cases fl with
  | ret u =>
    obtain ⟨v, σ', H', J, rv, q⟩ := hs
    exact fin J rv q
  | next =>
    obtain ⟨σ', H', J, q⟩ := hs
    exact fin (v := V.non) (u := Value.none) J rfl q
  | brk =>
    obtain ⟨_, _, _, q⟩ := hs
    exact False.elim q
  | cont =>
    obtain ⟨_, _, _, q⟩ := hs
    exact False.elim q
end L2

namespace L2
open PySem PySem.Spec PyProof.Rows
section
variable {X : Cx} {x : Str} {p pos : Pos} {e : Expr} {es : List Expr} {t : TA} {id T : String} {r : List V → Hp → VK → Prop}

def tCB (r : List V → Hp → VK → Prop) (t : TA) : TE := fun σ H Q => t σ H fun vs H1 => r vs H1 Q
/-- f(e, ..), f a built-in function -/
theorem pe_callB (hc : CallR X (.builtin id) r) (hg : Gl X x) (hm : X.mg x = none) (hv : bootBuiltins x = some (.builtin id)) (ha : PA X (e :: es) t) (hn : x ≠ "__name__" := by decide) (hdb : (x == ("__debug__" : Str)) = false := by decide)
    (he : starEach (e :: es) X.env = (false, eval e X.env) :: starEach es X.env := by rfl) (hpl : (backTo pos (starEach es X.env)).any (·.1) = false := by rfl) : PE X (.Call (.Name x p) (e :: es) [] pos) (tCB r t) := by
  intro pins s σ H Q I h
  refine wpAny_Call_Name_kw (ld_blt I hg hm hv ?_ hn hdb)
  exact PyProof.Rows.callWith_builtin1 (thn (ha pos pins s σ H _ I h) fun us s1 ⟨vs, H1, I1, r1, q1⟩ => hc pins s1 σ H1 vs us Q I1 r1 q1) he hpl
/-- T(e, ..), T a built-in type -/
theorem pe_callTy (hc : CallR X (.type T) r) (hg : Gl X x) (hm : X.mg x = none) (hv : bootBuiltins x = some (.type T)) (ha : PA X (e :: es) t) (hn : x ≠ "__name__" := by decide) (hdb : (x == ("__debug__" : Str)) = false := by decide)
    (he : starEach (e :: es) X.env = (false, eval e X.env) :: starEach es X.env := by rfl) (hpl : (backTo pos (starEach es X.env)).any (·.1) = false := by rfl) : PE X (.Call (.Name x p) (e :: es) [] pos) (tCB r t) := by
  intro pins s σ H Q I h
  refine wpAny_Call_Name_kw (ld_blt I hg hm hv ?_ hn hdb)
  exact PyProof.Rows.callWith_type1 (thn (ha pos pins s σ H _ I h) fun us s1 ⟨vs, H1, I1, r1, q1⟩ => hc pins s1 σ H1 vs us Q I1 r1 q1) he hpl
end
end L2

namespace HT
open PySem PyProof.Rows

/-- t < u of tuples of ints -/
def lexLt : List Int → List Int → Bool
  | [], [] => false
  | [], _ :: _ => true
  | _ :: _, [] => false
  | x :: xs, y :: ys => if x = y then lexLt xs ys else decide (x < y)


section
open PySem.SeqAt
open PySem.AutoSeq1 (wpAny_loadPart')
open PySem.MeetsSeq PySem.MeetsSeq2 PySem.MeetsSeq3

end

section
variable {prog : Program} {w : World} {A : Around} {E : Value → Shared → Prop} {s : Shared}



/-! ### t[a:b], not the whole -/
/-- a slice's bound as a place among n (d where it is left out) -/
def sIx (n d : Nat) : Option Int → Nat
  | none => d
  | some v => if v < 0 then (v + (n : Int)).toNat else min v.toNat n
theorem sIx_none (n d : Nat) : sIx n d none = d := rfl
theorem sIx_nat (n d k : Nat) : sIx n d (some (k : Int)) = min k n := by
  show (if (k : Int) < 0 then ((k : Int) + (n : Int)).toNat else min (k : Int).toNat n) = min k n
  rw [if_neg (by omega), Int.toNat_natCast]
theorem sIx_le (n d : Nat) (hd : d ≤ n) (o : Option Int) : sIx n d o ≤ n := by
  cases o with
  | none => exact hd
  | some v =>
    show (if v < 0 then (v + (n : Int)).toNat else min v.toNat n) ≤ n
    by_cases hv : v < 0
    · rw [if_pos hv]; omega
    · rw [if_neg hv]; exact Nat.min_le_right _ _
theorem castMin (a b : Nat) : ((min a b : Nat) : Int) = min (a : Int) (b : Int) := by omega

end
end HT

namespace L2
open PySem PySem.Spec PyProof.Rows

/-! ### the parts of a slice -/
abbrev TO := St → Hp → (Option Int → Hp → Prop) → Prop
/-- a slice's part (left out, or an int) -/
def PO (X : Cx) (e : Option Expr) (t : TO) : Prop :=
  ∀ (pins : List (Addr × Obj)) (s : Shared) (σ : St) (H : Hp) (Q : Option Int → Hp → Prop), Inv X pins σ H s → t σ H Q →
    wpAny (model X.prog X.w) X.A (evalPart e X.env) (fun u s' => ∃ o H', Inv X pins σ H' s' ∧ IsPart u o ∧ Q o H') X.xe s
def tNoPart : TO := fun _ H Q => Q none H
inductive IntV (x : V) (H : Hp) (Q : Option Int → Hp → Prop) : Prop
  | mk (i : Int) (h : x = .int i) (q : Q (some i) H)
def tPart (t : TE) : TO := fun σ H Q => t σ H fun x H1 => IntV x H1 Q


section
variable {X : Cx} {e : Expr} {te : TE} {lo hi : Option Expr} {tl th : TO} {pos p2 : Pos}

theorem po_none : PO X none tNoPart := by
  intro pins s σ H Q I h
  rw [evalPart_none]
  exact wpAny_pure ⟨none, H, I, .none, h⟩
theorem po_some (h : PE X e te) : PO X (some e) (tPart te) := by
  intro pins s σ H Q I hw
  rw [evalPart_some]
  refine thn (h pins s σ H _ I hw) fun u s1 hpat => ?_
  obtain ⟨x, H1, I1, r1, q1⟩ := hpat
  obtain ⟨i, rfl, q⟩ := q1
  obtain ⟨t, rfl⟩ := r1
  exact ⟨some i, H1, I1, .int i t, q⟩

/-- what a slice of a value is, by values: the slice object stands at sl -/
def SlR (X : Cx) (r : V → Option Int → Option Int → Hp → VK → Prop) : Prop :=
  ∀ (pins : List (Addr × Obj)) (s : Shared) (σ : St) (H : Hp) (x : V) (v vl vu : Value) (lo hi : Option Int) (sl : Addr) (Q : VK), Inv X pins σ H s → RelV x v → s.heap.IsSliceOf sl vl vu .none → IsPart vl lo → IsPart vu hi → r x lo hi H Q →
    ∃ T id, typeLookup (.type T) "__getitem__" = pure (some (.builtin id)) ∧ s.TypeIs v T ∧ wpAny (model X.prog X.w) X.A (getItem v (.ref sl)) (EP X pins σ Q) X.xe s
def tSl (r : V → Option Int → Option Int → Hp → VK → Prop) (te : TE) (tl th : TO) : TE := fun σ H Q => te σ H fun x H1 => tl σ H1 fun l H2 => th σ H2 fun u H3 => r x l u H3 Q
/-- a[lo:hi], any a -/
theorem pe_slice {r : V → Option Int → Option Int → Hp → VK → Prop} (hr : SlR X r) (he : PE X e te) (hl : PO X lo tl) (hu : PO X hi th) : PE X (.Subscript e (.Slice lo hi none p2) pos) (tSl r te tl th) := by
  intro pins s σ H Q I h
  refine Subscript_ (thn (he pins s σ H _ I h) fun v s1 hpat => ?_)
  obtain ⟨x, H1, I1, r1, q1⟩ := hpat
  refine wpAny_Slice (thn (hl pins s1 σ H1 _ I1 q1) fun vl s2 ⟨l, H2, I2, pl, q2⟩ => thn (hu pins s2 σ H2 _ I2 q2) fun vu s3 hpat => ?_)
  obtain ⟨u, H3, I3, pu, q3⟩ := hpat
  rw [evalPart_none]
  refine wpAny_pure ?_
  have I4 : Inv X pins σ H3 { s3 with heap := s3.heap.push { cls := .type "slice", data := .fields #[vl, vu, .none] } } := I3.kept (t' := s3.toks) fun b ob q => Heap.get?_push_of_some _ q
  obtain ⟨T, id, hT, ht, hg⟩ := hr pins { s3 with heap := s3.heap.push { cls := .type "slice", data := .fields #[vl, vu, .none] } } σ H3 x v vl vu l u s3.heap.objs.size Q I4 r1 (Heap.IsSliceOf.new ..) pl pu q3
  show wpAny (model X.prog X.w) X.A (subscriptTail e (.Slice lo hi none p2) v (.ref s3.heap.objs.size)) (EP X pins σ Q) X.xe { s3 with heap := s3.heap.push { cls := .type "slice", data := .fields #[vl, vu, .none] } }
  exact tail_any (ops := [.ref s3.heap.objs.size, v]) ht hT hg (by with_unfolding_all rfl)

/-- the items of xs[lo:hi] -/
def cutV (xs : List V) (lo hi : Option Int) : List V := (xs.drop (HT.sIx xs.length 0 lo)).take (HT.sIx xs.length xs.length hi - HT.sIx xs.length 0 lo)
theorem cutV_length (xs : List V) (lo hi : Option Int) : (cutV xs lo hi).length ≤ xs.length := by
  unfold cutV
  rw [List.length_take, List.length_drop]
  exact Nat.le_trans (Nat.min_le_right _ _) (Nat.sub_le _ _)
/-- t[lo:hi], not the whole of it (the whole would be t itself) -/
def rSlT (K : PySem.W.Frag) : V → Option Int → Option Int → Hp → VK → Prop := fun x lo hi H Q => ∃ a xs, x = .ref a ∧ SqT K H a xs ∧
  ¬ (HT.sIx xs.length 0 lo = 0 ∧ HT.sIx xs.length xs.length hi = xs.length) ∧ ∀ p, H p = none → Q (.ref p) (upd H p (.tup (cutV xs lo hi)))

/-! ### t < u, t + u -/
def rLtT (K : PySem.W.Frag) : R2 := fun x y H Q => ∃ a b ns ms, x = .ref a ∧ y = .ref b ∧ SqT K H a (ns.map V.int) ∧ SqT K H b (ms.map V.int) ∧ Q (.bl (HT.lexLt ns ms)) H
/-- t + u, t not empty: u empty gives t itself -/
def rCatT (K : PySem.W.Frag) : R2 := fun x y H Q => ∃ a b xs ys, x = .ref a ∧ y = .ref b ∧ SqT K H a xs ∧ SqT K H b ys ∧ xs ≠ [] ∧ xs.length + ys.length ≤ sizeLine ∧
  (ys = [] → Q (.ref a) H) ∧ (ys ≠ [] → ∀ p, H p = none → Q (.ref p) (upd H p (.tup (xs ++ ys))))
end
end L2

namespace L2
open PySem PySem.Spec PyProof.Rows

/-! ### places -/
/-- the place that an index of any sign means -/
def ixN (n : Nat) (i : Int) : Option Nat := if 0 ≤ i then (if i < n then some i.toNat else none) else if -(n : Int) ≤ i then some (i + n).toNat else none
def atI {α : Type} (xs : List α) (i : Int) : Option α := (ixN xs.length i).bind fun j => xs[j]?
theorem ixN_seq {n : Nat} {i : Int} {j : Nat} (h : ixN n i = some j) : seqIndex? i n = some j ∧ j < n ∧ -(n : Int) ≤ i ∧ i < n := by
  unfold ixN at h
  by_cases h0 : 0 ≤ i
  · rw [if_pos h0] at h
    by_cases h1 : i < n
    · rw [if_pos h1] at h
      have e : i.toNat = j := Option.some.inj h
      exact ⟨by rw [seqIndex_of h0 h1, e], by omega, by omega, h1⟩
    · rw [if_neg h1] at h; cases h
  · rw [if_neg h0] at h
    by_cases h1 : -(n : Int) ≤ i
    · rw [if_pos h1] at h
      have e : (i + n).toNat = j := Option.some.inj h
      exact ⟨by rw [seqIndex_neg (by omega) h1, e], by omega, h1, by omega⟩
    · rw [if_neg h1] at h; cases h
theorem atI_get {α : Type} {xs : List α} {i : Int} {v : α} (h : atI xs i = some v) : ∃ j, seqIndex? i xs.length = some j ∧ xs[j]? = some v ∧ j < xs.length ∧ -(xs.length : Int) ≤ i ∧ i < xs.length := by
  unfold atI at h
  cases e : ixN xs.length i with
  | none => rw [e] at h; cases h
  | some j =>
    rw [e] at h
    obtain ⟨h1, h2, h3, h4⟩ := ixN_seq e
    exact ⟨j, h1, h, h2, h3, h4⟩
theorem atI_nat {α : Type} {xs : List α} {j : Nat} {v : α} (h : xs[j]? = some v) : atI xs (j : Int) = some v := by
  have hj : j < xs.length := (List.getElem?_eq_some_iff.mp h).1
  have e : ixN xs.length (j : Int) = some j := by
    unfold ixN
    rw [if_pos (by omega), if_pos (by omega)]; simp
  unfold atI; rw [e]; exact h

/-! ### what may be subscripted -/
/-- what stands as an index of a plain subscript -/
def PlainIx (b : Expr) : Prop := ∀ o i, subscripted b false o i = operate [o, i] (getItem o i)
/-- a subscript by values -/
def IxR (X : Cx) (r : R2) : Prop :=
  ∀ (value slice : Expr) (pins : List (Addr × Obj)) (s : Shared) (σ : St) (H : Hp) (x y : V) (v u : Value) (Q : VK), Inv X pins σ H s → RelV x v → RelV y u → r x y H Q →
    subscripted slice false v u = operate [v, u] (getItem v u) → wpAny (model X.prog X.w) X.A (subscriptTail value slice v u) (EP X pins σ Q) X.xe s
/-- a call of a builtin's method by values: the receiver, the arguments -/
def MtR (X : Cx) (id : String) (r : V → List V → Hp → VK → Prop) : Prop :=
  ∀ (pins : List (Addr × Obj)) (s : Shared) (σ : St) (H : Hp) (x : V) (xs : List V) (v : Value) (us : List Value) (Q : VK), Inv X pins σ H s → RelV x v → Vals xs us → r x xs H Q →
    wpAny (model X.prog X.w) X.A (call (.builtin id) (v :: us)) (EP X pins σ Q) X.xe s
section
variable {X : Cx} {a b : Expr} {ta tb : TE} {pos : Pos}
/-- a[b] -/
theorem pe_ix {r : R2} (hr : IxR X r) (ha : PE X a ta) (hb : PE X b tb) (hs : PlainIx b) : PE X (.Subscript a b pos) (tOp r ta tb) := by
  intro pins s σ H Q I h
  exact Subscript_ (binT ha hb I h fun v u s2 x y H2 I2 rx ry q => hr a b pins s2 σ H2 x y v u Q I2 rx ry q (hs _ _))

inductive IxP (S : Addr → List V → Prop) (x y : V) (H : Hp) (Q : VK) : Prop
  | mk (p : Addr) (xs : List V) (i : Int) (v : V) (hx : x = .ref p) (hy : y = .int i) (s : S p xs) (e : atI xs i = some v) (q : Q v H)
inductive IxSP (x y : V) (H : Hp) (Q : VK) : Prop
  | mk (z : Str) (i : Int) (c : Nat) (hx : x = .str z) (hy : y = .int i) (s : z.length ≤ sizeLine) (e : atI z.cps.toList i = some c) (q : Q (.str ⟨#[c]⟩) H)
def rIxL (K : PySem.W.Frag) : R2 := fun x y H Q => IxP (SqL K H) x y H Q
def rIxT (K : PySem.W.Frag) : R2 := fun x y H Q => IxP (SqT K H) x y H Q
def rIxS : R2 := fun x y H Q => IxSP x y H Q
theorem ix_list : IxR X (rIxL X.K) := by
  intro value slice pins s σ H x y v u Q I rx ry h hs
  obtain ⟨p, xs, i, z, rfl, rfl, hq, he, q⟩ := h
  cases rx
  obtain ⟨t, rfl⟩ := ry
  obtain ⟨its, r, pl, hz⟩ := I.list hq
  obtain ⟨j, h1, h2, h3, h4, h5⟩ := atI_get he
  obtain ⟨w, ew, rw'⟩ := r.get h2
  have hl := r.length
  have hn := line63
  have fin : EP X pins σ Q w s := ⟨z, H, I, rw', q⟩
  by_cases h0 : 0 ≤ i
  · have hj : i.toNat = j := by
      rw [seqIndex_of h0 h5] at h1
      exact Option.some.inj h1
    exact item_listR pl.isList h0 (by omega) (by rw [hj]; simpa using ew) fin hs
  · have hj : (i + (its.toArray.size : Int)).toNat = j := by
      rw [seqIndex_neg (by omega) h4] at h1
      rw [List.size_toArray, ← hl]
      exact Option.some.inj h1
    exact subscriptTail_builtinR (x := w) pl.isList.typeIs slot_list_getitem.lookup
      (wpAny_getItem_list_neg (Q := fun r s' => r = w ∧ EP X pins σ Q r s') pl.isList (by omega) (by rw [List.size_toArray] <;> omega) (by omega) (by rw [hj]; simpa using ew) ⟨rfl, fin⟩) hs
theorem ix_tup : IxR X (rIxT X.K) := by
  intro value slice pins s σ H x y v u Q I rx ry h hs
  obtain ⟨p, xs, i, z, rfl, rfl, hq, he, q⟩ := h
  cases rx
  obtain ⟨t, rfl⟩ := ry
  obtain ⟨its, r, pl, hz⟩ := I.tuple hq
  obtain ⟨j, h1, h2, h3, h4, h5⟩ := atI_get he
  obtain ⟨w, ew, rw'⟩ := r.get h2
  have hl := r.length
  have hn := line63
  have fin : EP X pins σ Q w s := ⟨z, H, I, rw', q⟩
  exact subscriptTail_builtinR (x := w) pl.typeIs slot_tuple_getitem.lookup
    (getItem_tuple (j := j) (Q := fun r s' => r = w ∧ EP X pins σ Q r s') pl (by omega) (by omega) (by rw [List.size_toArray, ← hl]; exact h1) (by simpa using ew) ⟨rfl, fin⟩) hs
theorem ix_str : IxR X rIxS := by
  intro value slice pins s σ H x y v u Q I rx ry h hs
  obtain ⟨z, i, c, rfl, rfl, hz, he, q⟩ := h
  obtain ⟨t, rfl⟩ := rx
  obtain ⟨t', rfl⟩ := ry
  obtain ⟨j, h1, h2, h3, h4, h5⟩ := atI_get he
  have hl : z.cps.toList.length = z.length := by simp [Str.length]
  rw [hl] at h1 h4 h5
  have hn := line63
  exact tail_any (typeIs_str s z t) slot_str_getitem.lookup (getItem_str (c := c) (by
    have e1 : decide (i < -(2 ^ 63 : Int)) = false := decide_eq_false (by omega)
    have e2 : decide (i ≥ 2 ^ 63) = false := decide_eq_false (by omega)
    rw [e1, e2, Bool.or_false]) (by rw [h1]; simpa using h2) ⟨.str ⟨#[c]⟩, H, I.tok _, ⟨_, rfl⟩, q⟩) hs
/-- list, tuple or str -/
def rIx (K : PySem.W.Frag) : R2 := fun x y H Q => rIxL K x y H Q ∨ rIxT K x y H Q ∨ rIxS x y H Q

/-! ### xs[i] = v, any sign -/
inductive SetP (o i v : V) (H : Hp) (Q : Hp → Prop) : Prop
  | mk (p : Addr) (xs : List V) (k : Int) (j : Nat) (ho : o = .ref p) (hi : i = .int k) (s : H p = some (.lst xs)) (e : ixN xs.length k = some j) (q : Q (upd H p (.lst (xs.set j v))))
def rSetL : V → V → V → Hp → (Hp → Prop) → Prop := fun o i v H Q => SetP o i v H Q

/-! ### slices -/
theorem clipM (v : Int) (n d : Nat) : max 0 (min (if v < 0 then v + (n : Int) else v) (n : Int)) = ((HT.sIx n d (some v) : Nat) : Int) := by
  show _ = (((if v < 0 then (v + (n : Int)).toNat else min v.toNat n) : Nat) : Int)
  by_cases hv : v < 0
  · rw [if_pos hv, if_pos hv, Int.toNat_eq_max, Int.max_comm, Int.min_eq_left (by omega)]
  · rw [if_neg hv, if_neg hv, HT.castMin, Int.toNat_of_nonneg (Int.not_lt.mp hv)]
    exact Int.max_eq_right (Int.le_min.mpr ⟨Int.not_lt.mp hv, Int.natCast_nonneg n⟩)
theorem slice_bounds (lo hi : Option Int) (n : Nat) : (sliceBounds lo hi none n).1 = ((HT.sIx n 0 lo : Nat) : Int) ∧ (sliceBounds lo hi none n).2.1 = ((HT.sIx n n hi : Nat) : Int) ∧ (sliceBounds lo hi none n).2.2 = 1 := by
  refine ⟨?_, ?_, rfl⟩
  · cases lo with
    | none => simp [sliceBounds, HT.sIx]
    | some i =>
      simp only [sliceBounds, Option.getD_none, show (1 : Int) > 0 by decide, if_true]
      exact clipM i n 0
  · cases hi with
    | none => simp [sliceBounds, HT.sIx]
    | some i =>
      simp only [sliceBounds, Option.getD_none, show (1 : Int) > 0 by decide, if_true]
      exact clipM i n n
theorem slicePick_cut (its : List Value) (lo hi : Option Int) : slicePick its.toArray lo hi none = ((its.drop (HT.sIx its.length 0 lo)).take (HT.sIx its.length its.length hi - HT.sIx its.length 0 lo)).toArray := by
  obtain ⟨h1, h2, h3⟩ := slice_bounds lo hi its.toArray.size
  unfold slicePick
  rw [h1, h2, h3]
  simp only [sliceRange_one, pick_run, List.size_toArray] <;> rfl
/-- xs[lo:hi] of a list: a new list -/
inductive SlP (K : PySem.W.Frag) (x : V) (lo hi : Option Int) (H : Hp) (Q : VK) : Prop
  | mk (a : Addr) (xs : List V) (hx : x = .ref a) (s : SqL K H a xs) (q : ∀ p, H p = none → Q (.ref p) (upd H p (.lst (cutV xs lo hi))))
def rSlL (K : PySem.W.Frag) : V → Option Int → Option Int → Hp → VK → Prop := fun x lo hi H Q => SlP K x lo hi H Q
theorem sl_list : SlR X (rSlL X.K) := by
  intro pins s σ H x v vl vu lo hi sl Q I rx hs pl pu h
  obtain ⟨a, xs, rfl, hx, q⟩ := h
  cases rx
  obtain ⟨its, r, ht, hz⟩ := I.list hx
  have hlen := r.length
  refine ⟨"list", _, slot_list_getitem.lookup, ht.isList.typeIs, ?_⟩
  refine wpAny_getItem_list_slice ht.isList hs pl pu .none (by simp) ?_ (by rw [List.size_toArray] <;> omega)
  rw [slicePick_cut, ← hlen]
  refine ⟨.ref s.heap.objs.size, _, I.laid (t' := s.toks) (o := .lst (cutV xs lo hi)) (fun b ob q => Heap.get?_push_of_some _ q) (Nat.le_refl _) ?_, rfl, q _ (I.hok.fresh (Nat.le_refl _))⟩
  exact ⟨Nat.le_trans (cutV_length xs lo hi) hz, _, 0, (r.drop (HT.sIx xs.length 0 lo)).take (HT.sIx xs.length xs.length hi - HT.sIx xs.length 0 lo), Heap.get?_push_size _ rfl⟩

/-! ### in, not in: flat items -/
def flatV : V → Bool
  | .non => true
  | .bl _ => true
  | .int _ => true
  | .str _ => true
  | _ => false
/-- == of flat values -/
def eqV : V → V → Bool
  | .non, .non => true
  | .bl a, .bl b => a == b
  | .bl a, .int b => (if a then 1 else 0) == b
  | .int a, .bl b => a == (if b then 1 else 0)
  | .int a, .int b => a == b
  | .str a, .str b => a == b
  | _, _ => false
theorem eqAt_V {A : Around} {s : Shared} {y x : V} {u v : Value} (ry : RelV y u) (rx : RelV x v) (fy : flatV y = true) (fx : flatV x = true) : SeqAt.EqAt A s u v (eqV y x) := by
  cases y with
  | non =>
    cases ry
    cases x with
    | non => cases rx; exact SeqAt.EqAt.same _
    | bl b => cases rx; exact SeqAt.EqAt.none_bool b
    | int b => obtain ⟨t, rfl⟩ := rx; exact SeqAt.EqAt.none_int b t
    | str b => obtain ⟨t, rfl⟩ := rx; exact SeqAt.EqAt.none_str b t
    | _ => exact absurd (show false = true from fx) Bool.false_ne_true
  | bl a =>
    cases ry
    cases x with
    | non => cases rx; exact SeqAt.EqAt.bool_none a
    | bl b => cases rx; exact SeqAt.EqAt.bool_bool a b
    | int b => obtain ⟨t, rfl⟩ := rx; exact SeqAt.EqAt.bool_int a b t
    | str b => obtain ⟨t, rfl⟩ := rx; exact SeqAt.EqAt.bool_str a b t
    | _ => exact absurd (show false = true from fx) Bool.false_ne_true
  | int a =>
    obtain ⟨t', rfl⟩ := ry
    cases x with
    | non => cases rx; exact SeqAt.EqAt.int_none a t'
    | bl b => cases rx; exact SeqAt.EqAt.int_bool a t' b
    | int b => obtain ⟨t, rfl⟩ := rx; exact SeqAt.EqAt.int_int a t' b t
    | str b => obtain ⟨t, rfl⟩ := rx; exact SeqAt.EqAt.int_str a t' b t
    | _ => exact absurd (show false = true from fx) Bool.false_ne_true
  | str a =>
    obtain ⟨t', rfl⟩ := ry
    cases x with
    | non => cases rx; exact SeqAt.EqAt.str_none a t'
    | bl b => cases rx; exact SeqAt.EqAt.str_bool a t' b
    | int b => obtain ⟨t, rfl⟩ := rx; exact SeqAt.EqAt.str_int a t' b t
    | str b => obtain ⟨t, rfl⟩ := rx; exact SeqAt.EqAt.str_str a t' b t
    | _ => exact absurd (show false = true from fx) Bool.false_ne_true
  | _ => exact absurd (show false = true from fy) Bool.false_ne_true
/-- the items' answers, read off the values (a value's own answer does not lean on its token) -/
def eqU (x : V) (u : Value) : Bool := match u with
  | .none => eqV .non x
  | .bool b => eqV (.bl b) x
  | .int i _ => eqV (.int i) x
  | .str z _ => eqV (.str z) x
  | _ => false
theorem eqU_of {x y : V} {u : Value} (r : RelV y u) (f : flatV y = true) : eqU x u = eqV y x := by
  cases y with
  | non => cases r; rfl
  | bl b => cases r; rfl
  | int i => obtain ⟨t, rfl⟩ := r; rfl
  | str z => obtain ⟨t, rfl⟩ := r; rfl
  | _ => exact absurd (show false = true from f) Bool.false_ne_true
theorem any_eqU {x : V} : ∀ {xs : List V} {us : List Value}, Vals xs us → xs.all flatV = true → us.any (eqU x) = xs.any fun y => eqV y x
  | _, _, .nil, _ => rfl
  | y :: xs, u :: us, .cons r t, f => by
    rw [List.all_cons, Bool.and_eq_true] at f
    rw [List.any_cons, List.any_cons, eqU_of r f.1, any_eqU t f.2]
theorem mem_eqAt {A : Around} {s : Shared} {x : V} {v : Value} (rx : RelV x v) (fx : flatV x = true) : ∀ {xs : List V} {us : List Value}, Vals xs us → xs.all flatV = true → ∀ u ∈ us, SeqAt.EqAt A s u v (eqU x u)
  | _, _, .nil, _ => fun u hu => by cases hu
  | y :: xs, u :: us, .cons r t, f => fun u' hu => by
    rw [List.all_cons, Bool.and_eq_true] at f
    rcases List.mem_cons.mp hu with rfl | hu
    · rw [eqU_of r f.1]; exact eqAt_V r rx f.1 fx
    · exact mem_eqAt rx fx t f.2 u' hu
def inV (x : V) (xs : List V) : Bool := xs.any fun y => eqV y x
/-- x in a list or tuple of flat items -/
inductive InP (K : PySem.W.Frag) (neg : Bool) (x y : V) (H : Hp) (Q : VK) : Prop
  | mk (p : Addr) (xs : List V) (hy : y = .ref p) (s : SqL K H p xs ∨ SqT K H p xs) (f : flatV x = true) (fs : xs.all flatV = true) (q : Q (.bl (if neg then !inV x xs else inV x xs)) H)
def rIn (K : PySem.W.Frag) (neg : Bool) : R2 := fun x y H Q => InP K neg x y H Q
theorem op_in_seq : OpR X (compareOp .In) (rIn X.K false) := by
  intro pins s σ H x y v u Q I rx ry h
  obtain ⟨p, xs, rfl, hq, fx, fs, q⟩ := h
  cases ry
  rcases hq with hq | hq
  · obtain ⟨its, r, pl, hz⟩ := I.list hq
    refine SeqAt.in_listAt (eqU x) pl.isList (fun w hw => mem_eqAt rx fx r fs w (by simpa using hw)) ⟨.bl _, H, I, rfl, ?_⟩
    rw [show its.toArray.any (eqU x) = its.any (eqU x) by simp, any_eqU r fs]
    exact q
  · obtain ⟨its, r, pl, hz⟩ := I.tuple hq
    refine SeqAt.in_tupleAt (eqU x) pl (fun w hw => mem_eqAt rx fx r fs w (by simpa using hw)) ⟨.bl _, H, I, rfl, ?_⟩
    rw [show its.toArray.any (eqU x) = its.any (eqU x) by simp, any_eqU r fs]
    exact q
theorem op_notIn_seq : OpR X (compareOp .NotIn) (rIn X.K true) := by
  intro pins s σ H x y v u Q I rx ry h
  obtain ⟨p, xs, rfl, hq, fx, fs, q⟩ := h
  cases ry
  rcases hq with hq | hq
  · obtain ⟨its, r, pl, hz⟩ := I.list hq
    refine SeqAt.notIn_listAt (eqU x) pl.isList (fun w hw => mem_eqAt rx fx r fs w (by simpa using hw)) ⟨.bl _, H, I, rfl, ?_⟩
    rw [show its.toArray.any (eqU x) = its.any (eqU x) by simp, any_eqU r fs]
    exact q
  · obtain ⟨its, r, pl, hz⟩ := I.tuple hq
    refine SeqAt.notIn_tupleAt (eqU x) pl (fun w hw => mem_eqAt rx fx r fs w (by simpa using hw)) ⟨.bl _, H, I, rfl, ?_⟩
    rw [show its.toArray.any (eqU x) = its.any (eqU x) by simp, any_eqU r fs]
    exact q

/-! ### len, list(x), tuple(x) of any list or tuple that is read -/
inductive LenP (K : PySem.W.Frag) (xs : List V) (H : Hp) (Q : VK) : Prop
  | mk (p : Addr) (ys : List V) (e : xs = [.ref p]) (s : SqL K H p ys ∨ SqT K H p ys) (q : Q (.int ys.length) H)
theorem call_len_seq : CallR X (.builtin "len") (fun xs H Q => L2.LenP X.K xs H Q) := by
  intro pins s σ H xs us Q I r h
  obtain ⟨p, ys, rfl, hq, q⟩ := h
  obtain ⟨u, rfl, rx⟩ := vals1 r
  cases rx
  have hn := line63
  rcases hq with hq | hq
  · obtain ⟨its, r', pl, hz⟩ := I.list hq
    have hlen := r'.length
    exact Calls.call_len_list pl.isList (by simp only [List.size_toArray] <;> omega) ⟨.int ys.length, H, I.tok _, ⟨s.toks + 1, by rw [List.size_toArray, hlen]⟩, q⟩
  · obtain ⟨its, r', pl, hz⟩ := I.tuple hq
    have hlen := r'.length
    exact len_tuple pl (by simp only [List.size_toArray] <;> omega) ⟨.int ys.length, H, I.tok _, ⟨s.toks + 1, by rw [List.size_toArray, hlen]⟩, q⟩
theorem call_len_str : CallR X (.builtin "len") (fun xs H Q => ∃ z, xs = [.str z] ∧ z.length ≤ sizeLine ∧ Q (.int z.length) H) := by
  intro pins s σ H xs us Q I r h
  obtain ⟨z, rfl, hz, q⟩ := h
  obtain ⟨u, rfl, t, rfl⟩ := vals1 r
  have hn := line63
  exact len_str (by omega) ⟨.int z.length, H, I.tok _, ⟨_, rfl⟩, q⟩
theorem call_list_of : CallR X (.type "list") (fun xs H Q => ∃ p ys, xs = [.ref p] ∧ (SqL X.K H p ys ∨ SqT X.K H p ys) ∧ ∀ l, H l = none → Q (.ref l) (upd H l (.lst ys))) := by
  intro pins s σ H xs us Q I r h
  obtain ⟨p, ys, rfl, hq, q⟩ := h
  obtain ⟨u, rfl, rx⟩ := vals1 r
  cases rx
  have fin : ∀ (its : List Value), Vals ys its → ys.length ≤ sizeLine → ∀ (h' : Heap) (c' : Nat), (∀ b o', s.heap.get? b = some o' → h'.get? b = some o') →
      h'.get? s.heap.objs.size = some { cls := .type "list", dict := none, data := .seq its.toArray c', slots := #[] } → EP X pins σ Q (.ref s.heap.objs.size) { s with heap := h' } := fun its r' hz h' c' kp e =>
    ⟨.ref s.heap.objs.size, _, I.laid (t' := s.toks) kp (Nat.le_refl _) (show ObjOk X.prog X.w _ h' _ (.lst ys) from ⟨hz, its, c', r', e⟩), rfl, q _ (I.hok.fresh (Nat.le_refl _))⟩
  rcases hq with hq | hq
  · obtain ⟨its, r', pl, hz⟩ := I.list hq
    have hlen := r'.length
    obtain ⟨o, ho, hc, n, hd⟩ := pl.isList
    exact call_list_seq p (.inl rfl) ho hc hd (fun h' c' kp e => fin its r' hz h' c' kp e) (by simp only [List.size_toArray] <;> omega)
  · obtain ⟨its, r', pl, hz⟩ := I.tuple hq
    have hlen := r'.length
    obtain ⟨o, ho, hc, n, hd⟩ := pl
    exact call_list_seq p (.inr rfl) ho hc hd (fun h' c' kp e => fin its r' hz h' c' kp e) (by simp only [List.size_toArray] <;> omega)

/-! ### the call of a builtin's method: o.m(..) -/
/-- the value is of that builtin type -/
def tyV (K : PySem.W.Frag) (T : String) (x : V) (H : Hp) : Prop := match x with
  | .str _ => T = "str"
  | .int _ => T = "int"
  | .ref p => (T = "list" ∧ ∃ xs, SqL K H p xs) ∨ (T = "tuple" ∧ ∃ o, K.lookup p = some o ∧ o.cls = .type "tuple" ∧ o.dict = none) ∨
      (T = "dict" ∧ ((∃ kvs, H p = some (.dK kvs)) ∨ ∃ kvs, H p = some (.dT kvs))) ∨ (T = "set" ∧ ∃ S n, H p = some (.set S n))
  | _ => False
theorem tyV_is {pins : List (Addr × Obj)} {σ : St} {H : Hp} {s : Shared} {T : String} {x : V} {v : Value} (I : Inv X pins σ H s) (r : RelV x v) (ty : tyV X.K T x H) :
    s.TypeIs v T ∧ ∀ a, v = .ref a → ∃ ob, s.heap.get? a = some ob ∧ ob.dict = none := by
  cases x with
  | str z =>
    obtain ⟨t, rfl⟩ := r
    cases (show T = "str" from ty)
    exact ⟨typeIs_str s z t, fun _ e => nomatch e⟩
  | int i =>
    obtain ⟨t, rfl⟩ := r
    cases (show T = "int" from ty)
    exact ⟨typeIs_int s i t, fun _ e => nomatch e⟩
  | ref p =>
    cases r
    rcases ty with ⟨rfl, xs, hq⟩ | ⟨rfl, o, hk, hc, hd⟩ | ⟨rfl, hk⟩ | ⟨rfl, S, n, hk⟩
    · obtain ⟨its, _, pl, _⟩ := I.list hq
      refine ⟨pl.isList.typeIs, fun a e => ?_⟩
      cases e
      obtain ⟨o, n, e, c, hd, _⟩ := pl
      exact ⟨o, e, hd⟩
    · refine ⟨⟨o, I.kIn p o hk, hc⟩, fun a e => ?_⟩
      cases e
      exact ⟨o, I.kIn _ o hk, hd⟩
    · have z : ∃ o, s.heap.get? p = some o ∧ o.ExactDict := by
        rcases hk with ⟨kvs, hk⟩ | ⟨kvs, hk⟩
        · obtain ⟨_, _, _, _, o, _, _, e, ex, _⟩ := I.hok p _ hk
          exact ⟨o, e, ex⟩
        · obtain ⟨_, _, _, _, o, _, _, e, ex, _⟩ := I.hok p _ hk
          exact ⟨o, e, ex⟩
      obtain ⟨o, e, ex⟩ := z
      refine ⟨⟨o, e, ex.1⟩, fun a e2 => ?_⟩
      cases e2
      exact ⟨o, e, ex.2.1⟩
    · obtain ⟨o, _, _, _, e, ex, _⟩ := I.hok p _ hk
      refine ⟨⟨o, e, ex.1⟩, fun a e2 => ?_⟩
      cases e2
      exact ⟨o, e, ex.2.1⟩
  | _ => exact False.elim ty
def tBM0 (K : PySem.W.Frag) (T : String) (r : V → List V → Hp → VK → Prop) (to : TE) : TE := fun σ H Q => to σ H fun x H1 => tyV K T x H1 ∧ r x [] H1 Q
def tBM (K : PySem.W.Frag) (T : String) (r : V → List V → Hp → VK → Prop) (to : TE) (t : TA) : TE := fun σ H Q => to σ H fun x H1 => tyV K T x H1 ∧ t σ H1 fun xs H2 => r x xs H2 Q
variable {o e : Expr} {es : List Expr} {to : TE} {t : TA} {name : Str} {apos cpos : Pos} {T id : String} {r : V → List V → Hp → VK → Prop}
theorem pe_bm (pa : PlainAttrs T) (slot : Slot T name id) (hty : typeOf (.builtin id) = pure (.type "method_descriptor")) (hm : MtR X id r) (ho : PE X o to) (ha : PA X (e :: es) t)
    (hbase : attributeBase o name X.env (eval o X.env) = eval o X.env := by rfl)
    (hfew : ((backTo cpos (starEach (e :: es) X.env)).all (fun x => !x.1) && (backToKw cpos (keywordEach [] X.env)).all (fun x => x.1.isSome)
      && decide ((e :: es).length + ([] : List Keyword).length + (if ([] : List Keyword).isEmpty then 0 else 1) < 30)) = true := by rfl)
    (hline : (apos.endLine == cpos.line) = true := by rfl) (hs : starEach (e :: es) X.env = (false, eval e X.env) :: starEach es X.env := by rfl) (hplain : (backTo cpos (starEach es X.env)).any (·.1) = false := by rfl) :
    PE X (.Call (.Attribute o name apos) (e :: es) [] cpos) (tBM X.K T r to t) := by
  intro pins s σ H Q I h
  refine wpAny_Call_method_late hbase hfew hline rfl (thn (ho pins s σ H _ I h) fun v s1 hpat => ?_)
  obtain ⟨x, H1, I1, r1, ty, q1⟩ := hpat
  obtain ⟨h1, h2⟩ := tyV_is I1 r1 ty
  refine ⟨T, id, pa, slot, hty, h1, h2, ?_⟩
  have hA := ha cpos pins s1 σ H1 _ I1 q1
  rw [hs] at hA ⊢
  refine Calls.callWith_builtin (by show (false || (backTo cpos (starEach es X.env)).any (·.1)) = false; rw [hplain] <;> rfl) (Calls.evalArgs_plain ?_)
  exact thn hA fun us s2 ⟨vs, H2, I2, r2, q2⟩ => hm pins s2 σ H2 x vs v us Q I2 r1 r2 q2
/- xs.append(e), list.index on a module's tuple .. are MtR facts of 06m -/
end
end L2

namespace L2
open PySem PySem.Spec PyProof.Rows

def MtM (X : Cx) (id : String) (r : V → List V → Hp → VK → Prop) : Prop :=
  ∀ (pins : List (Addr × Obj)) (s : Shared) (σ : St) (H : Hp) (x : V) (xs : List V) (v : Value) (us : List Value) (Q : VK), Inv X pins σ H s → RelV x v → Vals xs us → r x xs H Q →
    wpAny (model X.prog X.w) X.A (call (.builtin id) (v :: us)) (EP X pins σ Q) X.xe s

/-! ### lists of values -/
theorem Vals.one : ∀ {x : V} {us : List Value}, Vals [x] us → ∃ u, us = [u] ∧ RelV x u
  | _, _, .cons r .nil => ⟨_, rfl, r⟩

section
variable {X : Cx} {pins : List (Addr × Obj)} {σ : St} {H : Hp} {s : Shared} {l b : Addr} {xs ys zs : List V}

/-! ### the two steps: a tracked list is rewritten, a new list is laid -/
theorem Inv.lset {its its' : List Value} {n : Nat} {f : Array Value → Array Value} {t' : Nat} (I : Inv X pins σ H s) (hH : H l = some (.lst xs))
    (e : s.heap.get? l = some { cls := .type "list", data := .seq its.toArray n }) (hf : f its.toArray = its'.toArray) (hv : Vals ys its') (hz : ys.length ≤ sizeLine) :
    Inv X pins σ (upd H l (.lst ys)) { s with heap := s.heap.update l (Obj.mapSeq f), toks := t' } := by
  have q := PySem.IsL.update e f
  rw [hf] at q
  refine I.write (x := l) (e := l) (by rw [hH]; exact trivial) (.inl rfl) (fun b' u hb hu => (Heap.get?_update_other s.heap (Obj.mapSeq f) (Ne.symm hb)).trans hu) ⟨_, q⟩ ?_
  exact ⟨hz, its', _, hv, q⟩
theorem Inv.lnew {its : List Value} {t' : Nat} (I : Inv X pins σ H s) (hv : Vals ys its) (hz : ys.length ≤ sizeLine) :
    Inv X pins σ (upd H s.heap.objs.size (.lst ys)) { s with heap := s.heap.push { cls := .type "list", data := .seq its.toArray }, toks := t' } :=
  I.laid (fun _ _ q => Heap.get?_push_of_some _ q) (Nat.le_refl _) ⟨hz, its, 0, hv, Heap.get?_push_size _ rfl⟩
theorem Inv.fresh (I : Inv X pins σ H s) : H s.heap.objs.size = none := I.hok.fresh (Nat.le_refl _)
theorem Inv.lstM (I : Inv X pins σ H s) (hH : H l = some (.lst xs)) : xs.length ≤ sizeLine ∧ ∃ (its : List Value) (n : Nat), Vals xs its ∧ xs.length = its.length ∧ s.heap.get? l = some { cls := .type "list", data := .seq its.toArray n } := by
  obtain ⟨z, its, n, r, e⟩ := I.hok l _ hH
  exact ⟨z, its, n, r, r.length, e⟩

end

section
variable {X : Cx}

/-! ### methods -/
inductive AppP (x : V) (vs : List V) (H : Hp) (Q : VK) : Prop
  | mk (l : Addr) (xs : List V) (y : V) (hx : x = .ref l) (hv : vs = [y]) (s : H l = some (.lst xs)) (b : xs.length < sizeLine) (q : Q .non (upd H l (.lst (xs ++ [y]))))
def rAppend : V → List V → Hp → VK → Prop := fun x vs H Q => AppP x vs H Q
theorem mt_append : MtM X "list.append" rAppend := by
  intro pins s σ H x vs v us Q I rx rv h
  obtain ⟨l, xs, y, rfl, rfl, hH, hz, q⟩ := h
  cases rx
  obtain ⟨u, rfl, ru⟩ := rv.one
  obtain ⟨z, its, n, r, hl, e⟩ := I.lstM hH
  refine call_meets F.slot_list_append ⟨_, e, rfl⟩ F.entry_list_append (F.args_list_append_2 _ _) (PySem.list_append l its.toArray n u (by rw [List.size_toArray]; omega)) ⟨e, ?_⟩
  refine ⟨.non, _, I.lset (its' := its ++ [u]) hH e (by simp) (r.append (.cons ru .nil)) ?_, rfl, q⟩
  rw [List.length_append, List.length_singleton]
  omega

def rExtend : V → List V → Hp → VK → Prop := fun x vs H Q => ∃ l b xs zs, x = .ref l ∧ vs = [.ref b] ∧ H l = some (.lst xs) ∧ H b = some (.lst zs) ∧ xs.length + zs.length ≤ sizeLine ∧ Q .non (upd H l (.lst (xs ++ zs)))

def rPop : V → List V → Hp → VK → Prop := fun x vs H Q => ∃ l xs y, x = .ref l ∧ vs = [] ∧ H l = some (.lst xs) ∧ xs[xs.length - 1]? = some y ∧ Q y (upd H l (.lst xs.dropLast))

def rPopAt : V → List V → Hp → VK → Prop := fun x vs H Q => ∃ l xs i k y, x = .ref l ∧ vs = [.int i] ∧ H l = some (.lst xs) ∧ -(2 ^ 63) ≤ i ∧ i < 2 ^ 63 ∧ seqIndex? i xs.length = some k ∧ xs[k]? = some y ∧ Q y (upd H l (.lst (xs.eraseIdx k)))

def rReverse : V → List V → Hp → VK → Prop := fun x vs H Q => ∃ l xs, x = .ref l ∧ vs = [] ∧ H l = some (.lst xs) ∧ Q .non (upd H l (.lst xs.reverse))

def rClear : V → List V → Hp → VK → Prop := fun x vs H Q => ∃ l xs, x = .ref l ∧ vs = [] ∧ H l = some (.lst xs) ∧ Q .non (upd H l (.lst []))

/-! ### list + list, list += list, list * int -/
def rCat : R2 := fun x y H Q => ∃ l b xs zs, x = .ref l ∧ y = .ref b ∧ H l = some (.lst xs) ∧ H b = some (.lst zs) ∧ xs.length + zs.length ≤ sizeLine ∧ ∀ p, H p = none → Q (.ref p) (upd H p (.lst (xs ++ zs)))
/-- a list times an int (a negative one is nothing) -/
def rRep : R2 := fun x y H Q => ∃ l k xs, x = .ref l ∧ y = .int k ∧ H l = some (.lst xs) ∧ -(2 ^ 63) ≤ k ∧ k < 2 ^ 63 ∧ xs.length * k.toNat ≤ sizeLine ∧
  ∀ p, H p = none → Q (.ref p) (upd H p (.lst (List.replicate k.toNat xs).flatten))

/-! ### del xs[i] -/
end

/-! ### xs[a:b] = ys -/
section
variable {prog : Program} {w : World} {A : Around} {E : Value → Shared → Prop} {s : Shared}
set_option maxRecDepth 100000 in
end

section
variable {X : Cx}
end
end L2

namespace Att
open PySem PySem.W PySem.Calls PyProof.Rows

/-! ### the script -/
theorem ints_of_wellAll {P : Params} {h : Heap} : ∀ (ns : List Int) (vs : List Value), WellAll P h vs (ns.map WData.int) → IntsAre vs ns := by
  intro ns
  induction ns with
  | nil =>
    intro vs w
    rw [List.map_nil] at w
    cases w
    exact .nil
  | cons n ns ih =>
    intro vs w
    rw [List.map_cons] at w
    cases w with
    | cons a b =>
      cases a
      exact .cons _ _ (ih _ b)

theorem script_of {l : OpenLaw} {n : Nat} (hn : l.most = some n) {P : Params} {h : Heap} {args : List WData} {vals : List Value}
    (hpre : l.row.toRowW.claim.pre args = true) (hwl : WellAll P h vals args) :
    ∃ a vs ns, vals = [Value.ref a] ∧ args = [WData.list (ns.map WData.int)] ∧ h.get? a = some { cls := .type "list", data := .seq vs.toArray } ∧ IntsAre vs ns ∧ ns.length ≤ n := by
  have hsh : WShape.hasAll [] args [.list .int] = true := (pre_splitW hpre).1
  have hc : l.pre.holds [] { args := args } = true := (pre_splitW hpre).2
  obtain ⟨d, r, rfl, h1, h2⟩ := hasAllW_cons hsh
  obtain rfl := hasAllW_nil h2
  obtain ⟨xs, rfl, h3⟩ := hasW_list h1
  obtain ⟨ns, rfl⟩ := items_int h3
  have hlen : ns.length ≤ n := by
    unfold OpenLaw.pre at hc
    have h4 : (WTm.not (.lt (.lit (.int (n : Int))) (.len (.arg 0)))).holds [] { args := [.list (ns.map .int)] } = true := by
      have h4 := (holds_andW hc).1
      rw [hn] at h4
      exact h4
    have h5 := condW_of h4 (w_not (w_lt w_lit (w_len_list (w_arg rfl))))
    rw [List.length_map] at h5
    refine Nat.le_of_not_lt fun q => ?_
    have q' : (n : Int) < ((ns.length : Nat) : Int) := by omega
    first
      | (rw [decide_eq_true q'] at h5; exact absurd h5 (by decide))
      | (simp at h5; omega)
  cases hwl with
  | cons w1 w2 =>
    cases w2
    cases w1 with
    | list ho hall => exact ⟨_, _, ns, rfl, rfl, ho, ints_of_wellAll ns _ hall, hlen⟩

theorem post_true (l : OpenLaw) (args : List WData) : l.row.toRowW.claim.post args (.bool true) args = true :=
  postW_of (r := l.row.toRowW) (X := (true == true))
    (show WShape.has [] (.bool true) .bool = true by first | rfl | decide | simp [WShape.has, WShape.arms, WShape.armsAll])
    (show (WTm.eq .res (.lit (.bool true))).value [] { args := args, res := some (.bool true), after := args } = some (.bool (true == true)) from w_eq_bool (w_res rfl) w_lit) rfl

/-! ### the attachment: holds_open's last premise (the goal 'hc' behind k_head) from a wpAny of the law's body -/

/-- the same from a codeAny of the CALL (for a layer whose function contracts speak of calls) -/
theorem attach_call {l : OpenLaw} {n : Nat} {q : Program} {loose : List Str} {XP : (Str → Option Value) → Heap → Prop} {YP : World → Heap → Prop} {d : DefRec}
    (hn : l.most = some n) (hdf : d.params.defaults = [])
    (call : ∀ (w : World) (s₀ s₁ : Shared) (mg mb : Str → Option Value) (fa : Addr) (o : Obj) (pm cd doc : Value) (a : Addr) (vs : List Value) (ns : List Int),
      Ground q loose [] XP w s₀ mg mb s₁.heap → YP w s₁.heap →
      s₁.heap.get? fa = some o → o.data = .func (docDef d.name d.params d.body d.scope pm cd doc) → s₁.heap.CodeRec cd d.name → mg d.name = some (.ref fa) →
      s₁.heap.get? a = some { cls := .type "list", data := .seq vs.toArray } → IntsAre vs ns → ns.length ≤ n → s₁.gens = #[] →
      codeAny (model l.prog w) callerA (.call (.ref fa) ⟨[.ref a], []⟩) (fun r s' => r = .ok (.ret (.bool true)) ∧ OldK s₁.heap s'.heap ∧ s'.os = s₁.os ∧ AllBare s'.gens) s₁) :
    WalkO q loose XP YP l.row.toRowW d [] (fun f vs => PySem.call f vs) := by
  intro w s₀ s₁ mg mb G Y fa o pm cd doc dV kV ho hd hcd hD hmg hg args vals as hpre hlay hrd hwl hlo
  obtain rfl : dV = .none := Dflts.none hD hdf
  obtain rfl : kV = .none := Dflts.noKw hD
  obtain ⟨a, vs, ns, rfl, rfl, hobj, hints, hlen⟩ := script_of hn hpre hwl
  refine enter_call (codeAny_mono (call w s₀ s₁ mg mb fa o pm cd doc a vs ns G Y ho (fd_plain hd) hcd hmg hobj hints hlen hg) fun r s' hq => ?_)
  obtain ⟨rfl, h2, h3, h4⟩ := hq
  exact ⟨.inl ⟨.bool true, .bool true, [], rfl, fun _ => rfl, .bool true, post_true l _, fun _ => ⟨List.Pairwise.nil, fun _ hm => (nomatch hm)⟩⟩, h2, h3, h4⟩


/-! ### rules over ANY heap (no ledger) from facts about the written part K: the library's own take a ledger (News) for what they write -/
section
variable {prog : Program} {w : World} {A : Around} {E : Value → Shared → Prop} {s : Shared} {K : Frag}





/-! the whole heap as the ledger: makes every rule that writes through a ledger a rule over any heap -/
def noObjs (h : Heap) : Heap := { h with objs := #[] }
def ledger (h : Heap) (L d : Addr) : List (Addr × Obj) := (List.range h.objs.size).filterMap fun a => if a = L ∨ a = d then none else (h.get? a).map fun o => (a, o)

end
end Att

namespace L2
open PySem PySem.Spec PyProof.Rows

theorem vals_ints : ∀ {vs : List Value} {ns : List Int}, IntsAre vs ns → Vals (ns.map V.int) vs
  | _, _, .nil => .nil
  | _, _, .cons n t h => .cons ⟨t, rfl⟩ (vals_ints h)

/-- nothing is tracked but the script, known to the object (or it is an object of the module) -/
def Only (H : Hp) : Prop := ∀ b, H b = none ∨ ∃ o xs, H b = some (.frz o (.lst xs))

/-- THE HEAD: the law's promise, at the heap behind the top. F, the promise of the law's def, may use that base is part of the heap (so K.In base, base.Ns mainGlobals mg stand in Mod) -/
theorem law_call {P : Program} {w : World} {K : PySem.W.Frag} {mg mb : Str → Option Value} {CX : CXT} {k : Nat} {fa a : Addr} {fd : FuncData} {x : Str} {sp : Sp} {s₁ : Shared} {vs : List Value} {ns : List Int}
    (KX : K.In s₁.heap) (hns : s₁.heap.Ns mainGlobals mg) (hb : s₁.heap.Ns builtinsNs mb) (hbb : ∀ x : Str, x ≠ "__name__" → mb x = bootBuiltins x) (hlim : s₁.heap.NoLimit) (hg : s₁.gens = #[])
    (ha : s₁.heap.get? a = some { cls := .type "list", data := .seq vs.toArray }) (hi : IntsAre vs ns) (hl : ns.length ≤ sizeLine) (hr : Room k callerA)
    (F : ∀ base : Heap, K.In base → base.Ns mainGlobals mg → FnOk P w K mg base CX k fa fd [x] sp) (hbind : ∀ (s : Shared) (u : Value), BindsTo s fd ⟨[u], []⟩ [(x, u)])
    (hsp : ∀ H : Hp, Only H → SqL K H a (ns.map V.int) → sp [.ref a] H (fun v _ => v = .bl true) fun _ _ _ => False)
    (hCX : ∀ H e s', CX [] H s₁ (fun _ _ _ => False) e s' → False) :
    codeAny (model P w) callerA (.call (.ref fa) ⟨[.ref a], []⟩) (fun r s' => r = .ok (.ret (.bool true)) ∧ OldK s₁.heap s'.heap ∧ s'.os = s₁.os ∧ AllBare s'.gens) s₁ := by
  have rv := vals_ints hi
  have lenV := hi.length
  -- from an abstract heap in which nothing but the script may be tracked
  have core : ∀ H : Hp, Only H → SqL K H a (ns.map V.int) → HOk P w H s₁.heap → (∀ b, H b ≠ none → b = a) → (H a ≠ none → K.lookup a = none) →
      codeAny (model P w) callerA (.call (.ref fa) ⟨[.ref a], []⟩) (fun r s' => r = .ok (.ret (.bool true)) ∧ OldK s₁.heap s'.heap ∧ s'.os = s₁.os ∧ AllBare s'.gens) s₁ := by
    intro H hO hS hok hA hK
    have base_of : ∀ {b : Addr} {o : Obj}, s₁.heap.get? b = some o → H b = none → (hidT s₁.heap H).get? b = some o := fun e n => hidT_get e n
    have noA : ∀ {b : Addr} {o : Obj} {es : Array DictEntry} {ep : Nat}, s₁.heap.get? b = some o → o.data = .dict es ep → H b = none := fun {b o es ep} e d => by
      cases q : H b with
      | none => rfl
      | some u =>
        have e' : b = a := hA b (by rw [q]; simp)
        subst e'
        rw [ha] at e; cases e
        have d' : Data.seq vs.toArray _ = Data.dict es ep := d
        cases d'
    have nsK : ∀ {b : Addr} {m : Str → Option Value}, s₁.heap.Ns b m → (hidT s₁.heap H).Ns b m := fun {b m} ⟨o, es, ep, e, d, r⟩ => ⟨o, es, ep, base_of e (noA e d), d, r⟩
    have hKb : K.In (hidT s₁.heap H) := fun b o e => base_of (KX b o e) (by
      cases q : H b with
      | none => rfl
      | some u =>
        have e' : b = a := hA b (by rw [q]; simp)
        subst e'
        rw [hK (by rw [q]; simp)] at e; cases e)
    have hM : Mod K mg (hidT s₁.heap H) := ⟨hKb, nsK hns, ⟨mb, nsK hb, hbb⟩, let ⟨mc, h1, h2⟩ := hlim; ⟨mc, nsK h1, h2⟩⟩
    have e0 : Env0 P w K mg (hidT s₁.heap H) callerA [] s₁ H := ⟨rfl, hM, fun b o e => of_hidT e, Nat.le_of_eq (hidT_size _ _), trivial, fun b hb => absurd (show b ∈ ([] : List Addr) from hb) (by simp), hok, .of_eq hg⟩
    refine codeAny_mono ((F _ hKb (nsK hns)).run callerA [] s₁ H ⟨[.ref a], []⟩ [.ref a] [.ref a] _ _ hr e0 (hbind s₁ (.ref a)) (.cons rfl .nil) (hsp H hO hS)) fun r s' h => ?_
    cases r with
    | error e => exact (hCX H e s' h).elim
    | ok fl =>
      cases fl with
      | next => exact False.elim h
      | brk => exact False.elim h
      | cont => exact False.elim h
      | ret u =>
        obtain ⟨v, H', os, bare, un, hok', r', q⟩ := h
        have q' : v = .bl true := q
        subst q'
        obtain rfl : u = Value.bool true := r'
        refine ⟨rfl, OldK.of_keep fun b o e => ?_, os, bare⟩
        cases q : H b with
        | none => exact un.keep b o e q (by intro z; exact absurd (show b ∈ ([] : List Addr) from z) (by simp)) (by simp)
        | some u =>
          rcases hO b with z | ⟨ob, xs, z⟩
          · rw [q] at z; cases z
          · have z2 := un.frzs b ob _ z
            obtain ⟨e1, _⟩ := hok b _ z
            obtain ⟨e2, _⟩ := hok' b _ z2
            rw [e] at e1; cases e1
            exact e2
  cases hk : K.lookup a with
  | some o =>
    -- the script is one of the module's own objects
    have e := KX a o hk
    rw [ha] at e
    cases e
    refine core (fun _ => none) (fun _ => .inl rfl) (.inr ⟨_, vs.toArray, _, hk, rfl, rfl, rfl, by rw [List.size_toArray, lenV]; exact hl, by simpa using rv⟩) (fun b u z => by have z' : (none : Option HO) = some u := z; cases z') (fun b z => absurd rfl z) fun z => absurd rfl z
  | none =>
    refine core (fun b => if b = a then some (.frz { cls := .type "list", data := .seq vs.toArray } (.lst (ns.map V.int))) else none) (fun b => ?_) (.inl (.inr ⟨{ cls := .type "list", data := .seq vs.toArray }, if_pos rfl⟩)) (fun b u z => ?_) (fun b z => ?_) fun _ => hk
    · by_cases hb : b = a
      · exact .inr ⟨_, _, if_pos hb⟩
      · exact .inl (if_neg hb)
    · by_cases hb : b = a
      · have z' := (if_pos hb).symm.trans z
        cases z'
        subst hb
        exact ⟨ha, by rw [List.length_map]; exact hl, vs, _, rv, ha⟩
      · have z' := (if_neg hb).symm.trans z
        cases z'
    · by_cases hb : b = a
      · exact hb
      · exact absurd (if_neg hb) z
end L2

namespace L2
open PySem PySem.Spec PyProof.Rows

abbrev KOf {K : PySem.W.Frag} {h : Heap} (_ : K.In h) : PySem.W.Frag := K

/-- the goal that k_head leaves (case hc), from the law's promise. F gives the function object fd (K's own) once, then the promise over every base -/
theorem walk_of {l : PySem.W.OpenLaw} {n k : Nat} {q : Program} {loose : List Str} {XP : (Str → Option Value) → Heap → Prop} {YP : World → Heap → Prop} {d : DefRec} {K : Params → PySem.W.Frag} {CX : World → CXT} {sp : World → Sp} {x : Str}
    (hn : l.most = some n) (hn2 : n ≤ sizeLine) (hdf : d.params.defaults = []) (hr : Room k callerA)
    (hY : ∀ (w : World) (h : Heap), YP w h → (K w.params).In h)
    (F : ∀ (w : World) (mg : Str → Option Value) (fa : Addr) (h : Heap), (K w.params).In h → h.Ns mainGlobals mg → mg d.name = some (.ref fa) →
      ∃ fd : FuncData, (∀ (s : Shared) (u : Value), BindsTo s fd ⟨[u], []⟩ [(x, u)]) ∧
        ∀ base : Heap, (K w.params).In base → base.Ns mainGlobals mg → FnOk l.prog w (K w.params) mg base (CX w) k fa fd [x] (sp w))
    (hsp : ∀ (w : World) (H : Hp) (a : Addr) (ns : List Int), ns.length ≤ n → Only H → SqL (K w.params) H a (ns.map V.int) → sp w [.ref a] H (fun v _ => v = .bl true) fun _ _ _ => False)
    (hCX : ∀ (w : World) (H : Hp) (s : Shared) (e : Value) (s' : Shared), CX w [] H s (fun _ _ _ => False) e s' → False) :
    PySem.W.WalkO q loose XP YP l.row.toRowW d [] (fun f vs => PySem.call f vs) := by
  refine Att.attach_call hn hdf fun w s₀ s₁ mg mb fa o pm cd doc a vs ns G Y ho hd hcd hmg hobj hints hlen hg => ?_
  have KX := hY w _ Y
  obtain ⟨fd, hb, hF⟩ := F w mg fa _ KX G.T.g hmg
  exact law_call KX G.T.g G.T.b G.T.builtins G.T.nolimit hg hobj hints (Nat.le_trans hlen hn2) hr hF hb (fun H hO hS => hsp w H a ns hlen hO hS) fun H e s' => hCX w H s₁ e s'
end L2

/- THE LAST THEOREM (shape; LID, My.* are yours):
   My.Adr: a structure of the addresses that your layer names (classes, functions); My.Txt K t: a structure (Prop) of the equations over K;
   My.txt_mk : {K} {implicit addresses ..} (e1 : nsIn K mainGlobals "law" = some (some (.ref f))) (e2 : K.lookup f = some ⟨oc, od, .func (fnOf "law" "law" params body scope dV kV doc pm an cdv ct), sl⟩) (e3 : codeIn K cdv "law" = true) .. : ∃ t, My.Txt K t

set_option maxRecDepth 100000 in
set_option maxHeartbeats 0 in
(the tactic k_is has no namespace: write k_is) -/

/-! SHORT WORDS over the layer: a def of the text, its body, what a loop and a test want. -/
namespace L2
open PySem PySem.Spec PyProof.Rows

/-! ### the text by places -/
/-! ### no exception leaves a def -/
abbrev CX0 : CXT := fun _ _ _ _ _ _ => False
abbrev E0 : XK := fun _ _ _ => False
theorem pass0 {X : Cx} : Passes CX0 X E0 := fun _ _ _ _ _ _ _ h => h.elim

/-! ### a def (or method) of the text as it stands behind the top -/
structure Fun (K : PySem.W.Frag) (x qual : Str) (st : Stmt) (f : Addr) (fd : FuncData) : Prop where
  ex : ∃ (oc : Value) (od : Option Addr) (kV doc pm : Value) (an : Option Addr) (cdv ct : Value) (osl : Array (Option Value)),
    fd = PySem.W.fnOf x qual (defArgs st) (defBody st) (defScope st) .none kV doc pm an cdv ct ∧ K.lookup f = some ⟨oc, od, .func fd, osl⟩ ∧ PySem.W.codeIn K cdv qual = true
  kp : PySem.W.keepIn K (.ref f) = true
section
variable {P : Program} {w : World} {K : PySem.W.Frag} {mg : Str → Option Value} {base : Heap}
/-- THE RULE for a def: its body as a term of rules, and the reading of that term -/
theorem Fun.ok {x qual : Str} {st : Stmt} {f : Addr} {fd : FuncData} {N ps : List Str} {k : Nat} {sp : Sp} (F : Fun K x qual st f fd) (S : FnScope N ps (defScope st)) (len : ∀ vs H Q E, sp vs H Q E → vs.length = ps.length)
    (hbody : ∀ (cdv : Value) (A : Around) (outer : List Env) (s : Shared) (H : Hp) (vs : List V) (Q : VK) (E : XK), Room k (A.deeper (envOfC qual (defScope st) s.heap.objs.size f cdv)) → sp vs H Q E →
      ∃ t, PSs (cxOf CX0 P w K mg base N qual (defScope st) f cdv A outer s H E).nox (defBody st) t ∧ t { nx := fun _ H' => Q .non H', rt := Q } (start N vs) H) : FnOk P w K mg base CX0 (k + 1) f fd ps sp := by
  obtain ⟨oc, od, kV, doc, pm, an, cdv, ct, osl, rfl, lk, hcd⟩ := F.ex
  refine fn_of lk hcd S len fun A outer s H vs Q E hr hsp => ?_
  obtain ⟨t, h, q⟩ := hbody cdv A outer s H vs Q E hr hsp
  exact ⟨t, h.nox, q⟩
/-- how its arguments bind (no defaults): h is «fun _ _ _ _ _ _ us hl => match us, hl with | [_, _], _ => rfl», one _ a parameter -/
theorem Fun.binds {x qual : Str} {st : Stmt} {f : Addr} {fd : FuncData} {ps : List Str} (F : Fun K x qual st f fd)
    (h : ∀ (kV doc pm : Value) (an : Option Addr) (cdv ct : Value) (us : List Value), us.length = ps.length → bindArgs (PySem.W.fnOf x qual (defArgs st) (defBody st) (defScope st) .none kV doc pm an cdv ct) ⟨us, []⟩ = pure (ps.zip us)) : Binds K fd ps [] := by
  obtain ⟨oc, od, kV, doc, pm, an, cdv, ct, osl, rfl, lk, hcd⟩ := F.ex
  exact .all (h kV doc pm an cdv ct)
theorem fun_mk {x qual : Str} {st : Stmt} {f : Addr} {oc : Value} {od an : Option Addr} {osl : Array (Option Value)} {kV doc pm cdv ct : Value} (l : K.lookup f = some ⟨oc, od, .func (PySem.W.fnOf x qual (defArgs st) (defBody st) (defScope st) .none kV doc pm an cdv ct), osl⟩)
    (c : PySem.W.codeIn K cdv qual = true) (k : PySem.W.keepIn K (.ref f) = true) : Fun K x qual st f (PySem.W.fnOf x qual (defArgs st) (defBody st) (defScope st) .none kV doc pm an cdv ct) := ⟨⟨oc, od, kV, doc, pm, an, cdv, ct, osl, rfl, l, c⟩, k⟩
end
theorem hu_of {A : Around} {k : Nat} (hr : Room k A) : A.units + 1 < cLine := Nat.lt_of_le_of_lt (Nat.add_le_add_left (by decide : 1 ≤ 64) _) hr.units

/-! ### expressions in short: the name that stands in the i-th slot -/
section
variable {X : Cx}
theorem pv (i : Nat) {x : Str} {pos : Pos} (hN : X.N[i]? = some x := by rfl) (hv : Vis X.env.scope x := by first | exact Or.inl rfl | exact Or.inr (Or.inl rfl) | exact Or.inr (Or.inr rfl)) (hd : (x == ("__debug__" : Str)) = false := by decide)
    (hcd : (x == ("__classdict__" : Str)) = false := by decide) : PE X (.Name x pos) (tVar i) := pe_var hN hv hd hcd
end

/-! ### tests -/
theorem iteF {A B : Prop} (h : B) : if false = true then A else B := by
  rw [if_neg Bool.false_ne_true]
  exact h
theorem iteT {A B : Prop} (h : A) : if true = true then A else B := by
  rw [if_pos rfl]
  exact h
theorem ite2 {c A B : Prop} [Decidable c] (h1 : c → A) (h2 : ¬ c → B) : if c then A else B := by
  by_cases h : c
  · rw [if_pos h]
    exact h1 h
  · rw [if_neg h]
    exact h2 h

/-! ### heaps -/
/-- all that was tracked is as it was -/
def Same (H H' : Hp) : Prop := ∀ b o, H b = some o → H' b = some o
theorem Same.refl (H : Hp) : Same H H := fun _ _ h => h
theorem Same.trans {H H1 H2 : Hp} (a : Same H H1) (b : Same H1 H2) : Same H H2 := fun c o h => b c o (a c o h)
theorem Same.free {H H' : Hp} (e : Same H H') {l : Addr} (h : H' l = Option.none) : H l = Option.none := by
  cases q : H l with
  | none => rfl
  | some o =>
    rw [e l o q] at h
    cases h
theorem Same.seq {K : PySem.W.Frag} {H H' : Hp} {a : Addr} {xs : List V} (e : Same H H') (h : SqL K H a xs) : SqL K H' a xs := by
  rcases h with (h | ⟨o, h⟩) | h
  · exact .inl (.inl (e _ _ h))
  · exact .inl (.inr ⟨o, e _ _ h⟩)
  · exact .inr h

end L2

namespace L2
open PySem PySem.Builtin.Str
end L2

/-! ### list comprehensions: one clause, a name, no test -/
namespace L2
open PySem PySem.Spec PyProof.Rows
theorem closure_ok {env : Env} {scope : Scope} (h : ∀ y ∈ scope.names, y.2 = .free → ∃ c, env.cells.lookup y.1 = some c) :
    ∃ cl, closureFor scope env = pure cl ∧ (∀ y c, cl.lookup y = some c → env.cells.lookup y = some c) ∧ (∀ y ∈ scope.names, y.2 = .free → cl.lookup y.1 = env.cells.lookup y.1) := by
  have gen : ∀ (names : List (Str × NameKind)) (acc : List (Str × Addr)), (∀ y ∈ names, y.2 = .free → ∃ c, env.cells.lookup y.1 = some c) → (∀ y c, acc.lookup y = some c → env.cells.lookup y = some c) →
      ∃ cl, (forIn (m := Sem) names acc fun x r => match x with
        | (name, kind) => if (kind == NameKind.free) = true then do
            let a ← cellOf env name
            pure (ForInStep.yield ((name, a) :: r))
          else pure (ForInStep.yield r)) = pure cl ∧ (∀ y c, cl.lookup y = some c → env.cells.lookup y = some c) ∧ (∀ y c, acc.lookup y = some c → cl.lookup y = some c) ∧ (∀ y ∈ names, y.2 = .free → cl.lookup y.1 = env.cells.lookup y.1) := by
    intro names
    induction names with
    | nil => intro acc _ ha; exact ⟨acc, rfl, ha, fun _ _ e => e, fun y hy => nomatch hy⟩
    | cons x r ih =>
      intro acc hn ha
      obtain ⟨n, k⟩ := x
      by_cases hk : k = .free
      · subst hk
        obtain ⟨c, hc⟩ := hn (n, .free) List.mem_cons_self rfl
        have hc' : cellOf env n = pure c := by
          unfold cellOf
          rw [show env.cells.lookup n = some c from hc]
        have ha' : ∀ y d, ((n, c) :: acc).lookup y = some d → env.cells.lookup y = some d := fun y d e => by
          rw [List.lookup_cons] at e
          cases q : y == n with
          | true => rw [q] at e; cases e; rw [eq_of_beq q]; exact hc
          | false => rw [q] at e; exact ha y d e
        obtain ⟨cl, e, h1, h2, h3⟩ := ih ((n, c) :: acc) (fun y hy => hn y (List.mem_cons_of_mem _ hy)) ha'
        refine ⟨cl, ?_, h1, fun y d q => ?_, fun y hy hf => ?_⟩
        · rw [List.forIn_cons]
          simp only [beq_self_eq_true, if_true, hc']
          exact e
        · cases z : y == n with
          | true =>
            have : y = n := eq_of_beq z
            subst this
            have q1 := ha y d q
            rw [hc] at q1; cases q1
            exact h2 y c (by rw [List.lookup_cons, z])
          | false => exact h2 y d (by rw [List.lookup_cons, z]; exact q)
        · rcases List.mem_cons.mp hy with rfl | hy
          · have := h2 n c (by rw [List.lookup_cons, beq_self_eq_true])
            rw [this, hc]
          · exact h3 y hy hf
      · have hb : (k == NameKind.free) = false := by simpa using hk
        obtain ⟨cl, e, h1, h2, h3⟩ := ih acc (fun y hy => hn y (List.mem_cons_of_mem _ hy)) ha
        refine ⟨cl, ?_, h1, h2, fun y hy hf => ?_⟩
        · rw [List.forIn_cons]
          simp only [hb, Bool.false_eq_true, if_false]
          exact e
        · rcases List.mem_cons.mp hy with rfl | hy
          · exact absurd hf hk
          · exact h3 y hy hf
  obtain ⟨cl, e, h1, _, h3⟩ := gen scope.names [] h (fun y c e => by cases e)
  refine ⟨cl, ?_, h1, h3⟩
  simp only [closureFor]
  rw [show (forIn scope.names ([] : List (Str × Addr)) _ : Sem _) = pure cl from e]
  rfl
theorem relabel_free {env : Env} (hk : env.scope.kind = .function) : ∀ {names : List (Str × NameKind)} {x : Str}, names.lookup x = some .free → env.kindOf x = some .cell →
    (names.map fun (n, k) => if (k == NameKind.free && env.scope.kind == .function && env.kindOf n == some .cell) then (n, NameKind.cell) else (n, k)).lookup x = some .cell
  | [], _, h, _ => by simp at h
  | (n, k) :: r, x, h, hc => by
    have ih := @relabel_free env hk r x
    show List.lookup x ((if (k == NameKind.free && env.scope.kind == .function && env.kindOf n == some .cell) = true then (n, NameKind.cell) else (n, k)) :: _) = _
    cases hx : x == n with
    | true =>
      simp only [List.lookup_cons, hx] at h
      cases h
      have e : x = n := eq_of_beq hx
      subst e
      rw [if_pos (by simp [hk, hc])]
      simp [List.lookup_cons]
    | false =>
      simp only [List.lookup_cons, hx] at h
      by_cases hc' : (k == NameKind.free && env.scope.kind == .function && env.kindOf n == some .cell) = true
      · rw [if_pos hc']; simp only [List.lookup_cons, hx]; exact ih h hc
      · rw [if_neg hc']; simp only [List.lookup_cons, hx]; exact ih h hc
theorem relabel_back {env : Env} {scope : Scope} {y : Str} {k' : NameKind} (h : (relabel scope env).names.lookup y = some k') (hk' : k' = .cell ∨ k' = .free) (nocell : ∀ z ∈ scope.names, z.2 ≠ .cell) : (y, NameKind.free) ∈ scope.names := by
  have hm := PySem.mem_of_lookup h
  obtain ⟨⟨n, k⟩, hm', e⟩ := List.mem_map.mp hm
  dsimp only at e
  split at e
  · rename_i c
    cases e
    rw [Bool.and_eq_true, Bool.and_eq_true] at c
    have e2 : k = .free := by simpa using c.1.1
    subst e2
    exact hm'
  · cases e
    rcases hk' with rfl | rfl
    · exact absurd rfl (nocell _ hm')
    · exact hm'

/-- the context of the block -/
def lcCx (X : Cx) (N' : List Str) (scope : Scope) (cl : List (Str × Addr)) (fp : List Addr) (s3 : Shared) (H3 : Hp) (C : Addr) : Cx :=
  { X with N := N', s₀ := s3, H₀ := H3, env := compEnvC scope cl C X.env, outer := X.stack, ex := fp, fn := fun _ => false, pn := [], xe := fun _ _ => False }
def caps (is : List Nat) (σ : St) : St := is.map fun i => (σ[i]?).join
def lcGoal (J : It) (is : List Nat) (te : TE) (σ : St) (H1 : Hp) (Q : VK) : Prop := ∀ D, H1 D = none → ∃ W : Nat → Nat → List V → Hp → Prop, (∃ m, W 0 m [] (upd H1 D (.lst []))) ∧
  ∀ i m ys H2, W i m ys H2 → H2 D = some (.lst ys) ∧ ((J.stop i H2 ∧ Q (.ref D) H2) ∨ (J.go i H2 ∧ ∀ v H3, J.yld i H2 v H3 → te (some v :: caps is σ) H3 fun y H4 =>
    H4 D = some (.lst ys) ∧ ys.length < sizeLine ∧ ∃ m', m' < m ∧ W (i + 1) m' (ys ++ [y]) (upd H4 D (.lst (ys ++ [y])))))
def tLC (wi : TI) (is : List Nat) (te : TE) : TE := fun σ H Q => wi σ H fun J H1 => lcGoal J is te σ H1 Q
structure LcOk (sc : Scope) (N : List Str) (x : Str) (scope : Scope) (is : List Nat) (ns : List Str) : Prop where
  kind : scope.kind = .function
  nocell : ∀ y ∈ scope.names, y.2 ≠ .cell
  names : ∀ y ∈ scope.names, y.2 = .local → scope.names.lookup y.1 = some .local
  free : ∀ y ∈ scope.names, y.2 = .free → sc.names.lookup y.1 = some .cell
  hx : scope.names.lookup x = some .local
  cap : ns.map some = is.map fun i => N[i]?
  nd : (x :: ns).Nodup
  capf : ∀ y ∈ ns, scope.names.lookup y = some .free ∧ sc.names.lookup y = some .cell
section
variable {X : Cx} {x : Str} {px pos : Pos} {elt iter : Expr} {scope : Scope} {wi : TI} {te : TE} {is : List Nat} {ns : List Str}
end
end L2

namespace L2
open PySem PySem.Spec PyProof.Rows
/-! ### a comprehension whose elements are values of the items alone -/
section
variable {K : PySem.W.Frag} {is : List Nat} {te : TE} {σ : St} {H : Hp} {Q : VK}
theorem Same.upd {H : Hp} {D : Addr} {o : HO} (h : H D = none) : Same H (upd H D o) := fun b u e => by
  rw [upd_ne (ne_of_none e h)]
  exact e
theorem lc_gen {J : It} {xs : List V} (f : V → V) (hz : xs.length ≤ sizeLine) (hgo : ∀ i H2, Same H H2 → i < xs.length → J.go i H2) (hstop : ∀ H2, Same H H2 → J.stop xs.length H2)
    (hy : ∀ i H2 v H3, Same H H2 → i < xs.length → J.yld i H2 v H3 → H3 = H2 ∧ xs[i]? = some v)
    (he : ∀ v H2 Q', v ∈ xs → Same H H2 → Q' (f v) H2 → te (some v :: caps is σ) H2 Q') (q : ∀ D, H D = none → Q (.ref D) (upd H D (.lst (xs.map f)))) : lcGoal J is te σ H Q := by
  intro D hD
  refine ⟨fun i m ys H2 => m = xs.length - i ∧ i ≤ xs.length ∧ ys = (xs.take i).map f ∧ H2 = upd H D (.lst ys), ⟨_, rfl, Nat.zero_le _, by simp, rfl⟩, ?_⟩
  rintro i m ys H2 ⟨rfl, hi, hys, rfl⟩
  have sm : Same H (upd H D (.lst ys)) := Same.upd hD
  refine ⟨upd_same, ?_⟩
  by_cases hlt : i < xs.length
  · refine .inr ⟨hgo i _ sm hlt, fun v H3 y => ?_⟩
    obtain ⟨rfl, hv⟩ := hy i _ v H3 sm hlt y
    refine he v _ _ (List.mem_of_getElem? hv) sm ⟨upd_same, ?_, xs.length - (i + 1), by omega, rfl, hlt, ?_, upd_upd⟩
    · rw [hys, List.length_map, List.length_take]
      omega
    · rw [hys, List.take_add_one, hv, List.map_append]
      rfl
  · have e : i = xs.length := by omega
    subst e
    refine .inl ⟨hstop _ sm, ?_⟩
    rw [hys, List.take_length]
    exact q D hD
theorem Same.seqT {K : PySem.W.Frag} {H H' : Hp} {a : Addr} {xs : List V} (e : Same H H') (h : SqT K H a xs) : SqT K H' a xs := by
  rcases h with (h | ⟨o, h⟩) | h
  · exact .inl (.inl (e _ _ h))
  · exact .inl (.inr ⟨o, e _ _ h⟩)
  · exact .inr h
end

/-! ### the signs of a text -/
def signs (z : Str) : List V := z.cps.toList.map fun c => V.str ⟨#[c]⟩
theorem signs_length (z : Str) : (signs z).length = z.cps.size := by simp [signs]
def Its (z : Str) : It := ⟨fun i _ => i < z.cps.size, fun i H x H' => H' = H ∧ (signs z)[i]? = some x, fun i _ => i = z.cps.size⟩
theorem turn_str {P : Program} {w : World} {K : PySem.W.Frag} {tg : Expr} {ty : String} {z : Str} {t : Tok} (it : Addr) (hW : ∀ A : Around, A.handled = none → Walks P w A it [it] [it] z.cps.size (SignAt z) (fun i h => h.IsStrIter it ty z t i))
    (hS : ∀ (A : Around) (i : Nat) (s : Shared) (Q : Value → Shared → Prop) (E : Value → Shared → Prop), s.heap.IsStrIter it ty z t i → Q (.ref it) s → wpAny (model P w) A (pyIter (.ref it)) Q E s)
    (hn : ["enumerate", "zip", "dict_itemiterator", "dict_reverseitemiterator", "odict_iterator", "itertools.zip_longest", "itertools.pairwise"].contains ty = false) : Turn P w K tg (Its z) [it] it (fun i h => h.IsStrIter it ty z t i) where
  mem := by simp
  obj := fun i h st b hb => by
    have e : b = it := by simpa using hb
    subst e
    obtain ⟨o, e, c, d⟩ := st
    exact ⟨o, e, fun v z => by rw [d] at z; cases z⟩
  keep := fun i h h' st k => by
    obtain ⟨o, e, r⟩ := st
    exact ⟨o, k it (by simp) o e, r⟩
  item := by
    intro X hP hw hK hc i pins s σ H E I hf st hg
    subst hP hw hK
    obtain ⟨f0, f1, f2, f3, f4, f5⟩ := hf it (by simp)
    refine (hW X.A (I.ok.hd hc)).item i s _ _ hg st fun v h' tk hv st' kk => ?_
    obtain ⟨c, u, hcp, rfl⟩ := hv
    have I1 : Inv X pins σ H { s with heap := h', toks := tk } := I.turned (fun b o hb e => kk b o (by simpa using hb) e) f0 f1 f3 f4 f5
    obtain ⟨o, e, cc, d⟩ := id st'
    refine ⟨_, rfl, go_of (s := { s with heap := h', toks := tk }) e cc d hn ⟨.str ⟨#[c]⟩, H, I1, ⟨u, rfl⟩, ⟨rfl, ?_⟩, st', fun b hb => (hf b hb).1⟩⟩
    unfold signs
    rw [List.getElem?_map, Array.getElem?_toList, hcp]
    rfl
  done := by
    intro X hP hw hK hc i pins s σ H E I hf st hg
    subst hP hw hK
    obtain ⟨f0, f1, f2, f3, f4, f5⟩ := hf it (by simp)
    have hg' : i = z.cps.size := hg
    subst hg'
    exact (hW X.A (I.ok.hd hc)).done s _ _ st fun h' tk kk => ⟨rfl, I.turned (fun b o hb e => kk b o (by simpa using hb) e) f0 f1 f3 f4 f5⟩
  self := hS
section
variable {X : Cx} {tg : Expr}
def iStr (tl : TE) : TI := fun σ H R => tl σ H fun x H1 => ∃ z, x = .str z ∧ R (Its z) H1
theorem pi_str {l : Expr} {tl : TE} (hl : PE X l tl) : PI X tg l (iStr tl) := by
  intro pins s σ H R I h
  refine thn (hl pins s σ H _ I h) fun v s1 hpat => ?_
  obtain ⟨x, H1, I1, r1, q1⟩ := hpat
  obtain ⟨z, e, q⟩ := q1
  subst e
  obtain ⟨t, rfl⟩ := r1
  have fin : ∀ (ty : String) (hW : ∀ A : Around, A.handled = none → Walks X.prog X.w A s1.heap.objs.size [s1.heap.objs.size] [s1.heap.objs.size] z.cps.size (SignAt z) (fun i h => h.IsStrIter s1.heap.objs.size ty z t i))
      (hS : ∀ (A : Around) (i : Nat) (s : Shared) (Q : Value → Shared → Prop) (E : Value → Shared → Prop), s.heap.IsStrIter s1.heap.objs.size ty z t i → Q (.ref s1.heap.objs.size) s → wpAny (model X.prog X.w) A (pyIter (.ref s1.heap.objs.size)) Q E s)
      (hn : ["enumerate", "zip", "dict_itemiterator", "dict_reverseitemiterator", "odict_iterator", "itertools.zip_longest", "itertools.pairwise"].contains ty = false),
      PIE X pins σ tg R (.ref s1.heap.objs.size) { s1 with heap := s1.heap.push { cls := .type ty, data := .fields #[.str z t, .int 0 0] } } := fun ty hW hS hn => by
    refine ⟨s1.heap.objs.size, [s1.heap.objs.size], _, _, H1, rfl, I1.kept (t' := s1.toks) fun b o e => Heap.get?_push_of_some _ e, turn_str _ hW hS hn, ⟨_, Heap.get?_push_size _ rfl, rfl, rfl⟩, fun b hb => ?_, q⟩
    have e : b = s1.heap.objs.size := by simpa using hb
    subst e
    exact I1.fpOk (Nat.le_refl _) (I1.hok.fresh (Nat.le_refl _))
  cases ha : z.cps.all (· < 128)
  · exact wpAny_pyIter_wide ha (fin "str_iterator" (fun A hA => Walks.strWide hA _ z t) (fun A i s Q E st h => wpAny_pyIter_striter_wide st h) (by decide))
  · exact wpAny_pyIter_ascii ha (fin "str_ascii_iterator" (fun A hA => Walks.strAscii hA _ z t) (fun A i s Q E st h => wpAny_pyIter_striter_ascii st h) (by decide))
theorem lc_str {z : Str} {is : List Nat} {te : TE} {σ : St} {H : Hp} {Q : VK} (f : V → V) (hz : z.length ≤ sizeLine) (he : ∀ v H2 Q', v ∈ signs z → Same H H2 → Q' (f v) H2 → te (some v :: caps is σ) H2 Q')
    (q : ∀ D, H D = none → Q (.ref D) (upd H D (.lst ((signs z).map f)))) : lcGoal (Its z) is te σ H Q :=
  lc_gen f (by rw [signs_length]; exact hz) (fun i H2 _ hi => by rw [signs_length] at hi; exact hi) (fun H2 _ => signs_length z) (fun i H2 v H3 _ hi y => y) he q

/-! ### all(list of truths), isinstance(x, T) -/
theorem all_getD : ∀ bs : List Bool, ((List.range bs.length).all fun i => bs.getD i false) = bs.all id
  | [] => rfl
  | b :: r => by
    rw [List.length_cons, List.range_succ_eq_map, List.all_cons, List.all_map, List.all_cons, ← all_getD r]
    rfl
theorem call_allB (hc : X.calm = true) : CallR X (.builtin "all") (fun xs H Q => ∃ (p : Addr) (bs : List Bool), xs = [.ref p] ∧ SqL X.K H p (bs.map V.bl) ∧ Q (.bl (bs.all id)) H) := by
  intro pins s σ H xs us Q I r h
  obtain ⟨p, bs, rfl, hq, q⟩ := h
  obtain ⟨u, rfl, rx⟩ := vals1 r
  cases rx
  obtain ⟨its, rv, pl, hz⟩ := I.list hq
  have hl := rv.length
  rw [List.length_map] at hl
  have hlt : p < s.heap.objs.size := by obtain ⟨o, n, e, _⟩ := pl; exact Heap.lt_size e
  refine call_all_walk (wpAny_pyIter_list pl.isList ?_)
  refine ⟨s.heap.objs.size, [s.heap.objs.size, p], [s.heap.objs.size], its.toArray.size, _, _, fun i => bs.getD i false, rfl, Walks.list (show X.A.in1.handled = none from I.ok.hd hc) s.heap.objs.size p (Nat.ne_of_lt hlt) its.toArray,
    ⟨⟨_, Heap.get?_push_size _ rfl, rfl, rfl⟩, ?_⟩, fun i v s' Q' E' hv hQ => ?_, fun h' tk kk => ?_⟩
  · obtain ⟨o, e, r⟩ := pl.isList
    exact ⟨o, Heap.get?_push_of_some _ e, r⟩
  · have hi : i < bs.length := by
      have : i < its.length := by
        have := (Array.getElem?_eq_some_iff.mp hv).1
        simpa using this
      omega
    have hb : (bs.map V.bl)[i]? = some (V.bl bs[i]) := by simp [hi]
    obtain ⟨u, hu, ru⟩ := rv.get hb
    have hv' : its[i]? = some v := by simpa using hv
    rw [hu] at hv'
    cases hv'
    obtain rfl : v = Value.bool bs[i] := ru
    refine wpAny_truthy_bool ?_
    have e : bs.getD i false = bs[i] := by simp [List.getD, hi]
    rw [← e]
    exact hQ
  · refine ⟨.bl (bs.all id), H, ?_, ?_, q⟩
    · have I1 : Inv X pins σ H { s with heap := s.heap.push { cls := .type "list_iterator", data := .fields #[.ref p, .int 0 0] } } := I.kept (t' := s.toks) fun b o e => Heap.get?_push_of_some _ e
      have I2 : Inv X pins σ H { s with heap := h', toks := tk } := I.kept (t' := tk) fun b o e => kk b o (by
        intro z
        have z' : b = s.heap.objs.size := by simpa using z
        exact absurd (Heap.lt_size e) (by rw [z']; exact Nat.lt_irrefl _)) (Heap.get?_push_of_some _ e)
      exact I2
    · show Value.bool _ = Value.bool _
      congr 1
      rw [List.size_toArray, ← hl]
      exact all_getD bs
inductive IsiP (K : PySem.W.Frag) (xs : List V) (H : Hp) (Q : VK) : Prop
  | mk (x : V) (t : Value) (n : String) (b : Bool) (e : xs = [x, .ty n]) (ty : TyOf K H x t) (k : PySem.W.kitOne K t (.type n) = some b) (q : Q (.bl b) H)
theorem call_isi : CallR X (.builtin "isinstance") (fun xs H Q => L2.IsiP X.K xs H Q) := by
  intro pins s σ H xs us Q I r h
  obtain ⟨x, t, n, b, rfl, ty, e, q⟩ := h
  obtain ⟨u, c, rfl, rx, rc⟩ := vals2 r
  obtain rfl : c = Value.type n := rc
  exact isinst_ok I rx ty e fun tk => ⟨.bl b, H, I.tok _, rfl, q⟩

/-! ### texts: <=, slices -/
theorem op_le_str : OpR X (compareOp .LtE) (fun x y H Q => ∃ i j, x = .str i ∧ y = .str j ∧ Q (.bl (!decide (j.cps.toList < i.cps.toList))) H) := by
  intro pins s σ H x y v u Q I rx ry h
  obtain ⟨i, j, rfl, rfl, q⟩ := h
  obtain ⟨t, rfl⟩ := rx
  obtain ⟨t', rfl⟩ := ry
  exact PySem.P.le_str ⟨.bl _, H, I, rfl, q⟩
def cutS (z : Str) (lo hi : Option Int) : Str := ⟨((z.cps.toList.drop (HT.sIx z.length 0 lo)).take (HT.sIx z.length z.length hi - HT.sIx z.length 0 lo)).toArray⟩
theorem cutS_length (z : Str) (lo hi : Option Int) : (cutS z lo hi).length ≤ z.length := by
  show (((z.cps.toList.drop _).take _).toArray).size ≤ z.cps.size
  rw [List.size_toArray, List.length_take, List.length_drop, Array.length_toList]
  exact Nat.le_trans (Nat.min_le_right _ _) (Nat.sub_le _ _)
theorem clipS (v : Int) (n d : Nat) : max 0 (min (if v < 0 then v + (n : Int) else v) (n : Int)) = ((HT.sIx n d (some v) : Nat) : Int) := by
  exact clipM v n d
theorem picked_eq (z : Str) (lo hi : Option (Int × Tok)) : slicePicked z lo hi none = (List.range (HT.sIx z.length z.length (hi.map (·.1)) - HT.sIx z.length 0 (lo.map (·.1)))).map (HT.sIx z.length 0 (lo.map (·.1)) + ·) := by
  unfold slicePicked Builtin.Str.strSliceIndices
  simp only [Option.map_none, Option.getD_none, show (1 : Int) > 0 by decide, if_true]
  rw [← sliceRange_one]
  congr 1
  · cases lo with
    | none => rfl
    | some p => exact clipS p.1 z.length 0
  · cases hi with
    | none => rfl
    | some p => exact clipS p.1 z.length z.length
inductive SlSP (x : V) (lo hi : Option Int) (H : Hp) (Q : VK) : Prop
  | mk (z : Str) (hx : x = .str z) (b : z.length ≤ sizeLine) (q : Q (.str (cutS z lo hi)) H)
def rSlS : V → Option Int → Option Int → Hp → VK → Prop := fun x lo hi H Q => SlSP x lo hi H Q
theorem sl_str : SlR X rSlS := by
  intro pins s σ H x v vl vu lo hi sl Q I rx hs pl pu h
  obtain ⟨z, rfl, hz, q⟩ := h
  obtain ⟨t, rfl⟩ := rx
  have part : ∀ {u : Value} {o : Option Int}, IsPart u o → ∃ p : Option (Int × Tok), u = partValue p ∧ o = p.map (·.1) := fun {u o} p => by
    cases p with
    | none => exact ⟨none, rfl, rfl⟩
    | int i t => exact ⟨some (i, t), rfl, rfl⟩
  obtain ⟨l, rfl, rfl⟩ := part pl
  obtain ⟨u, rfl, rfl⟩ := part pu
  refine ⟨"str", _, slot_str_getitem.lookup, typeIs_str s z t, ?_⟩
  refine wpAny_getItem_str_slice (l := l) (u := u) (st := none) hs rfl ?_
  unfold sliceMade
  have ecut : (⟨((slicePicked z l u none).filterMap (z.cps[·]?)).toArray⟩ : Str) = cutS z (l.map (·.1)) (u.map (·.1)) := by
    rw [picked_eq]
    unfold cutS
    congr 2
    exact pick_run z.cps _ _
  split
  · rename_i c
    rw [Bool.and_eq_true] at c
    have c2 := eq_of_beq c.2
    rw [picked_eq, List.length_map, List.length_range] at c2
    have hle : HT.sIx z.length z.length (u.map (·.1)) ≤ z.length := HT.sIx_le _ _ (Nat.le_refl _) _
    have whole : cutS z (l.map (·.1)) (u.map (·.1)) = z := by
      unfold cutS
      by_cases h0 : z.length = 0
      · have hz0 : z.cps.toList = [] := by
          have : z.cps.size = 0 := h0
          exact List.eq_nil_of_length_eq_zero (by simpa using this)
        rw [hz0]
        simp only [List.drop_nil, List.take_nil]
        obtain ⟨cps⟩ := z
        congr 1
        exact (Array.toList_eq_nil_iff.mp hz0).symm
      · have e1 : HT.sIx z.length 0 (l.map (·.1)) = 0 := by omega
        rw [c2, e1]
        rw [List.drop_zero, List.take_of_length_le (by simp [Str.length])]
    exact ⟨.str _, H, I, ⟨t, by rw [whole]⟩, q⟩
  · refine ⟨?_, .str _, H, I.tok _, ⟨_, by rw [ecut]⟩, q⟩
    rw [ecut]
    exact Nat.le_trans (cutS_length _ _ _) hz
end
end L2

namespace L2
open PySem PySem.Spec PyProof.Rows
theorem Inv.bigM {X : Cx} {pins : List (Addr × Obj)} {σ : St} {H : Hp} {s : Shared} (I : Inv X pins σ H s) : sysModules < s.heap.objs.size := by
  have h : mainGlobals < s.heap.objs.size := (I.mod.glob.keeps I.bk).lt
  exact Nat.lt_trans (by decide) h
theorem dk_none {P : Program} {w : World} {H : Hp} (h : Heap) (hb : sysModules < h.objs.size) : ObjOk P w H (h.push { cls := .type "dict", data := .dict #[] }) h.objs.size (.dK []) :=
  ⟨Nat.zero_le _, beq_eq_false_iff_ne.mpr (Ne.symm (Nat.ne_of_lt hb)), [], .nil, Heap.DictOf.new h⟩
def tDNew : TE := fun _ H Q => ∀ p, H p = none → Q (.ref p) (upd H p (.dK []))
theorem pe_dnew {X : Cx} {pos : Pos} : PE X (.Dict [] [] pos) tDNew := fun pins s σ H Q I h =>
  wpAny_Dict_empty ⟨.ref s.heap.objs.size, _, I.laid (a := s.heap.objs.size) (o := .dK []) (t' := s.toks) (fun _ _ q => Heap.get?_push_of_some _ q) (Nat.le_refl _) (dk_none s.heap I.bigM), rfl, h _ (I.hok.fresh (Nat.le_refl _))⟩
/-- a def of the text: its object, its name, how it binds -/
structure Df (K : PySem.W.Frag) (mg : Str → Option Value) (x : Str) (st : Stmt) (ps : List Str) (f : Addr) (fd : FuncData) : Prop where
  fn : Fun K x x st f fd
  nm : mg x = some (.ref f)
  bi : Binds K fd ps []
/-- the kinds of things that are met -/
def tys : List String := ["NoneType", "bool", "int", "str", "list", "tuple", "dict"]
def isaB (T n : String) : Bool := T == n || (T == "bool" && n == "int")
theorem kit_isa {K : PySem.W.Frag} {T n : String} (hT : T ∈ tys) (hn : n ∈ ["int", "bool", "str", "list", "tuple"]) : PySem.W.kitOne K (.type T) (.type n) = some (isaB T n) := by
  simp only [tys, List.mem_cons, List.not_mem_nil, or_false] at hT hn
  rcases hT with rfl | rfl | rfl | rfl | rfl | rfl | rfl <;> rcases hn with rfl | rfl | rfl | rfl | rfl <;> rfl
section
variable {K : PySem.W.Frag} {H : Hp} {x : V} {T : String}
theorem ty_int (ty : TyOf K H x (.type "int")) : ∃ i, x = .int i := by
  generalize h : Value.type "int" = t at ty
  cases ty <;> first | exact ⟨_, rfl⟩ | (injection h with h'; exact absurd h' (by decide)) | cases h
theorem ty_str (ty : TyOf K H x (.type "str")) : ∃ z, x = .str z := by
  generalize h : Value.type "str" = t at ty
  cases ty <;> first | exact ⟨_, rfl⟩ | (injection h with h'; exact absurd h' (by decide)) | cases h
theorem of_ty_int {i : Int} (ty : TyOf K H (.int i) (.type T)) : T = "int" := by
  generalize h : Value.type T = t at ty
  cases ty
  injection h
theorem of_ty_str {z : Str} (ty : TyOf K H (.str z) (.type T)) : T = "str" := by
  generalize h : Value.type T = t at ty
  cases ty
  injection h
end
theorem bb_isinstance : bootBuiltins "isinstance" = some (.builtin "isinstance") := by decide +kernel
theorem bb_int : bootBuiltins "int" = some (.type "int") := by decide +kernel
theorem bb_bool : bootBuiltins "bool" = some (.type "bool") := by decide +kernel
theorem bb_str : bootBuiltins "str" = some (.type "str") := by decide +kernel
theorem bb_all : bootBuiltins "all" = some (.builtin "all") := by decide +kernel
theorem bb_len : bootBuiltins "len" = some (.builtin "len") := by decide +kernel
theorem bb_list : bootBuiltins "list" = some (.type "list") := by decide +kernel
theorem bb_tuple : bootBuiltins "tuple" = some (.type "tuple") := by decide +kernel
end L2

namespace L2
open PySem PySem.Spec PyProof.Rows
/-! ### items that bear no star, by their form alone -/
def notStar (e : Expr) : Bool := match e with
  | .Starred _ _ => false
  | _ => true
theorem star_plain {e : Expr} {rest : List Expr} {env : Env} (h : notStar e = true) : starEach (e :: rest) env = (false, eval e env) :: starEach rest env := by
  cases e <;> first | rfl | cases h
theorem star_none {env : Env} {pos : Pos} : ∀ {es : List Expr}, es.all notStar = true → (backTo pos (starEach es env)).any (·.1) = false
  | [], _ => rfl
  | e :: es, h => by
    rw [List.all_cons, Bool.and_eq_true] at h
    rw [star_plain h.1]
    exact star_none h.2
theorem pa_c {X : Cx} {e : Expr} {es : List Expr} {te : TE} {t : TA} (ha : PE X e te) (hr : PA X es t) (h : notStar e = true := by rfl) : PA X (e :: es) (tCons te t) := pa_cons ha hr (star_plain h)
/-! ### what rfl would read off a long expression, by its form alone -/
def isComp (e : Expr) : Bool := match e with
  | .ListComp .. => true
  | .SetComp .. => true
  | .DictComp .. => true
  | _ => false
theorem swaps_no {e : Expr} {tg : Option Expr} {n : Nat} {env : Env} (h : isComp e = false) : swapsWith e tg n env = pure false := by
  cases e <;> first | rfl | cases h
theorem pt_call {X : Cx} {f : Expr} {as : List Expr} {kw : List Keyword} {p : Pos} {t : TE} (h : PE X (.Call f as kw p) t) : PT X (.Call f as kw p) (tB t) := pt_val h (fun _ => rfl)
theorem ix_op {l r : Expr} {op : Operator} {p : Pos} : PlainIx (.BinOp l op r p) := fun _ _ => rfl
theorem ix_name {x : Str} {p : Pos} : PlainIx (.Name x p) := fun _ _ => rfl
theorem ix_con {c : Const} {k : Nat} {p : Pos} : PlainIx (.Constant c k p) := fun _ _ => rfl
theorem chain_mark {op op' : CmpOp} {b c : Expr} (h : op' ≠ .In := by decide) (h2 : op' ≠ .NotIn := by decide) : lastMarks [op, op'] [b, c] = false := by
  have e : lastMarks [op, op'] [b, c] = behindInMarks op' c := by rfl
  rw [e]
  exact nomark c h h2
theorem ps_do {X : Cx} {e : Expr} {te : TE} {p : Pos} (he : PE X e te) (h : isComp e = false := by rfl) : PS X (.Expr e p) (tDrop te) := ps_expr he (swaps_no h)
/-! ### a def's names and what it calls, as facts of a context that stays a letter -/
structure Slot (X : Cx) (i : Nat) (x : Str) : Prop where
  hN : X.N[i]? = some x
  lc : Loc X.env.scope x
  fn : X.fn x = true ∨ X.env.scope.names.lookup x = some .local
  db : (x == ("__debug__" : Str)) = false
  cd : (x == ("__classdict__" : Str)) = false
structure Bt (X : Cx) (x : Str) : Prop where
  gl : Gl X x
  nm : X.mg x = none
  hn : x ≠ "__name__"
  db : (x == ("__debug__" : Str)) = false
structure Cal (X : Cx) (x : Str) (sp : Sp) : Prop where
  ex : ∃ (k : Nat) (f : Addr) (fd : FuncData) (ps : List Str), FnOk X.prog X.w X.K X.mg X.base CX0 k f fd ps sp ∧ Room k X.A ∧ X.mg x = some (.ref f) ∧ PySem.W.keepIn X.K (.ref f) = true ∧ Binds X.K fd ps []
  gl : Gl X x
  db : (x == ("__debug__" : Str)) = false
section
variable {X : Cx} {i : Nat} {x : Str} {sp : Sp} {p pos pos' : Pos} {e : Expr} {es : List Expr} {te : TE} {t : TA}
theorem Slot.rd (S : Slot X i x) : PE X (.Name x p) (tVar i) := pe_var S.hN (S.lc.elim .inl fun h => .inr (.inl h)) S.db S.cd
theorem Slot.set (S : Slot X i x) (nd : X.N.Nodup) (he : PE X e te) (h : isComp e = false := by rfl) : PS X (.Assign [.Name x pos'] e pos) (tAsg te (gName i)) := ps_set nd S.hN S.lc he (swaps_no h) S.fn
theorem Slot.tg (S : Slot X i x) (nd : X.N.Nodup) : PG X (.Name x p) (gName i) := pg_name nd S.hN S.lc S.fn
theorem Bt.call {id : String} {r : List V → Hp → VK → Prop} (B : Bt X x) (hc : CallR X (.builtin id) r) (hv : bootBuiltins x = some (.builtin id)) (ha : PA X (e :: es) t) (h1 : notStar e = true := by rfl)
    (h2 : es.all notStar = true := by rfl) : PE X (.Call (.Name x p) (e :: es) [] pos) (tCB r t) := pe_callB hc B.gl B.nm hv ha B.hn B.db (star_plain h1) (star_none h2)
theorem Bt.callT {T : String} {r : List V → Hp → VK → Prop} (B : Bt X x) (hc : CallR X (.type T) r) (hv : bootBuiltins x = some (.type T)) (ha : PA X (e :: es) t) (h1 : notStar e = true := by rfl)
    (h2 : es.all notStar = true := by rfl) : PE X (.Call (.Name x p) (e :: es) [] pos) (tCB r t) := pe_callTy hc B.gl B.nm hv ha B.hn B.db (star_plain h1) (star_none h2)
theorem Bt.ty {n : String} (B : Bt X x) (hv : bootBuiltins x = some (.type n)) : PE X (.Name x p) (tC (.ty n)) := pe_bltn (v := .ty n) B.gl B.nm hv rfl B.hn B.db
theorem Cal.call (C : Cal X x sp) (ha : PA X (e :: es) t) (h1 : notStar e = true := by rfl)
    (h2 : es.all notStar = true := by rfl) : PE X (.Call (.Name x p) (e :: es) [] pos) (tCall sp [] E0 t) := by
  obtain ⟨k, f, fd, ps, G, hr, nm, kp, bi⟩ := C.ex
  exact pe_call G hr C.gl nm kp bi .nil pass0 ha C.db (star_plain h1) (star_none h2)
end
end L2

/-! ### the judgements as structures: what Lean's elaborator does not look into -/
namespace J
open PySem PySem.Spec PyProof.Rows
open L2 (Cx V Hp St VK TE TT TA TS TG TGs TI TO R2 Sp XK E0 CX0 FnOk Room Gl Binds RelV Vals SqL SqT TyOf)
structure JE (X : Cx) (e : Expr) (t : TE) : Prop where
  out : L2.PE X e t
structure JT (X : Cx) (e : Expr) (t : TT) : Prop where
  out : L2.PT X e t
structure JW (X : Cx) (e : Expr) (t : TT) : Prop where
  out : L2.PW X e t
structure JA (X : Cx) (es : List Expr) (t : TA) : Prop where
  out : L2.PA X es t
structure JS (X : Cx) (st : Stmt) (t : TS) : Prop where
  out : L2.PS X st t
structure JSs (X : Cx) (st : List Stmt) (t : TS) : Prop where
  out : L2.PSs X st t
structure JG (X : Cx) (tg : Expr) (g : TG) : Prop where
  out : L2.PG X tg g
structure JGs (X : Cx) (ts : List Expr) (g : TGs) : Prop where
  out : L2.PGs X ts g
structure JI (X : Cx) (tg it : Expr) (wi : TI) : Prop where
  out : L2.PI X tg it wi
structure JO (X : Cx) (e : Option Expr) (t : TO) : Prop where
  out : L2.PO X e t
structure JB (X : Cx) (op : Operator) (r : R2) : Prop where
  out : L2.OpR X (binaryOp op) r
structure JC (X : Cx) (op : CmpOp) (r : R2) : Prop where
  out : L2.OpR X (compareOp op) r
structure JU (X : Cx) (op : UnaryOp) (r : V → Hp → VK → Prop) : Prop where
  out : L2.UnR X (unaryOp op) r
structure JF (X : Cx) (f : Value) (r : List V → Hp → VK → Prop) : Prop where
  out : L2.CallR X f r
structure JX (X : Cx) (r : R2) : Prop where
  out : L2.IxR X r
structure JM (X : Cx) (id : String) (r : V → List V → Hp → VK → Prop) : Prop where
  out : L2.MtR X id r
structure JL (X : Cx) (r : V → Option Int → Option Int → Hp → VK → Prop) : Prop where
  out : L2.SlR X r
structure PlainIx (b : Expr) : Prop where
  out : L2.PlainIx b
section
variable {X : Cx} {a b c e : Expr} {es : List Expr} {ta tb tc te : TE} {t : TA} {tA tB' : TT} {pos p2 : Pos} {r r' : R2} {u v : TS} {st : Stmt} {sts : List Stmt} {tg : Expr}
-- ints
theorem op_add : JB X .Add (L2.rI0 fun i j => .int (i + j)) := ⟨L2.op_add⟩
theorem op_sub : JB X .Sub (L2.rI0 fun i j => .int (i - j)) := ⟨L2.op_sub⟩
theorem op_mul : JB X .Mult (L2.rI L2.CMul fun i j => .int (i * j)) := ⟨L2.op_mul⟩
theorem op_fdiv : JB X .FloorDiv (L2.rI L2.CDiv fun i j => .int (i / j)) := ⟨L2.op_fdiv⟩
theorem op_mod : JB X .Mod (L2.rI (fun _ j => 0 < j) fun i j => .int (i % j)) := ⟨L2.op_mod⟩
theorem op_pow : JB X .Pow (L2.rI L2.CPow fun i j => .int (i ^ j.toNat)) := ⟨L2.op_pow⟩
theorem op_add_str : JB X .Add (fun x y H Q => ∃ i j, x = .str i ∧ y = .str j ∧ i.length + j.length ≤ sizeLine ∧ Q (.str (i ++ j)) H) := ⟨L2.op_add_str⟩
theorem un_neg : JU X .USub (L2.rU fun i => .int (-i)) := ⟨L2.un_neg⟩
theorem op_eq : JC X .Eq L2.rEq := ⟨L2.op_eq⟩
theorem op_ne : JC X .NotEq L2.rNe := ⟨L2.op_ne⟩
theorem op_lt : JC X .Lt (L2.rI0 fun i j => .bl (decide (i < j))) := ⟨L2.op_lt⟩
theorem op_le : JC X .LtE (L2.rI0 fun i j => .bl (decide (i ≤ j))) := ⟨L2.op_le⟩
theorem op_gt : JC X .Gt (L2.rI0 fun i j => .bl (decide (j < i))) := ⟨L2.op_gt⟩
theorem op_ge : JC X .GtE (L2.rI0 fun i j => .bl (decide (j ≤ i))) := ⟨L2.op_ge⟩
theorem op_isN : JC X .Is (fun x y H Q => y = .non ∧ Q (.bl (decide (x = .non))) H) := ⟨L2.op_isN⟩
theorem op_notN : JC X .IsNot (fun x y H Q => y = .non ∧ Q (.bl (!decide (x = .non))) H) := ⟨L2.op_notN⟩
theorem op_in_seq : JC X .In (L2.rIn X.K false) := ⟨L2.op_in_seq⟩
-- calls of built-ins
theorem call_len_seq : JF X (.builtin "len") (fun xs H Q => L2.LenP X.K xs H Q) := ⟨L2.call_len_seq⟩
theorem call_len_str : JF X (.builtin "len") (fun xs H Q => ∃ z, xs = [.str z] ∧ z.length ≤ sizeLine ∧ Q (.int z.length) H) := ⟨L2.call_len_str⟩
theorem call_list_of : JF X (.type "list") (fun xs H Q => ∃ p ys, xs = [.ref p] ∧ (SqL X.K H p ys ∨ SqT X.K H p ys) ∧ ∀ l, H l = none → Q (.ref l) (L2.upd H l (.lst ys))) := ⟨L2.call_list_of⟩
theorem call_isi : JF X (.builtin "isinstance") (fun xs H Q => L2.IsiP X.K xs H Q) := ⟨L2.call_isi⟩
theorem call_allB (hc : X.calm = true) : JF X (.builtin "all") (fun xs H Q => ∃ (p : Addr) (bs : List Bool), xs = [.ref p] ∧ SqL X.K H p (bs.map V.bl) ∧ Q (.bl (bs.all id)) H) := ⟨L2.call_allB hc⟩
theorem call_int1 : JF X (.type "int") (fun xs H Q => (∃ i, xs = [.int i] ∧ Q (.int i) H) ∨ ∃ k, xs = [.bl k] ∧ Q (.int (if k then 1 else 0)) H) := ⟨L2.call_int1⟩
theorem call_max2 (hc : X.calm = true) : JF X (.builtin "max") (fun xs H Q => ∃ i j, xs = [.int i, .int j] ∧ Q (.int (if j > i then j else i)) H) := ⟨L2.call_max2 hc⟩
theorem call_min2 (hc : X.calm = true) : JF X (.builtin "min") (fun xs H Q => ∃ i j, xs = [.int i, .int j] ∧ Q (.int (if j < i then j else i)) H) := ⟨L2.call_min2 hc⟩
-- places, slices
theorem ix_list : JX X (L2.rIxL X.K) := ⟨L2.ix_list⟩
theorem ix_tup : JX X (L2.rIxT X.K) := ⟨L2.ix_tup⟩
theorem ix_str : JX X L2.rIxS := ⟨L2.ix_str⟩
theorem ix_op {l r : Expr} {op : Operator} {p : Pos} : PlainIx (.BinOp l op r p) := ⟨L2.ix_op⟩
theorem ix_name {x : Str} {p : Pos} : PlainIx (.Name x p) := ⟨L2.ix_name⟩
theorem ix_con {c : Const} {k : Nat} {p : Pos} : PlainIx (.Constant c k p) := ⟨L2.ix_con⟩
theorem ix_call {f : Expr} {as : List Expr} {kw : List Keyword} {p : Pos} : PlainIx (.Call f as kw p) := ⟨fun _ _ => rfl⟩
theorem sl_list : JL X (L2.rSlL X.K) := ⟨L2.sl_list⟩
theorem sl_str : JL X L2.rSlS := ⟨L2.sl_str⟩
theorem po_none : JO X none L2.tNoPart := ⟨L2.po_none⟩
theorem po_some (h : JE X e te) : JO X (some e) (L2.tPart te) := ⟨L2.po_some h.out⟩
-- expressions
theorem pe_int {i j pos} : JE X (.Constant (.int i) j pos) (L2.tC (.int i)) := ⟨L2.pe_int⟩
theorem pe_bl {b j pos} : JE X (.Constant (.bool b) j pos) (L2.tC (.bl b)) := ⟨L2.pe_bl⟩
theorem pe_non {j pos} : JE X (.Constant .none j pos) (L2.tC .non) := ⟨L2.pe_non⟩
theorem pe_str {x j pos} : JE X (.Constant (.str x) j pos) (L2.tC (.str x)) := ⟨L2.pe_str⟩
theorem pe_op {op : Operator} (ho : JB X op r) (ha : JE X a ta) (hb : JE X b tb) : JE X (.BinOp a op b pos) (L2.tOp r ta tb) := ⟨L2.pe_op ho.out ha.out hb.out⟩
theorem pe_un {op : UnaryOp} {r : V → Hp → VK → Prop} (ho : JU X op r) (ha : JE X a ta) : JE X (.UnaryOp op a pos) (L2.tUn r ta) := ⟨L2.pe_un ho.out ha.out⟩
theorem pe_ix (hr : JX X r) (ha : JE X a ta) (hb : JE X b tb) (hs : PlainIx b) : JE X (.Subscript a b pos) (L2.tOp r ta tb) := ⟨L2.pe_ix hr.out ha.out hb.out hs.out⟩
theorem pe_slice {r : V → Option Int → Option Int → Hp → VK → Prop} {lo hi : Option Expr} {tl th : TO} (hr : JL X r) (he : JE X e te) (hl : JO X lo tl) (hu : JO X hi th) : JE X (.Subscript e (.Slice lo hi none p2) pos) (L2.tSl r te tl th) := ⟨L2.pe_slice hr.out he.out hl.out hu.out⟩
theorem pe_cmpR {op : CmpOp} (ho : JC X op r) (ha : JE X a ta) (hb : JE X b tb) (hm : behindInMarks op b = false) : JE X (.Compare a [op] [b] pos) (L2.tOp r ta tb) := ⟨L2.pe_cmpR ho.out ha.out hb.out hm⟩
theorem pt_cmpR {op : CmpOp} (ho : JC X op r) (ha : JE X a ta) (hb : JE X b tb) (hm : behindInMarks op b = false) : JT X (.Compare a [op] [b] pos) (L2.tTest (L2.tOp r ta tb)) := ⟨L2.pt_cmpR ho.out ha.out hb.out hm⟩
theorem pe_chain {op op' : CmpOp} (ho : JC X op r) (ho' : JC X op' r') (ha : JE X a ta) (hb : JE X b tb) (hc : JE X c tc) (hm : lastMarks [op, op'] [b, c] = false) : JE X (.Compare a [op, op'] [b, c] pos) (L2.tChain r r' ta tb tc) := ⟨L2.pe_chain ho.out ho'.out ha.out hb.out hc.out hm⟩
theorem pt_chain {op op' : CmpOp} (ho : JC X op r) (ho' : JC X op' r') (ha : JE X a ta) (hb : JE X b tb) (hc : JE X c tc) (hm : lastMarks [op, op'] [b, c] = false) : JT X (.Compare a [op, op'] [b, c] pos) (L2.tTest (L2.tChain r r' ta tb tc)) := ⟨L2.pt_chain ho.out ho'.out ha.out hb.out hc.out hm⟩
theorem notSet_mark {op : CmpOp} {x : Str} {p : Pos} : behindInMarks op (.Name x p) = false := rfl
theorem tup_mark {op : CmpOp} {es : List Expr} {k : Nat} {p : Pos} : behindInMarks op (.Tuple es k p) = false := rfl
theorem pe_one {op} (h : JE X a te) : JE X (.BoolOp op [a] pos) te := ⟨L2.pe_one h.out⟩
theorem pe_and (ha : JE X a ta) (hb : JE X (.BoolOp .And (b :: es) pos) tb) : JE X (.BoolOp .And (a :: b :: es) pos) (L2.tAndV ta tb) := ⟨L2.pe_and ha.out hb.out⟩
theorem pe_or (ha : JE X a ta) (hb : JE X (.BoolOp .Or (b :: es) pos) tb) : JE X (.BoolOp .Or (a :: b :: es) pos) (L2.tOrV ta tb) := ⟨L2.pe_or ha.out hb.out⟩
theorem pw_and1 (ha : JT X a tA) : JW X (.BoolOp .And [a] pos) tA := ⟨L2.pw_and1 ha.out⟩
theorem pw_or1 (ha : JT X a tA) : JW X (.BoolOp .Or [a] pos) tA := ⟨L2.pw_or1 ha.out⟩
theorem pw_and (ha : JT X a tA) (hb : JW X (.BoolOp .And (b :: es) pos) tB') : JW X (.BoolOp .And (a :: b :: es) pos) (L2.tAnd tA tB') := ⟨L2.pw_and ha.out hb.out⟩
theorem pw_or (ha : JT X a tA) (hb : JW X (.BoolOp .Or (b :: es) pos) tB') : JW X (.BoolOp .Or (a :: b :: es) pos) (L2.tOr tA tB') := ⟨L2.pw_or ha.out hb.out⟩
theorem pw_pt (h : JW X e tA) : JT X e tA := ⟨h.out.pt⟩
theorem pt_not (ha : JT X a tA) : JT X (.UnaryOp .Not a pos) (L2.tNot tA) := ⟨L2.pt_not ha.out⟩
theorem pt_call {f : Expr} {as : List Expr} {kw : List Keyword} {p : Pos} (h : JE X (.Call f as kw p) te) : JT X (.Call f as kw p) (L2.tB te) := ⟨L2.pt_call h.out⟩
theorem pa_nil : JA X [] L2.tNil := ⟨L2.pa_nil⟩
theorem pa_c (ha : JE X e te) (hr : JA X es t) (h : L2.notStar e = true := by rfl) : JA X (e :: es) (L2.tCons te t) := ⟨L2.pa_c ha.out hr.out h⟩
theorem pe_lst (h : JA X es t) : JE X (.List es pos) (L2.tLst t) := ⟨L2.pe_lst h.out⟩
theorem pe_tup {k} (h : JA X es t) : JE X (.Tuple es k pos) (L2.tTup t) := ⟨L2.pe_tup h.out⟩
theorem pe_dnew : JE X (.Dict [] [] pos) L2.tDNew := ⟨L2.pe_dnew⟩
theorem pe_glob {x : Str} {v : V} {u : Value} (hg : Gl X x) (hm : X.mg x = some u) (r : RelV v u) (hd : (x == ("__debug__" : Str)) = false) : JE X (.Name x pos) (L2.tC v) := ⟨L2.pe_glob hg hm r hd⟩
-- iterables, targets
theorem pi_list (h : JE X e te) : JI X tg e (L2.iList X.K te) := ⟨L2.pi_list h.out⟩
theorem pi_tup (h : JE X e te) : JI X tg e (L2.iTup X.K te) := ⟨L2.pi_tup h.out⟩
-- statements
theorem pss_nil : JSs X [] L2.tNext := ⟨L2.pss_nil⟩
theorem pss_cons (h1 : JS X st u) (h2 : JSs X sts v) : JSs X (st :: sts) (L2.tSeq u v) := ⟨L2.pss_cons h1.out h2.out⟩
theorem pss_one (h1 : JS X st u) : JSs X [st] u := ⟨L2.pss_one h1.out⟩
theorem pss_never : JSs X sts L2.tNever := ⟨L2.pss_never⟩
theorem ps_ret (h : JE X e te) : JS X (.Return (some e) pos) (L2.tRet te) := ⟨L2.ps_ret h.out⟩
theorem ps_do (h : JE X e te) (hc : L2.isComp e = false := by rfl) : JS X (.Expr e pos) (L2.tDrop te) := ⟨L2.ps_do h.out hc⟩
theorem ps_if {c : Expr} {x y : List Stmt} {tc : TT} (hc : JT X c tc) (ha : JSs X x u) (hb : JSs X y v) : JS X (.If c x y pos) (L2.tIfS tc u v) := ⟨L2.ps_if hc.out ha.out hb.out⟩
theorem ps_for {it : Expr} {body : List Stmt} {wi : TI} {g : TG} {tb : TS} (hp : PassesOwn (model X.prog X.w) X.A X.env X.xe) (hc : X.calm = true) (hi : JI X tg it wi) (hg : JG X tg g) (hb : JSs X body tb)
    (hs : ∀ x, foldedSetIterable it X.env x = pure x := by intro _; rfl) : JS X (.For tg it body [] pos) (L2.tFor wi g tb) := ⟨L2.ps_for hp hc hi.out hg.out hb.out hs⟩
end
section
variable {X : Cx} {i : Nat} {x : Str} {sp : Sp} {p pos pos' : Pos} {e : Expr} {es : List Expr} {te : TE} {t : TA} {tg : Expr}
theorem rd (S : L2.Slot X i x) : JE X (.Name x p) (L2.tVar i) := ⟨S.rd⟩
theorem set (S : L2.Slot X i x) (nd : X.N.Nodup) (he : JE X e te) (h : L2.isComp e = false := by rfl) : JS X (.Assign [.Name x pos'] e pos) (L2.tAsg te (L2.gName i)) := ⟨S.set nd he.out h⟩
theorem tgt (S : L2.Slot X i x) (nd : X.N.Nodup) : JG X (.Name x p) (L2.gName i) := ⟨S.tg nd⟩
theorem blt {id : String} {r : List V → Hp → VK → Prop} (B : L2.Bt X x) (hc : JF X (.builtin id) r) (hv : bootBuiltins x = some (.builtin id)) (ha : JA X (e :: es) t) (h1 : L2.notStar e = true := by rfl) (h2 : es.all L2.notStar = true := by rfl) :
    JE X (.Call (.Name x p) (e :: es) [] pos) (L2.tCB r t) := ⟨B.call hc.out hv ha.out h1 h2⟩
theorem bltT {T : String} {r : List V → Hp → VK → Prop} (B : L2.Bt X x) (hc : JF X (.type T) r) (hv : bootBuiltins x = some (.type T)) (ha : JA X (e :: es) t) (h1 : L2.notStar e = true := by rfl) (h2 : es.all L2.notStar = true := by rfl) :
    JE X (.Call (.Name x p) (e :: es) [] pos) (L2.tCB r t) := ⟨B.callT hc.out hv ha.out h1 h2⟩
theorem ty {n : String} (B : L2.Bt X x) (hv : bootBuiltins x = some (.type n)) : JE X (.Name x p) (L2.tC (.ty n)) := ⟨B.ty hv⟩
theorem cal (C : L2.Cal X x sp) (ha : JA X (e :: es) t) (h1 : L2.notStar e = true := by rfl) (h2 : es.all L2.notStar = true := by rfl) : JE X (.Call (.Name x p) (e :: es) [] pos) (L2.tCall sp [] E0 t) := ⟨C.call ha.out h1 h2⟩
theorem pi_range1 (B : L2.Bt X "range") (ha : JA X [e] t) (h : L2.notStar e = true := by rfl) : JI X tg (.Call (.Name "range" p) [e] [] pos) (L2.iRng1 t) := ⟨L2.pi_range1 B.gl B.nm ha.out (L2.star_plain h)⟩
end
/-- a def by its body -/
theorem fn_ok {P : Program} {w : World} {K : PySem.W.Frag} {mg : Str → Option Value} {base : Heap} {x qual : Str} {st : Stmt} {f : Addr} {fd : FuncData} {N ps : List Str} {k : Nat} {sp : Sp} (F : L2.Fun K x qual st f fd) (S : L2.FnScope N ps (L2.defScope st)) (len : ∀ vs H Q E, sp vs H Q E → vs.length = ps.length)
    (hbody : ∀ (X : Cx) (cdv : Value) (A : Around) (outer : List Env) (s : Shared) (H : Hp) (vs : List V) (Q : VK) (E : XK), X = (L2.cxOf CX0 P w K mg base N qual (L2.defScope st) f cdv A outer s H E).nox → Room k X.A → sp vs H Q E →
      ∃ t, JSs X (L2.defBody st) t ∧ t { nx := fun _ H' => Q .non H', rt := Q } (L2.start N vs) H) : FnOk P w K mg base CX0 (k + 1) f fd ps sp := by
  refine F.ok S len (fun cdv A outer s H vs Q E hr h => ?_)
  obtain ⟨t, h1, h2⟩ := hbody _ cdv A outer s H vs Q E rfl hr h
  exact ⟨t, h1.out, h2⟩
end J

/-! ### zip over two sources of any kind -/
namespace Z
open PySem PySem.Spec PyProof.Rows
section
variable {prog : Program} {w : World} {A : Around} {E : Value → Shared → Prop} {s : Shared}
end
structure Ap (z TI TO i1 i2 : Addr) (fp1 fp2 : List Addr) : Prop where
  TIz : TI ≠ z
  TOz : TO ≠ z
  TITO : TI ≠ TO
  TI1 : TI ≠ i1
  TI2 : TI ≠ i2
  z1 : z ∉ fp1
  z2 : z ∉ fp2
  o1 : TO ∉ fp1
  o2 : TO ∉ fp2
  m1 : i1 ∈ fp1
  m2 : i2 ∈ fp2
  x12 : i1 ∉ fp2
  x21 : i2 ∉ fp1
section
variable {prog : Program} {w : World} {A : Around} {E : Value → Shared → Prop} {s : Shared} {z TI TO i1 i2 : Addr} {fp1 fp2 : List Addr} {n1 n2 : Nat} {P1 P2 : Nat → Value → Prop} {S1 S2 : Nat → Heap → Prop}
end
end Z

/-! ### for .. in zip(a, b), in enumerate(a): tuples made turn by turn -/
namespace L2
open PySem PySem.Spec PyProof.Rows
theorem Inv.turnedNew {X : Cx} {pins : List (Addr × Obj)} {σ : St} {H : Hp} {s : Shared} {g : Heap} {t' : Nat} {fp : List Addr} {T : Addr} {o : HO} (I : Inv X pins σ H s) (hf : ∀ b ∈ fp, FpOk X pins H b)
    (k : ∀ b u, b ∉ fp → s.heap.get? b = some u → g.get? b = some u) (hT : s.heap.objs.size ≤ T) (nf : ∀ b ∈ fp, ∃ u, s.heap.get? b = some u) (new : ObjOk X.prog X.w (upd H T o) g T o) : Inv X pins σ (upd H T o) { s with heap := g, toks := t' } := by
  have hn : H T = none := I.hok.fresh hT
  have trk : ∀ b u, H b = some u → b ∉ fp := fun b u e z => by rw [(hf b z).1] at e; cases e
  refine I.step (g' := s.gens) (d' := s.drawn) (ch := fp) (fun b hb => ⟨(hf b hb).2.2.2.1, (hf b hb).2.1, (hf b hb).2.2.2.2.1, (hf b hb).2.2.2.2.2⟩) (fun b u _ _ hc e _ => k b u hc e) (fun b u _ _ hc e _ => ⟨u.slots, k b u hc e⟩) (fun b u _ e n => ?_)
    (fun b u hc e => ⟨u, k b u hc e⟩) (fun b xs e => ?_) (fun b u xs e => ?_) (fun b ps e => ⟨#[], ?_⟩) (fun m hm => ?_) (fun b u e => ?_) I.bare
  · rw [upd_ne (Nat.ne_of_lt (Nat.lt_of_lt_of_le (Heap.lt_size e) hT))]
    exact n
  · rw [upd_ne (ne_of_none e hn)]
    exact e
  · rw [upd_ne (ne_of_none e hn)]
    exact e
  · rw [upd_ne (ne_of_none e hn), e]
    simp
  · obtain ⟨ob, es, ep, ho, r⟩ := hm
    exact ⟨ob, es, ep, k _ ob (fun z => (hf _ z).2.1 rfl) ho, r⟩
  · by_cases hb : b = T
    · subst hb
      rw [upd_same] at e
      cases e
      exact new
    · rw [upd_ne hb] at e
      refine (I.hok b u e).stay (fun c v hc q => k c v ?_ q) (fun c q => by rw [upd_ne (ne_of_none q hn)]; exact q) fun c xs q => by rw [upd_ne (ne_of_none q hn)]; exact q
      rcases hc with rfl | hc
      · exact trk c u e
      · exact trk c _ hc
theorem Inv.turnedOld {X : Cx} {pins : List (Addr × Obj)} {σ : St} {H : Hp} {s : Shared} {g : Heap} {t' : Nat} {fp : List Addr} (I : Inv X pins σ H s) (hf : ∀ b ∈ fp, FpOk X pins H b)
    (k : ∀ b u, b ∉ fp → s.heap.get? b = some u → g.get? b = some u) : Inv X pins σ H { s with heap := g, toks := t' } := by
  have trk : ∀ b u, H b = some u → b ∉ fp := fun b u e z => by rw [(hf b z).1] at e; cases e
  refine I.step (g' := s.gens) (d' := s.drawn) (ch := fp) (fun b hb => ⟨(hf b hb).2.2.2.1, (hf b hb).2.1, (hf b hb).2.2.2.2.1, (hf b hb).2.2.2.2.2⟩) (fun b u _ _ hc e _ => k b u hc e) (fun b u _ _ hc e _ => ⟨u.slots, k b u hc e⟩) (fun _ _ _ _ n => n)
    (fun b u hc e => ⟨u, k b u hc e⟩) (fun _ _ e => e) (fun _ _ _ e => e) (fun b ps e => ⟨#[], by rw [e]; simp⟩) (fun m hm => ?_) (fun b u e => ?_) I.bare
  · obtain ⟨ob, es, ep, ho, r⟩ := hm
    exact ⟨ob, es, ep, k _ ob (fun z => (hf _ z).2.1 rfl) ho, r⟩
  · refine (I.hok b u e).stay (fun c v hc q => k c v ?_ q) (fun _ q => q) fun _ _ q => q
    rcases hc with rfl | hc
    · exact trk c u e
    · exact trk c _ hc
/-! a list (true) or a tuple (false) -/
def sqAt (q : Bool) (K : PySem.W.Frag) (H : Hp) (a : Addr) (xs : List V) : Prop := match q with
  | true => SqL K H a xs
  | false => SqT K H a xs
def itAt (q : Bool) (h : Heap) (it a : Addr) (i : Nat) : Prop := match q with
  | true => h.IsListIter it a i
  | false => h.IsTupleIter it a i
def isAt (q : Bool) (h : Heap) (a : Addr) (its : Array Value) : Prop := match q with
  | true => h.IsList a its
  | false => h.IsTuple a its
def itName (q : Bool) : String := match q with
  | true => "list_iterator"
  | false => "tuple_iterator"
theorem itAt_obj {q : Bool} {h : Heap} {it a : Addr} {i : Nat} (p : itAt q h it a i) : ∃ o, h.get? it = some o ∧ ∀ v, o.data ≠ .cell v := by
  cases q with
  | true => obtain ⟨o, e, c, d⟩ := p; exact ⟨o, e, fun v z => by rw [d] at z; cases z⟩
  | false => obtain ⟨o, e, c, d⟩ := p; exact ⟨o, e, fun v z => by rw [d] at z; cases z⟩
theorem itAt_keep {q : Bool} {h g : Heap} {it a : Addr} {i : Nat} (p : itAt q h it a i) (k : ∀ o, h.get? it = some o → g.get? it = some o) : itAt q g it a i := by
  cases q with
  | true => obtain ⟨o, e, r⟩ := p; exact ⟨o, k o e, r⟩
  | false => obtain ⟨o, e, r⟩ := p; exact ⟨o, k o e, r⟩
/-! zip -/
def Itz (K : PySem.W.Frag) (q1 q2 : Bool) (a1 a2 : Addr) : It :=
  ⟨fun i H => ∃ xs ys x y, sqAt q1 K H a1 xs ∧ sqAt q2 K H a2 ys ∧ xs[i]? = some x ∧ ys[i]? = some y,
   fun i H v H' => ∃ p x y, H p = none ∧ v = .ref p ∧ H' = upd H p (.tup [x, y]) ∧ (∀ xs, sqAt q1 K H a1 xs → xs[i]? = some x) ∧ (∀ ys, sqAt q2 K H a2 ys → ys[i]? = some y),
   fun i H => ∃ xs, sqAt q1 K H a1 xs ∧ xs.length = i⟩
end L2

namespace L2
open PySem PySem.Spec PyProof.Rows
/-! zip: the call -/
abbrev zq1 (q : Bool) (h : Heap) (a : Addr) : Heap := h.push { cls := .type (itName q), data := .fields #[.ref a, .int 0 0] }
abbrev zq3 (q1 q2 : Bool) (h : Heap) (a b : Addr) : Heap := (zq1 q2 (zq1 q1 h a) b).push { cls := .type "tuple", data := .seq #[.ref h.objs.size, .ref (zq1 q1 h a).objs.size] }
abbrev zq4 (q1 q2 : Bool) (h : Heap) (a b : Addr) : Heap := (zq3 q1 q2 h a b).push { cls := .type "tuple", data := .seq #[.none, .none] }
abbrev zq5 (q1 q2 : Bool) (h : Heap) (a b : Addr) : Heap := (zq4 q1 q2 h a b).push { cls := .type "zip", data := .fields #[.none, .bool false, .bool false, .ref (zq1 q2 (zq1 q1 h a) b).objs.size, .ref (zq3 q1 q2 h a b).objs.size] }
theorem zle2 (n b : Nat) (h : b ∈ [n + 1, n]) : n ≤ b := by
  simp only [List.mem_cons, List.not_mem_nil, or_false] at h
  omega
theorem bb_enumerate : bootBuiltins "enumerate" = some (.type "enumerate") := by decide +kernel
def iZip (K : PySem.W.Frag) (ta : TA) : TI := fun σ H R => ta σ H fun vs H1 => ∃ q a1 a2, vs = [.ref a1, .ref a2] ∧ (∃ xs, sqAt q K H1 a1 xs) ∧ (∃ ys, sqAt q K H1 a2 ys) ∧ R (Itz K q q a1 a2) H1
theorem sqAt_lt {X : Cx} {pins : List (Addr × Obj)} {σ : St} {H : Hp} {s : Shared} {q : Bool} {a : Addr} {xs : List V} (I : Inv X pins σ H s) (h : sqAt q X.K H a xs) : a < s.heap.objs.size := by
  cases q with
  | true => obtain ⟨its, r, ⟨o, n, e, _⟩, z⟩ := I.list h; exact Heap.lt_size e
  | false => obtain ⟨its, r, ⟨o, e, _⟩, z⟩ := I.tuple h; exact Heap.lt_size e
section
variable {X : Cx}
end
/-! enumerate -/
def Ite (K : PySem.W.Frag) (a : Addr) : It :=
  ⟨fun i H => ∃ xs x, SqL K H a xs ∧ xs[i]? = some x, fun i H v H' => ∃ p x, H p = none ∧ v = .ref p ∧ H' = upd H p (.tup [.int i, x]) ∧ ∀ xs, SqL K H a xs → xs[i]? = some x, fun i H => ∃ xs, SqL K H a xs ∧ xs.length = i⟩
theorem turn_enum {P : Program} {w : World} {K : PySem.W.Frag} {es : List Expr} {kk : Nat} {tp : Pos} {a : Addr} (e it : Addr) (ne : e ≠ it) (n1 : a ≠ e) (n2 : a ≠ it) :
    Turn P w K (.Tuple es kk tp) (Ite K a) [e, it] e (fun i h => (∃ old, IsEnum h e it i old) ∧ h.IsListIter it a i) := by
  refine ⟨by simp, fun i h st b hb => ?_, fun i h g st k => ?_, ?_, ?_, fun A i s Q E st h => ?_⟩
  · obtain ⟨⟨old, ce⟩, c1⟩ := st
    simp only [List.mem_cons, List.not_mem_nil, or_false] at hb
    rcases hb with rfl | rfl
    · exact ⟨_, ce, fun v e => by cases e⟩
    · exact itAt_obj (q := true) c1
  · obtain ⟨⟨old, ce⟩, c1⟩ := st
    exact ⟨⟨old, k _ (by simp) _ ce⟩, itAt_keep (q := true) c1 fun o e => k _ (by simp) o e⟩
  · intro X hP hw hK hc i pins s σ H E I hf st hg
    subst hP hw hK
    obtain ⟨⟨old, ce⟩, c1⟩ := st
    obtain ⟨xs, x, hx, ex⟩ := hg
    obtain ⟨its, r, p, l⟩ := I.list hx
    obtain ⟨u, eu, ru⟩ := r.get ex
    have W := WalksT.enumerate (prog := X.prog) (w := X.w) (A := X.A) (I.ok.hd hc) e it a ne n1 n2 its.toArray
    have hi : i < its.toArray.size := by
      have := (List.getElem?_eq_some_iff.mp eu).1
      simpa using this
    refine W.item i s _ _ hi ⟨⟨old, ce⟩, c1, p.isList⟩ fun T vals g tk hP hT hTup hM kp => ?_
    obtain ⟨t, v, hv, rfl⟩ := hP
    have hvu : v = u := by
      have : its[i]? = some v := by simpa using hv
      rw [eu] at this
      exact (Option.some.inj this).symm
    subst hvu
    have hTw : T ∉ [e, it] := W.apart i T g hM
    refine ⟨_, rfl, W.go es kk tp i T { s with heap := g, toks := tk } _ _ hM fun g2 st2 kp2 => ?_⟩
    have hn : H T = none := I.hok.fresh hT
    have kk2 : ∀ b u, b ∉ [e, it] → s.heap.get? b = some u → g2.get? b = some u := fun b u hb q => kp2 b u hb (kp b u hb q)
    have I2 : Inv X pins σ (upd H T (.tup [.int i, x])) { s with heap := g2, toks := tk } := by
      refine I.turnedNew hf kk2 hT (fun b hb => ?_) ⟨by show 2 ≤ sizeLine; decide, [.int i t, v], .cons ⟨t, rfl⟩ (.cons ru .nil), ?_⟩
      · simp only [List.mem_cons, List.not_mem_nil, or_false] at hb
        rcases hb with rfl | rfl
        · exact ⟨_, ce⟩
        · obtain ⟨o, q, _⟩ := itAt_obj (q := true) c1; exact ⟨o, q⟩
      · obtain ⟨o, q, rest⟩ := hTup
        exact ⟨o, kp2 T o hTw q, rest⟩
    refine ⟨.ref T, _, I2, rfl, ⟨T, x, hn, rfl, rfl, fun zs hz => by rw [I.list_inj hz hx]; exact ex⟩, ⟨by simpa using st2.1, st2.2.1⟩, fun b hb => ?_⟩
    have hbT : b ≠ T := by
      rintro rfl
      exact hTw hb
    rw [upd_ne hbT]
    exact (hf b hb).1
  · intro X hP hw hK hc i pins s σ H E I hf st hg
    subst hP hw hK
    obtain ⟨⟨old, ce⟩, c1⟩ := st
    obtain ⟨xs, hx, rfl⟩ := hg
    obtain ⟨its, r, p, l⟩ := I.list hx
    have W := WalksT.enumerate (prog := X.prog) (w := X.w) (A := X.A) (I.ok.hd hc) e it a ne n1 n2 its.toArray
    have e1 : xs.length = its.toArray.size := by rw [List.size_toArray]; exact r.length
    rw [e1] at ce c1
    exact W.done s _ _ ⟨⟨old, ce⟩, c1, p.isList⟩ fun g tk kp => ⟨rfl, I.turnedOld hf kp⟩
  · obtain ⟨⟨old, ce⟩, c1⟩ := st
    exact wpAny_pyIter_enum ce h
def iEnum (K : PySem.W.Frag) (ta : TA) : TI := fun σ H R => ta σ H fun vs H1 => ∃ a, vs = [.ref a] ∧ (∃ xs, SqL K H1 a xs) ∧ R (Ite K a) H1
section
variable {X : Cx}
theorem pi_enum {e1 : Expr} {es : List Expr} {kk : Nat} {tp p pos : Pos} {ta : TA} (B : Bt X "enumerate") (ha : PA X [e1] ta) (h1 : notStar e1 = true := by rfl) : PI X (.Tuple es kk tp) (.Call (.Name "enumerate" p) [e1] [] pos) (iEnum X.K ta) := by
  intro pins s σ H R I h
  refine wpAny_Call_Name_kw (ld_blt I B.gl B.nm bb_enumerate ?_ B.hn B.db)
  refine PyProof.Rows.callWith_type1 (thn (ha pos pins s σ H _ I h) fun us s1 hpat => ?_) (star_plain h1) (star_none rfl)
  obtain ⟨vs, H1, I1, r1, a, e, ⟨xs, m1⟩, q⟩ := hpat
  subst e
  obtain ⟨u1, rfl, rx⟩ := vals1 r1
  cases rx
  obtain ⟨its, v1, p1, l1⟩ := I1.list m1
  have b1 : a < s1.heap.objs.size := sqAt_lt (q := true) I1 m1
  refine call_enumerate_list p1.isList fun g ge gi _ kp => ?_
  refine wpAny_pyIter_enum ge ?_
  refine ⟨_, _, _, _, H1, rfl, I1.kept (t' := s1.toks) kp, turn_enum (a := a) (s1.heap.objs.size + 1) s1.heap.objs.size (Nat.ne_of_gt (Nat.lt_succ_self _)) (Nat.ne_of_lt (Nat.lt_succ_of_lt b1)) (Nat.ne_of_lt b1), ⟨⟨_, ge⟩, gi⟩, fun b hb => ?_, q⟩
  have hle : s1.heap.objs.size ≤ b := zle2 _ _ hb
  exact I1.fpOk hle (I1.hok.fresh hle)
end
theorem for_enum {K : PySem.W.Frag} {a : Addr} {xs : List V} {g : TG} {tb : TS} {D : Ends} {σ : St} {H : Hp} (Pv : Nat → St → Hp → Prop) (h0 : Pv 0 σ H) (hq : ∀ i σ H, Pv i σ H → SqL K H a xs)
    (hs : ∀ (i : Nat) x p σ H, xs[i]? = some x → H p = none → Pv i σ H → g (.ref p) σ (upd H p (.tup [.int i, x])) fun σ2 H2 => tb { D with nx := Pv (i + 1), ct := Pv (i + 1), bk := D.nx } σ2 H2) (hd : ∀ σ H, Pv xs.length σ H → D.nx σ H) :
    ∃ W : Nat → Nat → St → Hp → Prop, (∃ m, W 0 m σ H) ∧ ∀ i m σ H, W i m σ H →
      ((Ite K a).stop i H ∧ D.nx σ H) ∨ ((Ite K a).go i H ∧ ∃ N : St → Hp → Prop, (∀ σ' H', N σ' H' → ∃ m', m' < m ∧ W (i + 1) m' σ' H') ∧ ∀ x H', (Ite K a).yld i H x H' → g x σ H' fun σ2 H2 => tb { D with nx := N, ct := N, bk := D.nx } σ2 H2) := by
  refine ⟨fun i m σ H => m = xs.length - i ∧ i ≤ xs.length ∧ Pv i σ H, ⟨xs.length, by simp, Nat.zero_le _, h0⟩, ?_⟩
  rintro i m σ H ⟨rfl, hi, p⟩
  have m1 := hq i σ H p
  by_cases hlt : i < xs.length
  · refine .inr ⟨⟨xs, xs[i], m1, by simp [hlt]⟩, Pv (i + 1), fun σ' H' p' => ⟨xs.length - (i + 1), by omega, rfl, hlt, p'⟩, fun v H' y => ?_⟩
    obtain ⟨pp, x, hn, rfl, rfl, e1⟩ := y
    exact hs i x pp σ H (e1 xs m1) hn p
  · have e : i = xs.length := by omega
    subst e
    exact .inl ⟨⟨xs, m1, rfl⟩, hd σ H p⟩
/-! x.join(list of texts) -/
theorem strsAre_of : ∀ {zs : List Str} {us : List Value}, Vals (zs.map V.str) us → StrsAre us zs
  | [], _, r => by cases r; exact .nil
  | z :: zs, _, r => by
    cases r with
    | cons r1 r2 =>
      obtain ⟨t, rfl⟩ := r1
      exact .cons z t (strsAre_of r2)
theorem mt_join {X : Cx} : MtR X "str.join" (fun x vs H Q => ∃ (sep : Str) (p : Addr) (zs : List Str), x = .str sep ∧ vs = [.ref p] ∧ SqL X.K H p (zs.map V.str) ∧ (zs.map (·.length)).sum + zs.length * sep.length ≤ 16777216 ∧ Q (.str (Txt.join sep zs)) H) := by
  intro pins s σ H x xs v us Q I rx rs h
  obtain ⟨sep, p, zs, rfl, rfl, hq, hz, q⟩ := h
  obtain ⟨t, rfl⟩ := rx
  obtain ⟨u, rfl, ru⟩ := vals1 rs
  cases ru
  obtain ⟨its, r, pl, _⟩ := I.list hq
  exact join_list pl.isList (by simpa using strsAre_of r) hz fun t' k => ⟨.str _, H, I.tok _, ⟨_, rfl⟩, q⟩
end L2



/-! ### set(list of unlike texts), its len -/
namespace L2
open PySem PySem.Spec PyProof.Rows
local instance keyBEq : BEq Key := instBEqOfDecidableEq
local instance keyLBEq : @LawfulBEq Key keyBEq := inferInstanceAs (@LawfulBEq Key instBEqOfDecidableEq)
theorem setOfK_congr {prog : Program} {w : World} {h : Heap} {a : Addr} {S S' : Key → Bool} {n n' : Nat} (hS : h.SetOf (mixKind prog w) a S n) (e : ∀ k, S k = S' k) (en : n = n') : h.SetOf (mixKind prog w) a S' n' := by
  have : S = S' := funext e
  subst this
  subst en
  exact hS
section
variable {prog : Program} {w : World} {A : Around} {R : Result → Shared → Prop} {I : Addr} {fp wr : List Addr} {G : Array GenState → Array GenState → Prop} {n : Nat} {P : Nat → Value → Prop} {St : Nat → Shared → Prop}
theorem setLoop (W : WalksS prog w A.in1 I fp wr G n P St) (S : Addr) (hSf : S ∉ fp) (key : Nat → Key) (hval : ∀ i v, P i v → keyIs (key i) v = true ∧ v.scannable = true)
    (hnd : ∀ i j, i < j → j < n → key i ≠ key j) (hb : n + 1 < scanBound) : ∀ (k i : Nat) (s : Shared), n - i = k → i ≤ n → St i s → s.heap.SetOf (mixKind prog w) S (fun c => (List.range i).any fun j => decide (c = key j)) i →
      (∀ s', Moved (S :: wr) G s s' → s'.heap.SetOf (mixKind prog w) S (fun c => (List.range n).any fun j => decide (c = key j)) n → R (.ok (.ret .none)) s') →
      codeAny (model prog w) A (.builtin "set.update.loop" ⟨[.ref S, .ref I], []⟩) R s := by
  have hSw : S ∉ wr := fun h => hSf (W.sub _ h)
  have hsub : ∀ b ∈ wr, b ∈ S :: wr := fun b hb => List.mem_cons_of_mem _ hb
  have stay : ∀ {s s' : Shared} {T : Key → Bool} {m : Nat}, Moved wr G s s' → s.heap.SetOf (mixKind prog w) S T m → s'.heap.SetOf (mixKind prog w) S T m := fun hm ⟨o, es, ep, tb, ho, rest⟩ => ⟨o, es, ep, tb, hm.heap S _ hSw ho, rest⟩
  intro k
  induction k with
  | zero =>
    intro i s hk hi hst hS hR
    obtain rfl : i = n := by omega
    refine codeAny_builtin PyProof.Rows.F.entry_set_update_loop ?_
    rw [Around.under_plainId PyProof.Rows.F.plain_set_update_loop _]
    show wpAny _ A.in1 (pyNext (.ref I) >>= _) _ _ s
    refine wpAny_bind (W.done s _ _ hst fun s' hm => ?_)
    show wpAny _ A.in1 (ret Value.none) _ _ s'
    exact wpAny_pure (hR s' (hm.mono hsub) (stay hm hS))
  | succ k ih =>
    intro i s hk hi hst hS hR
    have hlt : i < n := by omega
    refine codeAny_builtin PyProof.Rows.F.entry_set_update_loop ?_
    rw [Around.under_plainId PyProof.Rows.F.plain_set_update_loop _]
    show wpAny _ A.in1 (pyNext (.ref I) >>= _) _ _ s
    refine wpAny_bind (W.item i s _ _ hlt hst fun v s' hP hst' hm => ?_)
    obtain ⟨hkv, hsc⟩ := hval i v hP
    have hS1 := stay hm hS
    show wpAny _ A.in1 (holding [v] (setAdd S v) >>= _) _ _ s'
    refine wpAny_bind (wpAny_holding ?_)
    unfold setAdd
    refine wpAny_holding ?_
    refine wpAny_bind ((mixKind prog w).pyHash (k := key i) hkv ?_)
    refine wpAny_setAddHashed_of (knd := mixKind prog w) (s := { s' with toks := s'.toks + 1 }) hkv hsc hS1 (by omega) fun g hsb hS2 => ?_
    have hno : ((List.range i).any fun j => decide (key i = key j)) = false := by
      rw [List.any_eq_false]
      intro j hj
      have hj' := List.mem_range.mp hj
      simp only [decide_eq_true_eq]
      exact fun e => hnd j i hj' hlt e.symm
    have hS3 : g.SetOf (mixKind prog w) S (fun c => (List.range (i + 1)).any fun j => decide (c = key j)) (i + 1) := by
      refine setOfK_congr hS2 (fun c => ?_) (by rw [hno]; rfl)
      rw [List.range_succ, List.any_append]
      simp
    refine wpAny_pure ⟨plainId_quiet PyProof.Rows.F.plain_set_update_loop _, ih (i + 1) _ (by omega) hlt (W.frame _ s' _ _ hst' (Nat.le_succ _) fun b hb o e => ?_) hS3 fun s'' hm'' hS'' => ?_⟩
    · rw [hsb.2 b (by rintro rfl; exact hSf hb)]
      exact e
    · refine hR s'' (Moved.trans W.gtrans ((hm.mono hsub).then_heap (Nat.le_succ _) fun b o hb e => ?_) hm'') hS''
      rw [hsb.2 b (by rintro rfl; exact hb List.mem_cons_self)]
      exact e
end
section
variable {prog : Program} {w : World} {A : Around} {E : Value → Shared → Prop} {s : Shared}
theorem call_setK {l : Addr} {items : Array Value} {key : Nat → Key} {Q : Value → Shared → Prop} (hh : A.handled = none) (hl : s.heap.IsList l items) (hv : ∀ i v, items[i]? = some v → keyIs (key i) v = true ∧ v.scannable = true)
    (hnd : ∀ i j, i < j → j < items.size → key i ≠ key j) (hb : items.size + 1 < scanBound)
    (h : ∀ (g : Heap) (tk : Nat) (T : Key → Bool), g.SetOf (mixKind prog w) s.heap.objs.size T items.size → (∀ b o, b < s.heap.objs.size → s.heap.get? b = some o → g.get? b = some o) → Q (.ref s.heap.objs.size) { s with heap := g, toks := tk }) :
    wpAny (model prog w) A (call (.type "set") [.ref l]) Q E s := by
  obtain ⟨c, tl, hmro⟩ := PySem.F.called_set.mro
  have hmade := PySem.F.called_set.made
  have hsub := PySem.F.called_set.sub
  refine wpAny_call (codeAny_of_tree ?_)
  show wpAny _ _ (callAny (.type "set") _) _ _ _
  refine wpAny_pure ⟨Code.quiet_builtin _ (by decide +kernel), codeAny_builtin PySem.F.entry_type_call ?_⟩
  rw [Around.under_plain (weight_type_call_type "set" [.ref l] []) rfl]
  have f1 := PySem.F.called_set.notType
  have f2 := PySem.F.called_set.canCreate
  have f3 := PySem.F.typeCall_set_1 (.ref l)
  repeat (any_goals (first | assumption | wp_step))
  refine codeAny_mono (code_set_new_1 (.ref l) (E := E) (Q₁ := fun obj u => ∃ led : Bool, obj = .ref s.heap.objs.size ∧ u = { s with heap := s.heap.push { cls := .type "set", dict := none, data := .set #[] 0 (.fresh 0 0 led) } }) fun led => ⟨led, rfl, rfl⟩) fun r u hr => ?_
  cases r with
  | error e => exact hr
  | ok fl =>
    cases fl with
    | ret obj =>
      obtain ⟨led, rfl, rfl⟩ := hr
      have hS : (s.heap.push { cls := .type "set", dict := none, data := .set #[] 0 (.fresh 0 0 led) }).get? s.heap.objs.size = some { cls := .type "set", dict := none, data := .set #[] 0 (.fresh 0 0 led) } := Heap.get?_push_size _ rfl
      have hT : Shared.TypeIs { s with heap := s.heap.push { cls := .type "set", dict := none, data := .set #[] 0 (.fresh 0 0 led) } } (.ref s.heap.objs.size) "set" := ⟨_, hS, rfl⟩
      have hli := PySem.F.called_set.init.lookup
      have hbi := PySem.F.called_set.init.bind (.ref s.heap.objs.size)
      repeat (any_goals (first | assumption | wp_step))
      refine codeAny_mono (codeAny_call_builtin (R := wants (fun r u => r = .none ∧ ∃ g tk T, u = { s with heap := g, toks := tk } ∧ g.SetOf (mixKind prog w) s.heap.objs.size T items.size ∧ (∀ b o, b < s.heap.objs.size → s.heap.get? b = some o → g.get? b = some o)) E)
        PySem.F.called_set.init.plain PySem.F.entry_set_init (check_set_init_1 hT ?_)) fun r2 u hr2 => ?_
      · obtain ⟨⟨ocls, odict, odata, oslots⟩, hol, hcl, nl, hdl⟩ := hl
        simp only at hcl hdl
        subst hcl
        subst hdl
        have hol' : (s.heap.push { cls := .type "set", dict := none, data := .set #[] 0 (.fresh 0 0 led) }).get? l = some { cls := .type "list", dict := odict, data := .seq items nl, slots := oslots } := Heap.get?_push_of_some _ hol
        have k1 := PySem.F.sub_list_set
        have k2 := PySem.F.sub_list_frozenset
        have k3 : (Value.type "list" == Value.type "dict") = false := by decide
        have hl1 : (s.heap.push { cls := .type "set", dict := none, data := .set #[] 0 (.fresh 0 0 led) }).IsList l items := ⟨_, hol', rfl, nl, rfl⟩
        unfold Builtin.«set.__init__» noKeywords Builtin.Frozenset.updateFrom
        generalize hPI : pyIter = PI
        wp_walk
        subst hPI
        refine wpAny_pyIter_list hl1 ?_
        refine wpAny_bind (wpAny_runValue ?_)
        have hlS : l < s.heap.objs.size := Heap.lt_size hol
        have hneI : l ≠ (s.heap.push { cls := .type "set", dict := none, data := .set #[] 0 (.fresh 0 0 led) }).objs.size := by
          rw [Heap.size_push]
          exact Nat.ne_of_lt (Nat.lt_succ_of_lt hlS)
        have hSf : s.heap.objs.size ∉ [(s.heap.push { cls := .type "set", dict := none, data := .set #[] 0 (.fresh 0 0 led) }).objs.size, l] := by
          rw [Heap.size_push]
          simp only [List.mem_cons, List.not_mem_nil, or_false, not_or]
          exact ⟨Nat.ne_of_lt (Nat.lt_succ_self _), Nat.ne_of_gt hlS⟩
        refine setLoop ((Walks.list (show A.in1.in1.in1.handled = none by simp [hh]) _ l hneI items).toS) s.heap.objs.size hSf key hv hnd hb (items.size - 0) 0 _ (by omega) (Nat.zero_le _) ⟨⟨_, Heap.get?_push_size _ rfl, rfl, rfl⟩, (hl1.push _)⟩ ?_ ?_
        · refine setOfK_congr ((PyProof.Rows.setObjOf_fresh (knd := mixKind prog w) led).setOf (Heap.get?_push_of_some _ hS) (by unfold scanBound; omega)) (fun _ => rfl) rfl
        · intro s' hm hS'
          obtain ⟨g, g', d', tk', os'⟩ := s'
          have eg : g' = s.gens := hm.gens
          have ed : d' = s.drawn := hm.drawn
          have eo : os' = s.os := hm.os
          subst eg ed eo
          show wpAny _ _ _ _ _ _
          refine wpAny_pure ?_
          show wpAny _ _ (ret Value.none) _ _ _
          refine wpAny_pure ⟨rfl, g, tk', _, rfl, hS', fun b o hb e => ?_⟩
          have hb2 : b ≠ (s.heap.push { cls := .type "set", dict := none, data := .set #[] 0 (.fresh 0 0 led) }).objs.size := by
            rw [Heap.size_push]
            exact Nat.ne_of_lt (Nat.lt_succ_of_lt hb)
          exact hm.heap b o (by simp only [List.mem_cons, List.not_mem_nil, or_false, not_or]; exact ⟨Nat.ne_of_lt hb, hb2⟩) (Heap.get?_push_of_some _ (Heap.get?_push_of_some _ e))
      · cases r2 with
        | error e => exact hr2
        | ok fl2 =>
          cases fl2 with
          | ret r =>
            obtain ⟨rfl, g, tk, T, rfl, hS', hk'⟩ := hr2
            repeat (any_goals (first | assumption | wp_step))
            exact h _ _ _ hS' hk'
          | _ => exact hr2.elim
    | _ => exact hr.elim
end
/-- a set of n texts or ints -/
def setM (P : Program) (w : World) (a : Addr) (n : Nat) : HO := .ext fun h => ∃ T, h.SetOf (mixKind P w) a T n
theorem call_setT {X : Cx} (hc : X.calm = true) : CallR X (.type "set") (fun xs H Q => ∃ (p : Addr) (zs : List Str), xs = [.ref p] ∧ SqL X.K H p (zs.map V.str) ∧ zs.Nodup ∧ zs.length < 1000 ∧ ∀ q, H q = none → Q (.ref q) (upd H q (setM X.prog X.w q zs.length))) := by
  intro pins s σ H xs us Q I r h
  obtain ⟨p, zs, rfl, hq, nd, hz, q⟩ := h
  obtain ⟨u, rfl, rx⟩ := vals1 r
  cases rx
  obtain ⟨its, rv, pl, _⟩ := I.list hq
  have hl := rv.length
  rw [List.length_map] at hl
  refine call_setK (key := fun i => Sum.inr (zs.getD i "")) (I.ok.hd hc) pl.isList (fun i v e => ?_) (fun i j hij hj => ?_) (by rw [List.size_toArray, ← hl]; unfold scanBound; omega) fun g tk T hS kp => ?_
  · have e' : its[i]? = some v := by simpa using e
    have hi : i < zs.length := by
      have := (List.getElem?_eq_some_iff.mp e').1
      omega
    obtain ⟨u, eu, t, rfl⟩ := rv.get (show (zs.map V.str)[i]? = some (V.str zs[i]) by simp [hi])
    rw [eu] at e'
    cases e'
    have e2 : zs.getD i "" = zs[i] := by simp [List.getD, hi]
    show keyIs (Sum.inr (zs.getD i "")) _ = true ∧ _
    rw [e2]
    exact ⟨keyIs_str _ _, rfl⟩
  · have hj' : j < zs.length := by
      rw [List.size_toArray, ← hl] at hj
      exact hj
    have hi' : i < zs.length := by omega
    intro e
    have e1 : zs.getD i "" = zs.getD j "" := Sum.inr.inj e
    have e2 : zs[i] = zs[j] := by simpa [List.getD, hi', hj'] using e1
    exact absurd ((List.getElem_inj nd).mp e2) (by omega)
  · have hn : H s.heap.objs.size = none := I.hok.fresh (Nat.le_refl _)
    have e3 : its.toArray.size = zs.length := by rw [List.size_toArray, hl]
    rw [e3] at hS
    refine ⟨.ref s.heap.objs.size, _, I.laid (t' := tk) (o := setM X.prog X.w s.heap.objs.size zs.length) (fun b o e => kp b o (Heap.lt_size e) e) (Nat.le_refl _) ⟨⟨T, hS⟩, ?_, fun h1 h2 p k => ?_⟩, rfl, q _ hn⟩
    · obtain ⟨o, _, _, _, e, _⟩ := hS
      exact ⟨o, e⟩
    · obtain ⟨T, o, es, ep, t, e, rest⟩ := p
      exact ⟨T, o, es, ep, t, k o e, rest⟩
theorem call_len_setM {X : Cx} : CallR X (.builtin "len") (fun xs H Q => ∃ (p : Addr) (n : Nat), xs = [.ref p] ∧ H p = some (setM X.prog X.w p n) ∧ Q (.int n) H) := by
  intro pins s σ H xs us Q I r h
  obtain ⟨p, n, rfl, hp, q⟩ := h
  obtain ⟨u, rfl, rx⟩ := vals1 r
  cases rx
  obtain ⟨⟨T, o, es, ep, t, e, ex, d, _, _, hsz, hf, rfl⟩, _⟩ := I.hok p _ hp
  have hb : es.size < 4096 := hsz
  exact call_len_set e ex d hf (by omega) ⟨.int es.size, H, I.tok _, ⟨_, rfl⟩, q⟩
end L2

/-! ### comprehensions by an invariant; elements that grow the heap -/
namespace L2
open PySem PySem.Spec PyProof.Rows
section
variable {K : PySem.W.Frag} {is : List Nat} {te : TE} {σ : St} {H : Hp} {Q : VK}
theorem lc_inv {J : It} {n : Nat} (Pv : Addr → Nat → List V → Hp → Prop) (hz : n ≤ sizeLine) (h0 : ∀ D, H D = none → Pv D 0 [] (upd H D (.lst [])))
    (hD : ∀ D i ys H2, Pv D i ys H2 → H2 D = some (.lst ys) ∧ ys.length = i) (hgo : ∀ D i ys H2, Pv D i ys H2 → i < n → J.go i H2) (hstop : ∀ D ys H2, Pv D n ys H2 → J.stop n H2)
    (he : ∀ D i ys H2 v H3 (Q' : VK), Pv D i ys H2 → i < n → J.yld i H2 v H3 → (∀ y H4, H4 D = some (.lst ys) → Pv D (i + 1) (ys ++ [y]) (upd H4 D (.lst (ys ++ [y]))) → Q' y H4) → te (some v :: caps is σ) H3 Q')
    (q : ∀ D ys H2, H D = none → Pv D n ys H2 → Q (.ref D) H2) : lcGoal J is te σ H Q := by
  intro D hDn
  refine ⟨fun i m ys H2 => m = n - i ∧ i ≤ n ∧ Pv D i ys H2, ⟨_, rfl, Nat.zero_le _, h0 D hDn⟩, ?_⟩
  rintro i m ys H2 ⟨rfl, hi, p⟩
  obtain ⟨d1, d2⟩ := hD D i ys H2 p
  refine ⟨d1, ?_⟩
  by_cases hlt : i < n
  · refine .inr ⟨hgo D i ys H2 p hlt, fun v H3 y => ?_⟩
    refine he D i ys H2 v H3 _ p hlt y fun y' H4 e4 p4 => ⟨e4, by omega, n - (i + 1), by omega, rfl, hlt, p4⟩
  · have e : i = n := by omega
    subst e
    exact .inl ⟨hstop D ys H2 p, q D ys H2 hDn p⟩
theorem lc_grow {J : It} {xs : List V} (f : V → V) (hz : xs.length ≤ sizeLine) (hgo : ∀ i H2, Same H H2 → i < xs.length → J.go i H2) (hstop : ∀ H2, Same H H2 → J.stop xs.length H2)
    (hy : ∀ i H2 v H3, Same H H2 → i < xs.length → J.yld i H2 v H3 → H3 = H2 ∧ xs[i]? = some v)
    (he : ∀ v H2 (Q' : VK), v ∈ xs → Same H H2 → (∀ H3, Same H2 H3 → Q' (f v) H3) → te (some v :: caps is σ) H2 Q')
    (q : ∀ D H', H D = none → Same H H' → H' D = some (.lst (xs.map f)) → Q (.ref D) H') : lcGoal J is te σ H Q := by
  refine lc_inv (n := xs.length) (fun D i ys H2 => H D = none ∧ Same H H2 ∧ H2 D = some (.lst ys) ∧ i ≤ xs.length ∧ ys = (xs.take i).map f) hz (fun D hD => ⟨hD, Same.upd hD, upd_same, Nat.zero_le _, by simp⟩)
    (fun D i ys H2 p => ⟨p.2.2.1, by rw [p.2.2.2.2, List.length_map, List.length_take]; have := p.2.2.2.1; omega⟩) (fun D i ys H2 p hi => hgo i H2 p.2.1 hi) (fun D ys H2 p => hstop H2 p.2.1) ?_ ?_
  · rintro D i ys H2 v H3 Q' ⟨hD, sm, hl, hi, hys⟩ hlt y k
    obtain ⟨rfl, hv⟩ := hy i H2 v H3 sm hlt y
    refine he v _ _ (List.mem_of_getElem? hv) sm fun H4 s4 => ?_
    refine k _ _ (s4 _ _ hl) ⟨hD, fun b o e => ?_, upd_same, hlt, ?_⟩
    · rw [upd_ne (ne_of_none e hD)]
      exact s4 _ _ (sm _ _ e)
    · rw [hys, List.take_add_one, hv, List.map_append]
      rfl
  · rintro D ys H2 hD ⟨_, sm, hl, _, hys⟩
    rw [List.take_length] at hys
    rw [hys] at hl
    exact q D H2 hD sm hl
theorem lcg_list {a : Addr} {xs : List V} (f : V → V) (hq : SqL K H a xs) (hz : xs.length ≤ sizeLine) (he : ∀ v H2 (Q' : VK), v ∈ xs → Same H H2 → (∀ H3, Same H2 H3 → Q' (f v) H3) → te (some v :: caps is σ) H2 Q')
    (q : ∀ D H', H D = none → Same H H' → H' D = some (.lst (xs.map f)) → Q (.ref D) H') : lcGoal (Itl K a) is te σ H Q :=
  lc_grow f hz (fun i H2 sm hi => ⟨xs, xs[i], sm.seq hq, by simp [hi]⟩) (fun H2 sm => ⟨xs, sm.seq hq, Nat.le_refl _⟩) (fun i H2 v H3 sm hi y => ⟨y.1, y.2 xs (sm.seq hq)⟩) he q
theorem lcg_tup {a : Addr} {xs : List V} (f : V → V) (hq : SqT K H a xs) (hz : xs.length ≤ sizeLine) (he : ∀ v H2 (Q' : VK), v ∈ xs → Same H H2 → (∀ H3, Same H2 H3 → Q' (f v) H3) → te (some v :: caps is σ) H2 Q')
    (q : ∀ D H', H D = none → Same H H' → H' D = some (.lst (xs.map f)) → Q (.ref D) H') : lcGoal (Itt K a) is te σ H Q :=
  lc_grow f hz (fun i H2 sm hi => ⟨xs, xs[i], sm.seqT hq, by simp [hi]⟩) (fun H2 sm => ⟨xs, sm.seqT hq, Nat.le_refl _⟩) (fun i H2 v H3 sm hi y => ⟨y.1, y.2 xs (sm.seqT hq)⟩) he q
end
/-! ### a comprehension's own context: names, what is called -/
theorem relabel_keep {env : Env} {k : NameKind} (hk : k ≠ .free) : ∀ {names : List (Str × NameKind)} {x : Str}, names.lookup x = some k →
    (names.map fun (n, k) => if (k == NameKind.free && env.scope.kind == .function && env.kindOf n == some .cell) then (n, NameKind.cell) else (n, k)).lookup x = some k
  | [], _, h => by simp at h
  | (n, j) :: r, x, h => by
    have ih := @relabel_keep env k hk r x
    show List.lookup x ((if (j == NameKind.free && env.scope.kind == .function && env.kindOf n == some .cell) = true then (n, NameKind.cell) else (n, j)) :: _) = _
    cases hx : x == n with
    | true =>
      simp only [List.lookup_cons, hx] at h
      cases h
      rw [if_neg (by simp [hk])]
      simp only [List.lookup_cons, hx]
    | false =>
      simp only [List.lookup_cons, hx] at h
      by_cases hc' : (j == NameKind.free && env.scope.kind == .function && env.kindOf n == some .cell) = true
      · rw [if_pos hc']; simp only [List.lookup_cons, hx]; exact ih h
      · rw [if_neg hc']; simp only [List.lookup_cons, hx]; exact ih h
theorem relabel_vis {env : Env} : ∀ {names : List (Str × NameKind)} {x : Str}, names.lookup x = some .free →
    (names.map fun (n, k) => if (k == NameKind.free && env.scope.kind == .function && env.kindOf n == some .cell) then (n, NameKind.cell) else (n, k)).lookup x = some .cell ∨
    (names.map fun (n, k) => if (k == NameKind.free && env.scope.kind == .function && env.kindOf n == some .cell) then (n, NameKind.cell) else (n, k)).lookup x = some .free
  | [], _, h => by simp at h
  | (n, j) :: r, x, h => by
    have ih := @relabel_vis env r x
    show List.lookup x ((if (j == NameKind.free && env.scope.kind == .function && env.kindOf n == some .cell) = true then (n, NameKind.cell) else (n, j)) :: _) = _ ∨ List.lookup x ((if (j == NameKind.free && env.scope.kind == .function && env.kindOf n == some .cell) = true then (n, NameKind.cell) else (n, j)) :: _) = _
    cases hx : x == n with
    | true =>
      simp only [List.lookup_cons, hx] at h
      cases h
      by_cases hc' : (NameKind.free == NameKind.free && env.scope.kind == .function && env.kindOf n == some .cell) = true
      · rw [if_pos hc']; simp only [List.lookup_cons, hx]; first | exact .inl rfl | exact .inl trivial
      · rw [if_neg hc']; simp only [List.lookup_cons, hx]; first | exact .inr rfl | exact .inr trivial
    | false =>
      simp only [List.lookup_cons, hx] at h
      by_cases hc' : (j == NameKind.free && env.scope.kind == .function && env.kindOf n == some .cell) = true
      · rw [if_pos hc']; simp only [List.lookup_cons, hx]; exact ih h
      · rw [if_neg hc']; simp only [List.lookup_cons, hx]; exact ih h
section
variable {X : Cx} {x y : Str} {ns : List Str} {scope : Scope} {cl : List (Str × Addr)} {fp : List Addr} {s3 : Shared} {H3 : Hp} {C : Addr} {sp : Sp}
structure CalI (X : Cx) (x : Str) (sp : Sp) : Prop where
  ex : ∃ (k : Nat) (f : Addr) (fd : FuncData) (ps : List Str), FnOk X.prog X.w X.K X.mg X.base CX0 k f fd ps sp ∧ Room k X.A ∧ X.mg x = some (.ref f) ∧ PySem.W.keepIn X.K (.ref f) = true ∧ Binds X.K fd ps []
  db : (x == ("__debug__" : Str)) = false
structure BtI (X : Cx) (x : Str) : Prop where
  nm : X.mg x = none
  hn : x ≠ "__name__"
  db : (x == ("__debug__" : Str)) = false
theorem CalI.lc (B : CalI X y sp) (h : scope.names.lookup y = some .globalImplicit) : Cal (lcCx X (x :: ns) scope cl fp s3 H3 C) y sp := ⟨B.ex, relabel_keep (by decide) h, B.db⟩
end
/-! ### a def, a method, a class by what they promise -/
structure Gd (P : Program) (w : World) (K : PySem.W.Frag) (mg : Str → Option Value) (base : Heap) (k : Nat) (x : Str) (sp : Sp) : Prop where
  ex : ∃ (f : Addr) (fd : FuncData) (ps : List Str), FnOk P w K mg base CX0 k f fd ps sp ∧ mg x = some (.ref f) ∧ PySem.W.keepIn K (.ref f) = true ∧ Binds K fd ps []
structure Md (P : Program) (w : World) (K : PySem.W.Frag) (mg : Str → Option Value) (base : Heap) (k : Nat) (C : Addr) (m : Str) (sp : Sp) : Prop where
  ex : ∃ (f : Addr) (fd : FuncData) (ps : List Str), FnOk P w K mg base CX0 k f fd ps sp ∧ Meth K C m f ∧ Binds K fd ps []
  cl : Cls K C
structure Kd (P : Program) (w : World) (K : PySem.W.Frag) (mg : Str → Option Value) (base : Heap) (k : Nat) (x : Str) (C : Addr) (sp : Sp) : Prop where
  ex : ∃ (f : Addr) (fd : FuncData) (ps : List Str), FnOk P w K mg base CX0 k f fd ps sp ∧ Mk K C f ∧ Binds K fd ps []
  nm : mg x = some (.ref C)
structure Mak (X : Cx) (x : Str) (C : Addr) (sp : Sp) : Prop where
  ex : ∃ (k : Nat) (f : Addr) (fd : FuncData) (ps : List Str), FnOk X.prog X.w X.K X.mg X.base CX0 k f fd ps sp ∧ Room (k + 1) X.A ∧ Mk X.K C f ∧ Binds X.K fd ps []
  nm : X.mg x = some (.ref C)
  gl : Gl X x
  db : (x == ("__debug__" : Str)) = false
structure Met (X : Cx) (C : Addr) (m : Str) (sp : Sp) : Prop where
  ex : ∃ (k : Nat) (f : Addr) (fd : FuncData) (ps : List Str), FnOk X.prog X.w X.K X.mg X.base CX0 k f fd ps sp ∧ Room k X.A ∧ Meth X.K C m f ∧ Binds X.K fd ps []
  cl : Cls X.K C
/-- what is known of the context of a body -/
structure Here (X : Cx) (P : Program) (w : World) (K : PySem.W.Frag) (mg : Str → Option Value) (base : Heap) (sc : Scope) (N : List Str) (k : Nat) : Prop where
  pr : X.prog = P
  wd : X.w = w
  fK : X.K = K
  gm : X.mg = mg
  bs : X.base = base
  calm : X.calm = true
  own : PassesOwn (model X.prog X.w) X.A X.env X.xe
  hsc : X.env.scope = sc
  hN : X.N = N
  nd : X.N.Nodup
  room : Room k X.A
  fn : ∀ x, X.fn x = true
section
variable {X : Cx} {P : Program} {w : World} {K : PySem.W.Frag} {mg : Str → Option Value} {base : Heap} {sc : Scope} {N : List Str} {k j : Nat} {x m : Str} {sp : Sp} {C : Addr}
theorem Here.slot (h : Here X P w K mg base sc N k) (i : Nat) (hN : N[i]? = some x) (lc : Loc sc x) (db : (x == ("__debug__" : Str)) = false) (cd : (x == ("__classdict__" : Str)) = false) : Slot X i x :=
  ⟨by rw [h.hN]; exact hN, by rw [h.hsc]; exact lc, .inl (h.fn x), db, cd⟩
theorem Here.gl (h : Here X P w K mg base sc N k) (hg : sc.names.lookup x = some .globalImplicit) : Gl X x := by
  show X.env.scope.names.lookup x = _
  rw [h.hsc]
  exact hg
theorem Here.bt (h : Here X P w K mg base sc N k) (hm : mg x = none) (hg : sc.names.lookup x = some .globalImplicit) (hn : x ≠ "__name__") (db : (x == ("__debug__" : Str)) = false) : Bt X x := ⟨h.gl hg, by rw [h.gm]; exact hm, hn, db⟩
theorem Here.cal (h : Here X P w K mg base sc N k) (G : Gd P w K mg base j x sp) (hg : sc.names.lookup x = some .globalImplicit) (hj : j ≤ k) (db : (x == ("__debug__" : Str)) = false) : Cal X x sp := by
  obtain ⟨f, fd, ps, h1, h2, h3, h4⟩ := G.ex
  obtain ⟨rfl, rfl, rfl, rfl, rfl⟩ := And.intro h.pr (And.intro h.wd (And.intro h.fK (And.intro h.gm h.bs)))
  exact ⟨⟨j, f, fd, ps, h1, h.room.mono hj, h2, h3, h4⟩, h.gl hg, db⟩
theorem Here.cali (h : Here X P w K mg base sc N k) (G : Gd P w K mg base j x sp) (hj : j ≤ k) (db : (x == ("__debug__" : Str)) = false) : CalI X x sp := by
  obtain ⟨f, fd, ps, h1, h2, h3, h4⟩ := G.ex
  obtain ⟨rfl, rfl, rfl, rfl, rfl⟩ := And.intro h.pr (And.intro h.wd (And.intro h.fK (And.intro h.gm h.bs)))
  exact ⟨⟨j, f, fd, ps, h1, h.room.mono hj, h2, h3, h4⟩, db⟩
theorem Here.mak (h : Here X P w K mg base sc N k) (G : Kd P w K mg base j x C sp) (hg : sc.names.lookup x = some .globalImplicit) (hj : j + 1 ≤ k) (db : (x == ("__debug__" : Str)) = false) : Mak X x C sp := by
  obtain ⟨f, fd, ps, h1, h2, h3⟩ := G.ex
  have nm := G.nm
  obtain ⟨rfl, rfl, rfl, rfl, rfl⟩ := And.intro h.pr (And.intro h.wd (And.intro h.fK (And.intro h.gm h.bs)))
  exact ⟨⟨j, f, fd, ps, h1, h.room.mono hj, h2, h3⟩, nm, h.gl hg, db⟩
theorem Here.met (h : Here X P w K mg base sc N k) (G : Md P w K mg base j C m sp) (hj : j ≤ k) : Met X C m sp := by
  obtain ⟨f, fd, ps, h1, h2, h3⟩ := G.ex
  have c := G.cl
  obtain ⟨rfl, rfl, rfl, rfl, rfl⟩ := And.intro h.pr (And.intro h.wd (And.intro h.fK (And.intro h.gm h.bs)))
  exact ⟨⟨j, f, fd, ps, h1, h.room.mono hj, h2, h3⟩, c⟩
end
section
variable {X : Cx} {x y : Str} {ns : List Str} {scope : Scope} {cl : List (Str × Addr)} {fp : List Addr} {s3 : Shared} {H3 : Hp} {C D : Addr} {sp : Sp} {m : Str}
end
theorem bb_set : bootBuiltins "set" = some (.type "set") := by decide +kernel
theorem bb_min : bootBuiltins "min" = some (.builtin "min") := by decide +kernel
theorem bb_max : bootBuiltins "max" = some (.builtin "max") := by decide +kernel
theorem iteP {c A B : Prop} [Decidable c] (hc : c) (h : A) : if c then A else B := by
  rw [if_pos hc]
  exact h
theorem iteN {c A B : Prop} [Decidable c] (hc : ¬ c) (h : B) : if c then A else B := by
  rw [if_neg hc]
  exact h
/-- list + list, each tracked or the script -/
inductive CatP (K : PySem.W.Frag) (x y : V) (H : Hp) (Q : VK) : Prop
  | mk (l b : Addr) (xs zs : List V) (hx : x = .ref l) (hy : y = .ref b) (s : SqL K H l xs) (t : SqL K H b zs) (e : xs.length + zs.length ≤ sizeLine) (q : ∀ p, H p = none → Q (.ref p) (upd H p (.lst (xs ++ zs))))
def rCatS (K : PySem.W.Frag) : R2 := fun x y H Q => CatP K x y H Q
theorem op_catS {X : Cx} : OpR X (binaryOp .Add) (rCatS X.K) := by
  intro pins s σ H x y v u Q I rx ry h
  obtain ⟨l, b, xs, zs, rfl, rfl, hH, hB, hz, q⟩ := h
  cases rx
  cases ry
  obtain ⟨its, r, pl, z⟩ := I.list hH
  obtain ⟨its2, r2, pl2, z2⟩ := I.list hB
  have hl := r.length
  have hl2 := r2.length
  obtain ⟨⟨cls, dd, data, sl⟩, ho, hc, n, hd⟩ := pl.isList
  obtain ⟨⟨cls2, dd2, data2, sl2⟩, ho2, hc2, n2, hd2⟩ := pl2.isList
  simp only at hc hd hc2 hd2
  subst hc hd hc2 hd2
  have e : its.toArray ++ its2.toArray = (its ++ its2).toArray := by simp
  refine concat_meets ⟨_, ho, rfl⟩ ⟨_, ho2, rfl⟩ noFill_list_add seq_list_add PySem.F.slot_list_add PySem.F.entry_list_add (PySem.F.args_list_add_2 _ _) (list_addW l b its.toArray its2.toArray n n2 dd dd2 sl sl2 (by simp only [List.size_toArray]; omega)) ⟨ho, ho2, ?_⟩
  rw [e]
  exact ⟨.ref _, _, I.lnew (t' := s.toks) (r.append r2) (by rw [List.length_append]; omega), rfl, q _ I.fresh⟩
end L2
namespace J
open PySem PySem.Spec PyProof.Rows
open L2 (Cx V Hp St VK TE TT TA TS TG TGs TI TO R2 Sp XK E0 CX0 FnOk Room Gl Binds RelV Vals SqL SqT TyOf Here Gd Md Kd Mak Met Df Fun FnScope Meth Mk Cls)
structure JMt (X : Cx) (id : String) (r : V → List V → Hp → VK → Prop) : Prop where
  out : L2.MtR X id r
section
variable {X : Cx} {x y : Str} {ns : List Str} {scope : Scope} {cl : List (Str × Addr)} {fp : List Addr} {s3 : Shared} {H3 : Hp} {C : Addr} {sp : Sp} {p pos apos pos' : Pos} {e o value : Expr} {es : List Expr} {ta te tv : TE} {t : TA} {m f : Str} {tg : Expr}
/-- the comprehension's own name; one that it takes from around -/
theorem lc0 (h : scope.names.lookup x = some .local) (db : (x == ("__debug__" : Str)) = false) (cd : (x == ("__classdict__" : Str)) = false) : JE (L2.lcCx X (x :: ns) scope cl fp s3 H3 C) (.Name x p) (L2.tVar 0) :=
  ⟨L2.pe_var (i := 0) rfl (.inl (PySem.lookup_relabel_local h)) db cd⟩
theorem lcc {i : Nat} (h : scope.names.lookup y = some .free) (hi : ns[i]? = some y) (db : (y == ("__debug__" : Str)) = false) (cd : (y == ("__classdict__" : Str)) = false) : JE (L2.lcCx X (x :: ns) scope cl fp s3 H3 C) (.Name y p) (L2.tVar (i + 1)) :=
  ⟨L2.pe_var (i := i + 1) hi (.inr (L2.relabel_vis h)) db cd⟩
theorem mak (M : Mak X x C sp) (ha : JA X (e :: es) t) (h1 : L2.notStar e = true := by rfl) (h2 : es.all L2.notStar = true := by rfl) : JE X (.Call (.Name x p) (e :: es) [] pos) (L2.tMake C sp [] E0 t) := by
  obtain ⟨k, f, fd, ps, F, hr, mk, bi⟩ := M.ex
  exact ⟨L2.pe_make mk F hr M.gl M.nm bi .nil L2.pass0 ha.out M.db (L2.star_plain h1) (L2.star_none h2)⟩
theorem met0 {pl : Sem Bool} (M : Met X C m sp) (he : JE X o ta) (ht : eval (.Call (.Attribute o m apos) [] [] pos) X.env = (do
      let ov ← eval o X.env
      standAt apos.atName
      let (f, first) ← holding [ov] (getMethod ov m pl)
      callWith pos f first (backTo pos (starEach [] X.env)) (backToKw pos (keywordEach [] X.env)))) : JE X (.Call (.Attribute o m apos) [] [] pos) (L2.tMeth C m sp [] E0 ta L2.tNil) := by
  obtain ⟨k, f, fd, ps, F, hr, me, bi⟩ := M.ex
  exact ⟨L2.pe_meth0 he.out M.cl me F hr bi .nil L2.pass0 ht⟩
theorem fld (he : JE X (.Name x p) ta) : JE X (.Attribute (.Name x p) f pos) (L2.tFld X.K ta f) := ⟨L2.pe_fld he.out rfl⟩
theorem ps_fld (ha : JE X o ta) (hv : JE X value tv) (h : L2.isComp value = false := by rfl) : JS X (.Assign [.Attribute o f pos'] value pos) (L2.sFld X.K ta tv f) := ⟨L2.ps_fld ha.out hv.out (L2.swaps_no h)⟩
theorem mt_append : JMt X "list.append" L2.rAppend := ⟨L2.mt_append⟩
theorem mt_join : JMt X "str.join" (fun x vs H Q => ∃ (sep : Str) (p : Addr) (zs : List Str), x = .str sep ∧ vs = [.ref p] ∧ SqL X.K H p (zs.map V.str) ∧ (zs.map (·.length)).sum + zs.length * sep.length ≤ 16777216 ∧ Q (.str (Txt.join sep zs)) H) := ⟨L2.mt_join⟩
def plainO (o : Expr) : Bool := match o with
  | .Call .. => false
  | _ => true
theorem plainO_base {o : Expr} {name : Str} {env : Env} {v : Sem Value} (h : plainO o = true) : attributeBase o name env v = v := by
  cases o <;> first | rfl | cases h
theorem few {cpos : Pos} {env : Env} (h1 : L2.notStar e = true) : ((backTo cpos (starEach [e] env)).all (fun x => !x.1) && (backToKw cpos (keywordEach [] env)).all (fun x => x.1.isSome)
      && decide ([e].length + ([] : List Keyword).length + (if ([] : List Keyword).isEmpty then 0 else 1) < 30)) = true := by
  rw [L2.star_plain h1]
  rfl
theorem bm {T id : String} {r : V → List V → Hp → VK → Prop} {name : Str} (pa : PlainAttrs T) (slot : Slot T name id) (hty : typeOf (.builtin id) = pure (.type "method_descriptor")) (hm : JMt X id r) (ho : JE X o te) (ha : JA X [e] t)
    (h : plainO o = true := by rfl) (h1 : L2.notStar e = true := by rfl) (hline : (apos.endLine == pos.line) = true := by rfl) : JE X (.Call (.Attribute o name apos) [e] [] pos) (L2.tBM X.K T r te t) :=
  ⟨L2.pe_bm pa slot hty hm.out ho.out ha.out (plainO_base h) (few h1) hline (L2.star_plain h1) rfl⟩
theorem pi_enum {e1 : Expr} {kk : Nat} {tp : Pos} (B : L2.Bt X "enumerate") (ha : JA X [e1] t) (h1 : L2.notStar e1 = true := by rfl) : JI X (.Tuple es kk tp) (.Call (.Name "enumerate" p) [e1] [] pos) (L2.iEnum X.K t) := ⟨L2.pi_enum B ha.out h1⟩
theorem call_setT (hc : X.calm = true) : JF X (.type "set") (fun xs H Q => ∃ (p : Addr) (zs : List Str), xs = [.ref p] ∧ SqL X.K H p (zs.map V.str) ∧ zs.Nodup ∧ zs.length < 1000 ∧ ∀ q, H q = none → Q (.ref q) (L2.upd H q (L2.setM X.prog X.w q zs.length))) := ⟨L2.call_setT hc⟩
theorem call_len_setM : JF X (.builtin "len") (fun xs H Q => ∃ (p : Addr) (n : Nat), xs = [.ref p] ∧ H p = some (L2.setM X.prog X.w p n) ∧ Q (.int n) H) := ⟨L2.call_len_setM⟩
theorem pgs_nil : JGs X [] L2.gNil := ⟨L2.pgs_nil⟩
theorem pgs_c {g : TG} {u : TGs} (S : JG X (.Name x p) g) (h : JGs X es u) : JGs X (.Name x p :: es) (L2.gCons g u) := ⟨L2.pgs_cons S.out h.out rfl⟩
theorem pg_tup {k n : Nat} {u : TGs} (hc : X.calm = true) (h : JGs X es u) (hn : (assignEach es X.env).length = n := by rfl) (hst : (assignEach es X.env).findIdx? (·.1) = none := by rfl) : JG X (.Tuple es k pos) (L2.gTup X.K n u) := ⟨L2.pg_tup hc h.out hn hst⟩
theorem asg {g : TG} (he : JE X e te) (hg : JG X tg g) (hs : swapsWithSole [tg] e pos.line X.env = pure false := by rfl) (hw : swappedStores [tg] e X.env = pure none := by rfl)
    (h1 : (assignEach [tg] X.env).map (·.2) = [assign tg X.env] := by rfl) : JS X (.Assign [tg] e pos) (L2.tAsg te g) := ⟨L2.ps_asg he.out hg.out hs hw h1⟩
theorem op_catS : JB X .Add (L2.rCatS X.K) := ⟨L2.op_catS⟩
theorem pt_name (h : JE X (.Name x p) te) : JT X (.Name x p) (L2.tB te) := ⟨L2.pt_val h.out (fun _ => rfl)⟩
theorem ix_sub {a b : Expr} : PlainIx (.Subscript a b p) := ⟨fun _ _ => rfl⟩
theorem glob {P : Program} {w : World} {K : PySem.W.Frag} {mg : Str → Option Value} {base : Heap} {sc : Scope} {N : List Str} {k : Nat} {v : V} (hh : Here X P w K mg base sc N k) (hm : ∃ u, mg x = some u ∧ RelV v u) (hg : sc.names.lookup x = some .globalImplicit)
    (db : (x == ("__debug__" : Str)) = false) : JE X (.Name x p) (L2.tC v) := by
  obtain ⟨u, h1, h2⟩ := hm
  exact J.pe_glob (hh.gl hg) (by rw [hh.gm]; exact h1) h2 db
end
section
variable {P : Program} {w : World} {K : PySem.W.Frag} {mg : Str → Option Value} {base : Heap} {x qual m : Str} {st : Stmt} {f C : Addr} {fd : FuncData} {N ps : List Str} {k : Nat} {sp : Sp}
theorem here_fn (F : Fun K x qual st f fd) (S : FnScope N ps (L2.defScope st)) (len : ∀ vs H Q E, sp vs H Q E → vs.length = ps.length)
    (hbody : ∀ (X : Cx) (H : Hp) (vs : List V) (Q : VK) (E : XK), Here X P w K mg base (L2.defScope st) N k → sp vs H Q E → ∃ t, JSs X (L2.defBody st) t ∧ t { nx := fun _ H' => Q .non H', rt := Q } (L2.start N vs) H) : FnOk P w K mg base CX0 (k + 1) f fd ps sp := by
  refine fn_ok F S len fun X cdv A outer s H vs Q E hX hr h => ?_
  subst hX
  exact hbody _ H vs Q E ⟨rfl, rfl, rfl, rfl, rfl, rfl, PassesOwn.never, rfl, rfl, S.nd, hr, fun _ => rfl⟩ h
theorem def_ok (D : Df K mg x st ps f fd) (S : FnScope N ps (L2.defScope st)) (len : ∀ vs H Q E, sp vs H Q E → vs.length = ps.length)
    (hbody : ∀ (X : Cx) (H : Hp) (vs : List V) (Q : VK) (E : XK), Here X P w K mg base (L2.defScope st) N k → sp vs H Q E → ∃ t, JSs X (L2.defBody st) t ∧ t { nx := fun _ H' => Q .non H', rt := Q } (L2.start N vs) H) : Gd P w K mg base (k + 1) x sp :=
  ⟨f, fd, ps, here_fn D.fn S len hbody, D.nm, D.fn.kp, D.bi⟩
theorem meth_ok (F : Fun K m qual st f fd) (me : Meth K C m f) (bi : Binds K fd ps []) (cl : Cls K C) (S : FnScope N ps (L2.defScope st)) (len : ∀ vs H Q E, sp vs H Q E → vs.length = ps.length)
    (hbody : ∀ (X : Cx) (H : Hp) (vs : List V) (Q : VK) (E : XK), Here X P w K mg base (L2.defScope st) N k → sp vs H Q E → ∃ t, JSs X (L2.defBody st) t ∧ t { nx := fun _ H' => Q .non H', rt := Q } (L2.start N vs) H) : Md P w K mg base (k + 1) C m sp :=
  ⟨⟨f, fd, ps, here_fn F S len hbody, me, bi⟩, cl⟩
theorem init_ok {y : Str} (F : Fun K m qual st f fd) (mk : Mk K C f) (bi : Binds K fd ps []) (nm : mg y = some (.ref C)) (S : FnScope N ps (L2.defScope st)) (len : ∀ vs H Q E, sp vs H Q E → vs.length = ps.length)
    (hbody : ∀ (X : Cx) (H : Hp) (vs : List V) (Q : VK) (E : XK), Here X P w K mg base (L2.defScope st) N k → sp vs H Q E → ∃ t, JSs X (L2.defBody st) t ∧ t { nx := fun _ H' => Q .non H', rt := Q } (L2.start N vs) H) : Kd P w K mg base (k + 1) y C sp :=
  ⟨⟨f, fd, ps, here_fn F S len hbody, mk, bi⟩, nm⟩
end
end J

/-! ### name = [.. for ..]: the store ahead of the comprehension's end -/
namespace L2
open PySem PySem.Spec PyProof.Rows
section
variable {X : Cx} {x : Str} {px pos : Pos} {elt iter : Expr} {scope : Scope} {wi : TI} {te : TE} {is : List Nat} {ns : List Str}
end
theorem swaps_yes {elt : Expr} {gs : List Comprehension} {scope : Scope} {pos py : Pos} {y : Str} {n : Nat} {env : Env} {sc : Scope} (hsc : env.scope = sc)
    (h : ((if sc.kind.isAnnotationScope then ScopeKind.function else sc.kind) == .function && sc.names.lookup y == some .local && py.line == pos.line && !(scope.names.any fun (n, k) => n == y && (k == .local || k == .cell))) = true) :
    swapsWith (.ListComp elt gs scope pos) (some (.Name y py)) n env = pure true := by
  subst hsc
  show (pure _ : Sem Bool) = pure true
  exact congrArg pure h
end L2
namespace J
open PySem PySem.Spec PyProof.Rows
open L2 (Cx V Hp St VK TE TT TA TS TG TGs TI TO)
end J

/-! ### max, min, sum of a list of ints; list == list, tuple == tuple -/
namespace L2
open PySem PySem.Spec PyProof.Rows
section
variable {X : Cx} {pins : List (Addr × Obj)} {σ : St} {H : Hp} {s : Shared} {p : Addr} {ns : List Int}
/-- two lists of flat things, or of the same objects -/
def sameV : V → V → Option Bool
  | .ref a, .ref b => if a = b then some true else none
  | x, y => if flatV x = true ∧ flatV y = true then some (eqV x y) else none
theorem eqAt_same {A : Around} {s : Shared} {x y : V} {u v : Value} {b : Bool} (ru : RelV x u) (rv : RelV y v) (h : sameV x y = some b) : SeqAt.EqAt A s u v b := by
  have flat : (if flatV x = true ∧ flatV y = true then some (eqV x y) else none) = some b → SeqAt.EqAt A s u v b := fun h => by
    by_cases c : flatV x = true ∧ flatV y = true
    · rw [if_pos c] at h
      cases h
      exact eqAt_V ru rv c.1 c.2
    · rw [if_neg c] at h
      cases h
  cases x with
  | ref a =>
    cases y with
    | ref c =>
      have h' : (if a = c then some true else none) = some b := h
      by_cases e : a = c
      · rw [if_pos e] at h'
        cases h'
        cases ru
        cases rv
        rw [e]
        exact SeqAt.EqAt.same _
      · rw [if_neg e] at h'
        cases h'
    | _ => exact flat h
  | _ => exact flat h
def eqL (bs : List Bool) : Bool := (List.range bs.length).all fun i => bs.getD i false
/-- list == list of the same length -/
def rEqL (K : PySem.W.Frag) : R2 := fun x y H Q => ∃ a b xs ys bs, x = .ref a ∧ y = .ref b ∧ SqL K H a xs ∧ SqL K H b ys ∧ xs.length = bs.length ∧ ys.length = bs.length ∧ (∀ (i : Nat) u v c, xs[i]? = some u → ys[i]? = some v → bs[i]? = some c → sameV u v = some c) ∧ Q (.bl (eqL bs)) H
theorem items_at {its : List Value} {xs : List V} {j : Nat} (r : Vals xs its) (h : j < its.length) : ∃ x, xs[j]? = some x ∧ RelV x its[j] := by
  have hl := r.length
  have e : xs[j]? = some xs[j] := List.getElem?_eq_getElem (by omega)
  obtain ⟨u, eu, ru⟩ := r.get e
  rw [List.getElem?_eq_getElem h] at eu
  cases eu
  exact ⟨_, e, ru⟩
theorem op_eqL (hu : X.A.units + 1 < cLine) : OpR X (compareOp .Eq) (rEqL X.K) := by
  intro pins s σ H x y v u Q I rx ry h
  obtain ⟨a, b, xs, ys, bs, rfl, rfl, ha, hb, l1, l2, he, q⟩ := h
  cases rx
  cases ry
  obtain ⟨its, r, pl, _⟩ := I.list ha
  obtain ⟨its2, r2, pl2, _⟩ := I.list hb
  have m1 := r.length
  have m2 := r2.length
  refine SeqAt.eq_listAt (e := fun i => bs.getD i false) pl.isList pl2.isList (by simp only [List.size_toArray]; omega) (by omega) (fun j h1 h2 => ?_) ?_
  · simp only [List.size_toArray] at h1 h2
    obtain ⟨x1, e1, r1⟩ := items_at r h1
    obtain ⟨x2, e2, r2'⟩ := items_at r2 h2
    have hj : j < bs.length := by omega
    have e3 : bs[j]? = some bs[j] := List.getElem?_eq_getElem hj
    have e4 : bs.getD j false = bs[j] := by rw [List.getD_eq_getElem?_getD, e3]; rfl
    show SeqAt.EqAt X.A.in1 s its.toArray[j] its2.toArray[j] (bs.getD j false)
    rw [e4]
    simp only [List.getElem_toArray]
    exact eqAt_same r1 r2' (he j x1 x2 _ e1 e2 e3)
  · have hz : its.toArray.size = bs.length := by simp only [List.size_toArray]; omega
    rw [hz]
    exact ⟨.bl _, H, I, rfl, q⟩
end
end L2
namespace J
open PySem PySem.Spec PyProof.Rows
open L2 (Cx V SqL)
end J

/-! ### list(range(n)) -/
namespace L2
open PySem PySem.Spec PyProof.Rows
section
variable {X : Cx}
/-- what list(range(j)) leaves -/
inductive LRngP (vs : List V) (H : Hp) (Q : VK) : Prop
  | mk (j : Int) (e : vs = [.int j]) (lo : -(2 ^ 62) ≤ j) (hi : j ≤ sizeLine) (q : ∀ l, H l = none → Q (.ref l) (upd H l (.lst ((List.range j.toNat).map fun (i : Nat) => V.int (i : Int)))))
def tLRng (ta : TA) : TE := fun σ H Q => ta σ H fun vs H1 => LRngP vs H1 Q
/-- list == list of another length -/
inductive NeLenP (K : PySem.W.Frag) (x y : V) (H : Hp) (Q : VK) : Prop
  | mk (a b : Addr) (xs ys : List V) (hx : x = .ref a) (hy : y = .ref b) (s : SqL K H a xs) (t : SqL K H b ys) (n : xs.length ≠ ys.length) (q : Q (.bl false) H)
theorem op_eqLlen (hu : X.A.units + 1 < cLine) : OpR X (compareOp .Eq) (fun x y H Q => NeLenP X.K x y H Q) := by
  intro pins s σ H x y v u Q I rx ry h
  obtain ⟨a, b, xs, ys, rfl, rfl, ha, hb, n, q⟩ := h
  cases rx
  cases ry
  obtain ⟨its, r, pl, _⟩ := I.list ha
  obtain ⟨its2, r2, pl2, _⟩ := I.list hb
  have m1 := r.length
  have m2 := r2.length
  refine SeqAt.eq_list_lengthsAt pl.isList pl2.isList ?_ (by omega) ⟨.bl _, H, I, rfl, q⟩
  rw [bne_iff_ne]
  simp only [List.size_toArray]
  omega
/-- tuple == tuple, the same length -/
inductive EqTP (K : PySem.W.Frag) (x y : V) (H : Hp) (Q : VK) : Prop
  | mk (a b : Addr) (xs ys : List V) (bs : List Bool) (hx : x = .ref a) (hy : y = .ref b) (s : SqT K H a xs) (t : SqT K H b ys) (l1 : xs.length = bs.length) (l2 : ys.length = bs.length)
      (e : ∀ (i : Nat) u v c, xs[i]? = some u → ys[i]? = some v → bs[i]? = some c → sameV u v = some c) (q : Q (.bl (eqL bs)) H)
end
end L2
namespace J
open PySem PySem.Spec PyProof.Rows
open L2 (Cx V SqL SqT)
end J

/-! ### comprehensions with any target and any tests -/
namespace L2
open PySem PySem.Spec PyProof.Rows
theorem compLoop_tests {prog : Program} {w : World} {A : Around} {R : Result → Shared → Prop} {s : Shared} {elt target iter : Expr} {cts : List Expr} {scope : Scope} {pos : Pos} {it acc : Value} {env : Env} (I : Nat → Shared → Prop)
    (turn : ∀ n s, I n s → wpAny (model prog w) A (pyNext it) (fun r s₁ => match r with
      | none => R (.ok .next) s₁
      | some v => wpAny (model prog w) A (letOwnedTupleGo target it v) (fun _ s₁' => wpAny (model prog w) A (assign target env v) (fun _ s₂ => wpAny (model prog w) A (forIn cts true fun c r => if r = true then do let ok ← isTrue c env (eval c env); pure (ForInStep.yield ok) else pure (ForInStep.yield r)) (fun ok s₂' => if ok = true then wpAny (model prog w) A (eval elt env) (fun x s₃ =>
          wpAny (model prog w) A (call (.builtin "list.append") [acc, x]) (fun _ s₄ => ∃ m, m < n ∧ I m s₄) (notedBy (model prog w) A env fun e s' => R (.error e) s') s₃)
          (notedBy (model prog w) A env fun e s' => R (.error e) s') s₂' else ∃ m, m < n ∧ I m s₂') (notedBy (model prog w) A env fun e s' => R (.error e) s') s₂) (notedBy (model prog w) A env fun e s' => R (.error e) s') s₁') (notedBy (model prog w) A env fun e s' => R (.error e) s') s₁) (notedBy (model prog w) A env fun e s' => R (.error e) s') s)
    (n : Nat) (h : I n s) :
    codeAny (model prog w) A (.compLoop (.ListComp elt [⟨target, iter, cts, 0⟩] scope pos) 0 it acc env) R s := by
  refine codeAny_loop rfl I (fun n s hI => ?_) n h
  show wpAny _ _ ((compTurn (.ListComp elt [⟨target, iter, cts, 0⟩] scope pos) 0 it acc env).onRaise (fun x => do noteFrame x env; theTreesLotGoes x)) _ _ s
  refine wpAny_noted ?_
  rw [compTurn_list]
  refine wpAny_bind (wpAny_standAt (wpAny_bind (wpAny_mono (turn n s hI) (fun r s₁ h₁ => ?_) fun _ _ h' => h')))
  cases r with
  | none => exact wpAny_pure h₁
  | some v =>
    refine wpAny_bind (wpAny_mono h₁ (fun _ s₁' h₁' => ?_) fun _ _ h' => h')
    refine wpAny_bind (wpAny_mono h₁' (fun _ s₂ h₂ => wpAny_bind (wpAny_mono h₂ (fun ok s₃ h₃ => ?_) fun _ _ h' => h')) fun _ _ h' => h')
    cases ok with
    | false => exact wpAny_pure ⟨rfl, h₃⟩
    | true =>
      exact wpAny_bind (wpAny_bind (wpAny_mono h₃ (fun x s₄ h₄ => wpAny_bind (wpAny_mono h₄ (fun _ s₅ h₅ => wpAny_pure (wpAny_pure ⟨rfl, h₅⟩)) fun _ _ h' => h')) fun _ _ h' => h'))
def PTs (X : Cx) (cts : List Expr) (t : TT) : Prop :=
  ∀ (pins : List (Addr × Obj)) (s : Shared) (σ : St) (H : Hp) (Q : Bool → Hp → Prop), Inv X pins σ H s → t σ H Q → wpAny (model X.prog X.w) X.A (forIn cts true fun c r => if r = true then do let ok ← isTrue c X.env (eval c X.env); pure (ForInStep.yield ok) else pure (ForInStep.yield r)) (TP X pins σ Q) X.xe s
def tTru : TT := fun _ H Q => Q true H
theorem pts_nil {X : Cx} : PTs X [] tTru := fun _ _ _ H _ I h => wpAny_tests_nil ⟨H, I, h⟩
theorem pts_one {X : Cx} {ct : Expr} {t : TT} (h : PT X ct t) : PTs X [ct] t := fun pins s σ H Q I q => wpAny_tests_one (h pins s σ H Q I q)
inductive TurnP (J : It) (n : Nat) (is : List Nat) (g : TG) (tc : TT) (te : TE) (σ : St) (W : Nat → Nat → List V → Hp → Prop) (D : Addr) (i m : Nat) (ys : List V) (H2 : Hp) : Prop
  | mk (go : J.go i H2) (nx : ∀ (os : St) v H3, os.length = n → J.yld i H2 v H3 → g v (os ++ caps is σ) H3 fun σ' H4 => (∃ os' : St, os'.length = n ∧ σ' = os' ++ caps is σ) ∧ tc σ' H4 fun b H5 => if b = true then te σ' H5 (fun y H6 =>
    H6 D = some (.lst ys) ∧ ys.length < sizeLine ∧ ∃ m', m' < m ∧ W (i + 1) m' (ys ++ [y]) (upd H6 D (.lst (ys ++ [y])))) else ∃ m', m' < m ∧ W (i + 1) m' ys H5)
def lcGoalG (J : It) (n : Nat) (is : List Nat) (g : TG) (tc : TT) (te : TE) (σ : St) (H1 : Hp) (Q : VK) : Prop := ∀ D, H1 D = none → ∃ W : Nat → Nat → List V → Hp → Prop, (∃ m, W 0 m [] (upd H1 D (.lst []))) ∧
  ∀ i m ys H2, W i m ys H2 → H2 D = some (.lst ys) ∧ ((J.stop i H2 ∧ Q (.ref D) H2) ∨ TurnP J n is g tc te σ W D i m ys H2)
def tLCG (wi : TI) (n : Nat) (is : List Nat) (g : TG) (tc : TT) (te : TE) : TE := fun σ H Q => wi σ H fun J H1 => lcGoalG J n is g tc te σ H1 Q
structure LcOkG (sc : Scope) (N : List Str) (xs : List Str) (scope : Scope) (is : List Nat) (ns : List Str) : Prop where
  kind : scope.kind = .function
  nocell : ∀ y ∈ scope.names, y.2 ≠ .cell
  names : ∀ y ∈ scope.names, y.2 = .local → scope.names.lookup y.1 = some .local
  free : ∀ y ∈ scope.names, y.2 = .free → sc.names.lookup y.1 = some .cell
  cap : ns.map some = is.map fun i => N[i]?
  capf : ∀ y ∈ ns, scope.names.lookup y = some .free ∧ sc.names.lookup y = some .cell
section
variable {X : Cx} {xs : List Str} {tg : Expr} {pos : Pos} {elt iter : Expr} {cts : List Expr} {scope : Scope} {wi : TI} {g : TG} {tc : TT} {te : TE} {is : List Nat} {ns : List Str}
/-- what is behind a comprehension's last turn -/
def LcEnd (X : Cx) (pins : List (Addr × Obj)) (σ : St) (Qs : VK) (use : Option (Value → Sem Unit)) (Qv : Value → Shared → Prop) : Prop :=
  ∀ (D C : Addr) (H5 : Hp) (s6 : Shared) (m : Str → Option Value), Qs (.ref D) H5 → Inv X pins σ H5 s6 → FpOk X pins H5 C → s6.heap.Ns C m → compPost (model X.prog X.w) X.A X.xe use Qv (.ref D) C (.ok .next) s6
theorem comp_core {sc : Scope} {N : List Str} {use : Option (Value → Sem Unit)} {Qv : Value → Shared → Prop} {Gf : It → Hp → Prop} {Qs : VK} {cp : Pos} {pins : List (Addr × Obj)} {s : Shared} {σ : St} {H : Hp} (I : Inv X pins σ H s) (h : wi σ H Gf) (hG : ∀ J H1, Gf J H1 → lcGoalG J xs.length is g tc te σ H1 Qs)
    (fin : LcEnd X pins σ Qs use Qv) (hc : X.calm = true) (hi : PI X tg iter wi) (L : LcOkG sc N xs scope is ns) (hg : ∀ cl fp s3 H3 C, PG (lcCx X (xs ++ ns) scope cl fp s3 H3 C) tg g) (hct : ∀ cl fp s3 H3 C, PTs (lcCx X (xs ++ ns) scope cl fp s3 H3 C) cts tc) (he : ∀ cl fp s3 H3 C, PE (lcCx X (xs ++ ns) scope cl fp s3 H3 C) elt te)
    (hsc : X.env.scope = sc) (hN : X.N = N) (hs : ∀ x, foldedSetIterable iter X.env x = pure x) :
    wpAny (model X.prog X.w) X.A (comprehension (.ListComp elt [⟨tg, iter, cts, 0⟩] scope pos) scope X.env cp (newList []) false (eval iter X.env) use) Qv X.xe s := by
  subst hsc hN
  obtain ⟨cl, hcl, cl1, cl2⟩ := closure_ok (env := X.env) (scope := scope) (fun y hy hf => I.ok.has y.1 (.inl (L.free y hy hf)))
  refine wpAny_comprehension_free rfl hs hcl L.kind L.names (thn (hi pins s σ H _ I h) fun v s1 h1 => thn h1 fun itv s2 h2 => ?_)
  obtain ⟨it, fp, tn, J, H2, e, I2, T, st2, f2, h2⟩ := h2
  subst e
  refine wpAny_newObj_type (wpAny_newFunctionEnv L.nocell (by intro y hy; simp at hy) (fun h₁ hns₁ hsb₁ => ?_) L.kind)
  have hD : H2 s2.heap.objs.size = none := I2.hok.fresh (Nat.le_refl _)
  have I3 : Inv X pins σ (upd H2 s2.heap.objs.size (.lst [])) { s2 with heap := s2.heap.push { cls := .type "list", dict := none, data := .seq ([] : List Value).toArray } } :=
    I2.laid (t' := s2.toks) (fun b u e => Heap.get?_push_of_some _ e) (Nat.le_refl _) ⟨Nat.zero_le _, [], 0, .nil, Heap.get?_push_size _ rfl⟩
  have kp23 : ∀ b u, s2.heap.get? b = some u → (s2.heap.push { cls := .type "list", dict := none, data := .seq ([] : List Value).toArray }).get? b = some u := fun b u e => Heap.get?_push_of_some _ e
  obtain ⟨W, ⟨m0, w0⟩, turn⟩ := hG J H2 h2 s2.heap.objs.size hD
  dsimp only at hns₁ hsb₁ ⊢
  generalize hD0 : s2.heap.objs.size = D at *
  generalize hp3 : s2.heap.push { cls := .type "list", dict := none, data := .seq ([] : List Value).toArray } = p3 at *
  generalize hH3 : upd H2 D (.lst []) = H3 at *
  have fpD : ∀ b ∈ fp, b ≠ D := fun b hb => by
    obtain ⟨o, e, _⟩ := T.obj 0 s2.heap st2 b hb
    rw [← hD0]
    exact Nat.ne_of_lt (Heap.lt_size e)
  have fp3 : ∀ b ∈ fp, FpOk X pins H3 b := fun b hb => ⟨by rw [← hH3, upd_ne (fpD b hb)]; exact (f2 b hb).1, (f2 b hb).2⟩
  have st3 : tn 0 p3 := T.keep 0 s2.heap p3 st2 fun b _ o e => kp23 b o e
  have fplt : ∀ b ∈ fp, b < p3.objs.size := fun b hb => by
    obtain ⟨o, e, _⟩ := T.obj 0 p3 st3 b hb
    exact Heap.lt_size e
  have old : ∀ b u, p3.get? b = some u → h₁.get? b = some u := fun b u e => hsb₁.extBut b u (Nat.ne_of_lt (Heap.lt_size e)) (Heap.get?_push_of_some _ e)
  generalize hC : p3.objs.size = C at *
  have hfree : ∀ b ∈ fp, H3 b = none := fun b hb => (fp3 b hb).1
  have okX : (lcCx X (xs ++ ns) scope cl fp { s2 with heap := p3 } H3 C).Ok := by
    refine ⟨I.ok.mod, L.kind, I.ok.glob, I.ok.blt, Nat.le_of_eq hC, fun y z c e1 e2 => I.ok.inj y z c (cl1 y c e1) (cl1 z c e2), fun y hy => ?_, fun _ _ z => (by cases z), I.ok.hd, I.ok.frames, .inl rfl, fun b hb => ⟨Nat.ne_of_lt (fplt b hb), fun y c e => (fp3 b hb).2.2.2.2.1 y c (cl1 y c e)⟩, I3.bs, Nat.le_trans I3.ok.bsz I3.sz, fun b o e hb => ?_, fun b hb z => ?_, I3.stack, I3.stkFree⟩
    · have hm : (y, NameKind.free) ∈ scope.names := by
        rcases hy with hy | hy
        · exact relabel_back hy (.inl rfl) L.nocell
        · exact relabel_back hy (.inr rfl) L.nocell
      obtain ⟨c, hc'⟩ := I.ok.has y (.inl (L.free _ hm rfl))
      exact ⟨c, (cl2 _ hm rfl).trans hc'⟩
    · rcases (fp3 b hb).2.2.2.1 with z | z
      · exact I.ok.noex b o e z
      · exact absurd (Nat.lt_of_lt_of_le (Heap.lt_size e) (Nat.le_trans I.ok.bsz z)) (Nat.lt_irrefl _)
    · exact (List.mem_cons.mp (I3.stkSub b z)).elim (fp3 b hb).2.1 (fp3 b hb).2.2.1
  have hlen : (caps is σ).length = ns.length := by
    have := congrArg List.length L.cap
    rw [List.length_map, List.length_map] at this
    rw [caps, List.length_map]
    exact this.symm
  have rl : (List.replicate xs.length (none : Option V)).length = xs.length := List.length_replicate ..
  have I4 : Inv (lcCx X (xs ++ ns) scope cl fp { s2 with heap := p3 } H3 C) [] (List.replicate xs.length none ++ caps is σ) H3 { s2 with heap := h₁, toks := s2.toks + 0 } := by
    refine ⟨okX, rfl, I3.bare, Un.kept old, ⟨_, hns₁, fun i y v e1 e2 e3 => ?_⟩, fun y c e => ?_, ?_, fun y c e => I3.freeC y c (cl1 y c e), fun p hp => absurd (show p ∈ ([] : List (Addr × Obj)) from hp) (by simp), I3.hok.kept old, by show (List.replicate xs.length none ++ caps is σ).length = (xs ++ ns).length; rw [List.length_append, List.length_append, hlen, rl]⟩
    · have e1 : (xs ++ ns)[i]? = some y := e1
      by_cases hi : i < xs.length
      · rw [List.getElem?_append_left (by rw [rl]; exact hi), List.getElem?_replicate, if_pos hi] at e2
        cases e2
      · rw [List.getElem?_append_right (by rw [rl]; omega), rl] at e2
        rw [List.getElem?_append_right (by omega)] at e1
        generalize i - xs.length = j at e1 e2
        have e1' : ns[j]? = some y := e1
        have e2' : (caps is σ)[j]? = some (some v) := e2
        have hy := L.capf y (List.mem_of_getElem? e1')
        have hcap : (ns.map some)[j]? = (is.map fun i => X.N[i]?)[j]? := by rw [L.cap]
        rw [List.getElem?_map, List.getElem?_map, e1'] at hcap
        rw [caps, List.getElem?_map] at e2'
        cases hk : is[j]? with
        | none => rw [hk] at e2'; cases e2'
        | some k =>
          rw [hk] at hcap e2'
          have hN : X.N[k]? = some y := (Option.some.inj hcap).symm
          have hσ : σ[k]? = some (some v) := by
            have q : (σ[k]?).join = some v := Option.some.inj e2'
            cases z : σ[k]? with
            | none => rw [z] at q; cases q
            | some o => rw [z] at q; exact congrArg some q
          obtain ⟨m, hn, hl⟩ := I3.loc
          obtain ⟨u, r, l⟩ := hl k y v hN hσ (.inr (.inl hy.2))
          refine ⟨u, r, ?_⟩
          rcases l with ⟨hk', _⟩ | ⟨hk', c, ec, o, ho, hd⟩
          · have hk2 : X.env.scope.names.lookup y = some .local := hk'
            rw [hy.2] at hk2; cases hk2
          · exact .inr ⟨.inl (relabel_free I.ok.kind hy.1 hy.2), c, (cl2 _ (PySem.mem_of_lookup hy.1) rfl).trans ec, o, old c o ho, hd⟩
    · obtain ⟨v, o, ho, hd⟩ := I3.cell y c (cl1 y c e)
      exact ⟨v, o, old c o ho, hd⟩
    · show H3 C = none
      rw [← hC]
      exact I3.hok.fresh (Nat.le_refl _)
  have st4 : tn 0 h₁ := T.keep 0 p3 h₁ st3 fun b _ o e => old b o e
  -- what stays true of the iterator's objects
  have stat : ∀ {H' : Hp}, (∀ b ∈ fp, H' b = none) → ∀ b ∈ fp, FpOk (lcCx X (xs ++ ns) scope cl fp { s2 with heap := p3 } H3 C) [] H' b := fun {H'} hn b hb =>
    ⟨hn b hb, Nat.ne_of_lt (fplt b hb), okX.exfs b hb, .inl hb, fun y c e => (fp3 b hb).2.2.2.2.1 y c (cl1 y c e), fun p hp => absurd (show p ∈ ([] : List (Addr × Obj)) from hp) (by simp)⟩
  have loop : codeAny (model X.prog X.w) X.A (.compLoop (.ListComp elt [⟨tg, iter, cts, 0⟩] scope pos) 0 (.ref it) (.ref D) (compEnvC scope cl C X.env))
      (compPost (model X.prog X.w) X.A X.xe use Qv (.ref D) C) { s2 with heap := h₁, toks := s2.toks + 0 } := by
    refine compLoop_tests (fun n s' => ∃ i os ys H', os.length = xs.length ∧ Inv (lcCx X (xs ++ ns) scope cl fp { s2 with heap := p3 } H3 C) [] (os ++ caps is σ) H' s' ∧ tn i s'.heap ∧ (∀ b ∈ fp, H' b = none) ∧ W i n ys H') ?_ m0 ⟨0, List.replicate xs.length none, [], H3, rl, I4, st4, hfree, w0⟩
    rintro n s5 ⟨i, os, ys, H5, hos, I5, st5, fr5, w5⟩
    obtain ⟨hD5, ⟨stop, q⟩ | ⟨go, step⟩⟩ := turn i n ys H5 w5
    · refine thn (T.done (lcCx X (xs ++ ns) scope cl fp { s2 with heap := p3 } H3 C) rfl rfl rfl hc i [] s5 _ H5 _ I5 (stat fr5) st5 stop) fun r s6 ⟨hr, I6⟩ => ?_
      subst hr
      obtain ⟨m, hn, _⟩ := id I6.loc
      have neC : ∀ b o, p3.get? b = some o → b ≠ C := fun b o e => by rw [← hC]; exact Nat.ne_of_lt (Heap.lt_size e)
      have fC : H5 C = none := I6.free
      have I6X : Inv X pins σ H5 s6 := by
        refine I3.call' (s' := s6) (ch := fp) I6.os ⟨fun b o e nn hb hx => ?_, fun b o e nn hb hx => ?_, I6.base.free, fun b o e hx => ?_, I6.base.tups, I6.base.frzs, I6.base.tbls⟩ (fun b ob e => I6.hok b ob e) I6.bare fun b hb => ⟨(fp3 b hb).2.2.2.1, (fp3 b hb).2.1, (fp3 b hb).2.2.2.2.1, (fp3 b hb).2.2.2.2.2⟩
        · exact I6.base.keep b o e nn hb hx
        · exact I6.base.slot b o e nn hb hx
        · exact I6.base.there b o e hx
      exact fin D C H5 s6 m q I6X (I3.fpOk (Nat.le_of_eq hC) fC) hn
    · refine thn (T.item (lcCx X (xs ++ ns) scope cl fp { s2 with heap := p3 } H3 C) rfl rfl rfl hc i [] s5 _ H5 _ I5 (stat fr5) st5 go) fun r s6 ⟨u, hr, h6⟩ => ?_
      subst hr
      refine thn h6 fun _ s7 hpat => ?_
      obtain ⟨v, H7, I7, r7, y7, st7, fr7⟩ := hpat
      have I7' := I7.pinned (stat fr7) (T.obj _ _ st7)
      refine wpAny_mono (hg cl fp { s2 with heap := p3 } H3 C _ s7 (os ++ caps is σ) H7 v u _ I7' r7 (step os v H7 hos y7)) (fun _ s8 ⟨σ8, H8, I8, ⟨os', hos', e8⟩, q8⟩ => ?_) fun _ _ z => False.elim z
      subst e8
      refine wpAny_mono (hct cl fp { s2 with heap := p3 } H3 C _ s8 _ H8 _ I8 q8) (fun bb sb ⟨Hb, Ib, qb⟩ => ?_) fun _ _ z => False.elim z
      cases bb with
      | false =>
        rw [if_neg Bool.false_ne_true] at qb
        rw [if_neg Bool.false_ne_true]
        obtain ⟨m', hm', w9⟩ := qb
        refine ⟨m', hm', i + 1, os', ys, _, hos', Ib.unpinned, T.keep _ _ _ st7 fun b hb o e => (Ib.pin (b, o) (List.mem_append_right _ (List.mem_append_right _ (mem_pinsAt hb e)))).1, fun b hb => ?_, w9⟩
        obtain ⟨o', e, d⟩ := T.obj _ _ st7 b hb
        exact (Ib.pin (b, o') (List.mem_append_right _ (List.mem_append_right _ (mem_pinsAt hb e)))).2.1
      | true =>
        rw [if_pos rfl] at qb
        rw [if_pos rfl]
        refine wpAny_mono (he cl fp { s2 with heap := p3 } H3 C _ sb _ Hb _ Ib qb) (fun uy s9 ⟨y, H9, I9, r9, hD9, hl9, m', hm', w9⟩ => ?_) fun _ _ z => False.elim z
        refine wpAny_mono (mt_append (X := lcCx X (xs ++ ns) scope cl fp { s2 with heap := p3 } H3 C) _ s9 _ H9 (.ref D) [y] (.ref D) [uy] (fun _ H' => H' = upd H9 D (.lst (ys ++ [y]))) I9 rfl (.cons r9 .nil) ⟨D, ys, y, rfl, rfl, hD9, hl9, rfl⟩) (fun _ s10 ⟨_, H10, I10, _, e10⟩ => ?_) fun _ _ z => False.elim z
        subst e10
        refine ⟨m', hm', i + 1, os', ys ++ [y], _, hos', I10.unpinned, T.keep _ _ _ st7 fun b hb o e => (I10.pin (b, o) (List.mem_append_right _ (List.mem_append_right _ (mem_pinsAt hb e)))).1, fun b hb => ?_, w9⟩
        obtain ⟨o', e, d⟩ := T.obj _ _ st7 b hb
        exact (I10.pin (b, o') (List.mem_append_right _ (List.mem_append_right _ (mem_pinsAt hb e)))).2.1
  exact codeAny_compStart_list loop (T.self X.A 0 _ _ _ st4 loop)
theorem end_plain {pins : List (Addr × Obj)} {σ : St} {Q : VK} : LcEnd X pins σ Q none (EP X pins σ Q) := by
  intro D C H5 s6 m q I6 fC hn
  refine ⟨m, hn, fun h' sb => ⟨.ref D, H5, I6.turnedOld (t' := s6.toks) (fp := [C]) (fun b hb => ?_) (fun b u nb e => (sb.2 b (fun z => nb (List.mem_singleton.mpr z))).trans e), rfl, q⟩⟩
  rw [List.mem_singleton] at hb
  subst hb
  exact fC
theorem end_store {pins : List (Addr × Obj)} {σ : St} {Dn : Ends} {y : Str} {py : Pos} {iy : Nat} (hnd : X.N.Nodup) (hiy : X.N[iy]? = some y) (hly : Loc X.env.scope y) (hfy : X.fn y = true ∨ X.env.scope.names.lookup y = some .local) :
    LcEnd X pins σ (fun v H' => Dn.nx (σ.set iy (some v)) H') (some (assign (.Name y py) X.env)) (fun _ s' => SP X pins Dn .next s') := by
  intro D C H5 s6 m q I6X fC hn
  have fpC : ∀ b ∈ [C], FpOk X pins H5 b := fun b hb => by
    rw [List.mem_singleton] at hb
    subst hb
    exact fC
  obtain ⟨oC, esC, epC, hoC, rC⟩ := id hn
  have obC : ∀ b ∈ [C], ∃ o, s6.heap.get? b = some o ∧ ∀ v, o.data ≠ .cell v := fun b hb => by
    rw [List.mem_singleton] at hb
    subst hb
    exact ⟨oC, hoC, fun v z => by rw [z] at rC; exact absurd rC.1 (fun w => nomatch w)⟩
  have IP := I6X.pinned fpC obC
  have hgy : PG X (.Name y py) (gName iy) := pg_name hnd hiy hly hfy
  show wpAny _ _ (assign (.Name y py) X.env (.ref D)) _ _ s6
  refine thn (hgy _ s6 σ H5 (.ref D) (.ref D) (fun σ' H' => σ' = σ.set iy (some (.ref D)) ∧ H' = H5) IP rfl ⟨rfl, rfl⟩) fun _ s7 hpat => ?_
  obtain ⟨σ7, H7, I7, e1, e2⟩ := hpat
  subst e1
  subst e2
  have hC7 : s7.heap.get? C = some oC := (I7.pin (C, oC) (List.mem_append_right _ (List.mem_append_right _ (mem_pinsAt (List.mem_singleton.mpr rfl) hoC)))).1
  exact ⟨m, ⟨oC, esC, epC, hC7, rC⟩, fun h' sb => ⟨_, H7, I7.unpinned.turnedOld (t' := s7.toks) (fp := [C]) fpC (fun b u nb e => (sb.2 b (fun z => nb (List.mem_singleton.mpr z))).trans e), q⟩⟩
theorem pe_lcG {sc : Scope} {N : List Str} (hc : X.calm = true) (hi : PI X tg iter wi) (L : LcOkG sc N xs scope is ns) (hg : ∀ cl fp s3 H3 C, PG (lcCx X (xs ++ ns) scope cl fp s3 H3 C) tg g) (hct : ∀ cl fp s3 H3 C, PTs (lcCx X (xs ++ ns) scope cl fp s3 H3 C) cts tc) (he : ∀ cl fp s3 H3 C, PE (lcCx X (xs ++ ns) scope cl fp s3 H3 C) elt te)
    (hsc : X.env.scope = sc) (hN : X.N = N) (hs : ∀ x, foldedSetIterable iter X.env x = pure x) : PE X (.ListComp elt [⟨tg, iter, cts, 0⟩] scope pos) (tLCG wi xs.length is g tc te) := by
  intro pins s σ H Q I h
  rw [eval_ListComp]
  exact comp_core I h (fun _ _ z => z) end_plain hc hi L hg hct he hsc hN hs
theorem ps_setlcG {sc : Scope} {N : List Str} {y : Str} {py spos : Pos} {iy : Nat} (hnd : X.N.Nodup) (hiy : X.N[iy]? = some y) (hly : Loc X.env.scope y) (hfy : X.fn y = true ∨ X.env.scope.names.lookup y = some .local) (hsw : swapsWith (.ListComp elt [⟨tg, iter, cts, 0⟩] scope pos) (some (.Name y py)) spos.line X.env = pure true)
    (hc : X.calm = true) (hi : PI X tg iter wi) (L : LcOkG sc N xs scope is ns) (hg : ∀ cl fp s3 H3 C, PG (lcCx X (xs ++ ns) scope cl fp s3 H3 C) tg g) (hct : ∀ cl fp s3 H3 C, PTs (lcCx X (xs ++ ns) scope cl fp s3 H3 C) cts tc) (he : ∀ cl fp s3 H3 C, PE (lcCx X (xs ++ ns) scope cl fp s3 H3 C) elt te)
    (hsc : X.env.scope = sc) (hN : X.N = N) (hs : ∀ x, foldedSetIterable iter X.env x = pure x) : PS X (.Assign [.Name y py] (.ListComp elt [⟨tg, iter, cts, 0⟩] scope pos) spos) (tAsg (tLCG wi xs.length is g tc te) (gName iy)) := by
  intro pins s σ H Dn I h
  rw [exec_Assign_Name_used _ _ _ _ hsw]
  refine wpAny_bind (wpAny_standAt (wpAny_bind ?_))
  show wpAny _ X.A (do let _ ← comprehension (.ListComp elt [⟨tg, iter, cts, 0⟩] scope pos) scope X.env _ (newList []) false (eval iter X.env) (some (assign (.Name y py) X.env))) _ _ s
  exact wpAny_bind (thn (Q := fun _ s' => SP X pins Dn .next s') (comp_core I h (fun _ _ z => z) (end_store hnd hiy hly hfy) hc hi L hg hct he hsc hN hs) fun _ s' hq => wpAny_pure (wpAny_pure hq))
/-- one name, no test: as it was -/
theorem lc_of {J : It} {te : TE} {is : List Nat} {σ : St} {H1 : Hp} {Q : VK} (h : lcGoal J is te σ H1 Q) : lcGoalG J 1 is (gName 0) tTru te σ H1 Q := by
  intro D hD
  obtain ⟨W, w0, k⟩ := h D hD
  refine ⟨W, w0, fun i m ys H2 w => ?_⟩
  obtain ⟨e, z | ⟨go, nx⟩⟩ := k i m ys H2 w
  · exact ⟨e, .inl z⟩
  · refine ⟨e, .inr ⟨go, fun os v H3 hos y => ?_⟩⟩
    match os, hos with
    | [o], _ => exact ⟨⟨[some v], rfl, rfl⟩, iteT (B := ∃ m', m' < m ∧ W (i + 1) m' ys H3) (nx v H3 y)⟩
theorem pe_lcB {sc : Scope} {N : List Str} {x : Str} {px : Pos} (hc : X.calm = true) (hi : PI X (.Name x px) iter wi) (L : LcOk sc N x scope is ns) (he : ∀ cl fp s3 H3 C, PE (lcCx X (x :: ns) scope cl fp s3 H3 C) elt te)
    (hsc : X.env.scope = sc := by rfl) (hN : X.N = N := by rfl) (hs : ∀ x, foldedSetIterable iter X.env x = pure x := by intro _; rfl) : PE X (.ListComp elt [⟨.Name x px, iter, [], 0⟩] scope pos) (tLC wi is te) := by
  intro pins s σ H Q I h
  rw [eval_ListComp]
  exact comp_core (xs := [x]) (g := gName 0) (tc := tTru) I h (fun _ _ z => lc_of z) end_plain hc hi ⟨L.kind, L.nocell, L.names, L.free, L.cap, L.capf⟩ (fun _ _ _ _ _ => pg_name (i := 0) L.nd rfl (.inl (lookup_relabel_local L.hx)) (.inr (lookup_relabel_local L.hx))) (fun _ _ _ _ _ => pts_nil) he hsc hN hs
end
section
variable {K : PySem.W.Frag} {n : Nat} {is : List Nat} {g : TG} {tc : TT} {te : TE} {σ : St} {H : Hp} {Q : VK}
theorem range_filter_snoc (p : Nat → Bool) (f : Nat → V) (i : Nat) : ((List.range (i + 1)).filter p).map f = ((List.range i).filter p).map f ++ if p i = true then [f i] else [] := by
  rw [List.range_succ, List.filter_append, List.map_append]
  cases h : p i <;> simp [List.filter, h]
theorem lcG_pf {J : It} {N : Nat} (p : Nat → Bool) (f : Nat → V) (hz : N ≤ sizeLine) (hgo : ∀ i H2, Same H H2 → i < N → J.go i H2) (hstop : ∀ H2, Same H H2 → J.stop N H2)
    (he : ∀ (i : Nat) (os : St) v H2 H3 (K1 : VK) (K2 : Hp → Prop), i < N → os.length = n → Same H H2 → J.yld i H2 v H3 → (p i = true → ∀ H6, Same H2 H6 → K1 (f i) H6) → (p i = false → ∀ H5, Same H2 H5 → K2 H5) →
      g v (os ++ caps is σ) H3 fun σ' H4 => (∃ os' : St, os'.length = n ∧ σ' = os' ++ caps is σ) ∧ tc σ' H4 fun b H5 => if b = true then te σ' H5 K1 else K2 H5)
    (q : ∀ D H', H D = none → Same H H' → H' D = some (.lst (((List.range N).filter p).map f)) → Q (.ref D) H') : lcGoalG J n is g tc te σ H Q := by
  intro D hDn
  refine ⟨fun i m ys H2 => m = N - i ∧ i ≤ N ∧ Same H H2 ∧ H2 D = some (.lst ys) ∧ ys = ((List.range i).filter p).map f, ⟨_, rfl, Nat.zero_le _, Same.upd hDn, upd_same, rfl⟩, ?_⟩
  rintro i m ys H2 ⟨rfl, hi, sm, hd, rfl⟩
  refine ⟨hd, ?_⟩
  by_cases hlt : i < N
  · refine .inr ⟨hgo i H2 sm hlt, fun os v H3 hos y => ?_⟩
    have hl : (((List.range i).filter p).map f).length ≤ i := by
      rw [List.length_map]
      have := List.length_filter_le p (List.range i)
      rw [List.length_range] at this
      exact this
    refine he i os v H2 H3 _ _ hlt hos sm y (fun hp H6 s6 => ⟨s6 _ _ hd, by omega, N - (i + 1), by omega, rfl, hlt, fun b o e => ?_, upd_same, ?_⟩) (fun hp H5 s5 => ⟨N - (i + 1), by omega, rfl, hlt, sm.trans s5, s5 _ _ hd, ?_⟩)
    · rw [upd_ne (ne_of_none e hDn)]
      exact s6 _ _ (sm _ _ e)
    · rw [range_filter_snoc, if_pos hp]
    · rw [range_filter_snoc, if_neg (by rw [hp]; exact Bool.false_ne_true), List.append_nil]
  · have e : i = N := by omega
    subst e
    exact .inl ⟨hstop H2 sm, q D H2 hDn sm hd⟩
theorem lcG_list {a : Addr} {xs : List V} (p : Nat → Bool) (f : Nat → V) (hq : SqL K H a xs) (hz : xs.length ≤ sizeLine)
    (he : ∀ (i : Nat) (os : St) v H2 (K1 : VK) (K2 : Hp → Prop), xs[i]? = some v → os.length = n → Same H H2 → (p i = true → ∀ H6, Same H2 H6 → K1 (f i) H6) → (p i = false → ∀ H5, Same H2 H5 → K2 H5) →
      g v (os ++ caps is σ) H2 fun σ' H4 => (∃ os' : St, os'.length = n ∧ σ' = os' ++ caps is σ) ∧ tc σ' H4 fun b H5 => if b = true then te σ' H5 K1 else K2 H5)
    (q : ∀ D H', H D = none → Same H H' → H' D = some (.lst (((List.range xs.length).filter p).map f)) → Q (.ref D) H') : lcGoalG (Itl K a) n is g tc te σ H Q :=
  lcG_pf p f hz (fun i H2 sm hi => ⟨xs, xs[i], sm.seq hq, by simp [hi]⟩) (fun H2 sm => ⟨xs, sm.seq hq, Nat.le_refl _⟩) (fun i os v H2 H3 K1 K2 hi hos sm y k1 k2 => by
    obtain ⟨rfl, y⟩ := y
    exact he i os v _ K1 K2 (y xs (sm.seq hq)) hos sm k1 k2) q
theorem lcG_range {lo : Int} {N : Nat} (p : Nat → Bool) (f : Nat → V) (hz : N ≤ sizeLine)
    (he : ∀ (i : Nat) (os : St) H2 (K1 : VK) (K2 : Hp → Prop), i < N → os.length = n → Same H H2 → (p i = true → ∀ H6, Same H2 H6 → K1 (f i) H6) → (p i = false → ∀ H5, Same H2 H5 → K2 H5) →
      g (.int (lo + i)) (os ++ caps is σ) H2 fun σ' H4 => (∃ os' : St, os'.length = n ∧ σ' = os' ++ caps is σ) ∧ tc σ' H4 fun b H5 => if b = true then te σ' H5 K1 else K2 H5)
    (q : ∀ D H', H D = none → Same H H' → H' D = some (.lst (((List.range N).filter p).map f)) → Q (.ref D) H') : lcGoalG (Itr lo N) n is g tc te σ H Q :=
  lcG_pf p f hz (fun i H2 _ hi => hi) (fun H2 _ => Nat.le_refl N) (fun i os v H2 H3 K1 K2 hi hos sm y k1 k2 => by
    obtain ⟨rfl, rfl⟩ := y
    exact he i os _ K1 K2 hi hos sm k1 k2) q
theorem lcG_enum {a : Addr} {xs : List V} (p : Nat → Bool) (f : Nat → V) (hq : SqL K H a xs) (hz : xs.length ≤ sizeLine)
    (he : ∀ (i : Nat) (os : St) v (t : Addr) H2 (K1 : VK) (K2 : Hp → Prop), xs[i]? = some v → os.length = n → Same H H2 → H2 t = none → (p i = true → ∀ H6, Same H2 H6 → K1 (f i) H6) → (p i = false → ∀ H5, Same H2 H5 → K2 H5) →
      g (.ref t) (os ++ caps is σ) (upd H2 t (.tup [.int i, v])) fun σ' H4 => (∃ os' : St, os'.length = n ∧ σ' = os' ++ caps is σ) ∧ tc σ' H4 fun b H5 => if b = true then te σ' H5 K1 else K2 H5)
    (q : ∀ D H', H D = none → Same H H' → H' D = some (.lst (((List.range xs.length).filter p).map f)) → Q (.ref D) H') : lcGoalG (Ite K a) n is g tc te σ H Q :=
  lcG_pf p f hz (fun i H2 sm hi => ⟨xs, xs[i], sm.seq hq, by simp [hi]⟩) (fun H2 sm => ⟨xs, sm.seq hq, rfl⟩) (fun i os v H2 H3 K1 K2 hi hos sm y k1 k2 => by
    obtain ⟨t, x, ht, rfl, rfl, y⟩ := y
    exact he i os x t _ K1 K2 (y xs (sm.seq hq)) hos sm ht k1 k2) q
end
/-! ### any of a list of truths -/
section
variable {X : Cx}
theorem any_getD : ∀ bs : List Bool, ((List.range bs.length).any fun i => bs.getD i false) = bs.any id
  | [] => rfl
  | b :: r => by
    rw [List.length_cons, List.range_succ_eq_map, List.any_cons, List.any_map, List.any_cons, ← any_getD r]
    rfl
theorem call_anyB (hc : X.calm = true) : CallR X (.builtin "any") (fun xs H Q => ∃ (p : Addr) (bs : List Bool), xs = [.ref p] ∧ SqL X.K H p (bs.map V.bl) ∧ Q (.bl (bs.any id)) H) := by
  intro pins s σ H xs us Q I r h
  obtain ⟨p, bs, rfl, hq, q⟩ := h
  obtain ⟨u, rfl, rx⟩ := vals1 r
  cases rx
  obtain ⟨its, rv, pl, hz⟩ := I.list hq
  have hl := rv.length
  rw [List.length_map] at hl
  have hlt : p < s.heap.objs.size := by obtain ⟨o, n, e, _⟩ := pl; exact Heap.lt_size e
  refine call_any_walk (wpAny_pyIter_list pl.isList ?_)
  refine ⟨s.heap.objs.size, [s.heap.objs.size, p], [s.heap.objs.size], its.toArray.size, _, _, fun i => bs.getD i false, rfl, Walks.list (show X.A.in1.handled = none from I.ok.hd hc) s.heap.objs.size p (Nat.ne_of_lt hlt) its.toArray,
    ⟨⟨_, Heap.get?_push_size _ rfl, rfl, rfl⟩, ?_⟩, fun i v s' Q' E' hv hQ => ?_, fun h' tk kk => ?_⟩
  · obtain ⟨o, e, r⟩ := pl.isList
    exact ⟨o, Heap.get?_push_of_some _ e, r⟩
  · have hi : i < bs.length := by
      have : i < its.length := by
        have := (Array.getElem?_eq_some_iff.mp hv).1
        simpa using this
      omega
    have hb : (bs.map V.bl)[i]? = some (V.bl bs[i]) := by simp [hi]
    obtain ⟨u, hu, ru⟩ := rv.get hb
    have hv' : its[i]? = some v := by simpa using hv
    rw [hu] at hv'
    cases hv'
    obtain rfl : v = Value.bool bs[i] := ru
    refine wpAny_truthy_bool ?_
    have e : bs.getD i false = bs[i] := by simp [List.getD, hi]
    rw [← e]
    exact hQ
  · refine ⟨.bl (bs.any id), H, ?_, ?_, q⟩
    · have I1 : Inv X pins σ H { s with heap := s.heap.push { cls := .type "list_iterator", data := .fields #[.ref p, .int 0 0] } } := I.kept (t' := s.toks) fun b o e => Heap.get?_push_of_some _ e
      have I2 : Inv X pins σ H { s with heap := h', toks := tk } := I.kept (t' := tk) fun b o e => kk b o (by
        intro z
        have z' : b = s.heap.objs.size := by simpa using z
        exact absurd (Heap.lt_size e) (by rw [z']; exact Nat.lt_irrefl _)) (Heap.get?_push_of_some _ e)
      exact I2
    · show Value.bool _ = Value.bool _
      congr 1
      rw [List.size_toArray, ← hl]
      exact any_getD bs
end
end L2
namespace J
open PySem PySem.Spec PyProof.Rows
open L2 (Cx V Hp St VK TE TT TA TS TG TGs TI TO SqL)
structure JTs (X : Cx) (cts : List Expr) (t : TT) : Prop where
  out : L2.PTs X cts t
section
variable {X : Cx} {x y : Str} {xs ns : List Str} {scope : Scope} {cl : List (Str × Addr)} {fp : List Addr} {s3 : Shared} {H3 : Hp} {C : Addr} {p pos spos py : Pos} {ct tg it elt : Expr} {cts : List Expr} {tc : TT} {te : TE} {wi : TI} {g : TG} {is : List Nat} {sc : Scope} {N : List Str} {iy : Nat}
theorem pe_lcB {x : Str} {px : Pos} (hc : X.calm = true) (hi : JI X (.Name x px) it wi) (L : L2.LcOk sc N x scope is ns) (he : ∀ cl fp s3 H3 C, JE (L2.lcCx X (x :: ns) scope cl fp s3 H3 C) elt te) (hsc : X.env.scope = sc) (hN : X.N = N) (hs : ∀ x, foldedSetIterable it X.env x = pure x := by intro _; rfl) :
    JE X (.ListComp elt [⟨.Name x px, it, [], 0⟩] scope pos) (L2.tLC wi is te) := ⟨L2.pe_lcB hc hi.out L (fun cl fp s3 H3 C => (he cl fp s3 H3 C).out) hsc hN hs⟩
theorem pts_nil : JTs X [] L2.tTru := ⟨L2.pts_nil⟩
theorem pts_one (h : JT X ct tc) : JTs X [ct] tc := ⟨L2.pts_one h.out⟩
theorem lcv {i : Nat} (h : scope.names.lookup y = some .local) (hi : xs[i]? = some y) (db : (y == ("__debug__" : Str)) = false) (cd : (y == ("__classdict__" : Str)) = false) : JE (L2.lcCx X xs scope cl fp s3 H3 C) (.Name y p) (L2.tVar i) :=
  ⟨L2.pe_var (i := i) hi (.inl (PySem.lookup_relabel_local h)) db cd⟩
theorem lcf {i : Nat} (h : scope.names.lookup y = some .free) (hi : xs[i]? = some y) (db : (y == ("__debug__" : Str)) = false) (cd : (y == ("__classdict__" : Str)) = false) : JE (L2.lcCx X xs scope cl fp s3 H3 C) (.Name y p) (L2.tVar i) :=
  ⟨L2.pe_var (i := i) hi (.inr (L2.relabel_vis h)) db cd⟩
theorem lct {i : Nat} (nd : xs.Nodup) (h : scope.names.lookup y = some .local) (hi : xs[i]? = some y) : JG (L2.lcCx X xs scope cl fp s3 H3 C) (.Name y p) (L2.gName i) :=
  ⟨L2.pg_name (i := i) nd hi (.inl (PySem.lookup_relabel_local h)) (.inr (PySem.lookup_relabel_local h))⟩
theorem lcG (hc : X.calm = true) (hi : JI X tg it wi) (L : L2.LcOkG sc N xs scope is ns) (hg : ∀ cl fp s3 H3 C, JG (L2.lcCx X (xs ++ ns) scope cl fp s3 H3 C) tg g) (hct : ∀ cl fp s3 H3 C, JTs (L2.lcCx X (xs ++ ns) scope cl fp s3 H3 C) cts tc) (he : ∀ cl fp s3 H3 C, JE (L2.lcCx X (xs ++ ns) scope cl fp s3 H3 C) elt te)
    (hsc : X.env.scope = sc) (hN : X.N = N) (hs : ∀ x, foldedSetIterable it X.env x = pure x := by intro _; rfl) : JE X (.ListComp elt [⟨tg, it, cts, 0⟩] scope pos) (L2.tLCG wi xs.length is g tc te) :=
  ⟨L2.pe_lcG hc hi.out L (fun cl fp s3 H3 C => (hg cl fp s3 H3 C).out) (fun cl fp s3 H3 C => (hct cl fp s3 H3 C).out) (fun cl fp s3 H3 C => (he cl fp s3 H3 C).out) hsc hN hs⟩
theorem setlcG (S : L2.Slot X iy y) (hnd : X.N.Nodup) (hc : X.calm = true) (hi : JI X tg it wi) (L : L2.LcOkG sc N xs scope is ns) (hg : ∀ cl fp s3 H3 C, JG (L2.lcCx X (xs ++ ns) scope cl fp s3 H3 C) tg g) (hct : ∀ cl fp s3 H3 C, JTs (L2.lcCx X (xs ++ ns) scope cl fp s3 H3 C) cts tc) (he : ∀ cl fp s3 H3 C, JE (L2.lcCx X (xs ++ ns) scope cl fp s3 H3 C) elt te)
    (hsc : X.env.scope = sc) (hN : X.N = N)
    (hw : ((if sc.kind.isAnnotationScope then ScopeKind.function else sc.kind) == .function && sc.names.lookup y == some .local && py.line == pos.line && !(scope.names.any fun (n, k) => n == y && (k == .local || k == .cell))) = true)
    (hs : ∀ x, foldedSetIterable it X.env x = pure x := by intro _; rfl) :
    JS X (.Assign [.Name y py] (.ListComp elt [⟨tg, it, cts, 0⟩] scope pos) spos) (L2.tAsg (L2.tLCG wi xs.length is g tc te) (L2.gName iy)) :=
  ⟨L2.ps_setlcG hnd S.hN S.lc S.fn (L2.swaps_yes hsc hw) hc hi.out L (fun cl fp s3 H3 C => (hg cl fp s3 H3 C).out) (fun cl fp s3 H3 C => (hct cl fp s3 H3 C).out) (fun cl fp s3 H3 C => (he cl fp s3 H3 C).out) hsc hN hs⟩
theorem call_anyB (hc : X.calm = true) : JF X (.builtin "any") (fun xs H Q => ∃ (p : Addr) (bs : List Bool), xs = [.ref p] ∧ SqL X.K H p (bs.map V.bl) ∧ Q (.bl (bs.any id)) H) := ⟨L2.call_anyB hc⟩
end
end J

namespace L2
open PySem PySem.Spec PyProof.Rows

/-! ### lists of pairs as tables -/
section
variable {κ : Type} [DecidableEq κ]
def valV (kvs : List (κ × V)) (k : κ) : Option V := (kvs.find? fun kv => decide (kv.1 = k)).map (·.2)
/-- in its place, or at the end -/
def putK (kvs : List (κ × V)) (k : κ) (v : V) : List (κ × V) :=
  if (kvs.any fun kv => decide (kv.1 = k)) = true then kvs.map (fun kv => if kv.1 = k then (kv.1, v) else kv) else kvs ++ [(k, v)]
def dropK (kvs : List (κ × V)) (k : κ) : List (κ × V) := kvs.filter fun kv => decide (kv.1 ≠ k)

theorem valV_pos {p : κ × V} {r : List (κ × V)} {k : κ} (e : p.1 = k) : valV (p :: r) k = some p.2 := by simp [valV, List.find?_cons, e]
theorem valV_neg {p : κ × V} {r : List (κ × V)} {k : κ} (e : ¬ p.1 = k) : valV (p :: r) k = valV r k := by simp [valV, List.find?_cons, e]
theorem valV_any (k : κ) : ∀ kvs : List (κ × V), (kvs.any fun kv => decide (kv.1 = k)) = (valV kvs k).isSome
  | [] => rfl
  | p :: r => by
    rw [List.any_cons]
    by_cases e : p.1 = k
    · simp only [valV_pos e, decide_eq_true e, Bool.true_or, Option.isSome_some]
    · rw [valV_neg e, decide_eq_false e, Bool.false_or]; exact valV_any k r
theorem valV_map (k j : κ) (y : V) : ∀ kvs : List (κ × V), valV (kvs.map fun kv => if kv.1 = k then (kv.1, y) else kv) j = (valV kvs j).map fun x => if j = k then y else x
  | [] => rfl
  | p :: r => by
    have ih := valV_map k j y r
    rw [List.map_cons]
    by_cases h : p.1 = k
    · rw [if_pos h]
      by_cases e : p.1 = j
      · rw [valV_pos (p := (p.1, y)) e, valV_pos e, Option.map_some, if_pos (e.symm.trans h)]
      · rw [valV_neg (p := (p.1, y)) e, valV_neg e, ih]
    · rw [if_neg h]
      by_cases e : p.1 = j
      · rw [valV_pos (p := p) e, valV_pos e, Option.map_some, if_neg (fun z => h (e.trans z))]
      · rw [valV_neg (p := p) e, valV_neg e, ih]
theorem valV_snoc (k j : κ) (y : V) : ∀ kvs : List (κ × V), valV kvs k = none → valV (kvs ++ [(k, y)]) j = if j = k then some y else valV kvs j
  | [], _ => by
    by_cases e : k = j
    · rw [if_pos e.symm]; exact valV_pos (p := (k, y)) e
    · rw [if_neg (fun z => e z.symm)]; exact valV_neg (p := (k, y)) e
  | p :: r, hn => by
    rw [List.cons_append]
    have hk : ¬ p.1 = k := fun z => by rw [valV_pos z] at hn; cases hn
    rw [valV_neg hk] at hn
    have ih := valV_snoc k j y r hn
    by_cases e : p.1 = j
    · rw [valV_pos e, valV_pos e, if_neg (fun z => hk (e.trans z))]
    · rw [valV_neg e, valV_neg e, ih]
theorem valV_put (kvs : List (κ × V)) (k j : κ) (y : V) : valV (putK kvs k y) j = if j = k then some y else valV kvs j := by
  unfold putK
  by_cases a : (kvs.any fun kv => decide (kv.1 = k)) = true
  · rw [if_pos a, valV_map]
    rw [valV_any] at a
    by_cases e : j = k
    · obtain ⟨x, hx⟩ := Option.isSome_iff_exists.mp a
      rw [if_pos e, e, hx, Option.map_some, if_pos rfl]
    · rw [if_neg e]
      cases valV kvs j with
      | none => rfl
      | some x => rw [Option.map_some, if_neg e]
  · rw [if_neg a]
    refine valV_snoc k j y kvs ?_
    rw [valV_any] at a
    cases q : valV kvs k with
    | none => rfl
    | some x => rw [q] at a; exact (a rfl).elim
theorem length_putK (kvs : List (κ × V)) (k : κ) (v : V) : (putK kvs k v).length ≤ kvs.length + 1 := by
  unfold putK
  split
  · rw [List.length_map]; omega
  · rw [List.length_append, List.length_cons, List.length_nil]; omega

theorem RelO.isSome_eq {o : Option V} {u : Option Value} (r : RelO o u) : o.isSome = u.isSome := by
  cases o with
  | none => cases u with
    | none => rfl
    | some _ => exact (show False from r).elim
  | some _ => cases u with
    | none => exact (show False from r).elim
    | some _ => rfl
theorem RelO.getD {o : Option V} {u : Option Value} {d : V} {d' : Value} (r : RelO o u) (rd : RelV d d') : RelV (o.getD d) (u.getD d') := by
  cases o with
  | none => cases u with
    | none => exact rd
    | some _ => exact (show False from r).elim
  | some _ => cases u with
    | none => exact (show False from r).elim
    | some _ => exact r

/-- raw tables of the same keys -/
theorem KV.val {kvs : List (κ × V)} {vs : List (κ × Value)} (r : KV kvs vs) (k : κ) : RelO (valV kvs k) (valueAt vs k) := by
  unfold KV at r
  induction r with
  | nil => exact True.intro
  | @cons p q ps qs h t ih =>
    obtain ⟨h1, h2⟩ := h
    by_cases e : p.1 = k
    · have e' : q.1 = k := h1.symm.trans e
      have b : valueAt (q :: qs) k = some q.2 := by simp [valueAt, List.find?_cons, e']
      rw [valV_pos e, b]; exact h2
    · have e' : ¬ q.1 = k := fun z => e (h1.trans z)
      have b : valueAt (q :: qs) k = valueAt qs k := by simp [valueAt, List.find?_cons, e']
      rw [valV_neg e, b]; exact ih
theorem KV.any {kvs : List (κ × V)} {vs : List (κ × Value)} (r : KV kvs vs) (k : κ) : (kvs.any fun kv => decide (kv.1 = k)) = vs.any fun kv => decide (kv.1 = k) := by
  unfold KV at r
  induction r with
  | nil => rfl
  | cons h t ih => rw [List.any_cons, List.any_cons, ih, h.1]
theorem KV.repl {kvs : List (κ × V)} {vs : List (κ × Value)} (r : KV kvs vs) (k : κ) {y : V} {u : Value} (ry : RelV y u) :
    KV (kvs.map fun kv => if kv.1 = k then (kv.1, y) else kv) (vs.map fun kv => if kv.1 = k then (kv.1, u) else kv) := by
  unfold KV at r ⊢
  induction r with
  | nil => exact .nil
  | @cons p q ps qs h t ih =>
    rw [List.map_cons, List.map_cons]
    refine .cons ?_ ih
    obtain ⟨h1, h2⟩ := h
    by_cases e : p.1 = k
    · rw [if_pos e, if_pos (h1.symm.trans e)]; exact ⟨h1, ry⟩
    · rw [if_neg e, if_neg (fun z => e (h1.trans z))]; exact ⟨h1, h2⟩
theorem KV.put {kvs : List (κ × V)} {vs : List (κ × Value)} (r : KV kvs vs) (k : κ) {y : V} {u : Value} (ry : RelV y u) : KV (putK kvs k y) (stored vs k u) := by
  unfold putK stored
  rw [r.any k]
  by_cases e : (vs.any fun kv => decide (kv.1 = k)) = true
  · rw [if_pos e, if_pos e]; exact r.repl k ry
  · rw [if_neg e, if_neg e]; exact Paired.snoc r ⟨rfl, ry⟩
theorem KV.length {kvs : List (κ × V)} {vs : List (κ × Value)} (r : KV kvs vs) : kvs.length = vs.length := Paired.length r
end


/-! ### a tracked dict, its keys ints and texts or tuples of these -/
theorem kV_is {P : Program} {w : World} {k : Key} {u : Value} (r : RelV (kV k) u) : (mixKind P w).is k u = true := by
  cases k with
  | inl i => obtain ⟨t, e⟩ := (show ∃ t, u = Value.int i t from r); subst e; exact mixKind_int P w i t
  | inr x => obtain ⟨t, e⟩ := (show ∃ t, u = Value.str x t from r); subst e; exact mixKind_str P w x t
theorem items_are {P : Program} {w : World} : ∀ {ks : List Key} {us : List Value}, Vals (ks.map kV) us → ItemsAre (mixKind P w) ks us
  | [], _, r => by rw [List.map_nil] at r; cases r; exact .nil
  | k :: ks, _, r => by
    rw [List.map_cons] at r
    cases r with
    | cons h t => exact .cons (kV_is h) (items_are t)

/-- raw entries of a dict with tuple keys -/
abbrev KT (H : Hp) : List (List Key × V) → List (List Key × Addr × Value) → Prop := Paired fun p q => p.1 = q.1 ∧ H q.2.1 = some (.tup (p.1.map kV)) ∧ RelV p.2 q.2.2
theorem KT.val {H : Hp} {kvs : List (List Key × V)} {xs : List (List Key × Addr × Value)} (r : KT H kvs xs) (k : List Key) : RelO (valV kvs k) ((atKey xs k).map (·.2)) := by
  induction r with
  | nil => exact True.intro
  | @cons p q ps qs h t ih =>
    obtain ⟨h1, _, h2⟩ := h
    by_cases e : p.1 = k
    · have e' : q.1 = k := h1.symm.trans e
      have b : atKey (q :: qs) k = some q.2 := by simp [atKey, List.find?_cons, e']
      rw [valV_pos e, b]; exact h2
    · have e' : ¬ q.1 = k := fun z => e (h1.trans z)
      have b : atKey (q :: qs) k = atKey qs k := by simp [atKey, List.find?_cons, e']
      rw [valV_neg e, b]; exact ih
theorem KT.repl {H : Hp} {kvs : List (List Key × V)} {xs : List (List Key × Addr × Value)} (r : KT H kvs xs) (k : List Key) {y : V} {u : Value} (ry : RelV y u) :
    KT H (kvs.map fun kv => if kv.1 = k then (kv.1, y) else kv) (xs.map (putAt k u)) := by
  induction r with
  | nil => exact .nil
  | @cons p q ps qs h t ih =>
    rw [List.map_cons, List.map_cons]
    refine .cons ?_ ih
    obtain ⟨h1, h2, h3⟩ := h
    unfold putAt
    by_cases e : p.1 = k
    · rw [if_pos e, if_pos (h1.symm.trans e)]; exact ⟨h1, h2, ry⟩
    · rw [if_neg e, if_neg (fun z => e (h1.trans z))]; exact ⟨h1, h2, h3⟩
theorem KT.put {H : Hp} {kvs : List (List Key × V)} {xs : List (List Key × Addr × Value)} (r : KT H kvs xs) (k : List Key) {b : Addr} {y : V} {u : Value} (hb : H b = some (.tup (k.map kV))) (ry : RelV y u) :
    KT H (putK kvs k y) (storedH xs k b u) := by
  have e : (kvs.any fun kv => decide (kv.1 = k)) = (atKey xs k).isSome := by
    rw [valV_any, (r.val k).isSome_eq, Option.isSome_map]
  unfold putK storedH
  rw [e]
  by_cases q : (atKey xs k).isSome = true
  · rw [if_pos q, if_pos q]; exact r.repl k ry
  · rw [if_neg q, if_neg q]; exact Paired.snoc r ⟨rfl, hb, ry⟩
theorem KT.keeps {H H' : Hp} {kvs : List (List Key × V)} {xs : List (List Key × Addr × Value)} (r : KT H kvs xs) (ht : ∀ b ys, H b = some (.tup ys) → H' b = some (.tup ys)) : KT H' kvs xs :=
  Paired.mapP r fun _ _ z => ⟨z.1, ht _ _ z.2.1, z.2.2⟩

section
variable {P : Program} {w : World} {H : Hp} {h : Heap} {a : Addr}
theorem rd_of {u : HO} (ok : HOk P w H h) (e : Rd H a u) : ObjOk P w H h a u := e.ok ok
theorem dk_rd {kvs : List (Key × V)} (ok : HOk P w H h) (e : Rd H a (.dK kvs)) : kvs.length ≤ sizeLine ∧ (a == sysModules) = false ∧ ∃ vs, KV kvs vs ∧ h.DictOf (mixKind P w) a vs :=
  show ObjOk P w H h a (.dK kvs) from rd_of ok e
theorem dk_of {kvs : List (Key × V)} (ok : HOk P w H h) (e : H a = some (.dK kvs)) : kvs.length ≤ sizeLine ∧ (a == sysModules) = false ∧ ∃ vs, KV kvs vs ∧ h.DictOf (mixKind P w) a vs := dk_rd ok (.inl e)
/-- a tracked tuple of ints and texts is a key -/
theorem key_of {ks : List Key} (ok : HOk P w H h) (e : H a = some (.tup (ks.map kV))) : (tupleKind (mixKind P w)).is h ks a := by
  obtain ⟨_, its, r, o, h1, h2, n, h3⟩ := (show ObjOk P w H h a (.tup (ks.map kV)) from ok a _ e)
  exact ⟨o, its.toArray, n, h1, h2, h3, by simpa using items_are r⟩
theorem dt_rd {kvs : List (List Key × V)} (ok : HOk P w H h) (e : Rd H a (.dT kvs)) : kvs.length ≤ sizeLine ∧ (a == sysModules) = false ∧
    ∃ xs, KT H kvs xs ∧ h.DictOfH (tupleKind (mixKind P w)) a xs := by
  obtain ⟨z, y, xs, r, o, es, ep, h1, h2, h3, h4, h5⟩ := (show ObjOk P w H h a (.dT kvs) from rd_of ok e)
  refine ⟨z, y, xs, r, o, es, ep, h1, h2, h3, h4, fun x hx => ?_, h5⟩
  have all : ∀ {l : List (List Key × V)} {m : List (List Key × Addr × Value)}, KT H l m → ∀ x ∈ m, (tupleKind (mixKind P w)).is h x.1 x.2.1 := by
    intro l m q
    induction q with
    | nil => intro x hx; exact nomatch hx
    | @cons p q ps qs hq t ih =>
      intro x hx
      rcases List.mem_cons.mp hx with e | hx
      · subst e
        exact key_of ok (by rw [← hq.1]; exact hq.2.1)
      · exact ih x hx
  exact all r x hx
theorem dt_of {kvs : List (List Key × V)} (ok : HOk P w H h) (e : H a = some (.dT kvs)) : kvs.length ≤ sizeLine ∧ (a == sysModules) = false ∧
    ∃ xs, KT H kvs xs ∧ h.DictOfH (tupleKind (mixKind P w)) a xs := dt_rd ok (.inl e)
end

/-- what the dict at a holds at the key y -/
def DGet (H : Hp) (a : Addr) (y : V) (r : Option V) : Prop :=
  (∃ kvs k, Rd H a (.dK kvs) ∧ y = kV k ∧ r = valV kvs k) ∨ ∃ kvs k b, Rd H a (.dT kvs) ∧ y = .ref b ∧ H b = some (.tup (k.map kV)) ∧ r = valV kvs k
/-- the heap behind a[y] = v -/
def DPut (H : Hp) (a : Addr) (y v : V) (H' : Hp) : Prop :=
  (∃ kvs k, H a = some (.dK kvs) ∧ y = kV k ∧ kvs.length < sizeLine ∧ H' = upd H a (.dK (putK kvs k v))) ∨
  ∃ kvs k b, H a = some (.dT kvs) ∧ y = .ref b ∧ H b = some (.tup (k.map kV)) ∧ kvs.length < sizeLine ∧ H' = upd H a (.dT (putK kvs k v))
theorem DGet.k {H : Hp} {a : Addr} {kvs : List (Key × V)} {k : Key} (e : H a = some (.dK kvs)) : DGet H a (kV k) (valV kvs k) := .inl ⟨kvs, k, .inl e, rfl, rfl⟩
theorem DGet.t {H : Hp} {a b : Addr} {kvs : List (List Key × V)} {k : List Key} (e : H a = some (.dT kvs)) (eb : H b = some (.tup (k.map kV))) : DGet H a (.ref b) (valV kvs k) := .inr ⟨kvs, k, b, .inl e, rfl, eb, rfl⟩
theorem DPut.k {H : Hp} {a : Addr} {kvs : List (Key × V)} {k : Key} {v : V} (e : H a = some (.dK kvs)) (hl : kvs.length < sizeLine) : DPut H a (kV k) v (upd H a (.dK (putK kvs k v))) := .inl ⟨kvs, k, e, rfl, hl, rfl⟩
theorem DPut.t {H : Hp} {a b : Addr} {kvs : List (List Key × V)} {k : List Key} {v : V} (e : H a = some (.dT kvs)) (eb : H b = some (.tup (k.map kV))) (hl : kvs.length < sizeLine) :
    DPut H a (.ref b) v (upd H a (.dT (putK kvs k v))) := .inr ⟨kvs, k, b, e, rfl, eb, hl, rfl⟩


section
variable {X : Cx} {pins : List (Addr × Obj)} {σ : St} {H : Hp} {s : Shared} {a : Addr} {y v : V} {u r : Value} {o : Option V} {A : Around} {E : Value → Shared → Prop}

theorem Inv.big (I : Inv X pins σ H s) : sysModules < s.heap.objs.size := by
  have h : mainGlobals < s.heap.objs.size := (I.mod.glob.keeps I.bk).lt
  exact Nat.lt_trans (by decide) h

/-- d[y], there -/
theorem d_getItem {Q : Value → Shared → Prop} (hu : A.units + 1 < cLine) (I : Inv X pins σ H s) (g : DGet H a y (some v)) (ry : RelV y u) (h : ∀ w' s', Inv X pins σ H s' → RelV v w' → Q w' s') :
    wpAny (model X.prog X.w) A (getItem (.ref a) u) Q E s := by
  rcases g with ⟨kvs, k, e, ey, l⟩ | ⟨kvs, k, b, e, ey, eb, l⟩
  · subst ey
    obtain ⟨z, hd, vs, rel, dd⟩ := dk_rd I.hok e
    obtain ⟨w', hw, rw'⟩ := RelO.some_of (v := v) (o := valueAt vs k) (by rw [l]; exact rel.val k)
    exact wpAny_getItem_of (kV_is ry) dd.mapOf hw (h w' _ (I.tok _) rw')
  · subst ey
    cases (show u = Value.ref b from ry)
    obtain ⟨z, hd, xs, rel, dd⟩ := dt_rd I.hok e
    obtain ⟨w', hw, rw'⟩ := RelO.some_of (v := v) (o := (atKey xs k).map (·.2)) (by rw [l]; exact rel.val k)
    obtain ⟨p, hp, hp2⟩ := Option.map_eq_some_iff.mp hw
    refine wpAny_getItem_heap (tupleKind_room_in1 hu) (key_of I.hok eb) dd hp ?_
    rw [hp2]
    exact h w' _ (I.tok _) rw'
/-- y in d -/
theorem d_in {Q : Value → Shared → Prop} (hu : A.units + 1 < cLine) (I : Inv X pins σ H s) (g : DGet H a y o) (ry : RelV y u) (h : ∀ s', Inv X pins σ H s' → Q (.bool o.isSome) s') :
    wpAny (model X.prog X.w) A (compareOp .In u (.ref a)) Q E s := by
  rcases g with ⟨kvs, k, e, ey, l⟩ | ⟨kvs, k, b, e, ey, eb, l⟩
  · subst ey
    obtain ⟨z, hd, vs, rel, dd⟩ := dk_rd I.hok e
    refine wpAny_in_of (kV_is ry) hd dd.mapOf ?_
    rw [← (rel.val k).isSome_eq, ← l]
    exact h _ (I.tok _)
  · subst ey
    cases (show u = Value.ref b from ry)
    obtain ⟨z, hd, xs, rel, dd⟩ := dt_rd I.hok e
    refine wpAny_in_heap (tupleKind_room_in1 hu) (key_of I.hok eb) hd dd ?_
    have q := (rel.val k).isSome_eq
    rw [Option.isSome_map] at q
    rw [← q, ← l]
    exact h _ (I.tok _)
theorem d_notIn {Q : Value → Shared → Prop} (hu : A.units + 1 < cLine) (I : Inv X pins σ H s) (g : DGet H a y o) (ry : RelV y u) (h : ∀ s', Inv X pins σ H s' → Q (.bool (!o.isSome)) s') :
    wpAny (model X.prog X.w) A (compareOp .NotIn u (.ref a)) Q E s := by
  rcases g with ⟨kvs, k, e, ey, l⟩ | ⟨kvs, k, b, e, ey, eb, l⟩
  · subst ey
    obtain ⟨z, hd, vs, rel, dd⟩ := dk_rd I.hok e
    refine wpAny_notIn_of (kV_is ry) hd dd.mapOf ?_
    rw [← (rel.val k).isSome_eq, ← l]
    exact h _ (I.tok _)
  · subst ey
    cases (show u = Value.ref b from ry)
    obtain ⟨z, hd, xs, rel, dd⟩ := dt_rd I.hok e
    refine wpAny_notIn_heap (tupleKind_room_in1 hu) (key_of I.hok eb) hd dd ?_
    have q := (rel.val k).isSome_eq
    rw [Option.isSome_map] at q
    rw [← q, ← l]
    exact h _ (I.tok _)
/-- a dict's object is replaced -/
theorem d_write {h' : Heap} {t' : Nat} {ob : HO} (I : Inv X pins σ H s) (mu : Mut (H a)) (hs : Heap.SameBut a s.heap h') (he : ∃ q, h'.get? a = some q) (new : ObjOk X.prog X.w (upd H a ob) h' a ob) :
    Inv X pins σ (upd H a ob) { s with heap := h', toks := t' } :=
  I.write (x := a) (e := a) mu (.inl rfl) (fun b q hb z => (hs.2 b hb).trans z) he new
theorem dk_new {P : Program} {w : World} {H' : Hp} {h' : Heap} {kvs : List (Key × V)} {vs : List (Key × Value)} (z : kvs.length ≤ sizeLine) (hd : (a == sysModules) = false) (rel : KV kvs vs) (dd : h'.DictOf (mixKind P w) a vs) :
    ObjOk P w H' h' a (.dK kvs) := ⟨z, hd, vs, rel, dd⟩
/-- d[y] = v -/
theorem d_setItem {H' : Hp} {Q : Unit → Shared → Prop} (hu : A.units + 1 < cLine) (I : Inv X pins σ H s) (g : DPut H a y v H') (ry : RelV y u) (rv : RelV v r) (h : ∀ s', Inv X pins σ H' s' → Q () s') :
    wpAny (model X.prog X.w) A (setItem (.ref a) u r) Q E s := by
  rcases g with ⟨kvs, k, e, ey, l, eH⟩ | ⟨kvs, k, b, e, ey, eb, l, eH⟩
  · subst ey eH
    obtain ⟨z, hd, vs, rel, dd⟩ := dk_of I.hok e
    have hz : vs.length ≤ sizeLine := by rw [← rel.length]; exact z
    have hl : (putK kvs k v).length ≤ sizeLine := by have := length_putK kvs k v; omega
    refine wpAny_setItem_pairs (hsz := hz) (kV_is ry) dd fun h' dd' hs => h _ ?_
    have he : ∃ q, h'.get? a = some q := let ⟨q, _, _, hq, _⟩ := dd'; ⟨q, hq⟩
    exact d_write I (by rw [e]; exact True.intro) hs he (dk_new hl hd (rel.put k rv) dd')
  · subst ey eH
    cases (show u = Value.ref b from ry)
    obtain ⟨z, hd, xs, rel, dd⟩ := dt_of I.hok e
    have hz : xs.length ≤ sizeLine := by rw [← Paired.length rel]; exact z
    have hl : (putK kvs k v).length ≤ sizeLine := by have := length_putK kvs k v; omega
    refine wpAny_setItem_heap (hsz := hz) (tupleKind_room_in1 hu) (key_of I.hok eb) dd fun h' dd' hs => h _ ?_
    obtain ⟨q, es, ep, hq, h2, h3, h4, _, h5⟩ := dd'
    refine d_write I (by rw [e]; exact True.intro) hs ⟨q, hq⟩ ⟨hl, hd, _, (rel.put k eb rv).keeps fun c ys ec => ?_, q, es, ep, hq, h2, h3, h4, h5⟩
    rw [upd_ne (ne_of ec e (fun z => nomatch z))]
    exact ec
end

section
variable {X : Cx} {pins : List (Addr × Obj)} {σ : St} {H : Hp} {s : Shared} {a : Addr} {kvs : List (Key × V)} {k : Key} {u : Value} {A : Around} {E : Value → Shared → Prop}
end


/-! ### readings and rules -/
/-- the element of a subscription, not a slice -/
def NoSl (i : Expr) : Prop := ∀ ov iv, subscripted i false ov iv = operate [ov, iv] (getItem ov iv)
theorem subD_of {prog : Program} {w : World} {A : Around} {E : Value → Shared → Prop} {s : Shared} {env : Env} {value slice : Expr} {pos : Pos} {T id : String} {Q : Value → Shared → Prop}
    (hl : typeLookup (.type T) "__getitem__" = pure (some (.builtin id))) (hs : NoSl slice)
    (h : wpAny (model prog w) A (eval value env) (fun o s₁ => wpAny (model prog w) A (eval slice env) (fun i s₂ => s₂.TypeIs o T ∧ wpAny (model prog w) A (getItem o i) Q E s₂) E s₁) E s) :
    wpAny (model prog w) A (eval (.Subscript value slice pos) env) Q E s := by
  refine Subscript_ (wpAny_mono h (fun o s₁ h₁ => wpAny_mono h₁ (fun i s₂ h₂ => ?_) fun _ _ x => x) fun _ _ x => x)
  obtain ⟨hT, h₂⟩ := h₂
  unfold subscriptTail
  refine wpAny_bind ?_
  rw [getitemInPython_of_ne hT.not_modules]
  refine wpAny_bind (wpAny_specialOf hT hl ?_)
  have fin : wpAny (model prog w) A (subscripted slice false o i) (fun r s₃ => wpAny (model prog w) A (letTemporaryGo value o r >>= fun _ => pure r) Q E s₃) E s₂ := by
    rw [hs o i]
    exact wpAny_operating (wpAny_mono h₂ (fun r s₃ h₃ => wpAny_bind (wpAny_letTemporaryGo (wpAny_pure h₃))) fun _ _ x => x)
  first
    | exact wpAny_pure (wpAny_bind fin)
    | exact wpAny_bind (wpAny_pure (wpAny_bind fin))
    | exact wpAny_bind fin

theorem dict_typeIs {X : Cx} {pins : List (Addr × Obj)} {σ : St} {H : Hp} {s : Shared} {a : Addr} {y : V} {o : Option V} (I : Inv X pins σ H s) (g : DGet H a y o) : s.TypeIs (.ref a) "dict" := by
  rcases g with ⟨kvs, k, e, _, _⟩ | ⟨kvs, k, b, e, _, _, _⟩
  · obtain ⟨_, _, vs, _, dd⟩ := dk_rd I.hok e
    exact dd.typeIs
  · obtain ⟨_, _, xs, _, dd⟩ := dt_rd I.hok e
    exact dd.typeIs

/-- d[y] -/
def tDGet (td ty : TE) : TE := fun σ H Q => td σ H fun x H1 => ty σ H1 fun y H2 => ∃ a v, x = .ref a ∧ DGet H2 a y (some v) ∧ Q v H2
/-- y in d, y not in d -/
def tDIn (ty td : TE) : TE := fun σ H Q => ty σ H fun y H1 => td σ H1 fun x H2 => ∃ a o, x = .ref a ∧ DGet H2 a y o ∧ Q (.bl o.isSome) H2
def tDNotIn (ty td : TE) : TE := fun σ H Q => ty σ H fun y H1 => td σ H1 fun x H2 => ∃ a o, x = .ref a ∧ DGet H2 a y o ∧ Q (.bl (!o.isSome)) H2
/-- d[y] = v -/
def sDPut (td ty tv : TE) : TS := fun D σ H => tv σ H fun v H1 => td σ H1 fun x H2 => ty σ H2 fun y H3 => ∃ a H4, x = .ref a ∧ DPut H3 a y v H4 ∧ D.nx σ H4
/-- d[y] op= v -/
def sDAug (td ty tv : TE) (rd : V → V → Hp → VK → Prop) : TS := fun D σ H => td σ H fun x H1 => ty σ H1 fun y H2 => ∃ a v, x = .ref a ∧ DGet H2 a y (some v) ∧
  tv σ H2 fun y2 H3 => rd v y2 H3 fun z H4 => ∃ H5, DPut H4 a y z H5 ∧ D.nx σ H5
/-- del d[y] -/
def sDDel (td ty : TE) : TS := fun D σ H => td σ H fun x H1 => ty σ H1 fun y H2 => ∃ a kvs k, x = .ref a ∧ H2 a = some (.dK kvs) ∧ y = kV k ∧ (valV kvs k).isSome = true ∧ D.nx σ (upd H2 a (.dK (dropK kvs k)))

section
variable {X : Cx} {o i e value : Expr} {pos pos' tpos : Pos} {td ty tv : TE}
theorem pe_dget (hu : X.A.units + 1 < cLine) (ho : PE X o td) (hi : PE X i ty) (hs : NoSl i) : PE X (.Subscript o i pos) (tDGet td ty) := by
  intro pins s σ H Q I h
  refine subD_of PySem.F.slot_dict_getitem.lookup hs (thn (ho pins s σ H _ I h) fun u s1 ⟨x, H1, I1, rx, q1⟩ => thn (hi pins s1 σ H1 _ I1 q1) fun iv s2 hpat => ?_)
  obtain ⟨y, H2, I2, ry, a, v, ex, g, q2⟩ := hpat
  subst ex
  obtain rfl : u = Value.ref a := rx
  exact ⟨dict_typeIs I2 g, d_getItem hu I2 g ry fun w' s3 I3 rw' => ⟨v, H2, I3, rw', q2⟩⟩
theorem pc_din (hu : X.A.units + 1 < cLine) (hi : PE X i ty) (ho : PE X o td) : PC X .In i o (tDIn ty td) := by
  intro pins s σ H Q I h
  refine thn (hi pins s σ H _ I h) fun iv s1 ⟨y, H1, I1, ry, q1⟩ => thn (ho pins s1 σ H1 _ I1 q1) fun u s2 hpat => ?_
  obtain ⟨x, H2, I2, rx, a, ov, ex, g, q2⟩ := hpat
  subst ex
  obtain rfl : u = Value.ref a := rx
  exact d_in hu I2 g ry fun s3 I3 => ⟨.bl ov.isSome, H2, I3, rfl, q2⟩
theorem pc_dnotin (hu : X.A.units + 1 < cLine) (hi : PE X i ty) (ho : PE X o td) : PC X .NotIn i o (tDNotIn ty td) := by
  intro pins s σ H Q I h
  refine thn (hi pins s σ H _ I h) fun iv s1 ⟨y, H1, I1, ry, q1⟩ => thn (ho pins s1 σ H1 _ I1 q1) fun u s2 hpat => ?_
  obtain ⟨x, H2, I2, rx, a, ov, ex, g, q2⟩ := hpat
  subst ex
  obtain rfl : u = Value.ref a := rx
  exact d_notIn hu I2 g ry fun s3 I3 => ⟨.bl (!ov.isSome), H2, I3, rfl, q2⟩
theorem ps_dput (hu : X.A.units + 1 < cLine) (ho : PE X o td) (hi : PE X i ty) (hv : PE X value tv) (hs : swapsWith value (some (.Subscript o i pos')) pos.line X.env = pure false) :
    PS X (.Assign [.Subscript o i pos'] value pos) (sDPut td ty tv) := by
  intro pins s σ H D I h
  refine wpAny_Assign_Subscript (thn (hv pins s σ H _ I h) fun r s1 ⟨v, H1, I1, rv, q1⟩ => thn (ho pins s1 σ H1 _ I1 q1) fun u s2 ⟨x, H2, I2, rx, q2⟩ => thn (hi pins s2 σ H2 _ I2 q2) fun iv s3 hpat => ?_) hs
  obtain ⟨y, H3, I3, ry, a, H4, ex, g, q3⟩ := hpat
  subst ex
  obtain rfl : u = Value.ref a := rx
  exact d_setItem hu I3 g ry rv fun s4 I4 => ⟨σ, H4, I4, q3⟩
end


/-! ### displays -/
theorem dk_empty {P : Program} {w : World} {H : Hp} (h : Heap) (hb : sysModules < h.objs.size) : ObjOk P w H (h.push { cls := .type "dict", data := .dict #[] }) h.objs.size (.dK []) :=
  ⟨Nat.zero_le _, beq_eq_false_iff_ne.mpr (Ne.symm (Nat.ne_of_lt hb)), [], .nil, Heap.DictOf.new h⟩
theorem dt_empty {P : Program} {w : World} {H : Hp} (h : Heap) (hb : sysModules < h.objs.size) : ObjOk P w H (h.push { cls := .type "dict", data := .dict #[] }) h.objs.size (.dT []) :=
  ⟨Nat.zero_le _, beq_eq_false_iff_ne.mpr (Ne.symm (Nat.ne_of_lt hb)), [], .nil, _, #[], 0, Heap.get?_push_size _ rfl, ⟨rfl, rfl, rfl⟩, rfl, rfl, List.nodup_nil⟩
/-- {}, to be a dict of the kind that is wanted -/
def tDNewK : TE := fun _ H Q => ∀ p, H p = none → Q (.ref p) (upd H p (.dK []))
def tDNewT : TE := fun _ H Q => ∀ p, H p = none → Q (.ref p) (upd H p (.dT []))
section
variable {X : Cx} {pos : Pos}
theorem pe_dnewT : PE X (.Dict [] [] pos) tDNewT := fun pins s σ H Q I h =>
  wpAny_Dict_empty ⟨.ref s.heap.objs.size, _, I.laid (a := s.heap.objs.size) (o := .dT []) (t' := s.toks) (fun _ _ q => Heap.get?_push_of_some _ q) (Nat.le_refl _) (dt_empty s.heap I.big), rfl, h _ (I.hok.fresh (Nat.le_refl _))⟩
end

/-- the pairs of a display, from the left -/
def tPairs : List (TE × TE) → St → Hp → (List (V × V) → Hp → Prop) → Prop
  | [], _, H, Q => Q [] H
  | (tk, tv) :: r, σ, H, Q => tk σ H fun x H1 => tv σ H1 fun y H2 => tPairs r σ H2 fun ps H3 => Q ((x, y) :: ps) H3
abbrev VV : List (V × V) → List (Value × Value) → Prop := Paired fun p q => RelV p.1 q.1 ∧ RelV p.2 q.2
def PPs (X : Cx) (pos : Pos) (keys : List (Option Expr)) (values : List Expr) (trs : List (TE × TE)) : Prop :=
  ∀ (pins : List (Addr × Obj)) (s : Shared) (σ : St) (H : Hp) (Q : List (V × V) → Hp → Prop), Inv X pins σ H s → tPairs trs σ H Q →
    wpAny (model X.prog X.w) X.A (evalPairs (pairTrees keys values X.env pos)) (fun vs s' => ∃ ps H', Inv X pins σ H' s' ∧ VV ps vs ∧ Q ps H') X.xe s
theorem pps_nil {X : Cx} {pos : Pos} : PPs X pos [] [] [] := fun pins s σ H Q I h => pairTrees_nil_walk ⟨[], H, I, .nil, h⟩
theorem pps_cons {X : Cx} {pos : Pos} {k v : Expr} {ks : List (Option Expr)} {vs : List Expr} {tk tv : TE} {trs : List (TE × TE)} (hk : PE X k tk) (hv : PE X v tv) (hr : PPs X pos ks vs trs) :
    PPs X pos (some k :: ks) (v :: vs) ((tk, tv) :: trs) := fun pins s σ H Q I h =>
  pairTrees_cons_walk (thn (hk pins s σ H _ I h) fun u s1 ⟨x, H1, I1, rx, q1⟩ => thn (hv pins s1 σ H1 _ I1 q1) fun w2 s2 ⟨y, H2, I2, ry, q2⟩ =>
    thn (hr pins s2 σ H2 _ I2 q2) fun ws s3 ⟨ps, H3, I3, rel, q3⟩ => ⟨(x, y) :: ps, H3, I3, .cons ⟨rx, ry⟩ rel, q3⟩)

def mergeK (kvs more : List (Key × V)) : List (Key × V) := more.foldl (fun acc kv => putK acc kv.1 kv.2) kvs
theorem KV.merge : ∀ {more : List (Key × V)} {rs : List (Key × Value)} {kvs : List (Key × V)} {vs : List (Key × Value)}, KV more rs → KV kvs vs → KV (mergeK kvs more) (merged vs rs) := by
  intro more rs kvs vs r
  unfold KV at r
  induction r generalizing kvs vs with
  | nil => intro q; exact q
  | @cons p q ps qs h t ih =>
    intro r0
    have e : KV (putK kvs p.1 p.2) (stored vs q.1 q.2) := by
      have := r0.put p.1 h.2
      rw [← h.1]; exact this
    exact ih e
theorem length_mergeK : ∀ (more kvs : List (Key × V)), (mergeK kvs more).length ≤ kvs.length + more.length
  | [], kvs => by show kvs.length ≤ kvs.length + 0; omega
  | p :: r, kvs => by
    have h1 := length_mergeK r (putK kvs p.1 p.2)
    have h2 := length_putK kvs p.1 p.2
    show (mergeK (putK kvs p.1 p.2) r).length ≤ _
    rw [List.length_cons]; omega
theorem carries_of {P : Program} {w : World} : ∀ {kvs : List (Key × V)} {ws : List (Value × Value)}, VV (kvs.map fun kv => (kV kv.1, kv.2)) ws → ∃ rs, Carries (mixKind P w) ws rs ∧ KV kvs rs
  | [], _, r => by rw [List.map_nil] at r; cases r; exact ⟨[], True.intro, .nil⟩
  | p :: kvs, _, r => by
    rw [List.map_cons] at r
    cases r with
    | @cons a b as bs h t =>
      obtain ⟨rs, c, q⟩ := carries_of (P := P) (w := w) t
      obtain ⟨b1, b2⟩ := b
      exact ⟨(p.1, b2) :: rs, ⟨kV_is h.1, rfl, c⟩, .cons ⟨rfl, h.2⟩ q⟩
/-- {k: v, ..} with keys ints and texts; the new dict stands empty while the pairs are made -/
def tDisp (trs : List (TE × TE)) : TE := fun σ H Q => ∀ p, H p = none → tPairs trs σ (upd H p (.dK [])) fun ps H2 => H2 p = some (.dK []) ∧ ∃ kvs : List (Key × V), ps = kvs.map (fun kv => (kV kv.1, kv.2)) ∧ kvs.length ≤ 15 ∧ Q (.ref p) (upd H2 p (.dK (mergeK [] kvs)))
theorem pe_disp {X : Cx} {pos : Pos} {keys : List (Option Expr)} {values : List Expr} {trs : List (TE × TE)} (h : PPs X pos keys values trs) (hall : keys.all (·.isSome) = true) (hl : keys.length = values.length) (h0 : keys ≠ [])
    (h15 : keys.length ≤ 15) : PE X (.Dict keys values pos) (tDisp trs) := by
  intro pins s σ H Q I q
  have hn := I.hok.fresh (Nat.le_refl s.heap.objs.size)
  have I1 := I.laid (a := s.heap.objs.size) (o := .dK []) (h' := s.heap.push { cls := .type "dict", data := .dict #[] }) (t' := s.toks) (fun _ _ q => Heap.get?_push_of_some _ q) (Nat.le_refl _) (dk_empty s.heap I.big)
  refine wpAny_Dict_walk (knd := mixKind X.prog X.w) hall hl h0 h15 (thn (h pins _ σ _ _ I1 (q _ hn)) fun ws s2 hpat => ?_)
  obtain ⟨ps, H2, I2, rel, e, kvs, ep, lk, q2⟩ := hpat
  subst ep
  obtain ⟨rs, c, rk⟩ := carries_of (P := X.prog) (w := X.w) rel
  obtain ⟨z, hd, vs0, r0, dd⟩ := dk_of I2.hok e
  cases r0
  refine ⟨rs, c, dd, fun h' dd' hs => ⟨.ref s.heap.objs.size, _, ?_, rfl, q2⟩⟩
  have hz : (mergeK [] kvs).length ≤ sizeLine := by
    have h1 := length_mergeK kvs []
    rw [List.length_nil] at h1
    rw [sizeLine_eq]; omega
  have he : ∃ q, h'.get? s.heap.objs.size = some q := let ⟨q, _, _, hq, _⟩ := dd'; ⟨q, hq⟩
  exact d_write I2 (by rw [e]; exact True.intro) hs he (dk_new hz hd (rk.merge .nil) dd')


/-! ### methods -/
/-- a method call o.m(e) of a built-in, with one argument: what must be seen of the text -/
structure M1 (X : Cx) (o : Expr) (m : Str) (apos : Pos) (e : Expr) (cpos : Pos) : Prop where
  base : attributeBase o m X.env (eval o X.env) = eval o X.env
  few : ((backTo cpos (starEach [e] X.env)).all (fun x => !x.1) && (backToKw cpos (keywordEach [] X.env)).all (fun x => x.1.isSome)
    && decide (([e] : List Expr).length + ([] : List Keyword).length + (if ([] : List Keyword).isEmpty then 0 else 1) < 30)) = true
  line : (apos.endLine == cpos.line) = true
  trees : backTo cpos (starEach [e] X.env) = [(false, eval e X.env)]
structure M2 (X : Cx) (o : Expr) (m : Str) (apos : Pos) (e f : Expr) (cpos : Pos) : Prop where
  base : attributeBase o m X.env (eval o X.env) = eval o X.env
  few : ((backTo cpos (starEach [e, f] X.env)).all (fun x => !x.1) && (backToKw cpos (keywordEach [] X.env)).all (fun x => x.1.isSome)
    && decide (([e, f] : List Expr).length + ([] : List Keyword).length + (if ([] : List Keyword).isEmpty then 0 else 1) < 30)) = true
  line : (apos.endLine == cpos.line) = true
  trees : backTo cpos (starEach [e, f] X.env) = [(false, eval e X.env), (false, eval f X.env)]

/-- a is a dict, whatever its keys -/
def IsD (H : Hp) (a : Addr) : Prop := (∃ kvs, Rd H a (.dK kvs)) ∨ ∃ kvs, Rd H a (.dT kvs)
theorem isD_at {X : Cx} {pins : List (Addr × Obj)} {σ : St} {H : Hp} {s : Shared} {a : Addr} (I : Inv X pins σ H s) (d : IsD H a) :
    s.TypeIs (.ref a) "dict" ∧ (∀ b, Value.ref a = .ref b → ∃ ob, s.heap.get? b = some ob ∧ ob.dict = none) ∧ (a == sysModules) = false := by
  rcases d with ⟨kvs, e⟩ | ⟨kvs, e⟩
  · obtain ⟨_, hd, vs, _, dd⟩ := dk_rd I.hok e
    refine ⟨dd.typeIs, fun b q => ?_, hd⟩
    cases q
    obtain ⟨ob, _, _, h1, h2, _⟩ := dd
    exact ⟨ob, h1, h2.2.1⟩
  · obtain ⟨_, hd, xs, _, dd⟩ := dt_rd I.hok e
    refine ⟨dd.typeIs, fun b q => ?_, hd⟩
    cases q
    obtain ⟨ob, _, _, h1, h2, _⟩ := dd
    exact ⟨ob, h1, h2.2.1⟩

section
variable {X : Cx} {pins : List (Addr × Obj)} {σ : St} {H : Hp} {s : Shared} {a : Addr} {y d : V} {u r : Value} {o : Option V} {A : Around} {E : Value → Shared → Prop}
/-- d.get(y, x) -/
theorem d_get2 {Q : Value → Shared → Prop} (hu : A.units + 1 < cLine) (I : Inv X pins σ H s) (g : DGet H a y o) (ry : RelV y u) (rd : RelV d r) (h : ∀ w' s', Inv X pins σ H s' → RelV (o.getD d) w' → Q w' s') :
    wpAny (model X.prog X.w) A (call (.builtin "dict.get") [.ref a, u, r]) Q E s := by
  rcases g with ⟨kvs, k, e, ey, l⟩ | ⟨kvs, k, b, e, ey, eb, l⟩
  · subst ey
    obtain ⟨z, hd, vs, rel, dd⟩ := dk_rd I.hok e
    refine call_meetsIn PySem.F.slot_dict_get dd.typeIs PySem.F.entry_dict_get (PySem.F.args_dict_get_3 _ _ _) (meets_dict_get_default (mixKind X.prog X.w) a (kV_is ry) hd r) ⟨_, dd.mapOf, h _ _ (I.tok _) ?_⟩
    rw [l]
    exact (rel.val k).getD rd
  · subst ey
    cases (show u = Value.ref b from ry)
    obtain ⟨z, hd, xs, rel, dd⟩ := dt_rd I.hok e
    refine call_meetsIn PySem.F.slot_dict_get dd.typeIs PySem.F.entry_dict_get (PySem.F.args_dict_get_3 _ _ _) (meetsH_dict_get_default (tupleKind (mixKind X.prog X.w)) a b hd r) ⟨tupleKind_room_in1 hu, k, xs, key_of I.hok eb, dd, h _ _ (I.tok _) ?_⟩
    rw [l]
    exact (rel.val k).getD rd
end

def tDGet1 (td ty : TE) : TE := fun σ H Q => td σ H fun x H1 => ∃ a, x = .ref a ∧ IsD H1 a ∧ ty σ H1 fun y H2 => ∃ o, DGet H2 a y o ∧ Q (o.getD .non) H2
def tDGet2 (td ty tx : TE) : TE := fun σ H Q => td σ H fun x H1 => ∃ a, x = .ref a ∧ IsD H1 a ∧ ty σ H1 fun y H2 => tx σ H2 fun z H3 => ∃ o, DGet H3 a y o ∧ Q (o.getD z) H3
/-- d.pop(k): there; d.pop(k, x): there or not -/
def tDPop1 (td ty : TE) : TE := fun σ H Q => td σ H fun x H1 => ∃ a, x = .ref a ∧ IsD H1 a ∧ ty σ H1 fun y H2 => ∃ kvs k v, H2 a = some (.dK kvs) ∧ y = kV k ∧ valV kvs k = some v ∧ Q v (upd H2 a (.dK (dropK kvs k)))
def tDPop2 (td ty tx : TE) : TE := fun σ H Q => td σ H fun x H1 => ∃ a, x = .ref a ∧ IsD H1 a ∧ ty σ H1 fun y H2 => tx σ H2 fun z H3 => ∃ kvs k, H3 a = some (.dK kvs) ∧ y = kV k ∧
  (∀ v, valV kvs k = some v → Q v (upd H3 a (.dK (dropK kvs k)))) ∧ (valV kvs k = none → Q z H3)
section
variable {X : Cx} {o e f : Expr} {apos cpos : Pos} {td ty tx : TE}
theorem pe_dget2 (hu : X.A.units + 1 < cLine) (ho : PE X o td) (he : PE X e ty) (hf : PE X f tx) (m : M2 X o "get" apos e f cpos) : PE X (.Call (.Attribute o "get" apos) [e, f] [] cpos) (tDGet2 td ty tx) := by
  intro pins s σ H Q I h
  refine wpAny_Call_method m.base m.few m.line PySem.F.plainAttrs_dict PySem.F.slot_dict_get PySem.F.type_dict_get (thn (ho pins s σ H _ I h) fun u s1 hpat => ?_)
  obtain ⟨x, H1, I1, rx, a, ex, d, q1⟩ := hpat
  subst ex
  obtain rfl : u = Value.ref a := rx
  obtain ⟨t1, t2, _⟩ := isD_at I1 d
  refine ⟨t1, t2, ?_⟩
  rw [m.trees]
  refine Calls.callWith_builtin rfl (Calls.evalArgs_plain (Calls.spliced_cons (thn (he pins s1 σ H1 _ I1 q1) fun iv s2 ⟨y, H2, I2, ry, q2⟩ =>
    Calls.spliced_cons (thn (hf pins s2 σ H2 _ I2 q2) fun fv s3 ⟨z, H3, I3, rz, ov, g, q3⟩ => Calls.spliced_nil ?_))))
  exact d_get2 hu I3 g ry rz fun w' s4 I4 rw' => ⟨_, H3, I4, rw', q3⟩
end

/-! ### dict(d): a copy -/
section
variable {X : Cx} {pins : List (Addr × Obj)} {σ : St} {H : Hp} {s : Shared} {a : Addr} {kvs : List (Key × V)} {A : Around} {E : Value → Shared → Prop}
end


section
variable {X : Cx} {pins : List (Addr × Obj)} {σ : St} {H : Hp} {s : Shared} {a : Addr} {y : V} {u : Value} {A : Around} {E : Value → Shared → Prop}
end
end L2

/-! ### in a comprehension's block whose names are any list; dicts as structures; a tuple in a list of tuples -/
namespace L2
open PySem PySem.Spec PyProof.Rows
theorem bb_any : bootBuiltins "any" = some (.builtin "any") := by decide +kernel
section
variable {X : Cx} {y m : Str} {N' : List Str} {scope : Scope} {cl : List (Str × Addr)} {fp : List Addr} {s3 : Shared} {H3 : Hp} {C D : Addr} {sp : Sp}
theorem CalI.lg (B : CalI X y sp) (h : scope.names.lookup y = some .globalImplicit) : Cal (lcCx X N' scope cl fp s3 H3 C) y sp := ⟨B.ex, relabel_keep (by decide) h, B.db⟩
end
/-- two tuples of flat things -/
def teq (zs xs : List V) : Bool := (List.range (min zs.length xs.length)).all (fun i => eqV (zs.getD i .non) (xs.getD i .non)) && zs.length == xs.length
def inT (H : Hp) (xs : List V) (v : V) : Bool := match v with
  | .ref c => match H c with
    | some (.tup zs) => teq zs xs
    | _ => false
  | _ => false
theorem eqV_refl {x : V} (f : flatV x = true) : eqV x x = true := by
  cases x with
  | non => rfl
  | bl b => exact beq_self_eq_true b
  | int i => exact beq_self_eq_true i
  | str z => exact beq_self_eq_true z
  | _ => exact absurd (show false = true from f) Bool.false_ne_true
theorem getD_flat {xs : List V} (f : xs.all flatV = true) (i : Nat) : flatV (xs.getD i .non) = true := by
  rw [List.getD_eq_getElem?_getD]
  cases h : xs[i]? with
  | none => rfl
  | some v => exact List.all_eq_true.mp f v (List.mem_of_getElem? h)
theorem teq_refl {xs : List V} (f : xs.all flatV = true) : teq xs xs = true := by
  unfold teq
  rw [beq_self_eq_true, Bool.and_true, List.all_eq_true]
  exact fun i _ => eqV_refl (getD_flat f i)
inductive InTP (K : PySem.W.Frag) (x y : V) (H : Hp) (Q : VK) : Prop
  | mk (a b : Addr) (xs ys : List V) (hx : x = .ref a) (hy : y = .ref b) (s : H a = some (.tup xs)) (t : SqL K H b ys) (f : xs.all flatV = true) (g : ∀ v ∈ ys, ∃ c zs, v = .ref c ∧ H c = some (.tup zs) ∧ zs.all flatV = true) (q : Q (.bl (ys.any (inT H xs))) H)
def inU (H : Hp) (xs : List V) (u : Value) : Bool := match u with
  | .ref c => inT H xs (.ref c)
  | _ => false
theorem any_inU {H : Hp} {xs : List V} : ∀ {ys : List V} {us : List Value}, Vals ys us → (∀ v ∈ ys, ∃ c zs, v = .ref c ∧ H c = some (.tup zs) ∧ zs.all flatV = true) → us.any (inU H xs) = ys.any (inT H xs)
  | _, _, .nil, _ => rfl
  | y :: _, u :: _, .cons r t, g => by
    obtain ⟨c, zs, rfl, _⟩ := g y (List.mem_cons_self ..)
    cases r
    rw [List.any_cons, List.any_cons, any_inU t fun v hv => g v (List.mem_cons_of_mem _ hv)]
    rfl
theorem vals_mem : ∀ {ys : List V} {us : List Value} {u : Value}, Vals ys us → u ∈ us → ∃ y ∈ ys, RelV y u
  | _, _, _, .nil, h => by cases h
  | y :: _, _ :: _, u, .cons r t, h => by
    rcases List.mem_cons.mp h with rfl | h
    · exact ⟨y, List.mem_cons_self .., r⟩
    · obtain ⟨z, hz, q⟩ := vals_mem t h
      exact ⟨z, List.mem_cons_of_mem _ hz, q⟩
theorem eqAt_tups {X : Cx} {pins : List (Addr × Obj)} {σ : St} {H : Hp} {s : Shared} {A : Around} {c a : Addr} {zs xs : List V} (I : Inv X pins σ H s) (hu : A.units < cLine) (hc : H c = some (.tup zs)) (ha : H a = some (.tup xs)) (fz : zs.all flatV = true) (fx : xs.all flatV = true) : SeqAt.EqAt A s (.ref c) (.ref a) (teq zs xs) := by
  by_cases e : c = a
  · subst e
    rw [hc] at ha
    cases ha
    rw [teq_refl fx]
    exact SeqAt.EqAt.same _
  · obtain ⟨its, r, pl, _⟩ := I.tuple (SqT.of (K := X.K) hc)
    obtain ⟨its2, r2, pl2, _⟩ := I.tuple (SqT.of (K := X.K) ha)
    have m1 := r.length
    have m2 := r2.length
    have := SeqAt.RcAt.tuples (A := A) (e := fun i => eqV (zs.getD i .non) (xs.getD i .non)) pl pl2 hu (fun j h1 h2 => by
      simp only [List.size_toArray] at h1 h2
      obtain ⟨x1, e1, r1⟩ := items_at r h1
      obtain ⟨x2, e2, r2'⟩ := items_at r2 h2
      simp only [List.getElem_toArray]
      rw [List.getD_eq_getElem?_getD, List.getD_eq_getElem?_getD, e1, e2]
      exact eqAt_V r1 r2' (List.all_eq_true.mp fz _ (List.mem_of_getElem? e1)) (List.all_eq_true.mp fx _ (List.mem_of_getElem? e2)))
    refine SeqAt.EqAt.of_refs e ?_
    simp only [List.size_toArray] at this
    rw [← m1, ← m2] at this
    exact this
theorem op_in_tups {X : Cx} (hu : X.A.units + 1 < cLine) : OpR X (compareOp .In) (fun x y H Q => InTP X.K x y H Q) := by
  intro pins s σ H x y v u Q I rx ry h
  obtain ⟨a, b, xs, ys, rfl, rfl, ha, hb, fx, g, q⟩ := h
  cases rx
  cases ry
  obtain ⟨its, r, pl, _⟩ := I.list hb
  refine SeqAt.in_listAt (inU H xs) pl.isList (fun w hw => ?_) ⟨.bl _, H, I, rfl, ?_⟩
  · obtain ⟨z, hz, rz⟩ := vals_mem r (by simpa using hw)
    obtain ⟨c, zs, rfl, hc, fz⟩ := g z hz
    cases rz
    have e : inU H xs (.ref c) = teq zs xs := by
      show (match H c with | some (.tup zs) => teq zs xs | _ => false) = _
      rw [hc]
    rw [e]
    exact eqAt_tups I hu hc ha fz fx
  · rw [show its.toArray.any (inU H xs) = its.any (inU H xs) by simp, any_inU r g]
    exact q
end L2
namespace J
open PySem PySem.Spec PyProof.Rows
open L2 (Cx V Hp St VK TE TT TA TS TG TGs TI TO SqL SqT)
section
variable {X : Cx} {N' : List Str} {scope : Scope} {cl : List (Str × Addr)} {fp : List Addr} {s3 : Shared} {H3 : Hp} {C : Addr} {o i e value : Expr} {es : List Expr} {pos pos' : Pos} {td ty tv : TE}
theorem ix_listG : JX (L2.lcCx X N' scope cl fp s3 H3 C) (L2.rIxL X.K) := ⟨L2.ix_list⟩
theorem ix_tupG : JX (L2.lcCx X N' scope cl fp s3 H3 C) (L2.rIxT X.K) := ⟨L2.ix_tup⟩
theorem pg_tupG {k n : Nat} {u : TGs} (hc : X.calm = true) (h : JGs (L2.lcCx X N' scope cl fp s3 H3 C) es u) (hn : (assignEach es (L2.lcCx X N' scope cl fp s3 H3 C).env).length = n := by rfl) (hst : (assignEach es (L2.lcCx X N' scope cl fp s3 H3 C).env).findIdx? (·.1) = none := by rfl) :
    JG (L2.lcCx X N' scope cl fp s3 H3 C) (.Tuple es k pos) (L2.gTup X.K n u) := ⟨L2.pg_tup (X := L2.lcCx X N' scope cl fp s3 H3 C) hc h.out hn hst⟩
theorem op_in_tups (hu : X.A.units + 1 < cLine) : JC X .In (fun x y H Q => L2.InTP X.K x y H Q) := ⟨L2.op_in_tups hu⟩
theorem dget (hu : X.A.units + 1 < cLine) (ho : JE X o td) (hi : JE X i ty) (hs : PlainIx i) : JE X (.Subscript o i pos) (L2.tDGet td ty) := ⟨L2.pe_dget hu ho.out hi.out (fun ov iv => hs.out ov iv)⟩
theorem pt_dnotin (hu : X.A.units + 1 < cLine) (hi : JE X i ty) (ho : JE X o td) (hm : behindInMarks .NotIn o = false := by rfl) : JT X (.Compare i [.NotIn] [o] pos) (L2.tB (L2.tDNotIn ty td)) := ⟨L2.pt_cmp (L2.pc_dnotin hu hi.out ho.out) hm⟩
theorem dput (hu : X.A.units + 1 < cLine) (ho : JE X o td) (hi : JE X i ty) (hv : JE X value tv) (h : L2.isComp value = false := by rfl) : JS X (.Assign [.Subscript o i pos'] value pos) (L2.sDPut td ty tv) := ⟨L2.ps_dput hu ho.out hi.out hv.out (L2.swaps_no h)⟩
theorem dnewT : JE X (.Dict [] [] pos) L2.tDNewT := ⟨L2.pe_dnewT⟩
end
end J

/-! ### tuple == tuple of any lengths; text * int; d.get; while -/
namespace L2
open PySem PySem.Spec PyProof.Rows
section
variable {X : Cx}
inductive EqTTP (x y : V) (H : Hp) (Q : VK) : Prop
  | mk (a b : Addr) (xs ys : List V) (hx : x = .ref a) (hy : y = .ref b) (s : H a = some (.tup xs)) (t : H b = some (.tup ys)) (f : xs.all flatV = true) (g : ys.all flatV = true) (q : Q (.bl (teq xs ys)) H)
theorem op_eqTT (hu : X.A.units + 1 < cLine) : OpR X (compareOp .Eq) (fun x y H Q => EqTTP x y H Q) := by
  intro pins s σ H x y v u Q I rx ry h
  obtain ⟨a, b, xs, ys, rfl, rfl, ha, hb, fx, fy, q⟩ := h
  cases rx
  cases ry
  obtain ⟨its, r, pl, _⟩ := I.tuple (SqT.of (K := X.K) ha)
  obtain ⟨its2, r2, pl2, _⟩ := I.tuple (SqT.of (K := X.K) hb)
  have m1 := r.length
  have m2 := r2.length
  refine SeqAt.eq_tupleAt (e := fun i => eqV (xs.getD i .non) (ys.getD i .non)) pl pl2 (by omega) (fun j h1 h2 => ?_) ?_
  · simp only [List.size_toArray] at h1 h2
    obtain ⟨x1, e1, r1⟩ := items_at r h1
    obtain ⟨x2, e2, r2'⟩ := items_at r2 h2
    simp only [List.getElem_toArray]
    rw [List.getD_eq_getElem?_getD, List.getD_eq_getElem?_getD, e1, e2]
    exact eqAt_V r1 r2' (List.all_eq_true.mp fx _ (List.mem_of_getElem? e1)) (List.all_eq_true.mp fy _ (List.mem_of_getElem? e2))
  · simp only [List.size_toArray]
    rw [← m1, ← m2]
    exact ⟨.bl _, H, I, rfl, q⟩
inductive RepSP (x y : V) (H : Hp) (Q : VK) : Prop
  | mk (z : Str) (n : Int) (hx : x = .str z) (hy : y = .int n) (n01 : n = 0 ∨ n = 1) (q : Q (.str (Txt.mul z n)) H)
end
end L2
namespace J
open PySem PySem.Spec PyProof.Rows
open L2 (Cx V Hp St VK TE TT TA TS TG TGs TI TO)
section
variable {X : Cx} {o e f c : Expr} {body : List Stmt} {apos cpos pos : Pos} {td ty tx : TE} {tc : TT} {tb : TS}
theorem op_eqTT (hu : X.A.units + 1 < cLine) : JC X .Eq (fun x y H Q => L2.EqTTP x y H Q) := ⟨L2.op_eqTT hu⟩
theorem few2 {env : Env} (h1 : L2.notStar e = true) (h2 : L2.notStar f = true) : backTo cpos (starEach [e, f] env) = [(false, eval e env), (false, eval f env)] := by
  rw [L2.star_plain h1, L2.star_plain h2]
  rfl
end
end J

/-! ### sorted of texts; list != list; dict(list of pairs); list(reversed(l)) -/
namespace L2
open PySem PySem.Spec PyProof.Rows
section
variable {X : Cx}
inductive SrtP (K : PySem.W.Frag) (xs : List V) (H : Hp) (Q : VK) : Prop
  | mk (p : Addr) (zs : List Str) (e : xs = [.ref p]) (s : SqL K H p (zs.map V.str)) (l : zs.length < 64) (q : ∀ l zs', H l = none → zs'.Perm zs → sortedS zs' = true → Q (.ref l) (upd H l (.lst (zs'.map V.str))))
/-- list != list, of the same length -/
inductive NeLP (K : PySem.W.Frag) (x y : V) (H : Hp) (Q : VK) : Prop
  | same (a b : Addr) (xs ys : List V) (bs : List Bool) (hx : x = .ref a) (hy : y = .ref b) (s : SqL K H a xs) (t : SqL K H b ys) (l1 : xs.length = bs.length) (l2 : ys.length = bs.length) (e : ∀ (i : Nat) u v c, xs[i]? = some u → ys[i]? = some v → bs[i]? = some c → sameV u v = some c) (q : Q (.bl (!(eqL bs))) H)
  | other (a b : Addr) (xs ys : List V) (hx : x = .ref a) (hy : y = .ref b) (s : SqL K H a xs) (t : SqL K H b ys) (n : xs.length ≠ ys.length) (q : Q (.bl true) H)
theorem op_neLL (hu : X.A.units + 1 < cLine) : OpR X (compareOp .NotEq) (fun x y H Q => NeLP X.K x y H Q) := by
  intro pins s σ H x y v u Q I rx ry h
  rcases h with ⟨a, b, xs, ys, bs, rfl, rfl, ha, hb, l1, l2, he, q⟩ | ⟨a, b, xs, ys, rfl, rfl, ha, hb, n, q⟩
  · cases rx
    cases ry
    obtain ⟨its, r, pl, _⟩ := I.list ha
    obtain ⟨its2, r2, pl2, _⟩ := I.list hb
    have m1 := r.length
    have m2 := r2.length
    have key : SeqAt.RcNeAt X.A s (.ref a) (.ref b) (!((List.range its.toArray.size).all fun i => bs.getD i false)) := by
      refine SeqAt.RcNeAt.lists pl.isList pl2.isList (by simp only [List.size_toArray]; omega) (by omega) fun j h1 h2 => ?_
      simp only [List.size_toArray] at h1 h2
      obtain ⟨x1, e1, r1⟩ := items_at r h1
      obtain ⟨x2, e2, r2'⟩ := items_at r2 h2
      have hj : j < bs.length := by omega
      have e3 : bs[j]? = some bs[j] := List.getElem?_eq_getElem hj
      have e4 : bs.getD j false = bs[j] := by rw [List.getD_eq_getElem?_getD, e3]; rfl
      show SeqAt.EqAt X.A.in1 s its.toArray[j] its2.toArray[j] (bs.getD j false)
      rw [e4]
      simp only [List.getElem_toArray]
      exact eqAt_same r1 r2' (he j x1 x2 _ e1 e2 e3)
    have hz : its.toArray.size = bs.length := by simp only [List.size_toArray]; omega
    rw [hz] at key
    exact key X.prog X.w X.xe _ ⟨.bl _, H, I, rfl, q⟩
  · cases rx
    cases ry
    obtain ⟨its, r, pl, _⟩ := I.list ha
    obtain ⟨its2, r2, pl2, _⟩ := I.list hb
    have m1 := r.length
    have m2 := r2.length
    have key : SeqAt.RcNeAt X.A s (.ref a) (.ref b) true := SeqAt.RcNeAt.lists_lengths pl.isList pl2.isList (by rw [bne_iff_ne]; simp only [List.size_toArray]; omega) (by omega)
    exact key X.prog X.w X.xe _ ⟨.bl _, H, I, rfl, q⟩
/-! #### dict(list of pairs) -/
theorem keysMiss : typeLookup (.type "list") "keys" = pure none := by rw [typeLookup_type, builtinLookup_eq_fast]; kernel_rfl
theorem plain_dict_loop : plainId "dict.update.loop" = true := by decide +kernel
theorem entry_dict_loop : entryFor table "dict.update.loop" = some Builtin.«dict.update.loop» := entryFor_of_tree (by kernel_rfl)
end
section
variable {prog : Program} {w : World} {A : Around} {E : Value → Shared → Prop} {s : Shared}
theorem getAttrQ_list {a : Addr} {o : Obj} {xs : Array Value} {k : Nat} {Q : Option Value → Shared → Prop} (hx : s.heap.get? a = some o) (hc : o.cls = .type "list") (hdat : o.data = .seq xs k) (hd : o.dict = none) (hA : A.handled = none)
    (h : ∀ h' tk, (∀ b u, s.heap.get? b = some u → h'.get? b = some u) → Q none { s with heap := h', toks := tk }) : wpAny (model prog w) A (getAttr? (.ref a) "keys") Q E s := by
  obtain ⟨c, dct, dat, sl⟩ := o
  simp only at hc hdat hd
  subst hc hdat hd
  obtain ⟨hp, g, d, tk, os⟩ := s
  have hT : ∀ tk', (⟨hp, g, d, tk', os⟩ : Shared).TypeIs (.ref a) "list" := fun _ => ⟨_, hx, rfl⟩
  have f1 := sub_AttributeError
  have f3 := PySem.F.slot_list_getattribute.lookup
  have f4 := PySem.F.slot_list_getattribute.bind (.ref a)
  have f5 := am_list_getattr_none
  unfold getAttr? getAttrBy? getAttrBy
  repeat (any_goals (first | assumption | exact hT _ | ((with_reducible show wpAny _ _ (call (Value.builtin "list.__getattribute__") _ _) _ _ _); refine call_meets PySem.F.slot_list_getattribute (hT _) am_entry_list_getattribute (PySem.F.args_list_getattribute_2 _ _) (meets_getattribute_miss_list a xs k sl "keys" _ keysMiss (by decide +kernel) (by decide +kernel)) ⟨hx, hA, fun h' tk' e hx' => ?_⟩) | wp_step))
  obtain ⟨t', u', he⟩ := hx'.there
  show wpAny _ _ (getattributeRaised _ _ _ _ _ _ _) _ _ _
  unfold getattributeRaised
  repeat (any_goals (first | assumption | wp_step))
  exact h _ _ hx'.of.keeps
end
section
variable {prog : Program} {w : World} {A : Around} {R : Result → Shared → Prop} {I : Addr} {fp wr : List Addr} {G : Array GenState → Array GenState → Prop} {n : Nat} {P : Nat → Value → Prop} {St : Nat → Shared → Prop}
end
section
variable {prog : Program} {w : World} {A : Around} {E : Value → Shared → Prop} {s : Shared}
end
theorem paired_of_at {α β : Type} {R : α → β → Prop} : ∀ {xs : List α} {us : List β}, xs.length = us.length → (∀ (i : Nat) x v, xs[i]? = some x → us[i]? = some v → R x v) → Paired R xs us
  | [], [], _, _ => .nil
  | _ :: _, [], h, _ => by cases h
  | [], _ :: _, h, _ => by cases h
  | x :: _, u :: _, h, k => .cons (k 0 x u rfl rfl) (paired_of_at (Nat.succ.inj h) fun i y v hy hv => k (i + 1) y v hy hv)
section
variable {X : Cx}
/-- dict(list of pairs), the firsts ints and texts -/
inductive DctP (K : PySem.W.Frag) (vs : List V) (H : Hp) (Q : VK) : Prop
  | mk (p : Addr) (xs : List V) (kvs : List (Key × V)) (e : vs = [.ref p]) (s : SqL K H p xs) (l : xs.length = kvs.length) (t : ∀ (i : Nat) x kv, xs[i]? = some x → kvs[i]? = some kv → ∃ a, x = .ref a ∧ H a = some (.tup [kV kv.1, kv.2])) (q : ∀ d, H d = none → Q (.ref d) (upd H d (.dK (mergeK [] kvs))))
end
/-! #### list(reversed(l)) -/
section
variable {prog : Program} {w : World} {A : Around} {E : Value → Shared → Prop} {s : Shared}
end
section
variable {X : Cx}
inductive LRevP (K : PySem.W.Frag) (vs : List V) (H : Hp) (Q : VK) : Prop
  | mk (p : Addr) (xs : List V) (e : vs = [.ref p]) (s : SqL K H p xs) (q : ∀ l, H l = none → Q (.ref l) (upd H l (.lst xs.reverse)))
def tLRev (K : PySem.W.Frag) (ta : TA) : TE := fun σ H Q => ta σ H fun vs H1 => LRevP K vs H1 Q
theorem bb_dict : bootBuiltins "dict" = some (.type "dict") := by decide +kernel
end
end L2
namespace J
open PySem PySem.Spec PyProof.Rows
open L2 (Cx V SqL SqT)
theorem op_neLL {X : Cx} (hu : X.A.units + 1 < cLine) : JC X .NotEq (fun x y H Q => L2.NeLP X.K x y H Q) := ⟨L2.op_neLL hu⟩
end J

/-! ### list == list; a tuple not in a list; x is not b; l[::-1]; dict(list of pairs) with tuples as keys; k in d as a value; a dict written out -/
namespace L2
open PySem PySem.Spec PyProof.Rows
section
variable {X : Cx}
inductive EqLP (K : PySem.W.Frag) (x y : V) (H : Hp) (Q : VK) : Prop
  | same (a b : Addr) (xs ys : List V) (bs : List Bool) (hx : x = .ref a) (hy : y = .ref b) (s : SqL K H a xs) (t : SqL K H b ys) (l1 : xs.length = bs.length) (l2 : ys.length = bs.length) (e : ∀ (i : Nat) u v c, xs[i]? = some u → ys[i]? = some v → bs[i]? = some c → sameV u v = some c) (q : Q (.bl (eqL bs)) H)
  | other (a b : Addr) (xs ys : List V) (hx : x = .ref a) (hy : y = .ref b) (s : SqL K H a xs) (t : SqL K H b ys) (n : xs.length ≠ ys.length) (q : Q (.bl false) H)
theorem op_eqLL (hu : X.A.units + 1 < cLine) : OpR X (compareOp .Eq) (fun x y H Q => EqLP X.K x y H Q) := by
  intro pins s σ H x y v u Q I rx ry h
  rcases h with ⟨a, b, xs, ys, bs, hx, hy, s1, t1, l1, l2, e, q⟩ | ⟨a, b, xs, ys, hx, hy, s1, t1, n, q⟩
  · exact op_eqL hu pins s σ H x y v u Q I rx ry ⟨a, b, xs, ys, bs, hx, hy, s1, t1, l1, l2, e, q⟩
  · exact op_eqLlen hu pins s σ H x y v u Q I rx ry ⟨a, b, xs, ys, hx, hy, s1, t1, n, q⟩
inductive NinTP (K : PySem.W.Frag) (x y : V) (H : Hp) (Q : VK) : Prop
  | mk (a b : Addr) (xs ys : List V) (hx : x = .ref a) (hy : y = .ref b) (s : H a = some (.tup xs)) (t : SqL K H b ys) (f : xs.all flatV = true) (g : ∀ v ∈ ys, ∃ c zs, v = .ref c ∧ H c = some (.tup zs) ∧ zs.all flatV = true) (q : Q (.bl (!(ys.any (inT H xs)))) H)
theorem op_notIn_tups (hu : X.A.units + 1 < cLine) : OpR X (compareOp .NotIn) (fun x y H Q => NinTP X.K x y H Q) := by
  intro pins s σ H x y v u Q I rx ry h
  obtain ⟨a, b, xs, ys, rfl, rfl, ha, hb, fx, g, q⟩ := h
  cases rx
  cases ry
  obtain ⟨its, r, pl, _⟩ := I.list hb
  refine SeqAt.notIn_listAt (inU H xs) pl.isList (fun w hw => ?_) ⟨.bl _, H, I, rfl, ?_⟩
  · obtain ⟨z, hz, rz⟩ := vals_mem r (by simpa using hw)
    obtain ⟨c, zs, rfl, hc, fz⟩ := g z hz
    cases rz
    have e : inU H xs (.ref c) = teq zs xs := by
      show (match H c with | some (.tup zs) => teq zs xs | _ => false) = _
      rw [hc]
    rw [e]
    exact eqAt_tups I hu hc ha fz fx
  · rw [show its.toArray.any (inU H xs) = its.any (inU H xs) by simp, any_inU r g]
    exact q
theorem op_notB : OpR X (compareOp .IsNot) (fun x y H Q => ∃ b c, x = .bl b ∧ y = .bl c ∧ Q (.bl (!(b == c))) H) := by
  intro pins s σ H x y v u Q I rx ry h
  obtain ⟨b, c, rfl, rfl, q⟩ := h
  cases rx
  cases ry
  cases b <;> cases c <;> exact wpAny_pure ⟨.bl _, H, I, rfl, q⟩
inductive SlRevP (K : PySem.W.Frag) (x : V) (st : Option Int) (H : Hp) (Q : VK) : Prop
  | mk (a : Addr) (xs : List V) (hx : x = .ref a) (hst : st = some (-1)) (s : SqL K H a xs) (q : ∀ p ys, H p = none → ys.length ≤ xs.length → (∀ v ∈ ys, v ∈ xs) → Q (.ref p) (upd H p (.lst ys)))
def tSlRev (K : PySem.W.Frag) (te : TE) (ts : TO) : TE := fun σ H Q => te σ H fun x H1 => ts σ H1 fun st H2 => SlRevP K x st H2 Q
theorem pick_vals {its : List Value} {xs : List V} (r : Vals xs its) : ∀ ix : List Nat, ∃ ys, Vals ys (ix.filterMap (its.toArray[·]?)) ∧ ∀ v ∈ ys, v ∈ xs
  | [] => ⟨[], .nil, fun v h => by cases h⟩
  | i :: ix => by
    obtain ⟨ys, rr, m⟩ := pick_vals r ix
    cases h : its[i]? with
    | none =>
      refine ⟨ys, ?_, m⟩
      rw [List.filterMap_cons, List.getElem?_toArray, h]
      exact rr
    | some u =>
      have hi := (List.getElem?_eq_some_iff.mp h).1
      obtain ⟨x, hx, rx⟩ := items_at r hi
      have e : its[i] = u := (List.getElem?_eq_some_iff.mp h).2
      rw [e] at rx
      refine ⟨x :: ys, ?_, fun v hv => ?_⟩
      · rw [List.filterMap_cons, List.getElem?_toArray, h]
        exact .cons rx rr
      · rcases List.mem_cons.mp hv with rfl | hv
        · exact List.mem_of_getElem? hx
        · exact m v hv
theorem pe_sliceRev {e st : Expr} {te : TE} {ts : TO} {pos p2 : Pos} (he : PE X e te) (hs : PO X (some st) ts) : PE X (.Subscript e (.Slice none none (some st) p2) pos) (tSlRev X.K te ts) := by
  intro pins s σ H Q I h
  refine Subscript_ (thn (he pins s σ H _ I h) fun v s1 hpat => ?_)
  obtain ⟨x, H1, I1, r1, q1⟩ := hpat
  refine wpAny_Slice ?_
  rw [evalPart_none]
  refine wpAny_pure (wpAny_pure (thn (hs pins s1 σ H1 _ I1 q1) fun vs s3 hpat => ?_))
  obtain ⟨u, H3, I3, pu, a, xs, rfl, rfl, hq, q3⟩ := hpat
  cases r1
  have I4 : Inv X pins σ H3 { s3 with heap := s3.heap.push { cls := .type "slice", data := .fields #[.none, .none, vs] } } := I3.kept (t' := s3.toks) fun b ob q => Heap.get?_push_of_some _ q
  obtain ⟨its, r, pl, hz⟩ := I4.list hq
  have hl := r.length
  refine tail_any (ops := [.ref a, .ref s3.heap.objs.size]) pl.isList.typeIs slot_list_getitem.lookup ?_ (by with_unfolding_all rfl)
  refine wpAny_getItem_list_slice pl.isList (Heap.IsSliceOf.new ..) .none .none pu (by decide) ?_ (by rw [List.size_toArray]; omega)
  obtain ⟨ys, rr, m⟩ := pick_vals r (sliceRange (sliceBounds none none (some (-1)) its.toArray.size).1 (sliceBounds none none (some (-1)) its.toArray.size).2.1 (sliceBounds none none (some (-1)) its.toArray.size).2.2)
  have hlen : ys.length ≤ xs.length := by
    have h1 := rr.length
    have h2 := slicePick_size_le its.toArray none none (some (-1))
    unfold slicePick at h2
    rw [List.size_toArray] at h2
    have h3 : its.toArray.size = its.length := List.size_toArray ..
    omega
  refine ⟨.ref _, _, I4.laid (t' := s3.toks) (o := .lst ys) (fun b ob q => Heap.get?_push_of_some _ q) (Nat.le_refl _) ⟨by omega, _, 0, rr, Heap.get?_push_size _ rfl⟩, rfl, q3 _ ys (I4.hok.fresh (Nat.le_refl _)) hlen m⟩
theorem pe_din {e d : Expr} {ty td : TE} {pos : Pos} (hu : X.A.units + 1 < cLine) (hi : PE X e ty) (ho : PE X d td) (hm : behindInMarks .In d = false := by rfl) : PE X (.Compare e [.In] [d] pos) (tDIn ty td) := pe_cmp (pc_din hu hi ho) hm
end
/-! #### dict(list of pairs), the firsts tuples -/
section
variable {prog : Program} {w : World} {A : Around} {R : Result → Shared → Prop} {I : Addr} {fp wr : List Addr} {G : Array GenState → Array GenState → Prop} {n : Nat} {P : Nat → Value → Prop} {St : Nat → Shared → Prop}
def mergedH (xs ps : List (List Key × Addr × Value)) : List (List Key × Addr × Value) := ps.foldl (fun acc q => storedH acc q.1 q.2.1 q.2.2) xs
theorem mergedH_succ (xs ps : List (List Key × Addr × Value)) (i : Nat) (q : List Key × Addr × Value) (h : ps[i]? = some q) : mergedH xs (ps.take (i + 1)) = storedH (mergedH xs (ps.take i)) q.1 q.2.1 q.2.2 := by
  unfold mergedH
  rw [List.take_add_one, h, List.foldl_append]
  rfl
theorem storedH_le (xs : List (List Key × Addr × Value)) (k : List Key) (a : Addr) (v : Value) : (storedH xs k a v).length ≤ xs.length + 1 := by
  unfold storedH
  split
  · rw [List.length_map]
    exact Nat.le_succ _
  · rw [List.length_append]
    exact Nat.le_refl _
theorem mergedH_le : ∀ (ps xs : List (List Key × Addr × Value)), (mergedH xs ps).length ≤ xs.length + ps.length
  | [], xs => Nat.le_refl _
  | p :: r, xs => by
    have h1 := mergedH_le r (storedH xs p.1 p.2.1 p.2.2)
    have h2 := storedH_le xs p.1 p.2.1 p.2.2
    show (mergedH (storedH xs p.1 p.2.1 p.2.2) r).length ≤ _
    rw [List.length_cons]
    omega
theorem memH : ∀ (l xs : List (List Key × Addr × Value)) (x : List Key × Addr × Value), x ∈ mergedH xs l → (∃ y ∈ xs, x.2.1 = y.2.1) ∨ ∃ y ∈ l, x.2.1 = y.2.1
  | [], xs, x, h => .inl ⟨x, h, rfl⟩
  | p :: r, xs, x, h => by
    rcases memH r (storedH xs p.1 p.2.1 p.2.2) x h with ⟨y, hy, e⟩ | ⟨y, hy, e⟩
    · unfold storedH at hy
      split at hy
      · obtain ⟨z, hz, rfl⟩ := List.mem_map.mp hy
        refine .inl ⟨z, hz, ?_⟩
        rw [e]
        unfold putAt
        split <;> rfl
      · rcases List.mem_append.mp hy with hy | hy
        · exact .inl ⟨y, hy, e⟩
        · rw [List.mem_singleton.mp hy] at e
          exact .inr ⟨p, List.mem_cons_self, e⟩
    · exact .inr ⟨y, List.mem_cons_of_mem _ hy, e⟩
theorem tupIs_at {h h' : Heap} {k : List Key} {a : Addr} (e : ∀ o, h.get? a = some o → h'.get? a = some o) (x : (tupleKind (mixKind prog w)).is h k a) : (tupleKind (mixKind prog w)).is h' k a := by
  obtain ⟨o, its, m, h1, h2⟩ := x
  exact ⟨o, its, m, e _ h1, h2⟩
theorem tupIs_lt {h : Heap} {k : List Key} {a : Addr} (x : (tupleKind (mixKind prog w)).is h k a) : a < h.objs.size := by
  obtain ⟨o, its, m, h1, h2⟩ := x
  exact Heap.lt_size h1
theorem dictLoopT (W : WalksS prog w A.in1 I fp wr G n P St) (hu : (tupleKind (mixKind prog w)).room A.in1) (D : Addr) (hDf : D ∉ fp) (ps : List (List Key × Addr × Value)) (T : Nat → Addr) (hn : ps.length = n) (hb : n ≤ sizeLine)
    (hP : ∀ i v, P i v → v = .ref (T i)) (hT : ∀ i, i < n → T i ≠ D ∧ T i ∉ wr) (hK : ∀ (i : Nat) q, ps[i]? = some q → q.2.1 ≠ D ∧ q.2.1 ∉ wr) :
    ∀ (k i : Nat) (s : Shared), n - i = k → i ≤ n → St i s → s.heap.DictOfH (tupleKind (mixKind prog w)) D (mergedH [] (ps.take i)) → (∀ (i : Nat) q, ps[i]? = some q → IsTup s.heap (T i) #[.ref q.2.1, q.2.2] ∧ (tupleKind (mixKind prog w)).is s.heap q.1 q.2.1) →
      (∀ s', Moved (D :: wr) G s s' → s'.heap.DictOfH (tupleKind (mixKind prog w)) D (mergedH [] ps) → R (.ok (.ret .none)) s') →
      codeAny (model prog w) A (.builtin "dict.update.loop" ⟨[.ref D, .ref I, rawInt i, .none], []⟩) R s := by
  have hDw : D ∉ wr := fun h => hDf (W.sub _ h)
  have hsub : ∀ b ∈ wr, b ∈ D :: wr := fun b hb => List.mem_cons_of_mem _ hb
  have lt : ∀ {i : Nat} {q : List Key × Addr × Value}, ps[i]? = some q → i < n := fun hj => by rw [← hn]; exact (List.getElem?_eq_some_iff.mp hj).1
  have keep : ∀ {s s' : Shared}, Moved wr G s s' → (∀ (i : Nat) q, ps[i]? = some q → IsTup s.heap (T i) #[.ref q.2.1, q.2.2] ∧ (tupleKind (mixKind prog w)).is s.heap q.1 q.2.1) → ∀ (i : Nat) q, ps[i]? = some q → IsTup s'.heap (T i) #[.ref q.2.1, q.2.2] ∧ (tupleKind (mixKind prog w)).is s'.heap q.1 q.2.1 := fun hm ht j q hj => by
    obtain ⟨⟨o, ho, r⟩, x⟩ := ht j q hj
    exact ⟨⟨o, hm.heap _ _ (hT j (lt hj)).2 ho, r⟩, tupIs_at (fun o e => hm.heap _ _ (hK j q hj).2 e) x⟩
  have ad : ∀ (i : Nat) x, x ∈ mergedH [] (ps.take i) → x.2.1 ≠ D ∧ x.2.1 ∉ wr := fun i x hx => by
    rcases memH _ _ _ hx with ⟨y, hy, _⟩ | ⟨y, hy, e⟩
    · cases hy
    · obtain ⟨j, hj⟩ := List.getElem?_of_mem (List.mem_of_mem_take hy)
      rw [e]
      exact hK j y hj
  have stay : ∀ {s s' : Shared} {i : Nat}, Moved wr G s s' → s.heap.DictOfH (tupleKind (mixKind prog w)) D (mergedH [] (ps.take i)) → s'.heap.DictOfH (tupleKind (mixKind prog w)) D (mergedH [] (ps.take i)) := fun {s s' i} hm ⟨o, es, ep, ho, h2, h3, h4, h5, h6⟩ => ⟨o, es, ep, hm.heap D _ hDw ho, h2, h3, h4, fun x hx => tupIs_at (fun o e => hm.heap _ _ (ad i x hx).2 e) (h5 x hx), h6⟩
  intro k
  induction k with
  | zero =>
    intro i s hk' hi hst hD ht hR
    obtain rfl : i = n := by omega
    refine codeAny_builtin entry_dict_loop ?_
    rw [Around.under_plainId plain_dict_loop _]
    show wpAny _ A.in1 (pyNext (.ref I) >>= _) _ _ s
    refine wpAny_bind (W.done s _ _ hst fun s' hm => ?_)
    have hD' := stay hm hD
    rw [← hn, List.take_length] at hD'
    show wpAny _ A.in1 (Builtin.Dict.addKeywords D [] >>= _) _ _ s'
    exact wpAny_bind (wpAny_pure (wpAny_pure (hR s' (hm.mono hsub) hD')))
  | succ k ih =>
    intro i s hk' hi hst hD ht hR
    have hlt : i < n := by omega
    obtain ⟨q, hq⟩ : ∃ q, ps[i]? = some q := ⟨_, List.getElem?_eq_getElem (by rw [hn]; exact hlt)⟩
    refine codeAny_builtin entry_dict_loop ?_
    rw [Around.under_plainId plain_dict_loop _]
    show wpAny _ A.in1 (pyNext (.ref I) >>= _) _ _ s
    refine wpAny_bind (W.item i s _ _ hlt hst fun v s' hv hst' hm => ?_)
    cases hP i v hv
    have hD1 := stay hm hD
    have ht1 := keep hm ht
    obtain ⟨⟨o, ho, hc, m, hd⟩, hkey⟩ := ht1 i q hq
    show wpAny _ A.in1 (holding [.ref (T i)] _ >>= _) _ _ s'
    refine wpAny_bind (wpAny_holding ?_)
    refine wpAny_bind (wpAny_tryCatch ?_)
    unfold Builtin.Dict.pairItems
    refine wpAny_bind (wpAny_typeOf (T := "tuple") ⟨_, ho, hc⟩ ?_)
    rw [if_pos (by decide)]
    refine wpAny_bind (wpAny_seqItems ho hd (wpAny_pure ?_))
    show wpAny _ A.in1 (holding [.ref q.2.1, q.2.2] (dictSet D (.ref q.2.1) q.2.2)) _ _ s'
    have hl : (mergedH [] (ps.take i)).length ≤ sizeLine := by
      have := mergedH_le (ps.take i) []
      have e : (ps.take i).length ≤ i := by rw [List.length_take]; omega
      have z : ([] : List (List Key × Addr × Value)).length = 0 := rfl
      omega
    refine wpAny_holding (wpAny_dictSet_heap (hsz := hl) hu hkey hD1 fun h' hd' hs => ?_)
    rw [← mergedH_succ [] ps i q hq] at hd'
    have hc1 : ((i : Int) + 1) = ((i + 1 : Nat) : Int) := by push_cast; rfl
    refine wpAny_pure ⟨plainId_quiet plain_dict_loop _, ?_⟩
    show codeAny _ A (.builtin "dict.update.loop" ⟨[.ref D, .ref I, rawInt ((i : Int) + 1), .none], []⟩) R _
    rw [hc1]
    refine ih (i + 1) _ (by omega) hlt (W.frame _ s' _ _ hst' (Nat.le_add_right _ _) fun b hb o e => ?_) hd' (fun j q hj => ?_) fun s'' hm'' hS'' => ?_
    · rw [hs.2 b (by rintro rfl; exact hDf hb)]
      exact e
    · obtain ⟨⟨o, ho, r⟩, x⟩ := ht1 j q hj
      exact ⟨⟨o, (hs.2 _ (hT j (lt hj)).1).trans ho, r⟩, tupIs_at (fun o e => (hs.2 _ (hK j q hj).1).trans e) x⟩
    · refine hR s'' (Moved.trans W.gtrans ((hm.mono hsub).then_heap (Nat.le_add_right _ _) fun b o hb e => ?_) hm'') hS''
      rw [hs.2 b (by rintro rfl; exact hb List.mem_cons_self)]
      exact e
end
section
variable {prog : Program} {w : World} {A : Around} {E : Value → Shared → Prop} {s : Shared}
theorem call_dictT {l : Addr} {o : Obj} {items : Array Value} {c : Nat} {Q : Value → Shared → Prop} (ps : List (List Key × Addr × Value)) (T : Nat → Addr) (hu : (tupleKind (mixKind prog w)).room A.in1.in1) (hh : A.handled = none) (hx : s.heap.get? l = some o) (hc : o.cls = .type "list") (hdat : o.data = .seq items c) (hd : o.dict = none) (hsz : ps.length = items.size) (hb : ps.length ≤ sizeLine)
    (hi : ∀ (i : Nat) (v : Value), items[i]? = some v → v = .ref (T i)) (ht : ∀ (i : Nat) q, ps[i]? = some q → IsTup s.heap (T i) #[.ref q.2.1, q.2.2] ∧ (tupleKind (mixKind prog w)).is s.heap q.1 q.2.1)
    (h : ∀ h' tk, h'.DictOfH (tupleKind (mixKind prog w)) s.heap.objs.size (mergedH [] ps) → (∀ b o, s.heap.get? b = some o → h'.get? b = some o) → Q (.ref s.heap.objs.size) { s with heap := h', toks := tk }) :
    wpAny (model prog w) A (call (.type "dict") [.ref l]) Q E s := by
  refine callType_codes (Q₁ := fun obj s₁ => obj = .ref s.heap.objs.size ∧ s₁ = { s with heap := s.heap.push { cls := .type "dict", data := .dict #[] } }) PySem.F.kt_called_dict (PySem.F.kt_typeCall_dict_1 _) PySem.F.entry_dict_init (kt_code_dict_new _ ⟨rfl, rfl⟩) ?_
  rintro obj s₁ ⟨rfl, rfl⟩
  have hnew := Heap.DictOf.new (knd := mixKind prog w) s.heap
  have hx1 := Heap.get?_push_of_some { cls := .type "dict", data := .dict #[] } hx
  refine ⟨hnew.typeIs, PySem.F.args_dict_init_2 _ _, ?_⟩
  unfold Builtin.«dict.__init__»
  refine wpAny_bind ?_
  unfold Builtin.Dict.selfAndRest
  refine wpAny_bind (wpAny_notOrdered_dict hnew.typeIs ?_)
  show wpAny _ _ (pure (s.heap.objs.size, [Value.ref l])) _ _ _
  refine wpAny_pure ?_
  show wpAny _ _ (Builtin.Dict.updateFrom "dict.__init__" s.heap.objs.size (.ref l) [] .none) _ _ _
  unfold Builtin.Dict.updateFrom
  refine wpAny_bind (wpAny_typeOf (T := "list") ⟨_, hx1, hc⟩ ?_)
  rw [if_pos (by decide)]
  refine wpAny_bind (getAttrQ_list hx1 hc hdat hd hh fun h1 tk kp1 => ?_)
  rw [if_pos (show Option.isNone (none : Option Value) = true from rfl)]
  refine wpAny_bind (wpAny_rule ?_)
  have hx2 := kp1 _ _ hx1
  have hl2 : h1.IsList l items := ⟨o, hx2, hc, c, hdat⟩
  have kp2 : ∀ b u, s.heap.get? b = some u → h1.get? b = some u := fun b u e => kp1 _ _ (Heap.get?_push_of_some _ e)
  have lD : s.heap.objs.size < h1.objs.size := Heap.lt_size (kp1 _ _ (Heap.get?_push_size _ rfl))
  refine wpAny_bind (wpAny_pyIter_list hl2 ?_)
  refine wpAny_pure ⟨plainId_quiet plain_dict_loop _, ?_⟩
  have hlS : l < s.heap.objs.size := Heap.lt_size hx
  have hDf : s.heap.objs.size ∉ [h1.objs.size, l] := by
    simp only [List.mem_cons, List.not_mem_nil, or_false, not_or]
    exact ⟨Nat.ne_of_lt lD, Nat.ne_of_gt hlS⟩
  have off : ∀ {a : Addr}, a < s.heap.objs.size → a ≠ s.heap.objs.size ∧ a ∉ [h1.objs.size] := fun lt => by
    rw [List.mem_singleton]
    exact ⟨Nat.ne_of_lt lt, Nat.ne_of_lt (Nat.lt_trans lt lD)⟩
  have hT : ∀ i, i < items.size → T i ≠ s.heap.objs.size ∧ T i ∉ [h1.objs.size] := fun i hi' => by
    obtain ⟨q, hq⟩ : ∃ q, ps[i]? = some q := ⟨_, List.getElem?_eq_getElem (by rw [hsz]; exact hi')⟩
    obtain ⟨⟨o', ho', _⟩, _⟩ := ht i q hq
    exact off (Heap.lt_size ho')
  have dn : h1.DictOfH (tupleKind (mixKind prog w)) s.heap.objs.size [] := ⟨_, #[], 0, kp1 _ _ (Heap.get?_push_size _ rfl), ⟨rfl, rfl, rfl⟩, rfl, rfl, (fun x hx => by cases hx), List.nodup_nil⟩
  have dn2 : ∀ o, (h1.push o).DictOfH (tupleKind (mixKind prog w)) s.heap.objs.size [] := fun o => by
    obtain ⟨o', es, ep, ho', h2, h3, h4, h5, h6⟩ := dn
    exact ⟨o', es, ep, Heap.get?_push_of_some _ ho', h2, h3, h4, (fun x hx => by cases hx), h6⟩
  refine dictLoopT ((Walks.list (show A.in1.in1.handled = none by simp [hh]) h1.objs.size l (Nat.ne_of_lt (Nat.lt_trans hlS lD)) items).toS) hu s.heap.objs.size hDf ps T hsz (by rw [← hsz]; exact hb) hi hT (fun i q hq => off (tupIs_lt (ht i q hq).2)) (items.size - 0) 0 _ (by omega) (Nat.zero_le _) ⟨⟨_, Heap.get?_push_size _ rfl, rfl, rfl⟩, hl2.push _⟩ (dn2 _) (fun i q e => ?_) ?_
  · obtain ⟨⟨o', ho', r⟩, x⟩ := ht i q e
    exact ⟨⟨o', Heap.get?_push_of_some _ (kp2 _ _ ho'), r⟩, tupIs_at (fun o e => Heap.get?_push_of_some _ (kp2 _ _ e)) x⟩
  · intro s' hm hS'
    obtain ⟨g, g', d', tk', os'⟩ := s'
    have eg : g' = s.gens := hm.gens
    have ed : d' = s.drawn := hm.drawn
    have eo : os' = s.os := hm.os
    subst eg ed eo
    refine ⟨rfl, h g tk' hS' fun b u e => ?_⟩
    have lt := Heap.lt_size e
    refine hm.heap b u ?_ (Heap.get?_push_of_some _ (kp2 _ _ e))
    simp only [List.mem_cons, List.not_mem_nil, or_false, not_or]
    exact ⟨Nat.ne_of_lt lt, Nat.ne_of_lt (Nat.lt_trans lt lD)⟩
end
def mergeT (kvs more : List (List Key × V)) : List (List Key × V) := more.foldl (fun acc kv => putK acc kv.1 kv.2) kvs
theorem length_mergeT : ∀ (more kvs : List (List Key × V)), (mergeT kvs more).length ≤ kvs.length + more.length
  | [], kvs => Nat.le_refl _
  | p :: r, kvs => by
    have h1 := length_mergeT r (putK kvs p.1 p.2)
    have h2 := length_putK kvs p.1 p.2
    show (mergeT (putK kvs p.1 p.2) r).length ≤ _
    rw [List.length_cons]
    omega
theorem KT.merge {H : Hp} {more : List (List Key × V)} {rs : List (List Key × Addr × Value)} (r : KT H more rs) : ∀ {kvs : List (List Key × V)} {xs : List (List Key × Addr × Value)}, KT H kvs xs → KT H (mergeT kvs more) (mergedH xs rs) := by
  induction r with
  | nil => exact fun q => q
  | @cons p q ps qs h t ih =>
    intro kvs xs r0
    have e : KT H (putK kvs p.1 p.2) (storedH xs q.1 q.2.1 q.2.2) := by
      have := KT.put r0 p.1 h.2.1 h.2.2
      rw [← h.1]
      exact this
    exact ih e
section
variable {X : Cx}
inductive DctTP (K : PySem.W.Frag) (vs : List V) (H : Hp) (Q : VK) : Prop
  | mk (p : Addr) (xs : List V) (kvs : List (List Key × V)) (e : vs = [.ref p]) (s : SqL K H p xs) (l : xs.length = kvs.length) (t : ∀ (i : Nat) x kv, xs[i]? = some x → kvs[i]? = some kv → ∃ a b, x = .ref a ∧ H a = some (.tup [.ref b, kv.2]) ∧ H b = some (.tup (kv.1.map kV))) (q : ∀ d, H d = none → Q (.ref d) (upd H d (.dT (mergeT [] kvs))))
theorem hu2_of {A : Around} {k : Nat} (hr : Room k A) : A.units + 2 < cLine := by
  have := hr.un
  omega
theorem call_dict_pairsT (hu : X.A.units + 2 < cLine) (hc : X.calm = true) : CallR X (.type "dict") (fun vs H Q => DctTP X.K vs H Q) := by
  intro pins s σ H vs us Q I r h
  obtain ⟨p, xs, kvs, rfl, hq, ll, ht, q⟩ := h
  obtain ⟨u, rfl, rx⟩ := vals1 r
  cases rx
  obtain ⟨its, rv, ⟨o, c, ho, hcl, hd, hdat⟩, hz⟩ := I.list hq
  have hl := rv.length
  have row : ∀ i : Nat, ∃ t : Addr × Addr × Value, i < its.length → its[i]? = some (.ref t.1) ∧ ∀ kv, kvs[i]? = some kv → IsTup s.heap t.1 #[.ref t.2.1, t.2.2] ∧ H t.2.1 = some (.tup (kv.1.map kV)) ∧ RelV kv.2 t.2.2 := fun i => by
    by_cases hi : i < its.length
    · obtain ⟨kv, hkv⟩ : ∃ kv, kvs[i]? = some kv := ⟨_, List.getElem?_eq_getElem (by omega)⟩
      obtain ⟨x, hx⟩ : ∃ x, xs[i]? = some x := ⟨_, List.getElem?_eq_getElem (by omega)⟩
      obtain ⟨a, b, rfl, ha, hb⟩ := ht i x kv hx hkv
      obtain ⟨u, eu, ru⟩ := rv.get hx
      cases ru
      obtain ⟨jts, rj, tp, _⟩ := I.tuple (SqT.of (K := X.K) ha)
      cases rj with
      | cons r1 rest =>
        cases rest with
        | cons r2 rest2 =>
          cases rest2
          cases r1
          exact ⟨(a, b, _), fun _ => ⟨eu, fun kv' e => by rw [hkv] at e; cases e; exact ⟨tp, hb, r2⟩⟩⟩
    · exact ⟨(0, 0, .none), fun h => absurd h hi⟩
  obtain ⟨f, hf⟩ := Classical.axiomOfChoice row
  have hps : ∀ (i : Nat) q, (kvs.mapIdx fun i kv => (kv.1, (f i).2.1, (f i).2.2))[i]? = some q → ∃ kv, kvs[i]? = some kv ∧ q = (kv.1, (f i).2.1, (f i).2.2) := fun i q e => by
    rw [List.getElem?_mapIdx] at e
    obtain ⟨kv, e1, rfl⟩ := Option.map_eq_some_iff.mp e
    exact ⟨kv, e1, rfl⟩
  have hlt : ∀ {i : Nat} {kv : List Key × V}, kvs[i]? = some kv → i < its.length := fun e => by
    have := (List.getElem?_eq_some_iff.mp e).1
    omega
  have hpl : (kvs.mapIdx fun i kv => (kv.1, (f i).2.1, (f i).2.2)).length = kvs.length := List.length_mapIdx
  refine call_dictT (kvs.mapIdx fun i kv => (kv.1, (f i).2.1, (f i).2.2)) (fun i => (f i).1) hu (I.ok.hd hc) ho hcl hdat hd (by rw [hpl, List.size_toArray]; omega) (by rw [hpl]; omega) (fun i v e => ?_) (fun i q e => ?_) fun h' tk hD kp => ?_
  · have e' : its[i]? = some v := by simpa using e
    have := (hf i (List.getElem?_eq_some_iff.mp e').1).1
    rw [e'] at this
    exact Option.some.inj this
  · obtain ⟨kv, e1, rfl⟩ := hps i q e
    have := (hf i (hlt e1)).2 kv e1
    exact ⟨this.1, key_of I.hok this.2.1⟩
  · have rel : KT H kvs (kvs.mapIdx fun i kv => (kv.1, (f i).2.1, (f i).2.2)) := paired_of_at hpl.symm fun i p q e1 e2 => by
      obtain ⟨kv, e3, rfl⟩ := hps i q e2
      rw [e1] at e3
      cases e3
      exact ⟨rfl, ((hf i (hlt e1)).2 _ e1).2.1, ((hf i (hlt e1)).2 _ e1).2.2⟩
    have rel2 := KT.merge rel (kvs := []) (xs := []) .nil
    have ml := length_mergeT kvs []
    have z : ([] : List (List Key × V)).length = 0 := rfl
    obtain ⟨ob, es, ep, hq', h2, h3, h4, _, h5⟩ := hD
    have hn := I.hok.fresh (Nat.le_refl s.heap.objs.size)
    refine ⟨.ref _, _, I.laid (a := s.heap.objs.size) (o := .dT (mergeT [] kvs)) (t' := tk) kp (Nat.le_refl _) ⟨by omega, beq_eq_false_iff_ne.mpr (Ne.symm (Nat.ne_of_lt I.big)), _, rel2.keeps fun c ys ec => ?_, ob, es, ep, hq', h2, h3, h4, h5⟩, rfl, q _ hn⟩
    rw [upd_ne (ne_of_none ec hn)]
    exact ec
end
end L2
namespace J
open PySem PySem.Spec PyProof.Rows
open L2 (Cx V Hp St VK TE TT TA TS TG TGs TI TO SqL SqT)
section
variable {X : Cx} {e d st : Expr} {ty td te : TE} {ts : TO} {pos p2 : Pos}
theorem get2 {o f : Expr} {apos cpos : Pos} {tx : TE} (hu : X.A.units + 1 < cLine) (ho : JE X o td) (he : JE X e ty) (hf : JE X f tx) (h : plainO o = true := by rfl) (h1 : L2.notStar e = true := by rfl) (h2 : L2.notStar f = true := by rfl) (hline : (apos.endLine == cpos.line) = true := by rfl) : JE X (.Call (.Attribute o "get" apos) [e, f] [] cpos) (L2.tDGet2 td ty tx) :=
  ⟨L2.pe_dget2 hu ho.out he.out hf.out ⟨plainO_base h, by rw [few2 h1 h2]; rfl, hline, few2 h1 h2⟩⟩
theorem pi_range2 {tg f : Expr} {t : TA} {p : Pos} (B : L2.Bt X "range") (ha : JA X [e, f] t) (h1 : L2.notStar e = true := by rfl) (h2 : L2.notStar f = true := by rfl) : JI X tg (.Call (.Name "range" p) [e, f] [] pos) (L2.iRng2 t) :=
  ⟨L2.pi_range2 B.gl B.nm ha.out (by rw [L2.star_plain h1, L2.star_plain h2]; rfl) (by rw [L2.star_plain h2]; rfl)⟩
theorem ix_un {op : UnaryOp} {e : Expr} {p : Pos} : PlainIx (.UnaryOp op e p) := ⟨fun _ _ => rfl⟩
theorem op_eqLL (hu : X.A.units + 1 < cLine) : JC X .Eq (fun x y H Q => L2.EqLP X.K x y H Q) := ⟨L2.op_eqLL hu⟩
theorem op_notIn_tups (hu : X.A.units + 1 < cLine) : JC X .NotIn (fun x y H Q => L2.NinTP X.K x y H Q) := ⟨L2.op_notIn_tups hu⟩
theorem op_notB : JC X .IsNot (fun x y H Q => ∃ b c, x = .bl b ∧ y = .bl c ∧ Q (.bl (!(b == c))) H) := ⟨L2.op_notB⟩
theorem sliceRev (he : JE X e te) (hs : JO X (some st) ts) : JE X (.Subscript e (.Slice none none (some st) p2) pos) (L2.tSlRev X.K te ts) := ⟨L2.pe_sliceRev he.out hs.out⟩
theorem pe_din (hu : X.A.units + 1 < cLine) (hi : JE X e ty) (ho : JE X d td) (hm : behindInMarks .In d = false := by rfl) : JE X (.Compare e [.In] [d] pos) (L2.tDIn ty td) := ⟨L2.pe_din hu hi.out ho.out hm⟩
theorem call_dict_pairsT (hu : X.A.units + 2 < cLine) (hc : X.calm = true) : JF X (.type "dict") (fun vs H Q => L2.DctTP X.K vs H Q) := ⟨L2.call_dict_pairsT hu hc⟩
theorem disp4 {k1 k2 k3 k4 v1 v2 v3 v4 : Expr} {t1 t2 t3 t4 u1 u2 u3 u4 : TE} (a1 : JE X k1 t1) (b1 : JE X v1 u1) (a2 : JE X k2 t2) (b2 : JE X v2 u2) (a3 : JE X k3 t3) (b3 : JE X v3 u3) (a4 : JE X k4 t4) (b4 : JE X v4 u4) :
    JE X (.Dict [some k1, some k2, some k3, some k4] [v1, v2, v3, v4] pos) (L2.tDisp [(t1, u1), (t2, u2), (t3, u3), (t4, u4)]) :=
  ⟨L2.pe_disp (L2.pps_cons a1.out b1.out (L2.pps_cons a2.out b2.out (L2.pps_cons a3.out b3.out (L2.pps_cons a4.out b4.out L2.pps_nil)))) rfl rfl (fun e => by cases e) (by show 4 ≤ 15; decide)⟩
end
end J

namespace K41
open PySem L2
def kept : List Str := ["person", "talk", "saw", "knew", "heard", "told", "not", "nobody", "never", "by", "from", "to"]
def hourV : V → Bool
  | .int i => decide (0 ≤ i) && decide (i ≤ 10 ^ Int.toNat 18)
  | _ => false
def signOk : V → Bool
  | .str w => !decide (w.cps.toList < ("a" : Str).cps.toList) && !decide (("z" : Str).cps.toList < w.cps.toList)
  | _ => false
def nameS (z : Str) : Bool := decide (1 ≤ (z.length : Int)) && (decide ((z.length : Int) ≤ 12) && (((signs z).map signOk).all id && !inV (.str z) (kept.map V.str)))
def nameV : V → Bool
  | .str z => nameS z
  | _ => false
def spWhole (K : PySem.W.Frag) : Sp := fun vs H Q _ => ∃ x T, vs = [x] ∧ TyOf K H x (.type T) ∧ T ∈ tys ∧ Q (.bl (T == "int")) H
def spHour (K : PySem.W.Frag) : Sp := fun vs H Q _ => ∃ x T, vs = [x] ∧ TyOf K H x (.type T) ∧ T ∈ tys ∧ Q (.bl (hourV x)) H
def spName (K : PySem.W.Frag) : Sp := fun vs H Q _ => ∃ x T, vs = [x] ∧ TyOf K H x (.type T) ∧ T ∈ tys ∧ (∀ z, x = .str z → z.length ≤ sizeLine) ∧ ∀ H', Same H H' → Q (.bl (nameV x)) H'
/-! ### names of the law: letters, lengths, unlikeness -/
def lets : Str := "bcdfghijklmnpqrstuvwxz"
def LetS (z : Str) : Prop := ∀ c ∈ z.cps.toList, c ∈ lets.cps.toList
theorem app_cps (a b : Str) : (a ++ b).cps.toList = a.cps.toList ++ b.cps.toList := by
  show (a.cps ++ b.cps).toList = _
  rw [Array.toList_append]
theorem app_len (a b : Str) : (a ++ b).length = a.length + b.length := Array.size_append
theorem len_cps (a : Str) : a.cps.toList.length = a.length := Array.length_toList
theorem str_ext {a b : Str} (h : a.cps.toList = b.cps.toList) : a = b := by
  obtain ⟨x⟩ := a
  obtain ⟨y⟩ := b
  have : x = y := Array.ext' h
  rw [this]
theorem cut_lo {z : Str} {k : Nat} (hk : k ≤ z.length) : (cutS z none (some (k : Int))).cps.toList = z.cps.toList.take k := by
  show ((z.cps.toList.drop (HT.sIx z.length 0 none)).take (HT.sIx z.length z.length (some (k : Int)) - HT.sIx z.length 0 none)) = _
  rw [HT.sIx_none, HT.sIx_nat, List.drop_zero, Nat.sub_zero, Nat.min_eq_left hk]
theorem cut_hi {z : Str} {k : Nat} (hk : k ≤ z.length) : (cutS z (some (k : Int)) none).cps.toList = z.cps.toList.drop k := by
  show ((z.cps.toList.drop (HT.sIx z.length 0 (some (k : Int)))).take (HT.sIx z.length z.length none - HT.sIx z.length 0 (some (k : Int)))) = _
  rw [HT.sIx_none, HT.sIx_nat, Nat.min_eq_left hk]
  refine List.take_of_length_le ?_
  rw [List.length_drop, len_cps]
  exact Nat.le_refl _
/-- the stem with a letter put in -/
def putIn (z : Str) (k : Int) (c : Nat) : Str := (cutS z none (some k) ++ (⟨#[c]⟩ : Str)) ++ cutS z (some k) none
def genN (f : Nat → Str) (more : Str) : Nat → List Str
  | 0 => []
  | i + 1 => genN f more i ++ [f i, f i ++ more]
structure NamesOk (us : List Str) : Prop where
  len : us.length = 24
  nd : us.Nodup
  nm : ∀ z ∈ us, nameS z = true
/-- the letter at a place -/
def letAt (i : Int) : Nat := lets.cps.toList.getD i.toNat 0
theorem cutV_strs (us : List Str) (lo hi : Option Int) : cutV (us.map V.str) lo hi = (((us.drop (HT.sIx us.length 0 lo)).take (HT.sIx us.length us.length hi - HT.sIx us.length 0 lo))).map V.str := by
  unfold cutV
  rw [List.length_map, List.map_take, List.map_drop]
/-! ### what the defs of books promise where all is good -/
def HourOk (h : Int) : Prop := 0 ≤ h ∧ h ≤ 10 ^ Int.toNat 18
theorem hourV_ok {h : Int} (k : HourOk h) : hourV (.int h) = true := by
  show (decide (0 ≤ h) && decide (h ≤ 10 ^ Int.toNat 18)) = true
  rw [decide_eq_true k.1, decide_eq_true k.2]
  rfl
theorem name_len {z : Str} (h : nameS z = true) : z.length ≤ 12 := by
  unfold nameS at h
  rw [Bool.and_eq_true, Bool.and_eq_true, decide_eq_true_iff, decide_eq_true_iff] at h
  have := h.2.1
  omega
theorem name_size {z : Str} (h : nameS z = true) : z.length ≤ sizeLine := by
  have h1 := name_len h
  have : sizeLine = 16777216 := sizeLine_eq
  omega
theorem name_only {z : Str} (h : nameS z = true) : ∀ y, V.str z = V.str y → y.length ≤ sizeLine := fun y e => by
  cases e
  exact name_size h
structure PersOk (ps : List Str) : Prop where
  lo : 1 ≤ ps.length
  hi : ps.length ≤ 24
  nd : ps.Nodup
  nm : ∀ z ∈ ps, nameS z = true
inductive SightIn  (ps : List Str) (H : Hp) (v : V) : Prop
  | mk (a : Addr) (z : Str) (h : Int) (ta : Addr) (ws : List Str) (h0 : v = .ref a) (h1 : H a = some (.tup [.str z, .int h, .ref ta])) (h2 : z ∈ ps) (h3 : HourOk h) (h4 : H ta = some (.tup (ws.map V.str))) (h5 : 1 ≤ ws.length) (h6 : ws.length ≤ 6) (h7 : ∀ x ∈ ws, nameS x = true)
inductive TalkIn  (ps : List Str) (H : Hp) (v : V) : Prop
  | mk (a : Addr) (h : Int) (p q w : Str) (h0 : v = .ref a) (h1 : H a = some (.tup [.int h, .str p, .str q, .str w])) (h2 : HourOk h) (h3 : p ∈ ps) (h4 : q ∈ ps) (h5 : p ≠ q) (h6 : (w = "both" ∨ w = "one"))
inductive SayIn  (ps : List Str) (H : Hp) (v : V) : Prop
  | mk (a : Addr) (h0 : v = .ref a) (h1 : ((∃ (p : Str) (h : Int), H a = some (.tup [.str "knew", .str p, .int h]) ∧ p ∈ ps ∧ HourOk h) ∨    (∃ (p : Str) (b : V), H a = some (.tup [.str "unheard", .str p, b]) ∧ p ∈ ps ∧ (b = .non ∨ ∃ h : Int, b = .int h ∧ HourOk h)) ∨    (∃ (p : Str) (h k : Int), H a = some (.tup [.str "silent", .str p, .int h, .int k]) ∧ p ∈ ps ∧ HourOk h ∧ HourOk k ∧ h ≤ k) ∨    (∃ p q : Str, H a = some (.tup [.str "barred", .str p, .str q]) ∧ p ∈ ps ∧ q ∈ ps ∧ p ≠ q)))
/-- tuples stay -/
def Tk (H H' : Hp) : Prop := ∀ b xs, H b = some (.tup xs) → H' b = some (.tup xs)
theorem Tk.of {H H' : Hp} (s : Same H H') : Tk H H' := fun b _ e => s b _ e
theorem Tk.trans {H H1 H2 : Hp} (a : Tk H H1) (b : Tk H1 H2) : Tk H H2 := fun c xs e => b c xs (a c xs e)
theorem Tk.upd {H : Hp} {l : Addr} {xs ys : List V} (h : H l = some (.lst xs)) : Tk H (upd H l (.lst ys)) := fun b zs e => by
  rw [upd_ne (ne_of e h (by intro z; cases z))]
  exact e
theorem SightIn.mono {ps : List Str} {H H' : Hp} {v : V} (s : Tk H H') (h : SightIn ps H v) : SightIn ps H' v := by
  obtain ⟨a, z, h, ta, ws, e, ha, hz, hh, ht, r1, r2, r3⟩ := h
  exact ⟨a, z, h, ta, ws, e, s _ _ ha, hz, hh, s _ _ ht, r1, r2, r3⟩
theorem TalkIn.mono {ps : List Str} {H H' : Hp} {v : V} (s : Tk H H') (h : TalkIn ps H v) : TalkIn ps H' v := by
  obtain ⟨a, h, p, q, w, e, ha, r1, r2, r3, r4, r5⟩ := h
  exact ⟨a, h, p, q, w, e, s _ _ ha, r1, r2, r3, r4, r5⟩
theorem SayIn.mono {ps : List Str} {H H' : Hp} {v : V} (s : Tk H H') (h : SayIn ps H v) : SayIn ps H' v := by
  obtain ⟨a, e, h⟩ := h
  refine ⟨a, e, ?_⟩
  rcases h with ⟨p, h, ha, r⟩ | ⟨p, b, ha, r⟩ | ⟨p, h, k, ha, r⟩ | ⟨p, q, ha, r⟩
  · exact .inl ⟨p, h, s _ _ ha, r⟩
  · exact .inr (.inl ⟨p, b, s _ _ ha, r⟩)
  · exact .inr (.inr (.inl ⟨p, h, k, s _ _ ha, r⟩))
  · exact .inr (.inr (.inr ⟨p, q, s _ _ ha, r⟩))
theorem inV_strs {z : Str} {ps : List Str} (h : z ∈ ps) : inV (.str z) (ps.map V.str) = true := by
  show (ps.map V.str).any (fun y => eqV y (.str z)) = true
  rw [List.any_map, List.any_eq_true]
  exact ⟨z, h, by show (z == z) = true; exact beq_self_eq_true z⟩
theorem flat_strs (ps : List Str) : (ps.map V.str).all flatV = true := by
  rw [List.all_map, List.all_eq_true]
  intro z _
  rfl
theorem all_true {α : Type} {f : α → Bool} {xs : List α} (h : ∀ x ∈ xs, f x = true) : (xs.map f).all id = true := by
  rw [List.all_map, List.all_eq_true]
  exact fun x hx => h x hx
theorem len_ne {xs : List V} {n : Nat} {m : Int} (h : xs.length = n) (hm : (n : Int) ≠ m) : ¬ decide (V.int (xs.length : Nat) = V.int m) = true := by
  rw [decide_eq_true_iff, h]
  intro e
  injection e with e
  exact hm e
theorem len_is {xs : List V} {n : Nat} {m : Int} (h : xs.length = n) (hm : (n : Int) = m) : decide (V.int (xs.length : Nat) = V.int m) = true := by
  rw [decide_eq_true_iff, h, hm]
inductive spListUpP  (vs : List V) (H : Hp) (Q : VK) : Prop
  | mk (p : Addr) (xs : List V) (m : Int) (h0 : vs = [.ref p, .int m]) (h1 : H p = some (.lst xs)) (h2 : (xs.length : Int) ≤ m) (h3 : Q (.bl true) H)
def spListUp  : Sp := fun vs H Q _ => spListUpP  vs H Q
inductive spTupOfP  (vs : List V) (H : Hp) (Q : VK) : Prop
  | mk (p : Addr) (xs : List V) (m : Int) (h0 : vs = [.ref p, .int m]) (h1 : H p = some (.tup xs)) (h2 : (xs.length : Int) = m) (h3 : Q (.bl true) H)
def spTupOf  : Sp := fun vs H Q _ => spTupOfP  vs H Q
inductive spPersonP  (vs : List V) (H : Hp) (Q : VK) : Prop
  | mk (p : Addr) (ps : List Str) (z : Str) (h0 : vs = [.ref p, .str z]) (h1 : H p = some (.lst (ps.map V.str))) (h2 : PersOk ps) (h3 : z ∈ ps) (h4 : ∀ H', Same H H' → Q (.bl true) H')
def spPerson  : Sp := fun vs H Q _ => spPersonP  vs H Q
inductive spUnlikeP  (vs : List V) (H : Hp) (Q : VK) : Prop
  | mk (p : Addr) (ps : List Str) (y z : Str) (h0 : vs = [.ref p, .str y, .str z]) (h1 : H p = some (.lst (ps.map V.str))) (h2 : PersOk ps) (h3 : y ∈ ps) (h4 : z ∈ ps) (h5 : y ≠ z) (h6 : ∀ H', Same H H' → Q (.bl true) H')
def spUnlike  : Sp := fun vs H Q _ => spUnlikeP  vs H Q
inductive spTaleP  (vs : List V) (H : Hp) (Q : VK) : Prop
  | mk (t : Addr) (ws : List Str) (h0 : vs = [.ref t]) (h1 : H t = some (.tup (ws.map V.str))) (h2 : 1 ≤ ws.length) (h3 : ws.length ≤ 6) (h4 : (∀ x ∈ ws, nameS x = true)) (h5 : ∀ H', Same H H' → Q (.bl true) H')
def spTale  : Sp := fun vs H Q _ => spTaleP  vs H Q
inductive spSightP  (vs : List V) (H : Hp) (Q : VK) : Prop
  | mk (p : Addr) (ps : List Str) (v : V) (h0 : vs = [.ref p, v]) (h1 : H p = some (.lst (ps.map V.str))) (h2 : PersOk ps) (h3 : SightIn ps H v) (h4 : ∀ H', Same H H' → Q (.bl true) H')
def spSight  : Sp := fun vs H Q _ => spSightP  vs H Q
inductive spWayP  (vs : List V) (H : Hp) (Q : VK) : Prop
  | mk (w : Str) (h0 : vs = [.str w]) (h1 : (w = "both" ∨ w = "one")) (h2 : ∀ H', Same H H' → Q (.bl true) H')
def spWay  : Sp := fun vs H Q _ => spWayP  vs H Q
inductive spTalkP  (vs : List V) (H : Hp) (Q : VK) : Prop
  | mk (p : Addr) (ps : List Str) (v : V) (h0 : vs = [.ref p, v]) (h1 : H p = some (.lst (ps.map V.str))) (h2 : PersOk ps) (h3 : TalkIn ps H v) (h4 : ∀ H', Same H H' → Q (.bl true) H')
def spTalk  : Sp := fun vs H Q _ => spTalkP  vs H Q
inductive spSpanP  (vs : List V) (H : Hp) (Q : VK) : Prop
  | mk (h k : Int) (h0 : vs = [.int h, .int k]) (h1 : HourOk h) (h2 : HourOk k) (h3 : h ≤ k) (h4 : Q (.bl true) H)
def spSpan  : Sp := fun vs H Q _ => spSpanP  vs H Q
inductive spShortP  (vs : List V) (H : Hp) (Q : VK) : Prop
  | mk (p : Addr) (ps : List Str) (kd y : Str) (b : V) (h0 : vs = [.ref p, .str kd, .str y, b]) (h1 : H p = some (.lst (ps.map V.str))) (h2 : PersOk ps) (h3 : y ∈ ps) (h4 : ((kd = "barred" ∧ ∃ z, b = .str z ∧ z ∈ ps ∧ y ≠ z) ∨ (kd = "unheard" ∧ (b = .non ∨ ∃ h : Int, b = .int h ∧ HourOk h)) ∨ (kd = "knew" ∧ ∃ h : Int, b = .int h ∧ HourOk h))) (h5 : ∀ H', Same H H' → Q (.bl true) H')
def spShort  : Sp := fun vs H Q _ => spShortP  vs H Q
inductive spSayingP  (vs : List V) (H : Hp) (Q : VK) : Prop
  | mk (p : Addr) (ps : List Str) (v : V) (h0 : vs = [.ref p, v]) (h1 : H p = some (.lst (ps.map V.str))) (h2 : PersOk ps) (h3 : SayIn ps H v) (h4 : ∀ H', Same H H' → Q (.bl true) H')
def spSaying  : Sp := fun vs H Q _ => spSayingP  vs H Q
inductive spPersonsP  (vs : List V) (H : Hp) (Q : VK) : Prop
  | mk (p : Addr) (ps : List Str) (h0 : vs = [.ref p]) (h1 : H p = some (.lst (ps.map V.str))) (h2 : PersOk ps) (h3 : ∀ H', Same H H' → Q (.bl true) H')
def spPersons  : Sp := fun vs H Q _ => spPersonsP  vs H Q
inductive spManyP  (M : List Str → Hp → V → Prop) (n : Nat) (vs : List V) (H : Hp) (Q : VK) : Prop
  | mk (p q : Addr) (ps : List Str) (xs : List V) (h0 : vs = [.ref p, .ref q]) (h1 : H p = some (.lst (ps.map V.str))) (h2 : PersOk ps) (h3 : H q = some (.lst xs)) (h4 : xs.length ≤ n) (h5 : (∀ v ∈ xs, M ps H v)) (h6 : ∀ H', Same H H' → Q (.bl true) H')
def spMany  (M : List Str → Hp → V → Prop) (n : Nat) : Sp := fun vs H Q _ => spManyP M n vs H Q
/-- the attributes of a book, in the order in which they are stored -/
def flds (p s t y : Addr) : List (Str × V) := putF "kept_sayings" (.ref y) (putF "kept_talks" (.ref t) (putF "kept_sights" (.ref s) (putF "kept_persons" (.ref p) [])))
theorem fld_p (p s t y : Addr) : (flds p s t y).lookup ("kept_persons" : Str) = some (.ref p) := by
  unfold flds
  rw [lookup_putF, if_neg (by decide +kernel), lookup_putF, if_neg (by decide +kernel), lookup_putF, if_neg (by decide +kernel), lookup_putF, if_pos rfl]
theorem fld_s (p s t y : Addr) : (flds p s t y).lookup ("kept_sights" : Str) = some (.ref s) := by
  unfold flds
  rw [lookup_putF, if_neg (by decide +kernel), lookup_putF, if_neg (by decide +kernel), lookup_putF, if_pos rfl]
theorem fld_t (p s t y : Addr) : (flds p s t y).lookup ("kept_talks" : Str) = some (.ref t) := by
  unfold flds
  rw [lookup_putF, if_neg (by decide +kernel), lookup_putF, if_pos rfl]
theorem fld_y (p s t y : Addr) : (flds p s t y).lookup ("kept_sayings" : Str) = some (.ref y) := by
  unfold flds
  rw [lookup_putF, if_pos rfl]
theorem fld_no (p s t y : Addr) {m : Str} (h1 : ¬ m = "kept_sayings") (h2 : ¬ m = "kept_talks") (h3 : ¬ m = "kept_sights") (h4 : ¬ m = "kept_persons") : (flds p s t y).lookup m = none := by
  unfold flds
  rw [lookup_putF, if_neg h1, lookup_putF, if_neg h2, lookup_putF, if_neg h3, lookup_putF, if_neg h4]
  rfl
/-- good parts of a book -/
structure Parts (H : Hp) (ps : List Str) (ss ts ys : List V) : Prop where
  ok : PersOk ps
  sl : ss.length ≤ 24
  sg : ∀ v ∈ ss, SightIn ps H v
  tl : ts.length ≤ 120
  tg : ∀ v ∈ ts, TalkIn ps H v
  yl : ys.length ≤ 60
  yg : ∀ v ∈ ys, SayIn ps H v
theorem Parts.mono {H H' : Hp} {ps : List Str} {ss ts ys : List V} (s : Tk H H') (g : Parts H ps ss ts ys) : Parts H' ps ss ts ys :=
  ⟨g.ok, g.sl, fun v h => (g.sg v h).mono s, g.tl, fun v h => (g.tg v h).mono s, g.yl, fun v h => (g.yg v h).mono s⟩
/-- a book stands at x -/
structure Bk (C : Addr) (H : Hp) (x p s t y : Addr) (ps : List Str) (ss ts ys : List V) : Prop where
  ob : ∃ dx, H x = some (.ins C dx (flds p s t y))
  hp : H p = some (.lst (ps.map V.str))
  hs : H s = some (.lst ss)
  ht : H t = some (.lst ts)
  hy : H y = some (.lst ys)
theorem Bk.mono {C : Addr} {H H' : Hp} {x p s t y : Addr} {ps : List Str} {ss ts ys : List V} (m : Same H H') (b : Bk C H x p s t y ps ss ts ys) : Bk C H' x p s t y ps ss ts ys := by
  obtain ⟨⟨dx, e⟩, h1, h2, h3, h4⟩ := b
  exact ⟨⟨dx, m _ _ e⟩, m _ _ h1, m _ _ h2, m _ _ h3, m _ _ h4⟩
inductive spInitP  (C : Addr) (vs : List V) (H : Hp) (Q : VK) : Prop
  | mk (x dx p a b c : Addr) (ps : List Str) (ss ts ys : List V) (h0 : vs = [.ref x, .ref p, .ref a, .ref b, .ref c]) (h1 : H x = some (.ins C dx [])) (h2 : H p = some (.lst (ps.map V.str))) (h3 : H a = some (.lst ss)) (h4 : H b = some (.lst ts)) (h5 : H c = some (.lst ys)) (h6 : Parts H ps ss ts ys) (h7 : ∀ (p' s' t' y' : Addr) (H' : Hp), H p' = none → H s' = none → H t' = none → H y' = none → Bk C H' x p' s' t' y' ps ss ts ys → (∀ d o, H d = some o → d ≠ x → H' d = some o) → Q .non H')
def spInit  (C : Addr) : Sp := fun vs H Q _ => spInitP C vs H Q
structure Txt (K : PySem.W.Frag) (mg : Str → Option Value) (kw C : Addr) : Prop where
  b_isinstance : mg "isinstance" = none
  b_int : mg "int" = none
  b_bool : mg "bool" = none
  b_str : mg "str" = none
  b_len : mg "len" = none
  b_all : mg "all" = none
  b_range : mg "range" = none
  b_list : mg "list" = none
  b_tuple : mg "tuple" = none
  b_set : mg "set" = none
  b_zip : mg "zip" = none
  b_enumerate : mg "enumerate" = none
  b_min : mg "min" = none
  b_max : mg "max" = none
  b_any : mg "any" = none
  b_sorted : mg "sorted" = none
  b_dict : mg "dict" = none
  b_sum : mg "sum" = none
  b_reversed : mg "reversed" = none
  kwm : mg "KEPT_WORDS" = some (.ref kw)
  kwt : ∃ (o : Obj) (its : Array Value) (n : Nat), K.lookup kw = some o ∧ o.cls = .type "tuple" ∧ o.data = .seq its n ∧ its.size ≤ sizeLine ∧ Vals (kept.map V.str) its.toList
  g_MOST_PERSONS : ∃ u, mg "MOST_PERSONS" = some u ∧ RelV (.int 24) u
  g_MOST_SIGHTS : ∃ u, mg "MOST_SIGHTS" = some u ∧ RelV (.int 24) u
  g_MOST_TALKS : ∃ u, mg "MOST_TALKS" = some u ∧ RelV (.int 120) u
  g_MOST_SAYINGS : ∃ u, mg "MOST_SAYINGS" = some u ∧ RelV (.int 60) u
  g_MOST_WORDS : ∃ u, mg "MOST_WORDS" = some u ∧ RelV (.int 6) u
  cl : Cls K C
  nP : NoAttr K C "kept_persons"
  nS : NoAttr K C "kept_sights"
  nT : NoAttr K C "kept_talks"
  nY : NoAttr K C "kept_sayings"
section
variable {P : Program} {w : World} {K : PySem.W.Frag} {mg : Str → Option Value} {base : Heap} {kw C : Addr}
theorem scW : FnScope ["thing"] ["thing"] (defScope s_is_whole) := ⟨rfl, rfl, rfl, by decide +kernel, rfl, by decide +kernel, by decide +kernel⟩
theorem ok_whole {f : Addr} {fd : FuncData} (F : Fun K "is_whole" "is_whole" s_is_whole f fd) (T : Txt K mg kw C) : FnOk P w K mg base CX0 1 f fd ["thing"] (spWhole K) := by
  refine F.ok scW (fun vs H Q E h => ?_) (fun cdv A outer s H vs Q E hr h => ?_)
  · obtain ⟨x, t, rfl, _⟩ := h
    rfl
  · obtain ⟨x, t, rfl, ty, ht, k⟩ := h
    refine ⟨_, pss_one (ps_ret (pe_and (pe_callB call_isi rfl T.b_isinstance bb_isinstance (pa_cons (pv 0) (pa_cons (pe_bltn (v := .ty "int") rfl T.b_int bb_int rfl) pa_nil)))
      (pe_one (pe_not (pe_callB call_isi rfl T.b_isinstance bb_isinstance (pa_cons (pv 0) (pa_cons (pe_bltn (v := .ty "bool") rfl T.b_bool bb_bool rfl) pa_nil))))))), ?_⟩
    refine ⟨_, rfl, _, _, _, _, rfl, ty, kit_isa ht (by decide), _, rfl, ?_⟩
    refine ite2 (fun h1 => ?_) (fun h1 => ?_)
    · refine ⟨_, rfl, _, _, _, _, rfl, ty, kit_isa ht (by decide), _, rfl, ?_⟩
      have e : (!isaB t "bool") = (t == "int") := by
        simp only [tys, List.mem_cons, List.not_mem_nil, or_false] at ht
        rcases ht with rfl | rfl | rfl | rfl | rfl | rfl | rfl <;> first | rfl | (exfalso; revert h1; decide)
      show Q (.bl (!isaB t "bool")) H
      rw [e]
      exact k
    · have e : (t == "int") = false := by
        simp only [tys, List.mem_cons, List.not_mem_nil, or_false] at ht
        rcases ht with rfl | rfl | rfl | rfl | rfl | rfl | rfl <;> first | rfl | (exfalso; revert h1; decide)
      show Q (.bl false) H
      rw [← e]
      exact k
theorem scH : FnScope ["thing"] ["thing"] (defScope s_is_hour) := ⟨rfl, rfl, rfl, by decide +kernel, rfl, by decide +kernel, by decide +kernel⟩
theorem ok_hour {f fW : Addr} {fd fdW : FuncData} (F : Fun K "is_hour" "is_hour" s_is_hour f fd) (DW : Df K mg "is_whole" s_is_whole ["thing"] fW fdW) (T : Txt K mg kw C) : FnOk P w K mg base CX0 2 f fd ["thing"] (spHour K) := by
  have GW : FnOk P w K mg base CX0 1 fW fdW ["thing"] (spWhole K) := ok_whole DW.fn T
  refine F.ok scH (fun vs H Q E h => ?_) (fun cdv A outer s H vs Q E hr h => ?_)
  · obtain ⟨x, t, rfl, _⟩ := h
    rfl
  · obtain ⟨x, t, rfl, ty, ht, k⟩ := h
    refine ⟨_, pss_one (ps_ret (pe_and (pe_call GW hr rfl DW.nm DW.fn.kp DW.bi .nil pass0 (pa_cons (pv 0) pa_nil))
      (pe_one (pe_chain op_le op_le pe_int (pv 0) (pe_op op_pow pe_int pe_int))))), ?_⟩
    refine ⟨_, rfl, x, t, rfl, ty, ht, _, rfl, ?_⟩
    refine ite2 (fun h1 => ?_) (fun h1 => ?_)
    · have e : t = "int" := eq_of_beq h1
      subst e
      obtain ⟨i, rfl⟩ := ty_int ty
      · refine ⟨_, rfl, _, _, rfl, rfl, _, rfl, ?_⟩
        refine ite2 (fun h2 => ?_) (fun h2 => ?_)
        · refine ⟨_, _, rfl, rfl, ⟨by decide, by decide, by decide⟩, _, _, rfl, rfl, ?_⟩
          have e2 : hourV (.int i) = decide (i ≤ 10 ^ Int.toNat 18) := by
            show (decide (0 ≤ i) && decide (i ≤ 10 ^ Int.toNat 18)) = _
            rw [h2, Bool.true_and]
          rw [e2] at k
          exact k
        · have e2 : hourV (.int i) = false := by
            show (decide (0 ≤ i) && decide (i ≤ 10 ^ Int.toNat 18)) = _
            rw [Bool.eq_false_iff.mpr h2, Bool.false_and]
          rw [e2] at k
          exact k
    · have e2 : hourV x = false := by
        cases x with
        | int i => exact absurd (beq_iff_eq.mpr (of_ty_int ty)) h1
        | _ => rfl
      rw [e2] at k
      exact k
theorem scN : FnScope ["thing"] ["thing"] (defScope s_is_name) := ⟨rfl, rfl, rfl, by decide +kernel, rfl, by decide +kernel, by decide +kernel⟩
theorem ok_name {f : Addr} {fd : FuncData} (F : Fun K "is_name" "is_name" s_is_name f fd) (T : Txt K mg kw C) : FnOk P w K mg base CX0 1 f fd ["thing"] (spName K) := by
  refine F.ok scN (fun vs H Q E h => ?_) (fun cdv A outer s H vs Q E hr h => ?_)
  · obtain ⟨x, t, rfl, _⟩ := h
    rfl
  · obtain ⟨x, t, rfl, ty, ht, hz, k⟩ := h
    refine ⟨_, pss_cons (ps_if (PW.pt (pw_or (pt_not (pt_val (pe_callB call_isi rfl T.b_isinstance bb_isinstance (pa_cons (pv 0) (pa_cons (pe_bltn (v := .ty "str") rfl T.b_str bb_str rfl) pa_nil)))))
        (pw_or1 (pt_not (pt_chain op_le op_le pe_int (pe_callB call_len_str rfl T.b_len bb_len (pa_cons (pv 0) pa_nil)) pe_int))))) (pss_one (ps_ret pe_bl)) pss_nil)
      (pss_one (ps_ret (pe_and (pe_callB (call_allB rfl) rfl T.b_all bb_all (pa_cons (pe_lcB (sc := defScope s_is_name) (N := ["thing"]) (is := []) (ns := []) rfl (pi_str (pv 0))
          ⟨rfl, by decide +kernel, by decide +kernel, by decide +kernel, rfl, rfl, by decide +kernel, by decide +kernel⟩ (fun _ _ _ _ _ => pe_chain op_le_str op_le_str pe_str (pv 0) pe_str)) pa_nil))
        (pe_one (pe_cmpR op_notIn_seq (pv 0) (pe_glob (v := .ref kw) rfl T.kwm rfl) (by with_unfolding_all rfl)))))), ?_⟩
    refine ⟨_, rfl, _, _, _, _, rfl, ty, kit_isa ht (by decide), _, rfl, ?_⟩
    by_cases hs : t = "str"
    · subst hs
      obtain ⟨z, rfl⟩ := ty_str ty
      · have hz' := hz z rfl
        refine iteF ?_
        refine ⟨_, rfl, z, rfl, hz', _, _, rfl, rfl, _, rfl, ?_⟩
        by_cases h1 : 1 ≤ (z.length : Int)
        · rw [decide_eq_true h1]
          refine iteT ⟨_, _, rfl, rfl, _, rfl, ?_⟩
          by_cases h2 : (z.length : Int) ≤ 12
          · rw [decide_eq_true h2]
            refine iteF ?_
            refine ⟨_, rfl, z, rfl, lc_str (fun v => .bl (signOk v)) hz' (fun v H2 Q' hv sm q' => ?_) fun D hD => ?_⟩
            · obtain ⟨c, _, rfl⟩ := List.mem_map.mp hv
              refine ⟨_, rfl, _, _, rfl, rfl, _, rfl, ite2 (fun h => ⟨_, _, rfl, rfl, ?_⟩) (fun h => ?_)⟩
              · have e : signOk (.str ⟨#[c]⟩) = !decide (("z" : Str).cps.toList < (⟨#[c]⟩ : Str).cps.toList) := by
                  show (!decide ((⟨#[c]⟩ : Str).cps.toList < ("a" : Str).cps.toList) && _) = _
                  rw [h, Bool.true_and]
                rw [e] at q'
                exact q'
              · have e : signOk (.str ⟨#[c]⟩) = false := by
                  show (!decide ((⟨#[c]⟩ : Str).cps.toList < ("a" : Str).cps.toList) && _) = _
                  rw [Bool.eq_false_iff.mpr h, Bool.false_and]
                rw [e] at q'
                exact q'
            · refine ⟨D, (signs z).map signOk, rfl, SqL.of (upd_same.trans (by rw [List.map_map]; rfl)), _, rfl, ?_⟩
              have e : nameS z = (((signs z).map signOk).all id && !inV (.str z) (kept.map V.str)) := by
                unfold nameS
                rw [decide_eq_true h1, decide_eq_true h2, Bool.true_and, Bool.true_and]
              have k' := k _ (Same.upd (o := .lst (((signs z).map fun v => V.bl (signOk v)))) hD)
              have k2 : Q (.bl (nameS z)) _ := k'
              rw [e] at k2
              refine ite2 (fun h => ?_) (fun h => ?_)
              · rw [h, Bool.true_and] at k2
                refine ⟨_, rfl, kw, _, rfl, .inr (.inr T.kwt), rfl, ?_, k2⟩
                decide +kernel
              · rw [Bool.eq_false_iff.mpr h, Bool.false_and] at k2
                exact k2
          · rw [decide_eq_false h2]
            refine iteT ?_
            have e : nameS z = false := by
              unfold nameS
              rw [decide_eq_false h2, Bool.false_and, Bool.and_false]
            have k2 : Q (.bl (nameS z)) H := k H (Same.refl H)
            rw [e] at k2
            exact k2
        · rw [decide_eq_false h1]
          refine iteF ⟨_, rfl, iteT ?_⟩
          have e : nameS z = false := by
            unfold nameS
            rw [decide_eq_false h1, Bool.false_and]
          have k2 : Q (.bl (nameS z)) H := k H (Same.refl H)
          rw [e] at k2
          exact k2
    · have e : isaB t "str" = false := by
        unfold isaB
        rw [beq_eq_false_iff_ne.mpr hs, Bool.false_or]
        exact Bool.and_false _
      rw [e]
      refine iteT (iteT ?_)
      have e2 : nameV x = false := by
        cases x with
        | str z => exact absurd (of_ty_str ty) hs
        | _ => rfl
      have k2 := k H (Same.refl H)
      rw [e2] at k2
      exact k2
theorem at_ex {α : Type} {xs : List α} {i : Int} (h0 : 0 ≤ i) (h1 : i < xs.length) : ∃ v, atI xs i = some v ∧ v ∈ xs := by
  have hj : i.toNat < xs.length := by omega
  have e : ((i.toNat : Nat) : Int) = i := Int.toNat_of_nonneg h0
  refine ⟨xs[i.toNat], ?_, List.getElem_mem hj⟩
  have := atI_nat (xs := xs) (j := i.toNat) (v := xs[i.toNat]) (by simp [hj])
  rw [e] at this
  exact this
theorem sc_is_list_up_to : FnScope ["thing", "most"] ["thing", "most"] (defScope s_is_list_up_to) := ⟨rfl, rfl, rfl, by decide +kernel, rfl, by decide +kernel, by decide +kernel⟩
theorem ok_list_up {f : Addr} {fd : FuncData} (D : Df K mg "is_list_up_to" s_is_list_up_to ["thing", "most"] f fd) (T : Txt K mg kw C) : Gd P w K mg base 1 "is_list_up_to" spListUp := by
  refine J.def_ok D sc_is_list_up_to (fun vs H Q E h => ?_) (fun X H vs Q E hh h => ?_)
  · obtain ⟨p, xs, m, rfl, _⟩ := h
    rfl
  · obtain ⟨p, xs, m, rfl, hp, hm, k⟩ := h
    have S0 : L2.Slot X 0 "thing" := hh.slot 0 rfl (by first | exact .inl rfl | exact .inr rfl) (by decide) (by decide)
    have S1 : L2.Slot X 1 "most" := hh.slot 1 rfl (by first | exact .inl rfl | exact .inr rfl) (by decide) (by decide)
    have B_isinstance : Bt X "isinstance" := hh.bt T.b_isinstance rfl (by decide) (by decide)
    have B_len : Bt X "len" := hh.bt T.b_len rfl (by decide) (by decide)
    have B_list : Bt X "list" := hh.bt T.b_list rfl (by decide) (by decide)
    refine ⟨_, (J.pss_one (J.ps_ret (J.pe_and (J.blt B_isinstance J.call_isi L2.bb_isinstance (J.pa_c (J.rd S0) (J.pa_c (J.ty B_list L2.bb_list) J.pa_nil))) (J.pe_one (J.pe_cmpR J.op_le (J.blt B_len J.call_len_seq L2.bb_len (J.pa_c (J.rd S0) J.pa_nil)) (J.rd S1) (L2.nomark _)))))), ?_⟩
    refine ⟨_, rfl, _, _, _, _, rfl, .lst hp, kit_isa (T := "list") (by decide) (by decide), _, rfl, iteP (by decide) ?_⟩
    refine ⟨_, rfl, p, xs, rfl, .inl (SqL.of hp), _, rfl, _, _, rfl, rfl, ?_⟩
    show Q (.bl (decide ((xs.length : Int) ≤ m))) H
    rw [decide_eq_true hm]
    exact k
theorem sc_is_tuple_of : FnScope ["thing", "length"] ["thing", "length"] (defScope s_is_tuple_of) := ⟨rfl, rfl, rfl, by decide +kernel, rfl, by decide +kernel, by decide +kernel⟩
theorem ok_tup_of {f : Addr} {fd : FuncData} (D : Df K mg "is_tuple_of" s_is_tuple_of ["thing", "length"] f fd) (T : Txt K mg kw C) : Gd P w K mg base 1 "is_tuple_of" spTupOf := by
  refine J.def_ok D sc_is_tuple_of (fun vs H Q E h => ?_) (fun X H vs Q E hh h => ?_)
  · obtain ⟨p, xs, m, rfl, _⟩ := h
    rfl
  · obtain ⟨p, xs, m, rfl, hp, hm, k⟩ := h
    have S0 : L2.Slot X 0 "thing" := hh.slot 0 rfl (by first | exact .inl rfl | exact .inr rfl) (by decide) (by decide)
    have S1 : L2.Slot X 1 "length" := hh.slot 1 rfl (by first | exact .inl rfl | exact .inr rfl) (by decide) (by decide)
    have B_isinstance : Bt X "isinstance" := hh.bt T.b_isinstance rfl (by decide) (by decide)
    have B_len : Bt X "len" := hh.bt T.b_len rfl (by decide) (by decide)
    have B_tuple : Bt X "tuple" := hh.bt T.b_tuple rfl (by decide) (by decide)
    refine ⟨_, (J.pss_one (J.ps_ret (J.pe_and (J.blt B_isinstance J.call_isi L2.bb_isinstance (J.pa_c (J.rd S0) (J.pa_c (J.ty B_tuple L2.bb_tuple) J.pa_nil))) (J.pe_one (J.pe_cmpR J.op_eq (J.blt B_len J.call_len_seq L2.bb_len (J.pa_c (J.rd S0) J.pa_nil)) (J.rd S1) (L2.nomark _)))))), ?_⟩
    refine ⟨_, rfl, _, _, _, _, rfl, .tup hp, kit_isa (T := "tuple") (by decide) (by decide), _, rfl, iteP (by decide) ?_⟩
    refine ⟨_, rfl, p, xs, rfl, .inr (SqT.of hp), _, rfl, rfl, ?_⟩
    rw [hm, decide_eq_true rfl]
    exact k
theorem sc_is_person : FnScope ["persons", "thing"] ["persons", "thing"] (defScope s_is_person) := ⟨rfl, rfl, rfl, by decide +kernel, rfl, by decide +kernel, by decide +kernel⟩
theorem ok_person {f : Addr} {fd : FuncData} (D : Df K mg "is_person" s_is_person ["persons", "thing"] f fd) (G_is_name : Gd P w K mg base 1 "is_name" (spName K)) : Gd P w K mg base 2 "is_person" spPerson := by
  refine J.def_ok D sc_is_person (fun vs H Q E h => ?_) (fun X H vs Q E hh h => ?_)
  · obtain ⟨p, ps, z, rfl, _⟩ := h
    rfl
  · obtain ⟨p, ps, z, rfl, hp, hP, hz, k⟩ := h
    have S0 : L2.Slot X 0 "persons" := hh.slot 0 rfl (by first | exact .inl rfl | exact .inr rfl) (by decide) (by decide)
    have S1 : L2.Slot X 1 "thing" := hh.slot 1 rfl (by first | exact .inl rfl | exact .inr rfl) (by decide) (by decide)
    have C_is_name := hh.cal G_is_name rfl (by first | decide | exact Nat.le_refl _) (by decide)
    have hn := hP.nm z hz
    refine ⟨_, (J.pss_one (J.ps_ret (J.pe_and (J.cal C_is_name (J.pa_c (J.rd S1) J.pa_nil)) (J.pe_one (J.pe_cmpR J.op_in_seq (J.rd S1) (J.rd S0) J.notSet_mark))))), ?_⟩
    refine ⟨_, rfl, .str z, "str", rfl, .str z, by decide, name_only hn, fun H1 s1 => ⟨_, rfl, iteP hn ?_⟩⟩
    refine ⟨_, rfl, _, rfl, p, _, rfl, .inl (SqL.of (s1 _ _ hp)), rfl, flat_strs ps, ?_⟩
    show Q (.bl (inV (.str z) (ps.map V.str))) H1
    rw [inV_strs hz]
    exact k H1 s1
theorem sc_are_unlike_persons : FnScope ["persons", "one", "other"] ["persons", "one", "other"] (defScope s_are_unlike_persons) := ⟨rfl, rfl, rfl, by decide +kernel, rfl, by decide +kernel, by decide +kernel⟩
theorem ok_unlike {f : Addr} {fd : FuncData} (D : Df K mg "are_unlike_persons" s_are_unlike_persons ["persons", "one", "other"] f fd) (G_is_person : Gd P w K mg base 2 "is_person" spPerson) : Gd P w K mg base 3 "are_unlike_persons" spUnlike := by
  refine J.def_ok D sc_are_unlike_persons (fun vs H Q E h => ?_) (fun X H vs Q E hh h => ?_)
  · obtain ⟨p, ps, y, z, rfl, _⟩ := h
    rfl
  · obtain ⟨p, ps, y, z, rfl, hp, hP, hy, hz, hne, k⟩ := h
    have S0 : L2.Slot X 0 "persons" := hh.slot 0 rfl (by first | exact .inl rfl | exact .inr rfl) (by decide) (by decide)
    have S1 : L2.Slot X 1 "one" := hh.slot 1 rfl (by first | exact .inl rfl | exact .inr rfl) (by decide) (by decide)
    have S2 : L2.Slot X 2 "other" := hh.slot 2 rfl (by first | exact .inl rfl | exact .inr rfl) (by decide) (by decide)
    have C_is_person := hh.cal G_is_person rfl (by first | decide | exact Nat.le_refl _) (by decide)
    refine ⟨_, (J.pss_one (J.ps_ret (J.pe_and (J.cal C_is_person (J.pa_c (J.rd S0) (J.pa_c (J.rd S1) J.pa_nil))) (J.pe_and (J.cal C_is_person (J.pa_c (J.rd S0) (J.pa_c (J.rd S2) J.pa_nil))) (J.pe_one (J.pe_cmpR J.op_ne (J.rd S1) (J.rd S2) (L2.nomark _))))))), ?_⟩
    refine ⟨_, rfl, _, rfl, p, ps, y, rfl, hp, hP, hy, fun H1 s1 => ⟨_, rfl, iteT ?_⟩⟩
    refine ⟨_, rfl, _, rfl, p, ps, z, rfl, s1 _ _ hp, hP, hz, fun H2 s2 => ⟨_, rfl, iteT ?_⟩⟩
    refine ⟨_, rfl, _, rfl, rfl, ?_⟩
    rw [decide_eq_false (by intro e; cases e; exact hne rfl)]
    exact k H2 (s1.trans s2)
theorem sc_is_tale : FnScope ["thing"] ["thing"] (defScope s_is_tale) := ⟨rfl, rfl, rfl, by decide +kernel, rfl, by decide +kernel, by decide +kernel⟩
theorem ok_tale {f : Addr} {fd : FuncData} (D : Df K mg "is_tale" s_is_tale ["thing"] f fd) (T : Txt K mg kw C) (G_is_name : Gd P w K mg base 1 "is_name" (spName K)) : Gd P w K mg base 2 "is_tale" spTale := by
  refine J.def_ok D sc_is_tale (fun vs H Q E h => ?_) (fun X H vs Q E hh h => ?_)
  · obtain ⟨t, ws, rfl, _⟩ := h
    rfl
  · obtain ⟨t, ws, rfl, ht, w1, w6, hw, k⟩ := h
    have S0 : L2.Slot X 0 "thing" := hh.slot 0 rfl (by first | exact .inl rfl | exact .inr rfl) (by decide) (by decide)
    have B_all : Bt X "all" := hh.bt T.b_all rfl (by decide) (by decide)
    have B_isinstance : Bt X "isinstance" := hh.bt T.b_isinstance rfl (by decide) (by decide)
    have B_len : Bt X "len" := hh.bt T.b_len rfl (by decide) (by decide)
    have B_tuple : Bt X "tuple" := hh.bt T.b_tuple rfl (by decide) (by decide)
    have g_MOST_WORDS : ∀ {p : Pos}, J.JE X (.Name "MOST_WORDS" p) (L2.tC (.int 6)) := J.glob hh T.g_MOST_WORDS rfl (by decide)
    have CI_is_name := hh.cali G_is_name (by first | decide | exact Nat.le_refl _) (by decide)
    have hl : (ws.map V.str).length = ws.length := List.length_map ..
    have hz : (ws.map V.str).length ≤ sizeLine := by
      have : sizeLine = 16777216 := sizeLine_eq
      omega
    refine ⟨_, (J.pss_cons (J.ps_if (J.pw_pt (J.pw_or (J.pt_not (J.pt_call (J.blt B_isinstance J.call_isi L2.bb_isinstance (J.pa_c (J.rd S0) (J.pa_c (J.ty B_tuple L2.bb_tuple) J.pa_nil))))) (J.pw_or1 (J.pt_not (J.pt_chain J.op_le J.op_le J.pe_int (J.blt B_len J.call_len_seq L2.bb_len (J.pa_c (J.rd S0) J.pa_nil)) g_MOST_WORDS L2.chain_mark)))))
 (J.pss_one (J.ps_ret J.pe_bl))
 J.pss_nil)
 (J.pss_one (J.ps_ret (J.blt B_all (J.call_allB hh.calm) L2.bb_all (J.pa_c (J.pe_lcB (sc := L2.defScope s_is_tale) (N := ["thing"]) (is := []) (ns := []) hh.calm (J.pi_tup (J.rd S0)) ⟨rfl, by decide +kernel, by decide +kernel, by decide +kernel, rfl, rfl, by decide +kernel, by decide +kernel⟩ (fun _ _ _ _ _ => (J.cal (CI_is_name.lc rfl) (J.pa_c (J.lc0 rfl (by decide) (by decide)) J.pa_nil))) hh.hsc hh.hN) J.pa_nil))))), ?_⟩
    refine ⟨_, rfl, _, _, _, _, rfl, .tup ht, kit_isa (T := "tuple") (by decide) (by decide), _, rfl, iteN (by decide) ?_⟩
    refine ⟨_, rfl, t, _, rfl, .inr (SqT.of ht), _, _, rfl, rfl, _, rfl, iteP (decide_eq_true (by omega)) ⟨_, _, rfl, rfl, _, rfl, ?_⟩⟩
    rw [decide_eq_true (show ((ws.map V.str).length : Int) ≤ 6 by omega)]
    refine iteF ?_
    refine ⟨_, rfl, t, rfl, ⟨_, SqT.of ht⟩, lcg_tup (fun v => .bl (nameV v)) (SqT.of ht) hz (fun v H2 Q' hv sm q' => ?_) (fun D' H' hD sm hl' => ?_)⟩
    · obtain ⟨x, hx, rfl⟩ := List.mem_map.mp hv
      exact ⟨_, rfl, .str x, "str", rfl, .str x, by decide, name_only (hw x hx), fun H3 s3 => q' H3 s3⟩
    · refine ⟨D', ws.map nameS, rfl, SqL.of (hl'.trans (by rw [List.map_map, List.map_map]; rfl)), ?_⟩
      rw [all_true hw]
      exact k H' sm
theorem sc_is_sight : FnScope ["persons", "thing"] ["persons", "thing"] (defScope s_is_sight) := ⟨rfl, rfl, rfl, by decide +kernel, rfl, by decide +kernel, by decide +kernel⟩
theorem ok_sight {f : Addr} {fd : FuncData} (D : Df K mg "is_sight" s_is_sight ["persons", "thing"] f fd) (G_is_tuple_of : Gd P w K mg base 1 "is_tuple_of" spTupOf) (G_is_person : Gd P w K mg base 2 "is_person" spPerson)
    (G_is_hour : Gd P w K mg base 2 "is_hour" (spHour K)) (G_is_tale : Gd P w K mg base 2 "is_tale" spTale) : Gd P w K mg base 3 "is_sight" spSight := by
  refine J.def_ok D sc_is_sight (fun vs H Q E h => ?_) (fun X H vs Q E hh h => ?_)
  · obtain ⟨p, ps, v, rfl, _⟩ := h
    rfl
  · obtain ⟨p, ps, v, rfl, hp, hP, ⟨a, z, hr, ta, ws, rfl, ha, hz, hho, hta, w1, w6, hw⟩, k⟩ := h
    have S0 : L2.Slot X 0 "persons" := hh.slot 0 rfl (by first | exact .inl rfl | exact .inr rfl) (by decide) (by decide)
    have S1 : L2.Slot X 1 "thing" := hh.slot 1 rfl (by first | exact .inl rfl | exact .inr rfl) (by decide) (by decide)
    have C_is_hour := hh.cal G_is_hour rfl (by first | decide | exact Nat.le_refl _) (by decide)
    have C_is_person := hh.cal G_is_person rfl (by first | decide | exact Nat.le_refl _) (by decide)
    have C_is_tale := hh.cal G_is_tale rfl (by first | decide | exact Nat.le_refl _) (by decide)
    have C_is_tuple_of := hh.cal G_is_tuple_of rfl (by first | decide | exact Nat.le_refl _) (by decide)
    refine ⟨_, (J.pss_cons (J.ps_if (J.pt_not (J.pt_call (J.cal C_is_tuple_of (J.pa_c (J.rd S1) (J.pa_c J.pe_int J.pa_nil)))))
 (J.pss_one (J.ps_ret J.pe_bl))
 J.pss_nil)
 (J.pss_one (J.ps_ret (J.pe_and (J.cal C_is_person (J.pa_c (J.rd S0) (J.pa_c (J.pe_ix J.ix_tup (J.rd S1) J.pe_int J.ix_con) J.pa_nil))) (J.pe_and (J.cal C_is_hour (J.pa_c (J.pe_ix J.ix_tup (J.rd S1) J.pe_int J.ix_con) J.pa_nil)) (J.pe_one (J.cal C_is_tale (J.pa_c (J.pe_ix J.ix_tup (J.rd S1) J.pe_int J.ix_con) J.pa_nil)))))))), ?_⟩
    refine ⟨_, rfl, a, _, 3, rfl, ha, rfl, _, rfl, iteF ?_⟩
    refine ⟨_, rfl, _, rfl, a, _, _, _, rfl, rfl, SqT.of ha, rfl, p, ps, z, rfl, hp, hP, hz, fun H1 s1 => ⟨_, rfl, iteT ?_⟩⟩
    refine ⟨_, rfl, a, _, _, _, rfl, rfl, SqT.of (s1 _ _ ha), rfl, .int hr, "int", rfl, .int hr, by decide, _, rfl, iteP (hourV_ok hho) ?_⟩
    exact ⟨_, rfl, a, _, _, _, rfl, rfl, SqT.of (s1 _ _ ha), rfl, ta, ws, rfl, s1 _ _ hta, w1, w6, hw, fun H2 s2 => k H2 (s1.trans s2)⟩
theorem sc_is_way : FnScope ["thing"] ["thing"] (defScope s_is_way) := ⟨rfl, rfl, rfl, by decide +kernel, rfl, by decide +kernel, by decide +kernel⟩
theorem ok_way {f : Addr} {fd : FuncData} (D : Df K mg "is_way" s_is_way ["thing"] f fd) (T : Txt K mg kw C) : Gd P w K mg base 1 "is_way" spWay := by
  refine J.def_ok D sc_is_way (fun vs H Q E h => ?_) (fun X H vs Q E hh h => ?_)
  · obtain ⟨z, rfl, _⟩ := h
    rfl
  · obtain ⟨z, rfl, hz, k⟩ := h
    have S0 : L2.Slot X 0 "thing" := hh.slot 0 rfl (by first | exact .inl rfl | exact .inr rfl) (by decide) (by decide)
    have B_isinstance : Bt X "isinstance" := hh.bt T.b_isinstance rfl (by decide) (by decide)
    have B_str : Bt X "str" := hh.bt T.b_str rfl (by decide) (by decide)
    refine ⟨_, (J.pss_one (J.ps_ret (J.pe_and (J.blt B_isinstance J.call_isi L2.bb_isinstance (J.pa_c (J.rd S0) (J.pa_c (J.ty B_str L2.bb_str) J.pa_nil))) (J.pe_one (J.pe_cmpR J.op_in_seq (J.rd S0) (J.pe_tup (J.pa_c J.pe_str (J.pa_c J.pe_str J.pa_nil))) J.tup_mark))))), ?_⟩
    refine ⟨_, rfl, _, _, _, _, rfl, .str z, kit_isa (T := "str") (by decide) (by decide), _, rfl, iteP (by decide) ?_⟩
    refine ⟨_, rfl, by show 2 ≤ sizeLine; decide, fun q hq => ⟨q, _, rfl, .inr (SqT.of upd_same), rfl, by decide +kernel, ?_⟩⟩
    show Q (.bl (inV (.str z) [.str "both", .str "one"])) _
    have e : inV (.str z) [.str "both", .str "one"] = true := by
      rcases hz with rfl | rfl <;> decide +kernel
    rw [e]
    exact k _ (Same.upd hq)
theorem sc_is_talk : FnScope ["persons", "thing"] ["persons", "thing"] (defScope s_is_talk) := ⟨rfl, rfl, rfl, by decide +kernel, rfl, by decide +kernel, by decide +kernel⟩
theorem ok_talk {f : Addr} {fd : FuncData} (D : Df K mg "is_talk" s_is_talk ["persons", "thing"] f fd) (G_is_tuple_of : Gd P w K mg base 1 "is_tuple_of" spTupOf) (G_are_unlike_persons : Gd P w K mg base 3 "are_unlike_persons" spUnlike)
    (G_is_hour : Gd P w K mg base 2 "is_hour" (spHour K)) (G_is_way : Gd P w K mg base 1 "is_way" spWay) : Gd P w K mg base 4 "is_talk" spTalk := by
  refine J.def_ok D sc_is_talk (fun vs H Q E h => ?_) (fun X H vs Q E hh h => ?_)
  · obtain ⟨p, ps, v, rfl, _⟩ := h
    rfl
  · obtain ⟨p, ps, v, rfl, hp, hP, ⟨a, hr, y, z, wy, rfl, ha, hho, hy, hz, hne, hw⟩, k⟩ := h
    have S0 : L2.Slot X 0 "persons" := hh.slot 0 rfl (by first | exact .inl rfl | exact .inr rfl) (by decide) (by decide)
    have S1 : L2.Slot X 1 "thing" := hh.slot 1 rfl (by first | exact .inl rfl | exact .inr rfl) (by decide) (by decide)
    have C_are_unlike_persons := hh.cal G_are_unlike_persons rfl (by first | decide | exact Nat.le_refl _) (by decide)
    have C_is_hour := hh.cal G_is_hour rfl (by first | decide | exact Nat.le_refl _) (by decide)
    have C_is_tuple_of := hh.cal G_is_tuple_of rfl (by first | decide | exact Nat.le_refl _) (by decide)
    have C_is_way := hh.cal G_is_way rfl (by first | decide | exact Nat.le_refl _) (by decide)
    refine ⟨_, (J.pss_cons (J.ps_if (J.pt_not (J.pt_call (J.cal C_is_tuple_of (J.pa_c (J.rd S1) (J.pa_c J.pe_int J.pa_nil)))))
 (J.pss_one (J.ps_ret J.pe_bl))
 J.pss_nil)
 (J.pss_one (J.ps_ret (J.pe_and (J.cal C_is_hour (J.pa_c (J.pe_ix J.ix_tup (J.rd S1) J.pe_int J.ix_con) J.pa_nil)) (J.pe_and (J.cal C_are_unlike_persons (J.pa_c (J.rd S0) (J.pa_c (J.pe_ix J.ix_tup (J.rd S1) J.pe_int J.ix_con) (J.pa_c (J.pe_ix J.ix_tup (J.rd S1) J.pe_int J.ix_con) J.pa_nil)))) (J.pe_one (J.cal C_is_way (J.pa_c (J.pe_ix J.ix_tup (J.rd S1) J.pe_int J.ix_con) J.pa_nil)))))))), ?_⟩
    refine ⟨_, rfl, a, _, 4, rfl, ha, rfl, _, rfl, iteF ?_⟩
    refine ⟨_, rfl, a, _, _, _, rfl, rfl, SqT.of ha, rfl, .int hr, "int", rfl, .int hr, by decide, _, rfl, iteP (hourV_ok hho) ?_⟩
    refine ⟨_, rfl, _, rfl, a, _, _, _, rfl, rfl, SqT.of ha, rfl, _, rfl, a, _, _, _, rfl, rfl, SqT.of ha, rfl, p, ps, y, z, rfl, hp, hP, hy, hz, hne, fun H1 s1 => ⟨_, rfl, iteT ?_⟩⟩
    exact ⟨_, rfl, a, _, _, _, rfl, rfl, SqT.of (s1 _ _ ha), rfl, wy, rfl, hw, fun H2 s2 => k H2 (s1.trans s2)⟩
theorem sc_is_span : FnScope ["begin", "end"] ["begin", "end"] (defScope s_is_span) := ⟨rfl, rfl, rfl, by decide +kernel, rfl, by decide +kernel, by decide +kernel⟩
theorem ok_span {f : Addr} {fd : FuncData} (D : Df K mg "is_span" s_is_span ["begin", "end"] f fd) (G_is_hour : Gd P w K mg base 2 "is_hour" (spHour K)) : Gd P w K mg base 3 "is_span" spSpan := by
  refine J.def_ok D sc_is_span (fun vs H Q E h => ?_) (fun X H vs Q E hh h => ?_)
  · obtain ⟨a, b, rfl, _⟩ := h
    rfl
  · obtain ⟨a, b, rfl, h1, h2, h3, k⟩ := h
    have S0 : L2.Slot X 0 "begin" := hh.slot 0 rfl (by first | exact .inl rfl | exact .inr rfl) (by decide) (by decide)
    have S1 : L2.Slot X 1 "end" := hh.slot 1 rfl (by first | exact .inl rfl | exact .inr rfl) (by decide) (by decide)
    have C_is_hour := hh.cal G_is_hour rfl (by first | decide | exact Nat.le_refl _) (by decide)
    refine ⟨_, (J.pss_one (J.ps_ret (J.pe_and (J.cal C_is_hour (J.pa_c (J.rd S0) J.pa_nil)) (J.pe_and (J.cal C_is_hour (J.pa_c (J.rd S1) J.pa_nil)) (J.pe_one (J.pe_cmpR J.op_le (J.rd S0) (J.rd S1) (L2.nomark _))))))), ?_⟩
    refine ⟨_, rfl, .int a, "int", rfl, .int a, by decide, _, rfl, iteP (hourV_ok h1) ?_⟩
    refine ⟨_, rfl, .int b, "int", rfl, .int b, by decide, _, rfl, iteP (hourV_ok h2) ?_⟩
    refine ⟨_, rfl, _, rfl, _, _, rfl, rfl, ?_⟩
    show Q (.bl (decide (a ≤ b))) H
    rw [decide_eq_true h3]
    exact k
theorem sc_is_short_saying : FnScope ["persons", "kind", "person", "behind"] ["persons", "kind", "person", "behind"] (defScope s_is_short_saying) := ⟨rfl, rfl, rfl, by decide +kernel, rfl, by decide +kernel, by decide +kernel⟩
theorem ok_short {f : Addr} {fd : FuncData} (D : Df K mg "is_short_saying" s_is_short_saying ["persons", "kind", "person", "behind"] f fd) (G_are_unlike_persons : Gd P w K mg base 3 "are_unlike_persons" spUnlike)
    (G_is_person : Gd P w K mg base 2 "is_person" spPerson) (G_is_hour : Gd P w K mg base 2 "is_hour" (spHour K)) : Gd P w K mg base 4 "is_short_saying" spShort := by
  refine J.def_ok D sc_is_short_saying (fun vs H Q E h => ?_) (fun X H vs Q E hh h => ?_)
  · obtain ⟨p, ps, kd, y, b, rfl, _⟩ := h
    rfl
  · obtain ⟨p, ps, kd, y, b, rfl, hp, hP, hy, hk, k⟩ := h
    have S0 : L2.Slot X 0 "persons" := hh.slot 0 rfl (by first | exact .inl rfl | exact .inr rfl) (by decide) (by decide)
    have S1 : L2.Slot X 1 "kind" := hh.slot 1 rfl (by first | exact .inl rfl | exact .inr rfl) (by decide) (by decide)
    have S2 : L2.Slot X 2 "person" := hh.slot 2 rfl (by first | exact .inl rfl | exact .inr rfl) (by decide) (by decide)
    have S3 : L2.Slot X 3 "behind" := hh.slot 3 rfl (by first | exact .inl rfl | exact .inr rfl) (by decide) (by decide)
    have C_are_unlike_persons := hh.cal G_are_unlike_persons rfl (by first | decide | exact Nat.le_refl _) (by decide)
    have C_is_hour := hh.cal G_is_hour rfl (by first | decide | exact Nat.le_refl _) (by decide)
    have C_is_person := hh.cal G_is_person rfl (by first | decide | exact Nat.le_refl _) (by decide)
    refine ⟨_, (J.pss_cons (J.ps_if (J.pt_cmpR J.op_eq (J.rd S1) J.pe_str (L2.nomark _))
 (J.pss_one (J.ps_ret (J.cal C_are_unlike_persons (J.pa_c (J.rd S0) (J.pa_c (J.rd S2) (J.pa_c (J.rd S3) J.pa_nil))))))
 J.pss_nil)
 (J.pss_cons (J.ps_if (J.pt_not (J.pt_call (J.cal C_is_person (J.pa_c (J.rd S0) (J.pa_c (J.rd S2) J.pa_nil)))))
 (J.pss_one (J.ps_ret J.pe_bl))
 J.pss_nil)
 (J.pss_cons (J.ps_if (J.pt_cmpR J.op_eq (J.rd S1) J.pe_str (L2.nomark _))
 (J.pss_one (J.ps_ret (J.pe_or (J.pe_cmpR J.op_isN (J.rd S3) J.pe_non (L2.nomark _)) (J.pe_one (J.cal C_is_hour (J.pa_c (J.rd S3) J.pa_nil))))))
 J.pss_nil)
 (J.pss_one (J.ps_ret (J.pe_and (J.pe_cmpR J.op_eq (J.rd S1) J.pe_str (L2.nomark _)) (J.pe_one (J.cal C_is_hour (J.pa_c (J.rd S3) J.pa_nil))))))))), ?_⟩
    refine ⟨_, rfl, rfl, _, rfl, ?_⟩
    rcases hk with ⟨rfl, z, rfl, hz, hne⟩ | ⟨rfl, hb⟩ | ⟨rfl, h, rfl, hho⟩
    · refine iteP (decide_eq_true rfl) ?_
      exact ⟨_, rfl, _, rfl, _, rfl, p, ps, y, z, rfl, hp, hP, hy, hz, hne, k⟩
    · refine iteN (by decide +kernel) ?_
      refine ⟨_, rfl, _, rfl, p, ps, y, rfl, hp, hP, hy, fun H1 s1 => ⟨_, rfl, iteF ?_⟩⟩
      refine ⟨_, rfl, rfl, _, rfl, iteP (decide_eq_true rfl) ?_⟩
      rcases hb with rfl | ⟨h, rfl, hho⟩
      · exact ⟨_, rfl, rfl, _, rfl, iteP (decide_eq_true rfl) (k H1 s1)⟩
      · refine ⟨_, rfl, rfl, _, rfl, iteN (by rw [decide_eq_true_iff]; intro e; cases e) ?_⟩
        refine ⟨_, rfl, .int h, "int", rfl, .int h, by decide, ?_⟩
        rw [hourV_ok hho]
        exact k H1 s1
    · refine iteN (by decide +kernel) ?_
      refine ⟨_, rfl, _, rfl, p, ps, y, rfl, hp, hP, hy, fun H1 s1 => ⟨_, rfl, iteF ?_⟩⟩
      refine ⟨_, rfl, rfl, _, rfl, iteN (by decide +kernel) ?_⟩
      refine ⟨_, rfl, rfl, _, rfl, iteP (decide_eq_true rfl) ?_⟩
      refine ⟨_, rfl, .int h, "int", rfl, .int h, by decide, ?_⟩
      rw [hourV_ok hho]
      exact k H1 s1
theorem sc_is_saying : FnScope ["persons", "thing"] ["persons", "thing"] (defScope s_is_saying) := ⟨rfl, rfl, rfl, by decide +kernel, rfl, by decide +kernel, by decide +kernel⟩
theorem ok_saying {f : Addr} {fd : FuncData} (D : Df K mg "is_saying" s_is_saying ["persons", "thing"] f fd) (T : Txt K mg kw C) (G_is_person : Gd P w K mg base 2 "is_person" spPerson) (G_is_span : Gd P w K mg base 3 "is_span" spSpan)
    (G_is_short_saying : Gd P w K mg base 4 "is_short_saying" spShort) : Gd P w K mg base 5 "is_saying" spSaying := by
  refine J.def_ok D sc_is_saying (fun vs H Q E h => ?_) (fun X H vs Q E hh h => ?_)
  · obtain ⟨p, ps, v, rfl, _⟩ := h
    rfl
  · obtain ⟨p, ps, v, rfl, hp, hP, ⟨a, rfl, hk⟩, k⟩ := h
    have S0 : L2.Slot X 0 "persons" := hh.slot 0 rfl (by first | exact .inl rfl | exact .inr rfl) (by decide) (by decide)
    have S1 : L2.Slot X 1 "thing" := hh.slot 1 rfl (by first | exact .inl rfl | exact .inr rfl) (by decide) (by decide)
    have B_isinstance : Bt X "isinstance" := hh.bt T.b_isinstance rfl (by decide) (by decide)
    have B_len : Bt X "len" := hh.bt T.b_len rfl (by decide) (by decide)
    have B_str : Bt X "str" := hh.bt T.b_str rfl (by decide) (by decide)
    have B_tuple : Bt X "tuple" := hh.bt T.b_tuple rfl (by decide) (by decide)
    have C_is_person := hh.cal G_is_person rfl (by first | decide | exact Nat.le_refl _) (by decide)
    have C_is_short_saying := hh.cal G_is_short_saying rfl (by first | decide | exact Nat.le_refl _) (by decide)
    have C_is_span := hh.cal G_is_span rfl (by first | decide | exact Nat.le_refl _) (by decide)
    refine ⟨_, (J.pss_cons (J.ps_if (J.pw_pt (J.pw_or (J.pt_not (J.pt_call (J.blt B_isinstance J.call_isi L2.bb_isinstance (J.pa_c (J.rd S1) (J.pa_c (J.ty B_tuple L2.bb_tuple) J.pa_nil))))) (J.pw_or (J.pt_cmpR J.op_eq (J.blt B_len J.call_len_seq L2.bb_len (J.pa_c (J.rd S1) J.pa_nil)) J.pe_int (L2.nomark _)) (J.pw_or1 (J.pt_not (J.pt_call (J.blt B_isinstance J.call_isi L2.bb_isinstance (J.pa_c (J.pe_ix J.ix_tup (J.rd S1) J.pe_int J.ix_con) (J.pa_c (J.ty B_str L2.bb_str) J.pa_nil)))))))))
 (J.pss_one (J.ps_ret J.pe_bl))
 J.pss_nil)
 (J.pss_cons (J.ps_if (J.pt_cmpR J.op_eq (J.blt B_len J.call_len_seq L2.bb_len (J.pa_c (J.rd S1) J.pa_nil)) J.pe_int (L2.nomark _))
 (J.pss_one (J.ps_ret (J.pe_and (J.pe_cmpR J.op_eq (J.pe_ix J.ix_tup (J.rd S1) J.pe_int J.ix_con) J.pe_str (L2.nomark _)) (J.pe_and (J.cal C_is_person (J.pa_c (J.rd S0) (J.pa_c (J.pe_ix J.ix_tup (J.rd S1) J.pe_int J.ix_con) J.pa_nil))) (J.pe_one (J.cal C_is_span (J.pa_c (J.pe_ix J.ix_tup (J.rd S1) J.pe_int J.ix_con) (J.pa_c (J.pe_ix J.ix_tup (J.rd S1) J.pe_int J.ix_con) J.pa_nil))))))))
 J.pss_nil)
 (J.pss_one (J.ps_ret (J.pe_and (J.pe_cmpR J.op_eq (J.blt B_len J.call_len_seq L2.bb_len (J.pa_c (J.rd S1) J.pa_nil)) J.pe_int (L2.nomark _)) (J.pe_one (J.cal C_is_short_saying (J.pa_c (J.rd S0) (J.pa_c (J.pe_ix J.ix_tup (J.rd S1) J.pe_int J.ix_con) (J.pa_c (J.pe_ix J.ix_tup (J.rd S1) J.pe_int J.ix_con) (J.pa_c (J.pe_ix J.ix_tup (J.rd S1) J.pe_int J.ix_con) J.pa_nil))))))))))), ?_⟩
    rcases hk with ⟨y, h, ha, hy, hho⟩ | ⟨y, b, ha, hy, hb⟩ | ⟨y, h, h2, ha, hy, hho, hho2, hle⟩ | ⟨y, z, ha, hy, hz, hne⟩
    · refine ⟨_, rfl, _, _, _, _, rfl, .tup ha, kit_isa (T := "tuple") (by decide) (by decide), _, rfl, iteN (by decide) ?_⟩
      refine ⟨_, rfl, a, _, rfl, .inr (SqT.of ha), rfl, _, rfl, iteN (len_ne (n := 3) rfl (by decide)) ?_⟩
      refine ⟨_, rfl, a, _, _, _, rfl, rfl, SqT.of ha, rfl, _, _, _, _, rfl, .str _, kit_isa (T := "str") (by decide) (by decide), _, rfl, iteN (by decide) ?_⟩
      refine ⟨_, rfl, a, _, rfl, .inr (SqT.of ha), rfl, _, rfl, iteN (len_ne (n := 3) rfl (by decide)) ?_⟩
      refine ⟨_, rfl, a, _, rfl, .inr (SqT.of ha), rfl, _, rfl, iteP (len_is (n := 3) rfl (by decide)) ?_⟩
      exact ⟨_, rfl, _, rfl, a, _, _, _, rfl, rfl, SqT.of ha, rfl, _, rfl, a, _, _, _, rfl, rfl, SqT.of ha, rfl, _, rfl, a, _, _, _, rfl, rfl, SqT.of ha, rfl, p, ps, _, y, _, rfl, hp, hP, hy, .inr (.inr ⟨rfl, h, rfl, hho⟩), k⟩
    · refine ⟨_, rfl, _, _, _, _, rfl, .tup ha, kit_isa (T := "tuple") (by decide) (by decide), _, rfl, iteN (by decide) ?_⟩
      refine ⟨_, rfl, a, _, rfl, .inr (SqT.of ha), rfl, _, rfl, iteN (len_ne (n := 3) rfl (by decide)) ?_⟩
      refine ⟨_, rfl, a, _, _, _, rfl, rfl, SqT.of ha, rfl, _, _, _, _, rfl, .str _, kit_isa (T := "str") (by decide) (by decide), _, rfl, iteN (by decide) ?_⟩
      refine ⟨_, rfl, a, _, rfl, .inr (SqT.of ha), rfl, _, rfl, iteN (len_ne (n := 3) rfl (by decide)) ?_⟩
      refine ⟨_, rfl, a, _, rfl, .inr (SqT.of ha), rfl, _, rfl, iteP (len_is (n := 3) rfl (by decide)) ?_⟩
      exact ⟨_, rfl, _, rfl, a, _, _, _, rfl, rfl, SqT.of ha, rfl, _, rfl, a, _, _, _, rfl, rfl, SqT.of ha, rfl, _, rfl, a, _, _, _, rfl, rfl, SqT.of ha, rfl, p, ps, _, y, _, rfl, hp, hP, hy, .inr (.inl ⟨rfl, hb⟩), k⟩
    · refine ⟨_, rfl, _, _, _, _, rfl, .tup ha, kit_isa (T := "tuple") (by decide) (by decide), _, rfl, iteN (by decide) ?_⟩
      refine ⟨_, rfl, a, _, rfl, .inr (SqT.of ha), rfl, _, rfl, iteN (len_ne (n := 4) rfl (by decide)) ?_⟩
      refine ⟨_, rfl, a, _, _, _, rfl, rfl, SqT.of ha, rfl, _, _, _, _, rfl, .str _, kit_isa (T := "str") (by decide) (by decide), _, rfl, iteN (by decide) ?_⟩
      refine ⟨_, rfl, a, _, rfl, .inr (SqT.of ha), rfl, _, rfl, iteP (len_is (n := 4) rfl (by decide)) ?_⟩
      refine ⟨_, rfl, a, _, _, _, rfl, rfl, SqT.of ha, rfl, rfl, _, rfl, iteP (by decide +kernel) ?_⟩
      refine ⟨_, rfl, _, rfl, a, _, _, _, rfl, rfl, SqT.of ha, rfl, p, ps, y, rfl, hp, hP, hy, fun H1 s1 => ⟨_, rfl, iteT ?_⟩⟩
      exact ⟨_, rfl, a, _, _, _, rfl, rfl, SqT.of (s1 _ _ ha), rfl, _, rfl, a, _, _, _, rfl, rfl, SqT.of (s1 _ _ ha), rfl, h, h2, rfl, hho, hho2, hle, k H1 s1⟩
    · refine ⟨_, rfl, _, _, _, _, rfl, .tup ha, kit_isa (T := "tuple") (by decide) (by decide), _, rfl, iteN (by decide) ?_⟩
      refine ⟨_, rfl, a, _, rfl, .inr (SqT.of ha), rfl, _, rfl, iteN (len_ne (n := 3) rfl (by decide)) ?_⟩
      refine ⟨_, rfl, a, _, _, _, rfl, rfl, SqT.of ha, rfl, _, _, _, _, rfl, .str _, kit_isa (T := "str") (by decide) (by decide), _, rfl, iteN (by decide) ?_⟩
      refine ⟨_, rfl, a, _, rfl, .inr (SqT.of ha), rfl, _, rfl, iteN (len_ne (n := 3) rfl (by decide)) ?_⟩
      refine ⟨_, rfl, a, _, rfl, .inr (SqT.of ha), rfl, _, rfl, iteP (len_is (n := 3) rfl (by decide)) ?_⟩
      exact ⟨_, rfl, _, rfl, a, _, _, _, rfl, rfl, SqT.of ha, rfl, _, rfl, a, _, _, _, rfl, rfl, SqT.of ha, rfl, _, rfl, a, _, _, _, rfl, rfl, SqT.of ha, rfl, p, ps, _, y, _, rfl, hp, hP, hy, .inl ⟨rfl, z, rfl, hz, hne⟩, k⟩
theorem sc_are_persons : FnScope ["thing"] ["thing"] (defScope s_are_persons) := ⟨rfl, rfl, rfl, by decide +kernel, rfl, by decide +kernel, by decide +kernel⟩
theorem ok_persons {f : Addr} {fd : FuncData} (D : Df K mg "are_persons" s_are_persons ["thing"] f fd) (T : Txt K mg kw C) (G_is_list_up_to : Gd P w K mg base 1 "is_list_up_to" spListUp) (G_is_name : Gd P w K mg base 1 "is_name" (spName K)) : Gd P w K mg base 2 "are_persons" spPersons := by
  refine J.def_ok D sc_are_persons (fun vs H Q E h => ?_) (fun X H vs Q E hh h => ?_)
  · obtain ⟨p, ps, rfl, _⟩ := h
    rfl
  · obtain ⟨p, ps, rfl, hp, hP, k⟩ := h
    have S0 : L2.Slot X 0 "thing" := hh.slot 0 rfl (by first | exact .inl rfl | exact .inr rfl) (by decide) (by decide)
    have B_all : Bt X "all" := hh.bt T.b_all rfl (by decide) (by decide)
    have B_len : Bt X "len" := hh.bt T.b_len rfl (by decide) (by decide)
    have B_set : Bt X "set" := hh.bt T.b_set rfl (by decide) (by decide)
    have g_MOST_PERSONS : ∀ {p : Pos}, J.JE X (.Name "MOST_PERSONS" p) (L2.tC (.int 24)) := J.glob hh T.g_MOST_PERSONS rfl (by decide)
    have C_is_list_up_to := hh.cal G_is_list_up_to rfl (by first | decide | exact Nat.le_refl _) (by decide)
    have CI_is_name := hh.cali G_is_name (by first | decide | exact Nat.le_refl _) (by decide)
    have hl : (ps.map V.str).length = ps.length := List.length_map ..
    have h24 := hP.hi
    have h1 := hP.lo
    have hz : (ps.map V.str).length ≤ sizeLine := by
      have : sizeLine = 16777216 := sizeLine_eq
      omega
    refine ⟨_, (J.pss_cons (J.ps_if (J.pw_pt (J.pw_or (J.pt_not (J.pt_call (J.cal C_is_list_up_to (J.pa_c (J.rd S0) (J.pa_c g_MOST_PERSONS J.pa_nil))))) (J.pw_or1 (J.pt_cmpR J.op_eq (J.blt B_len J.call_len_seq L2.bb_len (J.pa_c (J.rd S0) J.pa_nil)) J.pe_int (L2.nomark _)))))
 (J.pss_one (J.ps_ret J.pe_bl))
 J.pss_nil)
 (J.pss_one (J.ps_ret (J.pe_and (J.blt B_all (J.call_allB hh.calm) L2.bb_all (J.pa_c (J.pe_lcB (sc := L2.defScope s_are_persons) (N := ["thing"]) (is := []) (ns := []) hh.calm (J.pi_list (J.rd S0)) ⟨rfl, by decide +kernel, by decide +kernel, by decide +kernel, rfl, rfl, by decide +kernel, by decide +kernel⟩ (fun _ _ _ _ _ => (J.cal (CI_is_name.lc rfl) (J.pa_c (J.lc0 rfl (by decide) (by decide)) J.pa_nil))) hh.hsc hh.hN) J.pa_nil)) (J.pe_one (J.pe_cmpR J.op_eq (J.blt B_len J.call_len_setM L2.bb_len (J.pa_c (J.bltT B_set (J.call_setT hh.calm) L2.bb_set (J.pa_c (J.rd S0) J.pa_nil)) J.pa_nil)) (J.blt B_len J.call_len_seq L2.bb_len (J.pa_c (J.rd S0) J.pa_nil)) (L2.nomark _))))))), ?_⟩
    refine ⟨_, rfl, p, _, 24, rfl, hp, (by omega), _, rfl, iteF ?_⟩
    refine ⟨_, rfl, p, _, rfl, .inl (SqL.of hp), rfl, _, rfl, iteN ?_ ?_⟩
    · rw [decide_eq_true_iff]
      intro e
      injection e with e
      omega
    · refine ⟨_, rfl, p, rfl, ⟨_, SqL.of hp⟩, lcg_list (fun v => .bl (nameV v)) (SqL.of hp) hz (fun v H2 Q' hv sm q' => ?_) (fun D' H' hD sm hl' => ?_)⟩
      · obtain ⟨x, hx, rfl⟩ := List.mem_map.mp hv
        exact ⟨_, rfl, .str x, "str", rfl, .str x, by decide, name_only (hP.nm x hx), fun H3 s3 => q' H3 s3⟩
      · refine ⟨D', ps.map nameS, rfl, SqL.of (hl'.trans (by rw [List.map_map, List.map_map]; rfl)), _, rfl, iteP (all_true hP.nm) ?_⟩
        refine ⟨_, rfl, p, ps, rfl, SqL.of (sm _ _ hp), hP.nd, by omega, fun q hq => ?_⟩
        refine ⟨q, ps.length, rfl, upd_same, _, rfl, p, _, rfl, .inl (SqL.of ((Same.upd hq) _ _ (sm _ _ hp))), rfl, ?_⟩
        rw [hl, decide_eq_true rfl]
        exact k _ (sm.trans (Same.upd hq))
theorem sc_are_sights : FnScope ["persons", "thing"] ["persons", "thing"] (defScope s_are_sights) := ⟨rfl, rfl, rfl, by decide +kernel, rfl, by decide +kernel, by decide +kernel⟩
theorem ok_all_sights {f : Addr} {fd : FuncData} (D : Df K mg "are_sights" s_are_sights ["persons", "thing"] f fd) (T : Txt K mg kw C) (G_is_list_up_to : Gd P w K mg base 1 "is_list_up_to" spListUp) (G_is_sight : Gd P w K mg base 3 "is_sight" spSight) : Gd P w K mg base 4 "are_sights" (spMany SightIn 24) := by
  refine J.def_ok D sc_are_sights (fun vs H Q E h => ?_) (fun X H vs Q E hh h => ?_)
  · obtain ⟨p, q, ps, xs, rfl, _⟩ := h
    rfl
  · obtain ⟨p, q, ps, xs, rfl, hp, hP, hq, hn, hg, k⟩ := h
    have S0 : L2.Slot X 0 "persons" := hh.slot 0 rfl (by first | exact .inl rfl | exact .inr rfl) (by decide) (by decide)
    have S1 : L2.Slot X 1 "thing" := hh.slot 1 rfl (by first | exact .inl rfl | exact .inr rfl) (by decide) (by decide)
    have B_all : Bt X "all" := hh.bt T.b_all rfl (by decide) (by decide)
    have g_MOST_SIGHTS : ∀ {p : Pos}, J.JE X (.Name "MOST_SIGHTS" p) (L2.tC (.int 24)) := J.glob hh T.g_MOST_SIGHTS rfl (by decide)
    have C_is_list_up_to := hh.cal G_is_list_up_to rfl (by first | decide | exact Nat.le_refl _) (by decide)
    have CI_is_sight := hh.cali G_is_sight (by first | decide | exact Nat.le_refl _) (by decide)
    have hz : xs.length ≤ sizeLine := by
      have : sizeLine = 16777216 := sizeLine_eq
      omega
    refine ⟨_, (J.pss_one (J.ps_ret (J.pe_and (J.cal C_is_list_up_to (J.pa_c (J.rd S1) (J.pa_c g_MOST_SIGHTS J.pa_nil))) (J.pe_one (J.blt B_all (J.call_allB hh.calm) L2.bb_all (J.pa_c (J.pe_lcB (sc := L2.defScope s_are_sights) (N := ["persons", "thing"]) (is := [0]) (ns := ["persons"]) hh.calm (J.pi_list (J.rd S1)) ⟨rfl, by decide +kernel, by decide +kernel, by decide +kernel, rfl, rfl, by decide +kernel, by decide +kernel⟩ (fun _ _ _ _ _ => (J.cal (CI_is_sight.lc rfl) (J.pa_c (J.lcc (i := 0) rfl rfl (by decide) (by decide)) (J.pa_c (J.lc0 rfl (by decide) (by decide)) J.pa_nil)))) hh.hsc hh.hN) J.pa_nil)))))), ?_⟩
    refine ⟨_, rfl, q, _, 24, rfl, hq, (by omega), _, rfl, iteT ?_⟩
    refine ⟨_, rfl, q, rfl, ⟨_, SqL.of hq⟩, lcg_list (fun _ => .bl true) (SqL.of hq) hz (fun v H2 Q' hv sm q' => ?_) (fun D' H' hD sm hl' => ?_)⟩
    · exact ⟨_, rfl, _, rfl, p, ps, v, rfl, sm _ _ hp, hP, (hg v hv).mono (Tk.of sm), fun H3 s3 => q' H3 s3⟩
    · refine ⟨D', xs.map fun _ => true, rfl, SqL.of (hl'.trans (by rw [List.map_map]; rfl)), ?_⟩
      rw [all_true fun _ _ => rfl]
      exact k H' sm
theorem sc_are_talks : FnScope ["persons", "thing"] ["persons", "thing"] (defScope s_are_talks) := ⟨rfl, rfl, rfl, by decide +kernel, rfl, by decide +kernel, by decide +kernel⟩
theorem ok_all_talks {f : Addr} {fd : FuncData} (D : Df K mg "are_talks" s_are_talks ["persons", "thing"] f fd) (T : Txt K mg kw C) (G_is_list_up_to : Gd P w K mg base 1 "is_list_up_to" spListUp) (G_is_talk : Gd P w K mg base 4 "is_talk" spTalk) : Gd P w K mg base 5 "are_talks" (spMany TalkIn 120) := by
  refine J.def_ok D sc_are_talks (fun vs H Q E h => ?_) (fun X H vs Q E hh h => ?_)
  · obtain ⟨p, q, ps, xs, rfl, _⟩ := h
    rfl
  · obtain ⟨p, q, ps, xs, rfl, hp, hP, hq, hn, hg, k⟩ := h
    have S0 : L2.Slot X 0 "persons" := hh.slot 0 rfl (by first | exact .inl rfl | exact .inr rfl) (by decide) (by decide)
    have S1 : L2.Slot X 1 "thing" := hh.slot 1 rfl (by first | exact .inl rfl | exact .inr rfl) (by decide) (by decide)
    have B_all : Bt X "all" := hh.bt T.b_all rfl (by decide) (by decide)
    have g_MOST_TALKS : ∀ {p : Pos}, J.JE X (.Name "MOST_TALKS" p) (L2.tC (.int 120)) := J.glob hh T.g_MOST_TALKS rfl (by decide)
    have C_is_list_up_to := hh.cal G_is_list_up_to rfl (by first | decide | exact Nat.le_refl _) (by decide)
    have CI_is_talk := hh.cali G_is_talk (by first | decide | exact Nat.le_refl _) (by decide)
    have hz : xs.length ≤ sizeLine := by
      have : sizeLine = 16777216 := sizeLine_eq
      omega
    refine ⟨_, (J.pss_one (J.ps_ret (J.pe_and (J.cal C_is_list_up_to (J.pa_c (J.rd S1) (J.pa_c g_MOST_TALKS J.pa_nil))) (J.pe_one (J.blt B_all (J.call_allB hh.calm) L2.bb_all (J.pa_c (J.pe_lcB (sc := L2.defScope s_are_talks) (N := ["persons", "thing"]) (is := [0]) (ns := ["persons"]) hh.calm (J.pi_list (J.rd S1)) ⟨rfl, by decide +kernel, by decide +kernel, by decide +kernel, rfl, rfl, by decide +kernel, by decide +kernel⟩ (fun _ _ _ _ _ => (J.cal (CI_is_talk.lc rfl) (J.pa_c (J.lcc (i := 0) rfl rfl (by decide) (by decide)) (J.pa_c (J.lc0 rfl (by decide) (by decide)) J.pa_nil)))) hh.hsc hh.hN) J.pa_nil)))))), ?_⟩
    refine ⟨_, rfl, q, _, 120, rfl, hq, (by omega), _, rfl, iteT ?_⟩
    refine ⟨_, rfl, q, rfl, ⟨_, SqL.of hq⟩, lcg_list (fun _ => .bl true) (SqL.of hq) hz (fun v H2 Q' hv sm q' => ?_) (fun D' H' hD sm hl' => ?_)⟩
    · exact ⟨_, rfl, _, rfl, p, ps, v, rfl, sm _ _ hp, hP, (hg v hv).mono (Tk.of sm), fun H3 s3 => q' H3 s3⟩
    · refine ⟨D', xs.map fun _ => true, rfl, SqL.of (hl'.trans (by rw [List.map_map]; rfl)), ?_⟩
      rw [all_true fun _ _ => rfl]
      exact k H' sm
theorem sc_are_sayings : FnScope ["persons", "thing"] ["persons", "thing"] (defScope s_are_sayings) := ⟨rfl, rfl, rfl, by decide +kernel, rfl, by decide +kernel, by decide +kernel⟩
theorem ok_all_sayings {f : Addr} {fd : FuncData} (D : Df K mg "are_sayings" s_are_sayings ["persons", "thing"] f fd) (T : Txt K mg kw C) (G_is_list_up_to : Gd P w K mg base 1 "is_list_up_to" spListUp) (G_is_saying : Gd P w K mg base 5 "is_saying" spSaying) : Gd P w K mg base 6 "are_sayings" (spMany SayIn 60) := by
  refine J.def_ok D sc_are_sayings (fun vs H Q E h => ?_) (fun X H vs Q E hh h => ?_)
  · obtain ⟨p, q, ps, xs, rfl, _⟩ := h
    rfl
  · obtain ⟨p, q, ps, xs, rfl, hp, hP, hq, hn, hg, k⟩ := h
    have S0 : L2.Slot X 0 "persons" := hh.slot 0 rfl (by first | exact .inl rfl | exact .inr rfl) (by decide) (by decide)
    have S1 : L2.Slot X 1 "thing" := hh.slot 1 rfl (by first | exact .inl rfl | exact .inr rfl) (by decide) (by decide)
    have B_all : Bt X "all" := hh.bt T.b_all rfl (by decide) (by decide)
    have g_MOST_SAYINGS : ∀ {p : Pos}, J.JE X (.Name "MOST_SAYINGS" p) (L2.tC (.int 60)) := J.glob hh T.g_MOST_SAYINGS rfl (by decide)
    have C_is_list_up_to := hh.cal G_is_list_up_to rfl (by first | decide | exact Nat.le_refl _) (by decide)
    have CI_is_saying := hh.cali G_is_saying (by first | decide | exact Nat.le_refl _) (by decide)
    have hz : xs.length ≤ sizeLine := by
      have : sizeLine = 16777216 := sizeLine_eq
      omega
    refine ⟨_, (J.pss_one (J.ps_ret (J.pe_and (J.cal C_is_list_up_to (J.pa_c (J.rd S1) (J.pa_c g_MOST_SAYINGS J.pa_nil))) (J.pe_one (J.blt B_all (J.call_allB hh.calm) L2.bb_all (J.pa_c (J.pe_lcB (sc := L2.defScope s_are_sayings) (N := ["persons", "thing"]) (is := [0]) (ns := ["persons"]) hh.calm (J.pi_list (J.rd S1)) ⟨rfl, by decide +kernel, by decide +kernel, by decide +kernel, rfl, rfl, by decide +kernel, by decide +kernel⟩ (fun _ _ _ _ _ => (J.cal (CI_is_saying.lc rfl) (J.pa_c (J.lcc (i := 0) rfl rfl (by decide) (by decide)) (J.pa_c (J.lc0 rfl (by decide) (by decide)) J.pa_nil)))) hh.hsc hh.hN) J.pa_nil)))))), ?_⟩
    refine ⟨_, rfl, q, _, 60, rfl, hq, (by omega), _, rfl, iteT ?_⟩
    refine ⟨_, rfl, q, rfl, ⟨_, SqL.of hq⟩, lcg_list (fun _ => .bl true) (SqL.of hq) hz (fun v H2 Q' hv sm q' => ?_) (fun D' H' hD sm hl' => ?_)⟩
    · exact ⟨_, rfl, _, rfl, p, ps, v, rfl, sm _ _ hp, hP, (hg v hv).mono (Tk.of sm), fun H3 s3 => q' H3 s3⟩
    · refine ⟨D', xs.map fun _ => true, rfl, SqL.of (hl'.trans (by rw [List.map_map]; rfl)), ?_⟩
      rw [all_true fun _ _ => rfl]
      exact k H' sm
theorem sc_m_init : FnScope ["self", "persons", "sights", "talks", "sayings"] ["self", "persons", "sights", "talks", "sayings"] (defScope s_m_init) := ⟨rfl, rfl, rfl, by decide +kernel, rfl, by decide +kernel, by decide +kernel⟩
theorem ok_init {f : Addr} {fd : FuncData} (F : Fun K "__init__" "Book.__init__" s_m_init f fd) (mk : Mk K C f) (bi : Binds K fd ["self", "persons", "sights", "talks", "sayings"] []) (nm : mg "Book" = some (.ref C)) (T : Txt K mg kw C)
    (G_are_persons : Gd P w K mg base 2 "are_persons" spPersons) (G_are_sights : Gd P w K mg base 4 "are_sights" (spMany SightIn 24)) (G_are_talks : Gd P w K mg base 5 "are_talks" (spMany TalkIn 120)) (G_are_sayings : Gd P w K mg base 6 "are_sayings" (spMany SayIn 60)) :
    Kd P w K mg base 7 "Book" C (spInit C) := by
  refine J.init_ok F mk bi nm sc_m_init (fun vs H Q E h => ?_) (fun X H vs Q E hh h => ?_)
  · obtain ⟨x, dx, p, a, b, c, ps, ss, ts, ys, rfl, _⟩ := h
    rfl
  · obtain ⟨x, dx, p, a, b, c, ps, ss, ts, ys, rfl, hx, hp, ha, hb, hc, g, k⟩ := h
    have S0 : L2.Slot X 0 "self" := hh.slot 0 rfl (by first | exact .inl rfl | exact .inr rfl) (by decide) (by decide)
    have S1 : L2.Slot X 1 "persons" := hh.slot 1 rfl (by first | exact .inl rfl | exact .inr rfl) (by decide) (by decide)
    have S2 : L2.Slot X 2 "sights" := hh.slot 2 rfl (by first | exact .inl rfl | exact .inr rfl) (by decide) (by decide)
    have S3 : L2.Slot X 3 "talks" := hh.slot 3 rfl (by first | exact .inl rfl | exact .inr rfl) (by decide) (by decide)
    have S4 : L2.Slot X 4 "sayings" := hh.slot 4 rfl (by first | exact .inl rfl | exact .inr rfl) (by decide) (by decide)
    have B_list : Bt X "list" := hh.bt T.b_list rfl (by decide) (by decide)
    have C_are_persons := hh.cal G_are_persons rfl (by first | decide | exact Nat.le_refl _) (by decide)
    have C_are_sayings := hh.cal G_are_sayings rfl (by first | decide | exact Nat.le_refl _) (by decide)
    have C_are_sights := hh.cal G_are_sights rfl (by first | decide | exact Nat.le_refl _) (by decide)
    have C_are_talks := hh.cal G_are_talks rfl (by first | decide | exact Nat.le_refl _) (by decide)
    obtain ⟨hP, sl, sg, tl, tg, yl, yg⟩ := id g
    obtain rfl := hh.fK
    refine ⟨_, (J.pss_cons (J.ps_if (J.pt_not (J.pt_call (J.cal C_are_persons (J.pa_c (J.rd S1) J.pa_nil))))
 J.pss_never
 J.pss_nil)
 (J.pss_cons (J.ps_if (J.pt_not (J.pt_call (J.cal C_are_sights (J.pa_c (J.rd S1) (J.pa_c (J.rd S2) J.pa_nil)))))
 J.pss_never
 J.pss_nil)
 (J.pss_cons (J.ps_if (J.pt_not (J.pt_call (J.cal C_are_talks (J.pa_c (J.rd S1) (J.pa_c (J.rd S3) J.pa_nil)))))
 J.pss_never
 J.pss_nil)
 (J.pss_cons (J.ps_if (J.pt_not (J.pt_call (J.cal C_are_sayings (J.pa_c (J.rd S1) (J.pa_c (J.rd S4) J.pa_nil)))))
 J.pss_never
 J.pss_nil)
 (J.pss_cons (J.ps_fld (J.rd S0) (J.bltT B_list J.call_list_of L2.bb_list (J.pa_c (J.rd S1) J.pa_nil)))
 (J.pss_cons (J.ps_fld (J.rd S0) (J.bltT B_list J.call_list_of L2.bb_list (J.pa_c (J.rd S2) J.pa_nil)))
 (J.pss_cons (J.ps_fld (J.rd S0) (J.bltT B_list J.call_list_of L2.bb_list (J.pa_c (J.rd S3) J.pa_nil)))
 (J.pss_one (J.ps_fld (J.rd S0) (J.bltT B_list J.call_list_of L2.bb_list (J.pa_c (J.rd S4) J.pa_nil))))))))))), ?_⟩
    refine ⟨_, rfl, p, ps, rfl, hp, hP, fun H1 s1 => ⟨_, rfl, iteF ?_⟩⟩
    refine ⟨_, rfl, _, rfl, p, a, ps, ss, rfl, s1 _ _ hp, hP, s1 _ _ ha, sl, fun v hv => (sg v hv).mono (Tk.of s1), fun H2 s2' => ⟨_, rfl, iteF ?_⟩⟩
    have s2 := s1.trans s2'
    refine ⟨_, rfl, _, rfl, p, b, ps, ts, rfl, s2 _ _ hp, hP, s2 _ _ hb, tl, fun v hv => (tg v hv).mono (Tk.of s2), fun H3 s3' => ⟨_, rfl, iteF ?_⟩⟩
    have s3 := s2.trans s3'
    refine ⟨_, rfl, _, rfl, p, c, ps, ys, rfl, s3 _ _ hp, hP, s3 _ _ hc, yl, fun v hv => (yg v hv).mono (Tk.of s3), fun H4 s4' => ⟨_, rfl, iteF ?_⟩⟩
    have s4 := s3.trans s4'
    clear s1 s2' s2 s3' s3 s4'
    refine ⟨_, rfl, p, _, rfl, .inl (SqL.of (s4 _ _ hp)), fun p' np => ⟨_, rfl, x, C, dx, [], rfl, (by rw [upd_ne (ne_of_none (s4 _ _ hx) np)]; exact s4 _ _ hx), T.cl, T.nP, (by show 0 < 1000; decide), ?_⟩⟩
    have xp : x ≠ p' := ne_of_none (s4 _ _ hx) np
    have k1 : ∀ d o, H4 d = some o → d ≠ x → upd (upd H4 p' (.lst (ps.map V.str))) x (.ins C dx (putF "kept_persons" (.ref p') [])) d = some o := fun d o e n => by
      rw [upd_ne n, upd_ne (ne_of_none e np)]
      exact e
    have ax : a ≠ x := ne_of (s4 _ _ ha) (s4 _ _ hx) (by intro z; cases z)
    have bx : b ≠ x := ne_of (s4 _ _ hb) (s4 _ _ hx) (by intro z; cases z)
    have cx : c ≠ x := ne_of (s4 _ _ hc) (s4 _ _ hx) (by intro z; cases z)
    refine ⟨_, rfl, a, _, rfl, .inl (SqL.of (k1 _ _ (s4 _ _ ha) ax)), fun s' ns => ⟨_, rfl, x, C, dx, _, rfl, (by rw [upd_ne (ne_of_none upd_same ns)]; exact upd_same), T.cl, T.nS, (by show 1 < 1000; decide), ?_⟩⟩
    have xs : x ≠ s' := ne_of_none upd_same ns
    have ps' : p' ≠ s' := ne_of_none (by rw [upd_ne xp.symm]; exact upd_same) ns
    have ns4 : H4 s' = none := by
      rw [upd_ne xs.symm, upd_ne ps'.symm] at ns
      exact ns
    have k2 : ∀ d o, H4 d = some o → d ≠ x → upd (upd (upd (upd H4 p' (.lst (ps.map V.str))) x (.ins C dx (putF "kept_persons" (.ref p') []))) s' (.lst ss)) x (.ins C dx (putF "kept_sights" (.ref s') (putF "kept_persons" (.ref p') []))) d = some o := fun d o e n => by
      rw [upd_ne n, upd_ne (ne_of_none e ns4)]
      exact k1 d o e n
    refine ⟨_, rfl, b, _, rfl, .inl (SqL.of (k2 _ _ (s4 _ _ hb) bx)), fun t' nt => ⟨_, rfl, x, C, dx, _, rfl, (by rw [upd_ne (ne_of_none upd_same nt)]; exact upd_same), T.cl, T.nT, (by show 2 < 1000; decide), ?_⟩⟩
    have xt : x ≠ t' := ne_of_none upd_same nt
    have st' : s' ≠ t' := ne_of_none (by rw [upd_ne xs.symm]; exact upd_same) nt
    have pt' : p' ≠ t' := ne_of_none (by rw [upd_ne xp.symm, upd_ne ps', upd_ne xp.symm]; exact upd_same) nt
    have nt4 : H4 t' = none := by
      rw [upd_ne xt.symm, upd_ne st'.symm, upd_ne xt.symm, upd_ne pt'.symm] at nt
      exact nt
    refine ⟨_, rfl, c, _, rfl, .inl (SqL.of (by rw [upd_ne cx, upd_ne (ne_of_none (s4 _ _ hc) nt4)]; exact k2 _ _ (s4 _ _ hc) cx)), fun y' ny => ⟨_, rfl, x, C, dx, _, rfl, (by rw [upd_ne (ne_of_none upd_same ny)]; exact upd_same), T.cl, T.nY, (by show 3 < 1000; decide), ?_⟩⟩
    have xy : x ≠ y' := ne_of_none upd_same ny
    have ty' : t' ≠ y' := ne_of_none (by rw [upd_ne xt.symm]; exact upd_same) ny
    have sy' : s' ≠ y' := ne_of_none (by rw [upd_ne xs.symm, upd_ne st', upd_ne xs.symm]; exact upd_same) ny
    have py' : p' ≠ y' := ne_of_none (by rw [upd_ne xp.symm, upd_ne pt', upd_ne xp.symm, upd_ne ps', upd_ne xp.symm]; exact upd_same) ny
    have ny4 : H4 y' = none := by
      rw [upd_ne xy.symm, upd_ne ty'.symm, upd_ne xy.symm, upd_ne sy'.symm, upd_ne xy.symm, upd_ne py'.symm] at ny
      exact ny
    refine k p' s' t' y' _ (s4.free np) (s4.free ns4) (s4.free nt4) (s4.free ny4) ⟨⟨dx, upd_same⟩, ?_, ?_, ?_, ?_⟩ fun d o e n => ?_
    · rw [upd_ne xp.symm, upd_ne py', upd_ne xp.symm, upd_ne pt', upd_ne xp.symm, upd_ne ps', upd_ne xp.symm]
      exact upd_same
    · rw [upd_ne xs.symm, upd_ne sy', upd_ne xs.symm, upd_ne st', upd_ne xs.symm]
      exact upd_same
    · rw [upd_ne xt.symm, upd_ne ty', upd_ne xt.symm]
      exact upd_same
    · rw [upd_ne xy.symm]
      exact upd_same
    · rw [upd_ne n, upd_ne (ne_of_none (s4 _ _ e) ny4), upd_ne n, upd_ne (ne_of_none (s4 _ _ e) nt4)]
      exact k2 d o (s4 _ _ e) n
end
end K41

namespace K41
open PySem L2
/-! ### tellings -/
abbrev TD := Str × Str × Str
def telOne (k : Nat) (d : TD) : List (Nat × Str × Str) := if d.2.2 = "both" then [(k, d.1, d.2.1), (k, d.2.1, d.1)] else [(k, d.1, d.2.1)]
def tel (k : Nat) : List TD → List (Nat × Str × Str)
  | [] => []
  | d :: r => telOne k d ++ tel (k + 1) r
theorem tel_snoc (d : TD) : ∀ (l : List TD) (k : Nat), tel k (l ++ [d]) = tel k l ++ telOne (k + l.length) d
  | [], k => by
    show telOne k d ++ [] = [] ++ telOne (k + 0) d
    rw [List.append_nil, List.nil_append, Nat.add_zero]
  | e :: r, k => by
    show telOne k e ++ tel (k + 1) (r ++ [d]) = (telOne k e ++ tel (k + 1) r) ++ telOne (k + (r.length + 1)) d
    rw [tel_snoc d r (k + 1), List.append_assoc, show k + 1 + r.length = k + (r.length + 1) by omega]
theorem telOne_len (k : Nat) (d : TD) : (telOne k d).length ≤ 2 := by
  unfold telOne
  split
  · exact Nat.le_refl 2
  · exact Nat.le_succ 1
theorem tel_len : ∀ (l : List TD) (k : Nat), (tel k l).length ≤ 2 * l.length
  | [], _ => Nat.le_refl 0
  | d :: r, k => by
    show (telOne k d ++ tel (k + 1) r).length ≤ 2 * (r.length + 1)
    rw [List.length_append]
    have := telOne_len k d
    have := tel_len r (k + 1)
    omega
inductive TalkD  (H : Hp) (v : V) (d : TD) : Prop
  | mk (a : Addr) (h : Int) (h0 : v = .ref a) (h1 : H a = some (.tup [.int h, .str d.1, .str d.2.1, .str d.2.2]))
def Tls (H : Hp) (ts : List V) (td : List TD) : Prop := ts.length = td.length ∧ ∀ (i : Nat) v d, ts[i]? = some v → td[i]? = some d → TalkD H v d
theorem Tls.mono {H H' : Hp} {ts : List V} {td : List TD} (s : Tk H H') (h : Tls H ts td) : Tls H' ts td := ⟨h.1, fun i v d hv hd => by
  obtain ⟨a, t, e, ha⟩ := h.2 i v d hv hd
  exact ⟨a, t, e, s _ _ ha⟩⟩
inductive TelV  (H : Hp) (v : V) (t : Nat × Str × Str) : Prop
  | mk (a : Addr) (h0 : v = .ref a) (h1 : H a = some (.tup [.int t.1, .str t.2.1, .str t.2.2]))
def TelL (H : Hp) (us : List V) (ks : List (Nat × Str × Str)) : Prop := us.length = ks.length ∧ ∀ (i : Nat) u t, us[i]? = some u → ks[i]? = some t → TelV H u t
theorem TelV.mono {H H' : Hp} {v : V} {t : Nat × Str × Str} (s : Tk H H') (h : TelV H v t) : TelV H' v t := by
  obtain ⟨a, e, ha⟩ := h
  exact ⟨a, e, s _ _ ha⟩
theorem TelL.mono {H H' : Hp} {us : List V} {ks : List (Nat × Str × Str)} (s : Tk H H') (h : TelL H us ks) : TelL H' us ks := ⟨h.1, fun i u t hu ht => (h.2 i u t hu ht).mono s⟩
theorem TelL.nil {H : Hp} : TelL H [] [] := ⟨rfl, fun i u t hu => by cases hu⟩
theorem TelL.snoc {H : Hp} {us : List V} {ks : List (Nat × Str × Str)} {u : V} {t : Nat × Str × Str} (h : TelL H us ks) (hv : TelV H u t) : TelL H (us ++ [u]) (ks ++ [t]) := by
  refine ⟨by rw [List.length_append, List.length_append, h.1]; rfl, fun i x e hu he => ?_⟩
  by_cases hi : i < us.length
  · rw [List.getElem?_append_left hi] at hu
    rw [List.getElem?_append_left (by rw [← h.1]; exact hi)] at he
    exact h.2 i x e hu he
  · rw [List.getElem?_append_right (by omega)] at hu
    rw [List.getElem?_append_right (by rw [← h.1]; omega), ← h.1] at he
    cases hj : i - us.length with
    | zero =>
      rw [hj] at hu he
      cases hu
      cases he
      exact hv
    | succ j =>
      rw [hj] at hu
      cases hu
inductive spTellingsP  (C : Addr) (vs : List V) (H : Hp) (Q : VK) : Prop
  | mk (x p s t y : Addr) (ps : List Str) (ss ts ys : List V) (td : List TD) (h0 : vs = [.ref x]) (h1 : Bk C H x p s t y ps ss ts ys) (h2 : Tls H ts td) (h3 : ts.length ≤ 120) (h4 : ∀ (l : Addr) (us : List V) (H' : Hp), Same H H' → H l = none → H' l = some (.lst us) → TelL H' us (tel 0 td) → Q (.ref l) H')
def spTellings  (C : Addr) : Sp := fun vs H Q _ => spTellingsP C vs H Q
section
variable {P : Program} {w : World} {K : PySem.W.Frag} {mg : Str → Option Value} {base : Heap} {kw C : Addr}
inductive TeInv (x l : Addr) (H : Hp) (td : List TD) (i : Nat) (σ : St) (H2 : Hp) : Prop
  | mk (us : List V) (e1 e2 : Option V) (e : σ = [some (.ref x), some (.ref l), e1, e2]) (s : Same H H2) (hl : H2 l = some (.lst us)) (tl : TelL H2 us (tel 0 (td.take i)))
/-- two tellings of a talk put behind: what both loops do -/
theorem tel_put {H : Hp} {us : List V} {td : List TD} {i : Nat} {d : TD} (hd : td[i]? = some d) (t : TelL H us (tel 0 (td.take i))) :
    (d.2.2 = "both" → ∀ u v, TelV H u (i, d.1, d.2.1) → TelV H v (i, d.2.1, d.1) → TelL H ((us ++ [u]) ++ [v]) (tel 0 (td.take (i + 1)))) ∧ (d.2.2 ≠ "both" → ∀ u, TelV H u (i, d.1, d.2.1) → TelL H (us ++ [u]) (tel 0 (td.take (i + 1)))) := by
  have hi : i < td.length := (List.getElem?_eq_some_iff.mp hd).1
  have e : tel 0 (td.take (i + 1)) = tel 0 (td.take i) ++ telOne i d := by
    rw [List.take_add_one, hd]
    show tel 0 (td.take i ++ [d]) = _
    rw [tel_snoc, List.length_take, Nat.zero_add, Nat.min_eq_left (Nat.le_of_lt hi)]
  rw [e]
  refine ⟨fun hb u v hu hv => ?_, fun hb u hu => ?_⟩
  · rw [show telOne i d = [(i, d.1, d.2.1)] ++ [(i, d.2.1, d.1)] by unfold telOne; rw [if_pos hb]; rfl, ← List.append_assoc]
    exact (t.snoc hu).snoc hv
  · rw [show telOne i d = [(i, d.1, d.2.1)] by unfold telOne; rw [if_neg hb]]
    exact t.snoc hu
theorem sc_m_tellings : FnScope ["self", "told", "k", "talk"] ["self"] (defScope s_m_tellings) := ⟨rfl, rfl, rfl, by decide +kernel, rfl, by decide +kernel, by decide +kernel⟩
theorem ok_tellings {f : Addr} {fd : FuncData} (F : Fun K "tellings" "Book.tellings" s_m_tellings f fd) (me : Meth K C "tellings" f) (bi : Binds K fd ["self"] []) (T : Txt K mg kw C) : Md P w K mg base 1 C "tellings" (spTellings C) := by
  refine J.meth_ok F me bi T.cl sc_m_tellings (fun vs H Q E h => ?_) (fun X H vs Q E hh h => ?_)
  · obtain ⟨x, p, s, t, y, ps, ss, ts, ys, td, rfl, _⟩ := h
    rfl
  · obtain ⟨x, p, s, t, y, ps, ss, ts, ys, td, rfl, bk, tls, l120, k⟩ := h
    have S0 : L2.Slot X 0 "self" := hh.slot 0 rfl (by first | exact .inl rfl | exact .inr rfl) (by decide) (by decide)
    have S1 : L2.Slot X 1 "told" := hh.slot 1 rfl (by first | exact .inl rfl | exact .inr rfl) (by decide) (by decide)
    have S2 : L2.Slot X 2 "k" := hh.slot 2 rfl (by first | exact .inl rfl | exact .inr rfl) (by decide) (by decide)
    have S3 : L2.Slot X 3 "talk" := hh.slot 3 rfl (by first | exact .inl rfl | exact .inr rfl) (by decide) (by decide)
    have B_enumerate : Bt X "enumerate" := hh.bt T.b_enumerate rfl (by decide) (by decide)
    obtain rfl := hh.fK
    have hsz : sizeLine = 16777216 := sizeLine_eq
    obtain ⟨⟨dx, hx⟩, _, _, ht, _⟩ := id bk
    refine ⟨_, (J.pss_cons (J.set S1 hh.nd (J.pe_lst J.pa_nil))
 (J.pss_cons (J.ps_for hh.own hh.calm (J.pi_enum B_enumerate (J.pa_c (J.fld (J.rd S0)) J.pa_nil)) (J.pg_tup hh.calm (J.pgs_c (J.tgt S2 hh.nd) (J.pgs_c (J.tgt S3 hh.nd) J.pgs_nil)))
 (J.pss_cons (J.ps_do (J.bm PySem.F.plainAttrs_list PySem.F.slot_list_append PySem.F.type_list_append J.mt_append (J.rd S1) (J.pa_c (J.pe_tup (J.pa_c (J.rd S2) (J.pa_c (J.pe_ix J.ix_tup (J.rd S3) J.pe_int J.ix_con) (J.pa_c (J.pe_ix J.ix_tup (J.rd S3) J.pe_int J.ix_con) J.pa_nil)))) J.pa_nil)))
 (J.pss_one (J.ps_if (J.pt_cmpR J.op_eq (J.pe_ix J.ix_tup (J.rd S3) J.pe_int J.ix_con) J.pe_str (L2.nomark _))
 (J.pss_one (J.ps_do (J.bm PySem.F.plainAttrs_list PySem.F.slot_list_append PySem.F.type_list_append J.mt_append (J.rd S1) (J.pa_c (J.pe_tup (J.pa_c (J.rd S2) (J.pa_c (J.pe_ix J.ix_tup (J.rd S3) J.pe_int J.ix_con) (J.pa_c (J.pe_ix J.ix_tup (J.rd S3) J.pe_int J.ix_con) J.pa_nil)))) J.pa_nil))))
 J.pss_nil))))
 (J.pss_one (J.ps_ret (J.rd S1))))), ?_⟩
    refine ⟨by show 0 ≤ sizeLine; decide, fun l hl => ?_⟩
    have s1 := Same.upd (o := .lst []) hl
    refine ⟨_, rfl, x, C, dx, _, _, rfl, s1 _ _ hx, T.cl, T.nT, fld_t _ _ _ _, t, rfl, ⟨_, SqL.of (s1 _ _ ht)⟩, for_enum (K := X.K) (a := t) (xs := ts) (TeInv x l H td)
      ⟨[], none, none, rfl, s1, upd_same, TelL.nil⟩ ?_ ?_ ?_⟩
    · rintro i σ H2 ⟨_, _, _, _, s2, _⟩
      exact SqL.of (s2 _ _ ht)
    · rintro i v q σ H2 hv hq ⟨us, e1, e2, rfl, s2, hl2, tl⟩
      have hi : i < ts.length := (List.getElem?_eq_some_iff.mp hv).1
      have hd : td[i]? = some (td[i]'(by rw [← tls.1]; exact hi)) := List.getElem?_eq_getElem _
      generalize (td[i]'(by rw [← tls.1]; exact hi)) = d at hd
      obtain ⟨a, h, rfl, ha⟩ := tls.2 i v d hv hd
      have ul : us.length ≤ 240 := by
        have := tel_len (td.take i) 0
        rw [List.length_take] at this
        have := tl.1
        have := tls.1
        omega
      refine ⟨q, _, rfl, SqT.of upd_same, rfl, _, _, rfl, _, _, rfl, rfl, ?_⟩
      have s3 := Same.upd (o := .tup [.int i, .ref a]) hq
      have ha3 := s3 _ _ (s2 _ _ ha)
      have hl3 := s3 _ _ hl2
      have tl3 := tl.mono (Tk.of s3)
      have s03 := s2.trans s3
      generalize upd H2 q (.tup [.int i, .ref a]) = H3 at ha3 hl3 tl3 s03
      refine ⟨_, rfl, .inl ⟨rfl, _, SqL.of hl3⟩, _, rfl, _, rfl, a, _, _, _, rfl, rfl, SqT.of ha3, rfl, _, rfl, a, _, _, _, rfl, rfl, SqT.of ha3, rfl, by show 3 ≤ sizeLine; decide, fun t1 ht1 => ?_⟩
      have s4 := Same.upd (o := .tup [.int i, .str d.1, .str d.2.1]) ht1
      refine ⟨l, us, .ref t1, rfl, rfl, s4 _ _ hl3, by omega, ?_⟩
      have al : a ≠ l := ne_of ha3 hl3 (by intro z; cases z)
      have t1l : t1 ≠ l := (ne_of_none hl3 ht1).symm
      have ha5 : upd (upd H3 t1 (.tup [.int i, .str d.1, .str d.2.1])) l (.lst (us ++ [.ref t1])) a = some (.tup [.int h, .str d.1, .str d.2.1, .str d.2.2]) := by
        rw [upd_ne al]
        exact s4 _ _ ha3
      have tv5 : TelV (upd (upd H3 t1 (.tup [.int i, .str d.1, .str d.2.1])) l (.lst (us ++ [.ref t1]))) (.ref t1) (i, d.1, d.2.1) := ⟨t1, rfl, by rw [upd_ne t1l]; exact upd_same⟩
      have tk5 := (Tk.of s4).trans (Tk.upd (s4 _ _ hl3) (ys := us ++ [.ref t1]))
      have tl5 := tl3.mono tk5
      have hl5 : upd (upd H3 t1 (.tup [.int i, .str d.1, .str d.2.1])) l (.lst (us ++ [.ref t1])) l = some (.lst (us ++ [.ref t1])) := upd_same
      have s05 : Same H (upd (upd H3 t1 (.tup [.int i, .str d.1, .str d.2.1])) l (.lst (us ++ [.ref t1]))) := fun b o e => by
        rw [upd_ne (ne_of_none e hl)]
        exact s4 _ _ (s03 _ _ e)
      generalize upd (upd H3 t1 (.tup [.int i, .str d.1, .str d.2.1])) l (.lst (us ++ [.ref t1])) = H5 at ha5 tv5 tl5 hl5 s05
      refine ⟨_, rfl, a, _, _, _, rfl, rfl, SqT.of ha5, rfl, rfl, _, rfl, ite2 (fun hb => ?_) (fun hb => ?_)⟩
      · have hb' : d.2.2 = "both" := V.str.inj (of_decide_eq_true hb)
        refine ⟨_, rfl, .inl ⟨rfl, _, SqL.of hl5⟩, _, rfl, _, rfl, a, _, _, _, rfl, rfl, SqT.of ha5, rfl, _, rfl, a, _, _, _, rfl, rfl, SqT.of ha5, rfl, by show 3 ≤ sizeLine; decide, fun t2 ht2 => ?_⟩
        have s6 := Same.upd (o := .tup [.int i, .str d.2.1, .str d.1]) ht2
        refine ⟨l, _, .ref t2, rfl, rfl, s6 _ _ hl5, by rw [List.length_append]; show us.length + 1 < _; omega, ?_⟩
        have t2l : t2 ≠ l := (ne_of_none hl5 ht2).symm
        have tk7 := (Tk.of s6).trans (Tk.upd (s6 _ _ hl5) (ys := (us ++ [.ref t1]) ++ [.ref t2]))
        refine ⟨_, _, _, rfl, fun b o e => ?_, upd_same, (tel_put hd (tl5.mono tk7)).1 hb' _ _ (tv5.mono tk7) ⟨t2, rfl, ?_⟩⟩
        · rw [upd_ne (ne_of_none e hl)]
          exact s6 _ _ (s05 _ _ e)
        · rw [upd_ne t2l]
          exact upd_same
      · have hb' : d.2.2 ≠ "both" := fun e => hb (decide_eq_true (congrArg V.str e))
        exact ⟨_, _, _, rfl, s05, hl5, (tel_put hd tl5).2 hb' _ tv5⟩
    · rintro σ H2 ⟨us, e1, e2, rfl, s2, hl2, tl⟩
      rw [tls.1, List.take_length] at tl
      exact ⟨_, rfl, k l us H2 s2 hl hl2 tl⟩
end
/-! ### the sayings as data -/
inductive SD where
  | knew (p : Str) (h : Int)
  | unh (p : Str) (h : Option Int)
  | sil (p : Str) (b e : Int)
  | bar (p q : Str)
def oV : Option Int → V
  | none => .non
  | some h => .int h
def SD.tup : SD → List V
  | .knew p h => [.str "knew", .str p, .int h]
  | .unh p h => [.str "unheard", .str p, oV h]
  | .sil p b e => [.str "silent", .str p, .int b, .int e]
  | .bar p q => [.str "barred", .str p, .str q]
def SdOk (ps : List Str) : SD → Prop
  | .knew p h => p ∈ ps ∧ HourOk h
  | .unh p h => p ∈ ps ∧ ∀ i, h = some i → HourOk i
  | .sil p b e => p ∈ ps ∧ HourOk b ∧ HourOk e ∧ b ≤ e
  | .bar p q => p ∈ ps ∧ q ∈ ps ∧ p ≠ q
inductive SayD  (H : Hp) (v : V) (d : SD) : Prop
  | mk (a : Addr) (h0 : v = .ref a) (h1 : H a = some (.tup d.tup))
def Sys (H : Hp) (ys : List V) (sd : List SD) : Prop := ys.length = sd.length ∧ ∀ (i : Nat) v d, ys[i]? = some v → sd[i]? = some d → SayD H v d
theorem Sys.mono {H H' : Hp} {ys : List V} {sd : List SD} (s : Tk H H') (h : Sys H ys sd) : Sys H' ys sd := ⟨h.1, fun i v d hv hd => by
  obtain ⟨a, e, ha⟩ := h.2 i v d hv hd
  exact ⟨a, e, s _ _ ha⟩⟩
theorem Sys.nil {H : Hp} : Sys H [] [] := ⟨rfl, fun i v d hv => by cases hv⟩
theorem Sys.at {H : Hp} {ys : List V} {sd : List SD} {i : Nat} {v : V} (h : Sys H ys sd) (hv : ys[i]? = some v) : ∃ d a, sd[i]? = some d ∧ v = .ref a ∧ H a = some (.tup d.tup) := by
  have hi : i < sd.length := by
    rw [← h.1]
    exact (List.getElem?_eq_some_iff.mp hv).1
  obtain ⟨a, e, ha⟩ := h.2 i v sd[i] hv (List.getElem?_eq_getElem hi)
  exact ⟨sd[i], a, List.getElem?_eq_getElem hi, e, ha⟩
theorem say_data {ps : List Str} {H : Hp} {v : V} (h : SayIn ps H v) : ∃ d, SayD H v d ∧ SdOk ps d := by
  obtain ⟨a, e, h⟩ := h
  rcases h with ⟨p, h, ha, h1, h2⟩ | ⟨p, b, ha, h1, h2⟩ | ⟨p, h, k, ha, h1, h2, h3, h4⟩ | ⟨p, q, ha, h1, h2, h3⟩
  · exact ⟨.knew p h, ⟨a, e, ha⟩, h1, h2⟩
  · rcases h2 with rfl | ⟨h, rfl, h2⟩
    · exact ⟨.unh p none, ⟨a, e, ha⟩, h1, fun i z => by cases z⟩
    · exact ⟨.unh p (some h), ⟨a, e, ha⟩, h1, fun i z => by cases z; exact h2⟩
  · exact ⟨.sil p h k, ⟨a, e, ha⟩, h1, h2, h3, h4⟩
  · exact ⟨.bar p q, ⟨a, e, ha⟩, h1, h2, h3⟩
theorem says_data {ps : List Str} {H : Hp} : ∀ {ys : List V}, (∀ v ∈ ys, SayIn ps H v) → ∃ sd, Sys H ys sd ∧ ∀ d ∈ sd, SdOk ps d
  | [], _ => ⟨[], Sys.nil, fun d hd => by cases hd⟩
  | v :: r, h => by
    obtain ⟨sd, ⟨l, g⟩, k⟩ := says_data fun u hu => h u (List.mem_cons_of_mem _ hu)
    obtain ⟨d, hd, kd⟩ := say_data (h v (List.mem_cons_self ..))
    refine ⟨d :: sd, ⟨by rw [List.length_cons, List.length_cons, l], fun i u e hu he => ?_⟩, fun e he => ?_⟩
    · cases i with
      | zero =>
        cases hu
        cases he
        exact hd
      | succ j => exact g j u e hu he
    · rcases List.mem_cons.mp he with rfl | he
      · exact kd
      · exact k e he
theorem drop_at {α : Type} {l : List α} {i : Nat} {d : α} (h : l[i]? = some d) : l.drop i = d :: l.drop (i + 1) := by
  obtain ⟨hi, rfl⟩ := List.getElem?_eq_some_iff.mp h
  exact List.drop_eq_getElem_cons hi
/-! ### what a comprehension over the data keeps -/
def atP {α : Type} (l : List α) (p : α → Bool) (i : Nat) : Bool := match l[i]? with
  | some d => p d
  | none => false
def atF {α : Type} (l : List α) (f : α → V) (i : Nat) : V := match l[i]? with
  | some d => f d
  | none => .non
theorem atP_at {α : Type} {l : List α} {p : α → Bool} {i : Nat} {d : α} (h : l[i]? = some d) : atP l p i = p d := by
  unfold atP
  rw [h]
theorem atF_at {α : Type} {l : List α} {f : α → V} {i : Nat} {d : α} (h : l[i]? = some d) : atF l f i = f d := by
  unfold atF
  rw [h]
theorem range_pf {α : Type} (p : α → Bool) (f : α → V) : ∀ l : List α, ((List.range l.length).filter (atP l p)).map (atF l f) = (l.filter p).map f
  | [] => rfl
  | d :: r => by
    have ih := range_pf p f r
    have e1 : (atP (d :: r) p ∘ Nat.succ) = atP r p := rfl
    have e2 : (atF (d :: r) f ∘ Nat.succ) = atF r f := rfl
    rw [List.length_cons, List.range_succ_eq_map, List.filter_cons, List.filter_map, e1]
    have e3 : atP (d :: r) p 0 = p d := rfl
    rw [e3, List.filter_cons]
    cases p d with
    | true =>
      rw [if_pos rfl, if_pos rfl, List.map_cons, List.map_cons, List.map_map, e2, ih]
      rfl
    | false =>
      rw [if_neg Bool.false_ne_true, if_neg Bool.false_ne_true, List.map_map, e2, ih]
/-! ### floors -/
def isUnh (z : Str) : SD → Bool
  | .unh q _ => decide (q = z)
  | _ => false
def SD.hr : SD → Option Int
  | .unh _ h => h
  | _ => none
def unhs (z : Str) (sd : List SD) : List (Option Int) := (sd.filter (isUnh z)).map SD.hr
def flr (acc : Int) : List (Option Int) → Option Int
  | [] => some acc
  | none :: _ => none
  | some h :: r => flr (if h > acc then h else acc) r
def floorOf (z : Str) (sd : List SD) : Option Int := flr (-1) (unhs z sd)
theorem unhs_no {z : Str} {d : SD} {r : List SD} (h : isUnh z d = false) : unhs z (d :: r) = unhs z r := by
  unfold unhs
  rw [List.filter_cons, if_neg (by rw [h]; exact Bool.false_ne_true)]
theorem unhs_yes {z : Str} {h : Option Int} {r : List SD} : unhs z (.unh z h :: r) = h :: unhs z r := by
  unfold unhs
  rw [List.filter_cons, if_pos (show isUnh z (.unh z h) = true from decide_eq_true rfl)]
  rfl
inductive spTell1P  (C : Addr) (M : Addr → Addr → Addr → Addr → Addr) (vs : List V) (H : Hp) (Q : VK) : Prop
  | mk (x p s t y : Addr) (xs : List V) (h0 : vs = [.ref x]) (h1 : (∃ dx, H x = some (.ins C dx (flds p s t y)))) (h2 : H (M p s t y) = some (.lst xs)) (h3 : ∀ l, H l = none → Q (.ref l) (upd H l (.lst xs)))
def spTell1  (C : Addr) (M : Addr → Addr → Addr → Addr → Addr) : Sp := fun vs H Q _ => spTell1P C M vs H Q
inductive FloorP (C : Addr) (vs : List V) (H : Hp) (Q : VK) : Prop
  | mk (x p s t y : Addr) (ps : List Str) (ss ts ys : List V) (z : Str) (sd : List SD) (e : vs = [.ref x, .str z]) (bk : Bk C H x p s t y ps ss ts ys) (sy : Sys H ys sd) (l : ys.length ≤ 60) (k : ∀ H', Same H H' → Q (oV (floorOf z sd)) H')
def spFloor (C : Addr) : Sp := fun vs H Q _ => FloorP C vs H Q
section
variable {P : Program} {w : World} {K : PySem.W.Frag} {mg : Str → Option Value} {base : Heap} {kw C : Addr}
theorem sc_m_sayings : FnScope ["self"] ["self"] (defScope s_m_sayings) := ⟨rfl, rfl, rfl, by decide +kernel, rfl, by decide +kernel, by decide +kernel⟩
theorem ok_m_sayings {f : Addr} {fd : FuncData} (F : Fun K "sayings" "Book.sayings" s_m_sayings f fd) (me : Meth K C "sayings" f) (bi : Binds K fd ["self"] []) (T : Txt K mg kw C) : Md P w K mg base 1 C "sayings" (spTell1 C (fun _ _ _ y => y)) := by
  refine J.meth_ok F me bi T.cl sc_m_sayings (fun vs H Q E h => ?_) (fun X H vs Q E hh h => ?_)
  · obtain ⟨x, p, s, t, y, xs, rfl, _⟩ := h
    rfl
  · obtain ⟨x, p, s, t, y, xs, rfl, ⟨dx, hx⟩, hl, k⟩ := h
    have S0 : L2.Slot X 0 "self" := hh.slot 0 rfl (by first | exact .inl rfl | exact .inr rfl) (by decide) (by decide)
    have B_list : Bt X "list" := hh.bt T.b_list rfl (by decide) (by decide)
    obtain rfl := hh.fK
    refine ⟨_, (J.pss_one (J.ps_ret (J.bltT B_list J.call_list_of L2.bb_list (J.pa_c (J.fld (J.rd S0)) J.pa_nil)))), ?_⟩
    exact ⟨_, rfl, x, C, dx, _, _, rfl, hx, T.cl, T.nY, fld_y _ _ _ _, _, _, rfl, .inl (SqL.of hl), k⟩
theorem sc_floor_of : FnScope ["book", "person", "floor", "saying"] ["book", "person"] (defScope s_floor_of) := ⟨rfl, rfl, rfl, by decide +kernel, rfl, by decide +kernel, by decide +kernel⟩
theorem ok_floor_of {f : Addr} {fd : FuncData} (D : Df K mg "floor_of" s_floor_of ["book", "person"] f fd) (T : Txt K mg kw C) (G_sayings : Md P w K mg base 1 C "sayings" (spTell1 C fun _ _ _ y => y)) : Gd P w K mg base 2 "floor_of" (spFloor C) := by
  refine J.def_ok D sc_floor_of (fun vs H Q E h => ?_) (fun X H vs Q E hh h => ?_)
  · obtain ⟨x, p, s, t, y, ps, ss, ts, ys, z, sd, rfl, _⟩ := h
    rfl
  · obtain ⟨x, p, s, t, y, ps, ss, ts, ys, z, sd, rfl, bk, sy, l60, k⟩ := h
    have S0 : L2.Slot X 0 "book" := hh.slot 0 rfl (by first | exact .inl rfl | exact .inr rfl) (by decide) (by decide)
    have S1 : L2.Slot X 1 "person" := hh.slot 1 rfl (by first | exact .inl rfl | exact .inr rfl) (by decide) (by decide)
    have S2 : L2.Slot X 2 "floor" := hh.slot 2 rfl (by first | exact .inl rfl | exact .inr rfl) (by decide) (by decide)
    have S3 : L2.Slot X 3 "saying" := hh.slot 3 rfl (by first | exact .inl rfl | exact .inr rfl) (by decide) (by decide)
    have B_max : Bt X "max" := hh.bt T.b_max rfl (by decide) (by decide)
    have M_sayings := hh.met G_sayings (by decide)
    obtain ⟨⟨dx, hx⟩, hp, hs, ht, hy⟩ := id bk
    refine ⟨_, (J.pss_cons (J.set S2 hh.nd (J.pe_un J.un_neg J.pe_int))
 (J.pss_cons (J.ps_for hh.own hh.calm (J.pi_list (J.met0 M_sayings (J.rd S0) rfl)) (J.tgt S3 hh.nd)
 (J.pss_one (J.ps_if (J.pw_pt (J.pw_and (J.pt_cmpR J.op_eq (J.pe_ix J.ix_tup (J.rd S3) J.pe_int J.ix_con) J.pe_str (L2.nomark _)) (J.pw_and1 (J.pt_cmpR J.op_eq (J.pe_ix J.ix_tup (J.rd S3) J.pe_int J.ix_con) (J.rd S1) (L2.nomark _)))))
 (J.pss_cons (J.ps_if (J.pt_cmpR J.op_isN (J.pe_ix J.ix_tup (J.rd S3) J.pe_int J.ix_con) J.pe_non (L2.nomark _))
 (J.pss_one (J.ps_ret J.pe_non))
 J.pss_nil)
 (J.pss_one (J.set S2 hh.nd (J.blt B_max (J.call_max2 hh.calm) L2.bb_max (J.pa_c (J.rd S2) (J.pa_c (J.pe_ix J.ix_tup (J.rd S3) J.pe_int J.ix_con) J.pa_nil))))))
 J.pss_nil)))
 (J.pss_one (J.ps_ret (J.rd S2))))), ?_⟩
    refine ⟨_, rfl, _, rfl, x, dx, _, rfl, hx, fld_no _ _ _ _ (by decide +kernel) (by decide +kernel) (by decide +kernel) (by decide +kernel), x, p, s, t, y, ys, rfl, ⟨dx, hx⟩, hy, fun l hl => ?_⟩
    have s1 := Same.upd (o := .lst ys) hl
    have hl1 : upd H l (.lst ys) l = some (.lst ys) := upd_same
    generalize upd H l (.lst ys) = H1 at s1 hl1
    refine ⟨l, rfl, ⟨_, SqL.of hl1⟩, for_list (K := X.K) (a := l) (xs := ys) (fun i σ H2 => ∃ (acc : Int) (e : Option V), σ = [some (.ref x), some (.str z), some (.int acc), e] ∧ Same H1 H2 ∧ flr acc (unhs z (sd.drop i)) = floorOf z sd)
      ⟨_, none, rfl, Same.refl _, rfl⟩ ?_ ?_ ?_⟩
    · rintro i σ H2 hi ⟨acc, e, rfl, s2, hf⟩
      exact SqL.of (s2 _ _ hl1)
    · rintro i v σ H2 hv ⟨acc, e, rfl, s2, hf⟩
      obtain ⟨d, a, hd, rfl, ha⟩ := sy.at hv
      have ha2 := s2 _ _ (s1 _ _ ha)
      rw [drop_at hd] at hf
      cases d with
      | knew q h =>
        rw [unhs_no rfl] at hf
        exact ⟨_, rfl, a, _, _, _, rfl, rfl, SqT.of ha2, rfl, rfl, _, rfl, iteN (by decide +kernel) (iteF ⟨acc, _, rfl, s2, hf⟩)⟩
      | sil q b e' =>
        rw [unhs_no rfl] at hf
        exact ⟨_, rfl, a, _, _, _, rfl, rfl, SqT.of ha2, rfl, rfl, _, rfl, iteN (by decide +kernel) (iteF ⟨acc, _, rfl, s2, hf⟩)⟩
      | bar q q' =>
        rw [unhs_no rfl] at hf
        exact ⟨_, rfl, a, _, _, _, rfl, rfl, SqT.of ha2, rfl, rfl, _, rfl, iteN (by decide +kernel) (iteF ⟨acc, _, rfl, s2, hf⟩)⟩
      | unh q h =>
        refine ⟨_, rfl, a, _, _, _, rfl, rfl, SqT.of ha2, rfl, rfl, _, rfl, iteP (by decide +kernel) ⟨_, rfl, a, _, _, _, rfl, rfl, SqT.of ha2, rfl, _, rfl, rfl, _, rfl, ite2 (fun hq => ?_) (fun hq => ?_)⟩⟩
        · have hq' : q = z := V.str.inj (of_decide_eq_true hq)
          subst hq'
          rw [unhs_yes] at hf
          cases h with
          | none =>
            refine ⟨_, rfl, a, _, _, _, rfl, rfl, SqT.of ha2, rfl, rfl, _, rfl, iteP (decide_eq_true rfl) ?_⟩
            have hf' : none = floorOf q sd := hf
            have := k H2 (s1.trans s2)
            rw [← hf'] at this
            exact this
          | some h =>
            refine ⟨_, rfl, a, _, _, _, rfl, rfl, SqT.of ha2, rfl, rfl, _, rfl, iteN (by rw [decide_eq_true_iff]; intro e; cases e) ?_⟩
            exact ⟨_, rfl, _, rfl, a, _, _, _, rfl, rfl, SqT.of ha2, rfl, acc, h, rfl, _, _, rfl, s2, hf⟩
        · have hq' : isUnh z (.unh q h) = false := decide_eq_false fun e => hq (decide_eq_true (congrArg V.str e))
          rw [unhs_no hq'] at hf
          exact ⟨acc, _, rfl, s2, hf⟩
    · rintro σ H2 ⟨acc, e, rfl, s2, hf⟩
      rw [sy.1, List.drop_length] at hf
      have hf' : some acc = floorOf z sd := hf
      have := k H2 (s1.trans s2)
      rw [← hf'] at this
      exact ⟨_, rfl, this⟩
end
/-! ### all floors; above a floor -/
def aboveB (h : Int) : Option Int → Bool
  | none => false
  | some m => decide (m < h)
inductive AboveP (vs : List V) (H : Hp) (Q : VK) : Prop
  | mk (h : Int) (f : Option Int) (e : vs = [.int h, oV f]) (k : Q (.bl (aboveB h f)) H)
def spAbove : Sp := fun vs H Q _ => AboveP vs H Q
/-- a dict with the floors of all persons -/
def Flo (H : Hp) (d : Addr) (ps : List Str) (sd : List SD) : Prop := ∃ kvs : List (Key × V), H d = some (.dK kvs) ∧ ∀ z ∈ ps, valV kvs (Sum.inr z) = some (oV (floorOf z sd))
theorem Flo.mono {H H' : Hp} {d : Addr} {ps : List Str} {sd : List SD} (s : Same H H') (h : Flo H d ps sd) : Flo H' d ps sd := by
  obtain ⟨kvs, e, k⟩ := h
  exact ⟨kvs, s _ _ e, k⟩
inductive FloorsP (C : Addr) (vs : List V) (H : Hp) (Q : VK) : Prop
  | mk (x p s t y : Addr) (ps : List Str) (ss ts ys : List V) (sd : List SD) (e : vs = [.ref x]) (bk : Bk C H x p s t y ps ss ts ys) (pl : ps.length ≤ 24) (sy : Sys H ys sd) (l : ys.length ≤ 60) (k : ∀ d H', Same H H' → H d = none → Flo H' d ps sd → Q (.ref d) H')
def spFloors (C : Addr) : Sp := fun vs H Q _ => FloorsP C vs H Q
section
variable {P : Program} {w : World} {K : PySem.W.Frag} {mg : Str → Option Value} {base : Heap} {kw C : Addr}
theorem sc_m_persons : FnScope ["self"] ["self"] (defScope s_m_persons) := ⟨rfl, rfl, rfl, by decide +kernel, rfl, by decide +kernel, by decide +kernel⟩
theorem ok_m_persons {f : Addr} {fd : FuncData} (F : Fun K "persons" "Book.persons" s_m_persons f fd) (me : Meth K C "persons" f) (bi : Binds K fd ["self"] []) (T : Txt K mg kw C) : Md P w K mg base 1 C "persons" (spTell1 C (fun p _ _ _ => p)) := by
  refine J.meth_ok F me bi T.cl sc_m_persons (fun vs H Q E h => ?_) (fun X H vs Q E hh h => ?_)
  · obtain ⟨x, p, s, t, y, xs, rfl, _⟩ := h
    rfl
  · obtain ⟨x, p, s, t, y, xs, rfl, ⟨dx, hx⟩, hl, k⟩ := h
    have S0 : L2.Slot X 0 "self" := hh.slot 0 rfl (by first | exact .inl rfl | exact .inr rfl) (by decide) (by decide)
    have B_list : Bt X "list" := hh.bt T.b_list rfl (by decide) (by decide)
    obtain rfl := hh.fK
    refine ⟨_, (J.pss_one (J.ps_ret (J.bltT B_list J.call_list_of L2.bb_list (J.pa_c (J.fld (J.rd S0)) J.pa_nil)))), ?_⟩
    exact ⟨_, rfl, x, C, dx, _, _, rfl, hx, T.cl, T.nP, fld_p _ _ _ _, _, _, rfl, .inl (SqL.of hl), k⟩
theorem sc_is_above : FnScope ["hour", "floor"] ["hour", "floor"] (defScope s_is_above) := ⟨rfl, rfl, rfl, by decide +kernel, rfl, by decide +kernel, by decide +kernel⟩
theorem ok_is_above {f : Addr} {fd : FuncData} (D : Df K mg "is_above" s_is_above ["hour", "floor"] f fd) : Gd P w K mg base 1 "is_above" spAbove := by
  refine J.def_ok D sc_is_above (fun vs H Q E h => ?_) (fun X H vs Q E hh h => ?_)
  · obtain ⟨h, f, rfl, _⟩ := h
    rfl
  · obtain ⟨h, f, rfl, k⟩ := h
    have S0 : L2.Slot X 0 "hour" := hh.slot 0 rfl (by first | exact .inl rfl | exact .inr rfl) (by decide) (by decide)
    have S1 : L2.Slot X 1 "floor" := hh.slot 1 rfl (by first | exact .inl rfl | exact .inr rfl) (by decide) (by decide)
    refine ⟨_, (J.pss_one (J.ps_ret (J.pe_and (J.pe_cmpR J.op_notN (J.rd S1) J.pe_non (L2.nomark _)) (J.pe_one (J.pe_cmpR J.op_gt (J.rd S0) (J.rd S1) (L2.nomark _)))))), ?_⟩
    cases f with
    | none => exact ⟨_, rfl, rfl, _, rfl, iteN (by decide) k⟩
    | some m => exact ⟨_, rfl, rfl, _, rfl, iteP (by rw [Bool.not_eq_true', decide_eq_false_iff_not]; intro e; cases e) ⟨_, rfl, _, rfl, _, _, rfl, rfl, k⟩⟩
theorem sc_floors_of_all : FnScope ["book", "floors", "person"] ["book"] (defScope s_floors_of_all) := ⟨rfl, rfl, rfl, by decide +kernel, rfl, by decide +kernel, by decide +kernel⟩
theorem ok_floors {f : Addr} {fd : FuncData} (D : Df K mg "floors_of_all" s_floors_of_all ["book"] f fd) (T : Txt K mg kw C) (G_persons : Md P w K mg base 1 C "persons" (spTell1 C fun p _ _ _ => p)) (G_floor_of : Gd P w K mg base 2 "floor_of" (spFloor C)) : Gd P w K mg base 3 "floors_of_all" (spFloors C) := by
  refine J.def_ok D sc_floors_of_all (fun vs H Q E h => ?_) (fun X H vs Q E hh h => ?_)
  · obtain ⟨x, p, s, t, y, ps, ss, ts, ys, sd, rfl, _⟩ := h
    rfl
  · obtain ⟨x, p, s, t, y, ps, ss, ts, ys, sd, rfl, bk, pl, sy, l60, k⟩ := h
    have S0 : L2.Slot X 0 "book" := hh.slot 0 rfl (by first | exact .inl rfl | exact .inr rfl) (by decide) (by decide)
    have S1 : L2.Slot X 1 "floors" := hh.slot 1 rfl (by first | exact .inl rfl | exact .inr rfl) (by decide) (by decide)
    have S2 : L2.Slot X 2 "person" := hh.slot 2 rfl (by first | exact .inl rfl | exact .inr rfl) (by decide) (by decide)
    have C_floor_of := hh.cal G_floor_of rfl (by first | decide | exact Nat.le_refl _) (by decide)
    have M_persons := hh.met G_persons (by decide)
    have hu := hu_of hh.room
    have hsz : sizeLine = 16777216 := sizeLine_eq
    obtain ⟨⟨dx, hx⟩, hp, hs, ht, hy⟩ := id bk
    refine ⟨_, (J.pss_cons (J.set S1 hh.nd J.pe_dnew)
 (J.pss_cons (J.ps_for hh.own hh.calm (J.pi_list (J.met0 M_persons (J.rd S0) rfl)) (J.tgt S2 hh.nd)
 (J.pss_one (J.dput hu (J.rd S1) (J.rd S2) (J.cal C_floor_of (J.pa_c (J.rd S0) (J.pa_c (J.rd S2) J.pa_nil))))))
 (J.pss_one (J.ps_ret (J.rd S1))))), ?_⟩
    refine fun d hdn => ?_
    have s1 := Same.upd (o := .dK []) hdn
    have hd1 : upd H d (.dK []) d = some (.dK []) := upd_same
    refine ⟨_, rfl, x, dx, _, rfl, s1 _ _ hx, fld_no _ _ _ _ (by decide +kernel) (by decide +kernel) (by decide +kernel) (by decide +kernel), x, p, s, t, y, _, rfl, ⟨dx, s1 _ _ hx⟩, s1 _ _ hp, fun l hl => ?_⟩
    have s2 := Same.upd (o := .lst (ps.map V.str)) hl
    have ld : l ≠ d := (ne_of_none hd1 hl).symm
    refine ⟨l, rfl, ⟨_, SqL.of upd_same⟩, for_list (K := X.K) (a := l) (xs := ps.map V.str) (fun i σ H2 => ∃ (kvs : List (Key × V)) (e : Option V), σ = [some (.ref x), some (.ref d), e] ∧ Same H H2 ∧ H2 l = some (.lst (ps.map V.str)) ∧ H2 d = some (.dK kvs) ∧ kvs.length ≤ i ∧ ∀ z ∈ ps.take i, valV kvs (Sum.inr z) = some (oV (floorOf z sd)))
      ⟨[], none, rfl, s1.trans s2, upd_same, s2 _ _ hd1, Nat.le_refl 0, fun z hz => by cases hz⟩ ?_ ?_ ?_⟩
    · rintro i σ H2 hi ⟨kvs, e, rfl, s2, hl2, _⟩
      exact SqL.of hl2
    · rintro i v σ H2 hv ⟨kvs, e, rfl, s3, hl2, hd2, kl, hk⟩
      rw [List.getElem?_map] at hv
      obtain ⟨z, hz, rfl⟩ := Option.map_eq_some_iff.mp hv
      have hi : i < ps.length := (List.getElem?_eq_some_iff.mp hz).1
      refine ⟨_, rfl, _, rfl, x, p, s, t, y, ps, ss, ts, ys, z, sd, rfl, bk.mono s3, sy.mono (Tk.of s3), l60, fun H5 s5 => ?_⟩
      refine ⟨_, rfl, _, rfl, d, _, rfl, DPut.k (k := Sum.inr z) (s5 _ _ hd2) (by omega), _, _, rfl, fun b o e => ?_, ?_, upd_same, ?_, fun z' hz' => ?_⟩
      · rw [upd_ne (ne_of_none e hdn)]
        exact s5 _ _ (s3 _ _ e)
      · rw [upd_ne ld]
        exact s5 _ _ hl2
      · have := length_putK kvs (Sum.inr z : Key) (oV (floorOf z sd))
        omega
      · rw [valV_put]
        by_cases c : (Sum.inr z' : Key) = Sum.inr z
        · rw [if_pos c]
          have c' : z' = z := Sum.inr.inj c
          rw [c']
        · rw [if_neg c]
          rw [List.take_add_one, hz, List.mem_append] at hz'
          rcases hz' with hz' | hz'
          · exact hk z' hz'
          · exact absurd (congrArg Sum.inr (List.mem_singleton.mp hz')) c
    · rintro σ H2 ⟨kvs, e, rfl, s3, hl2, hd2, kl, hk⟩
      rw [List.length_map, List.take_length] at hk
      exact ⟨_, rfl, k d H2 s3 hdn ⟨kvs, hd2, hk⟩⟩
end
/-! ### lists of things by their data; open sights -/
def Lz {α : Type} (R : Hp → V → α → Prop) (H : Hp) (xs : List V) (ds : List α) : Prop := xs.length = ds.length ∧ ∀ (i : Nat) v d, xs[i]? = some v → ds[i]? = some d → R H v d
theorem Lz.mono {α : Type} {R : Hp → V → α → Prop} {H H' : Hp} {xs : List V} {ds : List α} (m : ∀ v d, R H v d → R H' v d) (h : Lz R H xs ds) : Lz R H' xs ds := ⟨h.1, fun i v d hv hd => m v d (h.2 i v d hv hd)⟩
theorem Lz.at {α : Type} {R : Hp → V → α → Prop} {H : Hp} {xs : List V} {ds : List α} {i : Nat} {v : V} (h : Lz R H xs ds) (hv : xs[i]? = some v) : ∃ d, ds[i]? = some d ∧ R H v d := by
  have hi : i < ds.length := by
    rw [← h.1]
    exact (List.getElem?_eq_some_iff.mp hv).1
  exact ⟨ds[i], List.getElem?_eq_getElem hi, h.2 i v ds[i] hv (List.getElem?_eq_getElem hi)⟩
theorem lz_data {α : Type} {R : Hp → V → α → Prop} {H : Hp} {Ok : α → Prop} : ∀ {xs : List V}, (∀ v ∈ xs, ∃ d, R H v d ∧ Ok d) → ∃ ds, Lz R H xs ds ∧ ∀ d ∈ ds, Ok d
  | [], _ => ⟨[], ⟨rfl, fun i v d hv => by cases hv⟩, fun d hd => by cases hd⟩
  | v :: r, h => by
    obtain ⟨ds, ⟨l, g⟩, k⟩ := lz_data fun u hu => h u (List.mem_cons_of_mem _ hu)
    obtain ⟨d, hd, kd⟩ := h v (List.mem_cons_self ..)
    refine ⟨d :: ds, ⟨by rw [List.length_cons, List.length_cons, l], fun i u e hu he => ?_⟩, fun e he => ?_⟩
    · cases i with
      | zero =>
        cases hu
        cases he
        exact hd
      | succ j => exact g j u e hu he
    · rcases List.mem_cons.mp he with rfl | he
      · exact kd
      · exact k e he
abbrev GD := Str × Int
inductive SightD  (H : Hp) (v : V) (d : GD) : Prop
  | mk (a ta : Addr) (h0 : v = .ref a) (h1 : H a = some (.tup [.str d.1, .int d.2, .ref ta]))
theorem SightD.mono {H H' : Hp} (s : Tk H H') (v : V) (d : GD) (h : SightD H v d) : SightD H' v d := by
  obtain ⟨a, ta, e, ha⟩ := h
  exact ⟨a, ta, e, s _ _ ha⟩
theorem sights_data {ps : List Str} {H : Hp} {ss : List V} (h : ∀ v ∈ ss, SightIn ps H v) : ∃ sg, Lz SightD H ss sg ∧ ∀ d ∈ sg, d.1 ∈ ps ∧ HourOk d.2 :=
  lz_data fun v hv => by
    obtain ⟨a, z, i, ta, ws, e, ha, hz, hi, _⟩ := h v hv
    exact ⟨(z, i), ⟨a, ta, e, ha⟩, hz, hi⟩
def openS (sd : List SD) (d : GD) : Bool := aboveB d.2 (floorOf d.1 sd)
def openIx (sg : List GD) (sd : List SD) (n : Nat) : List V := ((List.range n).filter (atP sg (openS sd))).map fun i => V.int (i : Nat)
inductive OpenSP (C : Addr) (vs : List V) (H : Hp) (Q : VK) : Prop
  | mk (x p s t y : Addr) (ps : List Str) (ss ts ys : List V) (sg : List GD) (sd : List SD) (e : vs = [.ref x]) (bk : Bk C H x p s t y ps ss ts ys) (pl : ps.length ≤ 24) (sl : ss.length ≤ 24) (gs : Lz SightD H ss sg) (gp : ∀ d ∈ sg, d.1 ∈ ps) (sy : Sys H ys sd) (l : ys.length ≤ 60)
      (k : ∀ l H', Same H H' → H l = none → H' l = some (.lst (openIx sg sd sg.length)) → Q (.ref l) H')
def spOpenS (C : Addr) : Sp := fun vs H Q _ => OpenSP C vs H Q
section
variable {P : Program} {w : World} {K : PySem.W.Frag} {mg : Str → Option Value} {base : Heap} {kw C : Addr}
theorem sc_m_sights : FnScope ["self"] ["self"] (defScope s_m_sights) := ⟨rfl, rfl, rfl, by decide +kernel, rfl, by decide +kernel, by decide +kernel⟩
theorem ok_m_sights {f : Addr} {fd : FuncData} (F : Fun K "sights" "Book.sights" s_m_sights f fd) (me : Meth K C "sights" f) (bi : Binds K fd ["self"] []) (T : Txt K mg kw C) : Md P w K mg base 1 C "sights" (spTell1 C (fun _ s _ _ => s)) := by
  refine J.meth_ok F me bi T.cl sc_m_sights (fun vs H Q E h => ?_) (fun X H vs Q E hh h => ?_)
  · obtain ⟨x, p, s, t, y, xs, rfl, _⟩ := h
    rfl
  · obtain ⟨x, p, s, t, y, xs, rfl, ⟨dx, hx⟩, hl, k⟩ := h
    have S0 : L2.Slot X 0 "self" := hh.slot 0 rfl (by first | exact .inl rfl | exact .inr rfl) (by decide) (by decide)
    have B_list : Bt X "list" := hh.bt T.b_list rfl (by decide) (by decide)
    obtain rfl := hh.fK
    refine ⟨_, (J.pss_one (J.ps_ret (J.bltT B_list J.call_list_of L2.bb_list (J.pa_c (J.fld (J.rd S0)) J.pa_nil)))), ?_⟩
    exact ⟨_, rfl, x, C, dx, _, _, rfl, hx, T.cl, T.nS, fld_s _ _ _ _, _, _, rfl, .inl (SqL.of hl), k⟩
theorem sc_open_sights : FnScope ["book", "floors"] ["book"] (defScope s_open_sights) := ⟨rfl, rfl, rfl, by decide +kernel, rfl, by decide +kernel, by decide +kernel⟩
theorem ok_open_sights {f : Addr} {fd : FuncData} (D : Df K mg "open_sights" s_open_sights ["book"] f fd) (T : Txt K mg kw C) (G_sights : Md P w K mg base 1 C "sights" (spTell1 C fun _ s _ _ => s)) (G_floors_of_all : Gd P w K mg base 3 "floors_of_all" (spFloors C)) (G_is_above : Gd P w K mg base 1 "is_above" spAbove) : Gd P w K mg base 4 "open_sights" (spOpenS C) := by
  refine J.def_ok D sc_open_sights (fun vs H Q E h => ?_) (fun X H vs Q E hh h => ?_)
  · obtain ⟨x, p, s, t, y, ps, ss, ts, ys, sg, sd, rfl, _⟩ := h
    rfl
  · obtain ⟨x, p, s, t, y, ps, ss, ts, ys, sg, sd, rfl, bk, pl, sl, gs, gp, sy, l60, k⟩ := h
    have S0 : L2.Slot X 0 "book" := hh.slot 0 rfl (by first | exact .inl rfl | exact .inr rfl) (by decide) (by decide)
    have S1 : L2.Slot X 1 "floors" := hh.slot 1 rfl (by first | exact .inl rfl | exact .inr rfl) (by decide) (by decide)
    have B_enumerate : Bt X "enumerate" := hh.bt T.b_enumerate rfl (by decide) (by decide)
    have C_floors_of_all := hh.cal G_floors_of_all rfl (by first | decide | exact Nat.le_refl _) (by decide)
    have CI_is_above := hh.cali G_is_above (by first | decide | exact Nat.le_refl _) (by decide)
    have M_sights := hh.met G_sights (by decide)
    have hu := hu_of hh.room
    have hsz : sizeLine = 16777216 := sizeLine_eq
    refine ⟨_, (J.pss_cons (J.set S1 hh.nd (J.cal C_floors_of_all (J.pa_c (J.rd S0) J.pa_nil)))
 (J.pss_one (J.ps_ret (J.lcG (sc := L2.defScope s_open_sights) (N := ["book", "floors"]) (is := [1]) (xs := ["i", "sight"]) (ns := ["floors"]) hh.calm (J.pi_enum B_enumerate (J.pa_c (J.met0 M_sights (J.rd S0) rfl) J.pa_nil)) ⟨rfl, by decide +kernel, by decide +kernel, by decide +kernel, rfl, by decide +kernel⟩ (fun _ _ _ _ _ => (J.pg_tupG (n := 2) hh.calm (J.pgs_c (J.lct (i := 0) (by decide +kernel) rfl rfl) (J.pgs_c (J.lct (i := 1) (by decide +kernel) rfl rfl) J.pgs_nil)))) (fun _ _ _ _ _ => (J.pts_one (J.pt_call (J.cal (CI_is_above.lg rfl) (J.pa_c (J.pe_ix J.ix_tupG (J.lcv (i := 1) rfl rfl (by decide) (by decide)) J.pe_int J.ix_con) (J.pa_c (J.dget hu (J.lcf (i := 2) rfl rfl (by decide) (by decide)) (J.pe_ix J.ix_tupG (J.lcv (i := 1) rfl rfl (by decide) (by decide)) J.pe_int J.ix_con) J.ix_sub) J.pa_nil)))))) (fun _ _ _ _ _ => (J.lcv (i := 0) rfl rfl (by decide) (by decide))) hh.hsc hh.hN)))), ?_⟩
    refine ⟨_, rfl, x, p, s, t, y, ps, ss, ts, ys, sd, rfl, bk, pl, sy, l60, fun d H1 s1 dn fl => ?_⟩
    obtain ⟨⟨dx, hx⟩, hp, hs, ht, hy⟩ := bk.mono s1
    refine ⟨_, rfl, x, dx, _, rfl, hx, fld_no _ _ _ _ (by decide +kernel) (by decide +kernel) (by decide +kernel) (by decide +kernel), x, p, s, t, y, ss, rfl, ⟨dx, hx⟩, hs, fun l hl => ?_⟩
    have s2 := Same.upd (o := .lst ss) hl
    refine ⟨l, rfl, ⟨_, SqL.of upd_same⟩, lcG_enum (xs := ss) (atP sg (openS sd)) (fun i => V.int (i : Nat)) (SqL.of upd_same) (by omega) ?_ ?_⟩
    · intro i os v q H2 K1 K2 hv hos s3 hq k1 k2
      match os, hos with
      | [o1, o2], _ =>
        obtain ⟨g, hg, a, ta, rfl, ha⟩ := gs.at hv
        rw [atP_at hg] at k1 k2
        have s4 := Same.upd (o := .tup [.int i, .ref a]) hq
        have s14 := (s2.trans s3).trans s4
        have ha4 := s14 _ _ (s1 _ _ ha)
        obtain ⟨kvs, hd4, hk⟩ := fl.mono s14
        have dg : DGet (upd H2 q (.tup [.int i, .ref a])) d (.str g.1) (some (oV (floorOf g.1 sd))) := by
          rw [← hk g.1 (gp g (List.mem_of_getElem? hg))]
          exact DGet.k (k := Sum.inr g.1) hd4
        refine ⟨q, _, rfl, SqT.of upd_same, rfl, _, _, rfl, _, _, rfl, rfl, ⟨[_, _], rfl, rfl⟩, ?_⟩
        refine ⟨_, rfl, a, _, _, _, rfl, rfl, SqT.of ha4, rfl, _, rfl, _, rfl, a, _, _, _, rfl, rfl, SqT.of ha4, rfl, d, _, rfl, dg, g.2, floorOf g.1 sd, rfl, _, rfl, ite2 (fun hb => ⟨_, rfl, k1 hb _ s4⟩) (fun hb => k2 (eq_false_of_ne_true hb) _ s4)⟩
    · intro D' H' hD' s' hd'
      have e : ((List.range ss.length).filter (atP sg (openS sd))).map (fun i => V.int (i : Nat)) = openIx sg sd sg.length := by
        rw [gs.1]
        rfl
      rw [e] at hd'
      exact k D' H' ((s1.trans s2).trans s') ((s1.trans s2).free hD') hd'
end
/-! ### silent, barred -/
def silOf (z : Str) : SD → Bool
  | .sil q _ _ => decide (q = z)
  | _ => false
def inHrs (h : Int) : SD → Bool
  | .sil _ b e => if b ≤ h then decide (h ≤ e) else false
  | _ => false
def silB (z : Str) (h : Int) (d : SD) : Bool := silOf z d && inHrs h d
def barB (he te : Str) : SD → Bool
  | .bar p q => decide (p = he) && decide (q = te)
  | _ => false
theorem any_pair {α β : Type} {f : α → Bool} {g : β → Bool} : ∀ {xs : List α} {ds : List β}, xs.length = ds.length → (∀ (i : Nat) v d, xs[i]? = some v → ds[i]? = some d → f v = g d) → xs.any f = ds.any g
  | [], [], _, _ => rfl
  | [], _ :: _, h, _ => by cases h
  | _ :: _, [], h, _ => by cases h
  | x :: xs, d :: ds, h, k => by
    rw [List.any_cons, List.any_cons, k 0 x d rfl rfl, any_pair (Nat.succ.inj h) fun i v e hv he => k (i + 1) v e hv he]
theorem zip_mem {α β : Type} : ∀ {xs : List α} {ds : List β} {i : Nat} {p : α × β}, (xs.zip ds)[i]? = some p → xs[i]? = some p.1 ∧ ds[i]? = some p.2
  | [], _, _, _, h => by cases h
  | _ :: _, [], _, _, h => by cases h
  | x :: xs, d :: ds, i, p, h => by
    cases i with
    | zero =>
      cases h
      exact ⟨rfl, rfl⟩
    | succ j =>
      have h' : (xs.zip ds)[j]? = some p := h
      exact zip_mem (xs := xs) (ds := ds) (i := j) h'
theorem zip_at {α β : Type} : ∀ {xs : List α} {ds : List β} {i : Nat} {v : α} {d : β}, xs[i]? = some v → ds[i]? = some d → (xs.zip ds)[i]? = some (v, d)
  | [], _, _, _, _, h, _ => by cases h
  | _ :: _, [], _, _, _, _, h => by cases h
  | x :: xs, e :: ds, i, v, d, h, h' => by
    cases i with
    | zero =>
      cases h
      cases h'
      rfl
    | succ j => exact zip_at (xs := xs) (ds := ds) (i := j) h h'
theorem zip_any {α β : Type} (f : β → Bool) : ∀ {xs : List α} {ds : List β}, xs.length = ds.length → ((xs.zip ds).any fun p => f p.2) = ds.any f
  | [], [], _ => rfl
  | [], _ :: _, h => by cases h
  | _ :: _, [], h => by cases h
  | x :: xs, d :: ds, h => by
    show (f d || (xs.zip ds).any fun p => f p.2) = (f d || ds.any f)
    rw [zip_any f (Nat.succ.inj h)]
inductive SilP (vs : List V) (H : Hp) (Q : VK) : Prop
  | mk (y : Addr) (ys : List V) (z : Str) (h : Int) (sd : List SD) (e : vs = [.ref y, .str z, .int h]) (hy : H y = some (.lst ys)) (sy : Sys H ys sd) (l : ys.length ≤ 60) (k : ∀ H', Same H H' → Q (.bl (sd.any (silB z h))) H')
def spSil : Sp := fun vs H Q _ => SilP vs H Q
inductive BarP (vs : List V) (H : Hp) (Q : VK) : Prop
  | mk (y : Addr) (ys : List V) (he te : Str) (sd : List SD) (e : vs = [.ref y, .str he, .str te]) (hy : H y = some (.lst ys)) (sy : Sys H ys sd) (k : ∀ H', Same H H' → Q (.bl (sd.any (barB he te))) H')
def spBar : Sp := fun vs H Q _ => BarP vs H Q
theorem flat_tup (d : SD) : d.tup.all flatV = true := by
  cases d with
  | unh q h => cases h <;> rfl
  | _ => rfl
theorem teq_bar (he te : Str) (d : SD) : teq d.tup [.str "barred", .str he, .str te] = barB he te d := by
  cases d with
  | knew p h => exact Bool.and_eq_false_imp.mpr (fun h => absurd h (by
      rw [List.all_eq_true]
      intro k
      exact absurd (k 0 (List.mem_range.mpr (Nat.lt_min.mpr ⟨Nat.succ_pos _, Nat.succ_pos _⟩))) (by show ¬ (("knew" : Str) == "barred") = true; decide +kernel)))
  | unh p h => exact Bool.and_eq_false_imp.mpr (fun h => absurd h (by
      rw [List.all_eq_true]
      intro k
      exact absurd (k 0 (List.mem_range.mpr (Nat.lt_min.mpr ⟨Nat.succ_pos _, Nat.succ_pos _⟩))) (by show ¬ (("unheard" : Str) == "barred") = true; decide +kernel)))
  | sil p b e => exact Bool.and_eq_false_imp.mpr (fun h => absurd h (by
      rw [List.all_eq_true]
      intro k
      exact absurd (k 0 (List.mem_range.mpr (Nat.lt_min.mpr ⟨Nat.succ_pos _, Nat.succ_pos _⟩))) (by show ¬ (("silent" : Str) == "barred") = true; decide +kernel)))
  | bar p q =>
    show ((("barred" : Str) == "barred") && ((p == he) && ((q == te) && true)) && true) = (decide (p = he) && decide (q = te))
    rw [show (("barred" : Str) == "barred") = true from beq_self_eq_true _, Bool.true_and, Bool.and_true, Bool.and_true]
    congr 1 <;> exact beq_eq_decide _ _
theorem inT_say {H : Hp} {v : V} {d : SD} {xs : List V} (h : SayD H v d) : inT H xs v = teq d.tup xs := by
  obtain ⟨a, rfl, ha⟩ := h
  show (match H a with | some (.tup zs) => teq zs xs | _ => false) = _
  rw [ha]
section
variable {P : Program} {w : World} {K : PySem.W.Frag} {mg : Str → Option Value} {base : Heap} {kw C : Addr}
theorem sc_is_silent : FnScope ["sayings", "person", "hour", "own"] ["sayings", "person", "hour"] (defScope s_is_silent) := ⟨rfl, rfl, rfl, by decide +kernel, rfl, by decide +kernel, by decide +kernel⟩
theorem ok_is_silent {f : Addr} {fd : FuncData} (D : Df K mg "is_silent" s_is_silent ["sayings", "person", "hour"] f fd) (T : Txt K mg kw C) : Gd P w K mg base 1 "is_silent" spSil := by
  refine J.def_ok D sc_is_silent (fun vs H Q E h => ?_) (fun X H vs Q E hh h => ?_)
  · obtain ⟨y, ys, z, h, sd, rfl, _⟩ := h
    rfl
  · obtain ⟨y, ys, z, h, sd, rfl, hy, sy, l60, k⟩ := h
    have S0 : L2.Slot X 0 "sayings" := hh.slot 0 rfl (by first | exact .inl rfl | exact .inr rfl) (by decide) (by decide)
    have S1 : L2.Slot X 1 "person" := hh.slot 1 rfl (by first | exact .inl rfl | exact .inr rfl) (by decide) (by decide)
    have S2 : L2.Slot X 2 "hour" := hh.slot 2 rfl (by first | exact .inl rfl | exact .inr rfl) (by decide) (by decide)
    have S3 : L2.Slot X 3 "own" := hh.slot 3 rfl (by first | exact .inl rfl | exact .inr rfl) (by decide) (by decide)
    have B_any : Bt X "any" := hh.bt T.b_any rfl (by decide) (by decide)
    have hsz : sizeLine = 16777216 := sizeLine_eq
    refine ⟨_, (J.pss_cons (J.setlcG (sc := L2.defScope s_is_silent) (N := ["sayings", "person", "hour", "own"]) (is := [1]) (xs := ["saying"]) (ns := ["person"]) S3 hh.nd hh.calm (J.pi_list (J.rd S0)) ⟨rfl, by decide +kernel, by decide +kernel, by decide +kernel, rfl, by decide +kernel⟩ (fun _ _ _ _ _ => (J.lct (i := 0) (by decide +kernel) rfl rfl)) (fun _ _ _ _ _ => (J.pts_one (J.pw_pt (J.pw_and (J.pt_cmpR J.op_eq (J.pe_ix J.ix_tupG (J.lcv (i := 0) rfl rfl (by decide) (by decide)) J.pe_int J.ix_con) J.pe_str (L2.nomark _)) (J.pw_and1 (J.pt_cmpR J.op_eq (J.pe_ix J.ix_tupG (J.lcv (i := 0) rfl rfl (by decide) (by decide)) J.pe_int J.ix_con) (J.lcf (i := 1) rfl rfl (by decide) (by decide)) (L2.nomark _))))))) (fun _ _ _ _ _ => (J.lcv (i := 0) rfl rfl (by decide) (by decide))) hh.hsc hh.hN (by decide +kernel))
 (J.pss_one (J.ps_ret (J.blt B_any (J.call_anyB hh.calm) L2.bb_any (J.pa_c (J.lcG (sc := L2.defScope s_is_silent) (N := ["sayings", "person", "hour", "own"]) (is := [2]) (xs := ["saying"]) (ns := ["hour"]) hh.calm (J.pi_list (J.rd S3)) ⟨rfl, by decide +kernel, by decide +kernel, by decide +kernel, rfl, by decide +kernel⟩ (fun _ _ _ _ _ => (J.lct (i := 0) (by decide +kernel) rfl rfl)) (fun _ _ _ _ _ => J.pts_nil) (fun _ _ _ _ _ => (J.pe_chain J.op_le J.op_le (J.pe_ix J.ix_tupG (J.lcv (i := 0) rfl rfl (by decide) (by decide)) J.pe_int J.ix_con) (J.lcf (i := 1) rfl rfl (by decide) (by decide)) (J.pe_ix J.ix_tupG (J.lcv (i := 0) rfl rfl (by decide) (by decide)) J.pe_int J.ix_con) L2.chain_mark)) hh.hsc hh.hN) J.pa_nil))))), ?_⟩
    have zl : (ys.zip sd).length = ys.length := by
      rw [List.length_zip, ← sy.1, Nat.min_self]
    refine ⟨_, rfl, y, rfl, ⟨_, SqL.of hy⟩, lcG_list (xs := ys) (atP (ys.zip sd) fun p => silOf z p.2) (atF (ys.zip sd) fun p => p.1) (SqL.of hy) (by omega) ?_ ?_⟩
    · intro i os v H2 K1 K2 hv hos s2 k1 k2
      match os, hos with
      | [o], _ =>
        obtain ⟨d, a, hd, rfl, ha⟩ := sy.at hv
        have ha2 := s2 _ _ ha
        rw [atP_at (zip_at hv hd)] at k1 k2
        rw [atF_at (zip_at hv hd)] at k1
        refine ⟨⟨[some (.ref a)], rfl, rfl⟩, ?_⟩
        cases d with
        | knew q h => exact ⟨_, rfl, a, _, _, _, rfl, rfl, SqT.of ha2, rfl, rfl, _, rfl, iteN (by decide +kernel) (iteF (k2 rfl H2 (Same.refl _)))⟩
        | unh q h => exact ⟨_, rfl, a, _, _, _, rfl, rfl, SqT.of ha2, rfl, rfl, _, rfl, iteN (by decide +kernel) (iteF (k2 rfl H2 (Same.refl _)))⟩
        | bar q q' => exact ⟨_, rfl, a, _, _, _, rfl, rfl, SqT.of ha2, rfl, rfl, _, rfl, iteN (by decide +kernel) (iteF (k2 rfl H2 (Same.refl _)))⟩
        | sil q b e =>
          refine ⟨_, rfl, a, _, _, _, rfl, rfl, SqT.of ha2, rfl, rfl, _, rfl, iteP (by decide +kernel) ⟨_, rfl, a, _, _, _, rfl, rfl, SqT.of ha2, rfl, _, rfl, rfl, _, rfl, ite2 (fun hq => ?_) (fun hq => ?_)⟩⟩
          · have hq' : q = z := V.str.inj (of_decide_eq_true hq)
            exact ⟨_, rfl, k1 (decide_eq_true hq') H2 (Same.refl _)⟩
          · exact k2 (decide_eq_false fun e => hq (decide_eq_true (congrArg V.str e))) H2 (Same.refl _)
    · intro o H' ho s' hd'
      rw [← zl, range_pf (fun p => silOf z p.2) (fun p => p.1) (ys.zip sd)] at hd'
      have om : ∀ p ∈ (ys.zip sd).filter fun p => silOf z p.2, SayD H p.1 p.2 ∧ silOf z p.2 = true := fun p hp => by
        obtain ⟨hp1, hp2⟩ := List.mem_filter.mp hp
        obtain ⟨i, hi⟩ := List.getElem?_of_mem hp1
        obtain ⟨h1, h2⟩ := zip_mem hi
        exact ⟨sy.2 i _ _ h1 h2, hp2⟩
      have ol : ((ys.zip sd).filter fun p => silOf z p.2).length ≤ 60 := by
        have := List.length_filter_le (fun p : V × SD => silOf z p.2) (ys.zip sd)
        omega
      have ev : (((ys.zip sd).filter fun p => silOf z p.2).any fun p => inHrs h p.2) = sd.any (silB z h) := by
        rw [List.any_filter]
        exact zip_any (fun d => silOf z d && inHrs h d) sy.1
      generalize (ys.zip sd).filter (fun p => silOf z p.2) = l at hd' om ol ev
      refine ⟨_, rfl, o, rfl, ⟨_, SqL.of hd'⟩, lcG_list (xs := l.map fun p => p.1) (atP l fun _ => true) (atF l fun p => V.bl (inHrs h p.2)) (SqL.of hd') (by rw [List.length_map]; omega) ?_ ?_⟩
      · intro i os v H2 K1 K2 hv hos s2 k1 k2
        match os, hos with
        | [o], _ =>
          rw [List.getElem?_map] at hv
          obtain ⟨p, hp, rfl⟩ := Option.map_eq_some_iff.mp hv
          obtain ⟨⟨a, ea, ha⟩, hz⟩ := om p (List.mem_of_getElem? hp)
          have ha2 := s2 _ _ (s' _ _ ha)
          rw [atP_at hp] at k1
          rw [atF_at hp] at k1
          have kk := k1 rfl
          clear k1 k2
          refine ⟨⟨[some p.1], rfl, rfl⟩, iteT (B := K2 H2) ?_⟩
          obtain ⟨v, d⟩ := p
          dsimp only at ea ha2 kk hz
          subst ea
          cases d with
          | sil q b e =>
            refine ⟨_, rfl, a, _, _, _, rfl, rfl, SqT.of ha2, rfl, _, rfl, _, _, rfl, rfl, _, rfl, ?_⟩
            have k2 : K1 (V.bl (if b ≤ h then decide (h ≤ e) else false)) H2 := kk H2 (Same.refl _)
            refine ite2 (fun hb => ?_) (fun hb => ?_)
            · rw [if_pos (of_decide_eq_true hb)] at k2
              exact ⟨_, rfl, a, _, _, _, rfl, rfl, SqT.of ha2, rfl, _, _, rfl, rfl, k2⟩
            · rw [if_neg (fun e => hb (decide_eq_true e))] at k2
              exact k2
          | knew q h => exact absurd hz Bool.false_ne_true
          | unh q h => exact absurd hz Bool.false_ne_true
          | bar q q' => exact absurd hz Bool.false_ne_true
      · intro D2 H3 hD2 s3 hd3
        have e2 : ((List.range (l.map fun p => p.1).length).filter (atP l fun _ => true)).map (atF l fun p => V.bl (inHrs h p.2)) = (l.map fun p => inHrs h p.2).map V.bl := by
          rw [List.length_map, range_pf (fun _ => true) (fun p => V.bl (inHrs h p.2)) l, List.filter_eq_self.mpr (fun _ _ => rfl), List.map_map]
          rfl
        rw [e2] at hd3
        refine ⟨D2, _, rfl, SqL.of hd3, ?_⟩
        have e3 : (l.map fun p => inHrs h p.2).any id = sd.any (silB z h) := by
          rw [List.any_map, ← ev]
          rfl
        rw [e3]
        exact k H3 (s'.trans s3)
theorem sc_is_barred : FnScope ["sayings", "hearer", "teller"] ["sayings", "hearer", "teller"] (defScope s_is_barred) := ⟨rfl, rfl, rfl, by decide +kernel, rfl, by decide +kernel, by decide +kernel⟩
theorem ok_is_barred {f : Addr} {fd : FuncData} (D : Df K mg "is_barred" s_is_barred ["sayings", "hearer", "teller"] f fd) : Gd P w K mg base 1 "is_barred" spBar := by
  refine J.def_ok D sc_is_barred (fun vs H Q E h => ?_) (fun X H vs Q E hh h => ?_)
  · obtain ⟨y, ys, he, te, sd, rfl, _⟩ := h
    rfl
  · obtain ⟨y, ys, he, te, sd, rfl, hy, sy, k⟩ := h
    have S0 : L2.Slot X 0 "sayings" := hh.slot 0 rfl (by first | exact .inl rfl | exact .inr rfl) (by decide) (by decide)
    have S1 : L2.Slot X 1 "hearer" := hh.slot 1 rfl (by first | exact .inl rfl | exact .inr rfl) (by decide) (by decide)
    have S2 : L2.Slot X 2 "teller" := hh.slot 2 rfl (by first | exact .inl rfl | exact .inr rfl) (by decide) (by decide)
    have hu := hu_of hh.room
    refine ⟨_, (J.pss_one (J.ps_ret (J.pe_cmpR (J.op_in_tups hu) (J.pe_tup (J.pa_c J.pe_str (J.pa_c (J.rd S1) (J.pa_c (J.rd S2) J.pa_nil)))) (J.rd S0) J.notSet_mark))), ?_⟩
    refine ⟨_, rfl, _, rfl, by show 3 ≤ sizeLine; decide, fun q hq => ?_⟩
    have s1 := Same.upd (o := .tup [.str "barred", .str he, .str te]) hq
    have sy1 := sy.mono (Tk.of s1)
    refine ⟨_, rfl, q, y, _, ys, rfl, rfl, upd_same, SqL.of (s1 _ _ hy), rfl, fun v hv => ?_, ?_⟩
    · obtain ⟨i, hi⟩ := List.getElem?_of_mem hv
      obtain ⟨d, a, _, e, ha⟩ := sy1.at hi
      exact ⟨a, d.tup, e, ha, flat_tup d⟩
    · rw [any_pair (g := barB he te) sy1.1 fun i v d hv hd => (inT_say (sy1.2 i v d hv hd)).trans (teq_bar he te d)]
      exact k _ s1
end
/-! ### open tellings -/
abbrev QD := Int × Str × Str × Str
inductive TalkQ  (H : Hp) (v : V) (d : QD) : Prop
  | mk (a : Addr) (h0 : v = .ref a) (h1 : H a = some (.tup [.int d.1, .str d.2.1, .str d.2.2.1, .str d.2.2.2]))
theorem TalkQ.mono {H H' : Hp} (s : Tk H H') (v : V) (d : QD) (h : TalkQ H v d) : TalkQ H' v d := by
  obtain ⟨a, e, ha⟩ := h
  exact ⟨a, e, s _ _ ha⟩
def QdOk (ps : List Str) (d : QD) : Prop := HourOk d.1 ∧ d.2.1 ∈ ps ∧ d.2.2.1 ∈ ps ∧ (d.2.2.2 = "both" ∨ d.2.2.2 = "one")
theorem talksq {ps : List Str} {H : Hp} {ts : List V} (h : ∀ v ∈ ts, TalkIn ps H v) : ∃ qd, Lz TalkQ H ts qd ∧ ∀ d ∈ qd, QdOk ps d :=
  lz_data fun v hv => by
    obtain ⟨a, i, p, q, w, e, ha, hi, hp, hq, _, hw⟩ := h v hv
    exact ⟨(i, p, q, w), ⟨a, e, ha⟩, hi, hp, hq, hw⟩
def qtd (qd : List QD) : List TD := qd.map fun d => d.2
theorem qtls {H : Hp} {ts : List V} {qd : List QD} (h : Lz TalkQ H ts qd) : Tls H ts (qtd qd) := by
  refine ⟨by rw [h.1]; exact (List.length_map ..).symm, fun i v d hv hd => ?_⟩
  unfold qtd at hd
  rw [List.getElem?_map] at hd
  obtain ⟨q, hq, rfl⟩ := Option.map_eq_some_iff.mp hd
  obtain ⟨a, e, ha⟩ := h.2 i v q hv hq
  exact ⟨a, q.1, e, ha⟩
def hourAt (qd : List QD) (k : Nat) : Int := match qd[k]? with
  | some d => d.1
  | none => 0
theorem hourAt_at {qd : List QD} {k : Nat} {d : QD} (h : qd[k]? = some d) : hourAt qd k = d.1 := by
  unfold hourAt
  rw [h]
abbrev TK := Nat × Str × Str
def openT (qd : List QD) (sd : List SD) (t : TK) : Bool := aboveB (hourAt qd t.1) (floorOf t.2.2 sd) && !(sd.any (silB t.2.1 (hourAt qd t.1)) || sd.any (barB t.2.2 t.2.1))
theorem tel_mem {t : TK} : ∀ {l : List TD} {k : Nat}, t ∈ tel k l → ∃ (j : Nat) (d : TD), l[j]? = some d ∧ t.1 = k + j ∧ (t.2 = (d.1, d.2.1) ∨ t.2 = (d.2.1, d.1))
  | [], _, h => by cases h
  | d :: r, k, h => by
    have h' : t ∈ telOne k d ++ tel (k + 1) r := h
    rcases List.mem_append.mp h' with h | h
    · refine ⟨0, d, rfl, ?_⟩
      unfold telOne at h
      split at h
      · rcases List.mem_cons.mp h with rfl | h
        · exact ⟨rfl, .inl rfl⟩
        · rw [List.mem_singleton] at h
          subst h
          exact ⟨rfl, .inr rfl⟩
      · rw [List.mem_singleton] at h
        subst h
        exact ⟨rfl, .inl rfl⟩
    · obtain ⟨j, e, he, h1, h2⟩ := tel_mem h
      exact ⟨j + 1, e, he, by omega, h2⟩
theorem telq {ps : List Str} {qd : List QD} (ok : ∀ d ∈ qd, QdOk ps d) {t : TK} (h : t ∈ tel 0 (qtd qd)) : ∃ q, qd[t.1]? = some q ∧ t.2.2 ∈ ps := by
  obtain ⟨j, d, hd, e1, e2⟩ := tel_mem h
  unfold qtd at hd
  rw [List.getElem?_map] at hd
  obtain ⟨q, hq, rfl⟩ := Option.map_eq_some_iff.mp hd
  rw [Nat.zero_add] at e1
  have := ok q (List.mem_of_getElem? hq)
  refine ⟨q, by rw [e1]; exact hq, ?_⟩
  rcases e2 with e2 | e2
  · rw [e2]
    exact this.2.2.1
  · rw [e2]
    exact this.2.1
/-- a or b, both by what they promise -/
theorem or_same {ta tb : TE} {σ : St} {H : Hp} {Q : VK} (b1 b2 : Bool) (h1 : ∀ Q' : VK, (∀ H', Same H H' → Q' (.bl b1) H') → ta σ H Q') (h2 : ∀ H1 (Q' : VK), Same H H1 → (∀ H', Same H1 H' → Q' (.bl b2) H') → tb σ H1 Q') (q : ∀ H', Same H H' → Q (.bl (b1 || b2)) H') : tOrV ta tb σ H Q := by
  refine h1 _ fun H1 s1 => ⟨_, rfl, ?_⟩
  cases b1 with
  | true => exact iteT (q H1 s1)
  | false => exact iteF (h2 H1 _ s1 fun H' s' => q H' (s1.trans s'))
/-- x = v; y = a or b -/
theorem or_set {ta tb : TE} {i j : Nat} {v : V} {u : TS} {D : Ends} {σ : St} {H : Hp} (b1 b2 : Bool) (h1 : ∀ Q' : VK, (∀ H', Same H H' → Q' (.bl b1) H') → ta (σ.set i (some v)) H Q') (h2 : ∀ H1 (Q' : VK), Same H H1 → (∀ H', Same H1 H' → Q' (.bl b2) H') → tb (σ.set i (some v)) H1 Q')
    (q : ∀ H', Same H H' → u D ((σ.set i (some v)).set j (some (.bl (b1 || b2)))) H') : gName i v σ H (tSeq (tAsg (tOrV ta tb) (gName j)) u D) := or_same (ta := ta) (tb := tb) b1 b2 h1 h2 q
inductive OpenTP (C : Addr) (vs : List V) (H : Hp) (Q : VK) : Prop
  | mk (x p s t y : Addr) (ps : List Str) (ss ts ys : List V) (qd : List QD) (sd : List SD) (e : vs = [.ref x]) (bk : Bk C H x p s t y ps ss ts ys) (pl : ps.length ≤ 24) (tl : ts.length ≤ 120) (qs : Lz TalkQ H ts qd) (qk : ∀ d ∈ qd, QdOk ps d) (sy : Sys H ys sd) (l : ys.length ≤ 60)
      (k : ∀ l us H', Same H H' → H l = none → H' l = some (.lst us) → TelL H' us ((tel 0 (qtd qd)).filter (openT qd sd)) → Q (.ref l) H')
inductive OtInv (x tb yb d fo : Addr) (H5 : Hp) (tl : List TK) (op : TK → Bool) (i : Nat) (σ : St) (H6 : Hp) : Prop
  | mk (us : List V) (e1 e2 e3 e4 e5 : Option V) (e : σ = [some (.ref x), some (.ref tb), some (.ref yb), some (.ref d), some (.ref fo), e1, e2, e3, e4, e5]) (kp : ∀ b o, H5 b = some o → b ≠ fo → H6 b = some o) (hf : H6 fo = some (.lst us)) (ul : us.length ≤ i) (tu : TelL H6 us ((tl.take i).filter op))
def spOpenT (C : Addr) : Sp := fun vs H Q _ => OpenTP C vs H Q
section
variable {P : Program} {w : World} {K : PySem.W.Frag} {mg : Str → Option Value} {base : Heap} {kw C : Addr}
theorem sc_m_talks : FnScope ["self"] ["self"] (defScope s_m_talks) := ⟨rfl, rfl, rfl, by decide +kernel, rfl, by decide +kernel, by decide +kernel⟩
theorem ok_m_talks {f : Addr} {fd : FuncData} (F : Fun K "talks" "Book.talks" s_m_talks f fd) (me : Meth K C "talks" f) (bi : Binds K fd ["self"] []) (T : Txt K mg kw C) : Md P w K mg base 1 C "talks" (spTell1 C (fun _ _ t _ => t)) := by
  refine J.meth_ok F me bi T.cl sc_m_talks (fun vs H Q E h => ?_) (fun X H vs Q E hh h => ?_)
  · obtain ⟨x, p, s, t, y, xs, rfl, _⟩ := h
    rfl
  · obtain ⟨x, p, s, t, y, xs, rfl, ⟨dx, hx⟩, hl, k⟩ := h
    have S0 : L2.Slot X 0 "self" := hh.slot 0 rfl (by first | exact .inl rfl | exact .inr rfl) (by decide) (by decide)
    have B_list : Bt X "list" := hh.bt T.b_list rfl (by decide) (by decide)
    obtain rfl := hh.fK
    refine ⟨_, (J.pss_one (J.ps_ret (J.bltT B_list J.call_list_of L2.bb_list (J.pa_c (J.fld (J.rd S0)) J.pa_nil)))), ?_⟩
    exact ⟨_, rfl, x, C, dx, _, _, rfl, hx, T.cl, T.nT, fld_t _ _ _ _, _, _, rfl, .inl (SqL.of hl), k⟩
theorem sc_open_tellings : FnScope ["book", "talks", "sayings", "floors", "found", "k", "teller", "hearer", "hour", "hushed"] ["book"] (defScope s_open_tellings) := ⟨rfl, rfl, rfl, by decide +kernel, rfl, by decide +kernel, by decide +kernel⟩
theorem ok_open_tellings {f : Addr} {fd : FuncData} (D : Df K mg "open_tellings" s_open_tellings ["book"] f fd) (T : Txt K mg kw C) (G_talks : Md P w K mg base 1 C "talks" (spTell1 C fun _ _ t _ => t)) (G_sayings : Md P w K mg base 1 C "sayings" (spTell1 C fun _ _ _ y => y)) (G_tellings : Md P w K mg base 1 C "tellings" (spTellings C))
    (G_floors_of_all : Gd P w K mg base 3 "floors_of_all" (spFloors C)) (G_is_above : Gd P w K mg base 1 "is_above" spAbove) (G_is_silent : Gd P w K mg base 1 "is_silent" spSil) (G_is_barred : Gd P w K mg base 1 "is_barred" spBar) : Gd P w K mg base 4 "open_tellings" (spOpenT C) := by
  refine J.def_ok D sc_open_tellings (fun vs H Q E h => ?_) (fun X H vs Q E hh h => ?_)
  · obtain ⟨x, p, s, t, y, ps, ss, ts, ys, qd, sd, rfl, _⟩ := h
    rfl
  · obtain ⟨x, p, s, t, y, ps, ss, ts, ys, qd, sd, rfl, bk, pl, tl, qs, qk, sy, l60, k⟩ := h
    have S0 : L2.Slot X 0 "book" := hh.slot 0 rfl (by first | exact .inl rfl | exact .inr rfl) (by decide) (by decide)
    have S1 : L2.Slot X 1 "talks" := hh.slot 1 rfl (by first | exact .inl rfl | exact .inr rfl) (by decide) (by decide)
    have S2 : L2.Slot X 2 "sayings" := hh.slot 2 rfl (by first | exact .inl rfl | exact .inr rfl) (by decide) (by decide)
    have S3 : L2.Slot X 3 "floors" := hh.slot 3 rfl (by first | exact .inl rfl | exact .inr rfl) (by decide) (by decide)
    have S4 : L2.Slot X 4 "found" := hh.slot 4 rfl (by first | exact .inl rfl | exact .inr rfl) (by decide) (by decide)
    have S5 : L2.Slot X 5 "k" := hh.slot 5 rfl (by first | exact .inl rfl | exact .inr rfl) (by decide) (by decide)
    have S6 : L2.Slot X 6 "teller" := hh.slot 6 rfl (by first | exact .inl rfl | exact .inr rfl) (by decide) (by decide)
    have S7 : L2.Slot X 7 "hearer" := hh.slot 7 rfl (by first | exact .inl rfl | exact .inr rfl) (by decide) (by decide)
    have S8 : L2.Slot X 8 "hour" := hh.slot 8 rfl (by first | exact .inl rfl | exact .inr rfl) (by decide) (by decide)
    have S9 : L2.Slot X 9 "hushed" := hh.slot 9 rfl (by first | exact .inl rfl | exact .inr rfl) (by decide) (by decide)
    have C_floors_of_all := hh.cal G_floors_of_all rfl (by first | decide | exact Nat.le_refl _) (by decide)
    have C_is_above := hh.cal G_is_above rfl (by first | decide | exact Nat.le_refl _) (by decide)
    have C_is_barred := hh.cal G_is_barred rfl (by first | decide | exact Nat.le_refl _) (by decide)
    have C_is_silent := hh.cal G_is_silent rfl (by first | decide | exact Nat.le_refl _) (by decide)
    have M_sayings := hh.met G_sayings (by decide)
    have M_talks := hh.met G_talks (by decide)
    have M_tellings := hh.met G_tellings (by decide)
    have hu := hu_of hh.room
    have hsz : sizeLine = 16777216 := sizeLine_eq
    obtain ⟨⟨dx, hx⟩, hp, hs, ht, hy⟩ := id bk
    refine ⟨_, (J.pss_cons (J.set S1 hh.nd (J.met0 M_talks (J.rd S0) rfl))
 (J.pss_cons (J.set S2 hh.nd (J.met0 M_sayings (J.rd S0) rfl))
 (J.pss_cons (J.set S3 hh.nd (J.cal C_floors_of_all (J.pa_c (J.rd S0) J.pa_nil)))
 (J.pss_cons (J.set S4 hh.nd (J.pe_lst J.pa_nil))
 (J.pss_cons (J.ps_for hh.own hh.calm (J.pi_list (J.met0 M_tellings (J.rd S0) rfl)) (J.pg_tup hh.calm (J.pgs_c (J.tgt S5 hh.nd) (J.pgs_c (J.tgt S6 hh.nd) (J.pgs_c (J.tgt S7 hh.nd) J.pgs_nil))))
 (J.pss_cons (J.set S8 hh.nd (J.pe_ix J.ix_tup (J.pe_ix J.ix_list (J.rd S1) (J.rd S5) J.ix_name) J.pe_int J.ix_con))
 (J.pss_cons (J.set S9 hh.nd (J.pe_or (J.cal C_is_silent (J.pa_c (J.rd S2) (J.pa_c (J.rd S6) (J.pa_c (J.rd S8) J.pa_nil)))) (J.pe_one (J.cal C_is_barred (J.pa_c (J.rd S2) (J.pa_c (J.rd S7) (J.pa_c (J.rd S6) J.pa_nil)))))))
 (J.pss_one (J.ps_if (J.pw_pt (J.pw_and (J.pt_call (J.cal C_is_above (J.pa_c (J.rd S8) (J.pa_c (J.dget hu (J.rd S3) (J.rd S7) J.ix_name) J.pa_nil)))) (J.pw_and1 (J.pt_not (J.pt_name (J.rd S9))))))
 (J.pss_one (J.ps_do (J.bm PySem.F.plainAttrs_list PySem.F.slot_list_append PySem.F.type_list_append J.mt_append (J.rd S4) (J.pa_c (J.pe_tup (J.pa_c (J.rd S5) (J.pa_c (J.rd S6) (J.pa_c (J.rd S7) J.pa_nil)))) J.pa_nil))))
 J.pss_nil)))))
 (J.pss_one (J.ps_ret (J.rd S4)))))))), ?_⟩
    refine ⟨_, rfl, x, dx, _, rfl, hx, fld_no _ _ _ _ (by decide +kernel) (by decide +kernel) (by decide +kernel) (by decide +kernel), x, p, s, t, y, ts, rfl, ⟨dx, hx⟩, ht, fun tb htb => ?_⟩
    have s1 := Same.upd (o := .lst ts) htb
    have htb1 : upd H tb (.lst ts) tb = some (.lst ts) := upd_same
    generalize upd H tb (.lst ts) = H1 at s1 htb1
    refine ⟨_, rfl, x, dx, _, rfl, s1 _ _ hx, fld_no _ _ _ _ (by decide +kernel) (by decide +kernel) (by decide +kernel) (by decide +kernel), x, p, s, t, y, ys, rfl, ⟨dx, s1 _ _ hx⟩, s1 _ _ hy, fun yb hyb => ?_⟩
    have s2 := Same.upd (o := .lst ys) hyb
    have hyb2 : upd H1 yb (.lst ys) yb = some (.lst ys) := upd_same
    generalize upd H1 yb (.lst ys) = H2 at s2 hyb2
    have s02 := s1.trans s2
    refine ⟨_, rfl, x, p, s, t, y, ps, ss, ts, ys, sd, rfl, bk.mono s02, pl, sy.mono (Tk.of s02), l60, fun d H3 s3 dn fl => ?_⟩
    have s03 := s02.trans s3
    refine ⟨by show 0 ≤ sizeLine; decide, fun fo hfo => ?_⟩
    have s4 := Same.upd (o := .lst []) hfo
    have s04 := s03.trans s4
    have hfo4 : upd H3 fo (.lst []) fo = some (.lst []) := upd_same
    have nfo : H fo = none := s03.free hfo
    have fl4 := fl.mono s4
    have htb4 := s4 _ _ (s3 _ _ (s2 _ _ htb1))
    have hyb4 := s4 _ _ (s3 _ _ hyb2)
    have fotb : tb ≠ fo := ne_of_none (s3 _ _ (s2 _ _ htb1)) hfo
    have foyb : yb ≠ fo := ne_of_none (s3 _ _ hyb2) hfo
    have fod : d ≠ fo := by
      obtain ⟨kvs, e, _⟩ := fl
      exact ne_of_none e hfo
    generalize upd H3 fo (.lst []) = H4 at s4 s04 hfo4 fl4 htb4 hyb4
    clear s1 htb1 s2 hyb2 s02 s3 fl s03 hfo s4
    refine ⟨_, rfl, x, dx, _, rfl, s04 _ _ hx, fld_no _ _ _ _ (by decide +kernel) (by decide +kernel) (by decide +kernel) (by decide +kernel), x, p, s, t, y, ps, ss, ts, ys, qtd qd, rfl, bk.mono s04, (qtls qs).mono (Tk.of s04), tl, fun m vs H5 s5 mn hm tm => ?_⟩
    have fom : m ≠ fo := (ne_of_none hfo4 mn).symm
    have ml : vs.length ≤ 240 := by
      have := tel_len (qtd qd) 0
      have := tm.1
      have := (qtls qs).1
      omega
    refine ⟨m, rfl, ⟨_, SqL.of hm⟩, for_list (K := X.K) (a := m) (xs := vs) (OtInv x tb yb d fo H5 (tel 0 (qtd qd)) (openT qd sd))
      ⟨[], none, none, none, none, none, rfl, fun b o e _ => e, s5 _ _ hfo4, Nat.le_refl 0, TelL.nil⟩ ?_ ?_ ?_⟩
    · rintro i σ H6 hi ⟨us, e1, e2, e3, e4, e5, rfl, kp, _⟩
      exact SqL.of (kp _ _ hm fom)
    · rintro i v σ H6 hv ⟨us, e1, e2, e3, e4, e5, rfl, kp, hf6, ul, tu⟩
      have hi : i < vs.length := (List.getElem?_eq_some_iff.mp hv).1
      obtain ⟨tk, htk⟩ : ∃ tk, (tel 0 (qtd qd))[i]? = some tk := ⟨_, List.getElem?_eq_getElem (by rw [← tm.1]; exact hi)⟩
      obtain ⟨a, rfl, ha⟩ := tm.2 i v tk hv htk
      obtain ⟨q, hq, hps⟩ := telq qk (List.mem_of_getElem? htk)
      have kpT : ∀ b xs, H b = some (.tup xs) → H6 b = some (.tup xs) := fun b xs e => kp b _ (s5 _ _ (s04 _ _ e)) (ne_of_none e nfo)
      have ha6 := kp _ _ ha (ne_of ha (s5 _ _ hfo4) (by intro z; cases z))
      have htb6 := kp _ _ (s5 _ _ htb4) fotb
      have hyb6 := kp _ _ (s5 _ _ hyb4) foyb
      obtain ⟨kvs, hd6, hk⟩ := fl4
      have hd6 := kp _ _ (s5 _ _ hd6) fod
      obtain ⟨vq, hvq⟩ : ∃ vq, ts[tk.1]? = some vq := ⟨_, List.getElem?_eq_getElem (by rw [qs.1]; exact (List.getElem?_eq_some_iff.mp hq).1)⟩
      obtain ⟨aq, rfl, haq⟩ := qs.2 _ _ _ hvq hq
      have haq6 := kpT _ _ haq
      have sy6 : Sys H6 ys sd := sy.mono kpT
      refine ⟨a, _, rfl, SqT.of ha6, rfl, _, _, rfl, _, _, rfl, _, _, rfl, rfl, ?_⟩
      refine ⟨_, rfl, _, rfl, tb, _, _, _, rfl, rfl, SqL.of htb6, atI_nat hvq, aq, _, _, _, rfl, rfl, SqT.of haq6, rfl, ?_⟩
      rw [← hourAt_at hq]
      refine or_set (i := 8) (j := 9) (ta := tCall spSil [] E0 (tCons (tVar 2) (tCons (tVar 6) (tCons (tVar 8) tNil)))) (tb := tCall spBar [] E0 (tCons (tVar 2) (tCons (tVar 7) (tCons (tVar 6) tNil)))) (sd.any (silB tk.2.1 (hourAt qd tk.1))) (sd.any (barB tk.2.2 tk.2.1)) (fun Q' q' => ⟨_, rfl, _, rfl, _, rfl, yb, ys, tk.2.1, hourAt qd tk.1, sd, rfl, hyb6, sy6, l60, q'⟩) (fun H7 Q' s7 q' => ⟨_, rfl, _, rfl, _, rfl, yb, ys, tk.2.2, tk.2.1, sd, rfl, s7 _ _ hyb6, sy6.mono (Tk.of s7), q'⟩) (fun H7 s7 => ?_)
      have dg : DGet H7 d (.str tk.2.2) (some (oV (floorOf tk.2.2 sd))) := by
        rw [← hk _ hps]
        exact DGet.k (k := Sum.inr tk.2.2) (s7 _ _ hd6)
      have et : (tel 0 (qtd qd)).take (i + 1) = (tel 0 (qtd qd)).take i ++ [tk] := by
        rw [List.take_add_one, htk]
        rfl
      have hf7 := s7 _ _ hf6
      have kp7 : ∀ b o, H5 b = some o → b ≠ fo → H7 b = some o := fun b o e n => s7 _ _ (kp b o e n)
      have tu7 := tu.mono (Tk.of s7)
      have no : openT qd sd tk = false → TelL H7 us (((tel 0 (qtd qd)).take (i + 1)).filter (openT qd sd)) := fun h => by
        rw [et, List.filter_append, List.filter_cons, if_neg (by rw [h]; exact Bool.false_ne_true), List.filter_nil, List.append_nil]
        exact tu7
      refine ⟨_, rfl, _, rfl, _, rfl, d, _, rfl, dg, hourAt qd tk.1, floorOf tk.2.2 sd, rfl, _, rfl, ite2 (fun hab => ⟨_, rfl, _, rfl, ite2 (fun hs => ?_) (fun hs => ?_)⟩) (fun hab => iteF ?_)⟩
      · have ot : openT qd sd tk = true := by
          unfold openT
          rw [hab, hs]
          rfl
        refine ⟨_, rfl, .inl ⟨rfl, _, SqL.of hf7⟩, _, rfl, _, rfl, _, rfl, by show 3 ≤ sizeLine; decide, fun t1 ht1 => ?_⟩
        have s8 := Same.upd (o := .tup [.int tk.1, .str tk.2.1, .str tk.2.2]) ht1
        have t1f : t1 ≠ fo := (ne_of_none hf7 ht1).symm
        refine ⟨fo, us, .ref t1, rfl, rfl, s8 _ _ hf7, by omega, us ++ [.ref t1], _, _, _, _, _, rfl, fun b o e n => ?_, upd_same, by rw [List.length_append]; show us.length + 1 ≤ i + 1; omega, ?_⟩
        · rw [upd_ne n]
          exact s8 _ _ (kp7 b o e n)
        · rw [et, List.filter_append, List.filter_cons, if_pos ot, List.filter_nil]
          refine (tu7.mono ((Tk.of s8).trans (Tk.upd (s8 _ _ hf7)))).snoc ⟨t1, rfl, ?_⟩
          rw [upd_ne t1f]
          exact upd_same
      · refine ⟨us, _, _, _, _, _, rfl, kp7, hf7, by omega, no ?_⟩
        unfold openT
        rw [eq_false_of_ne_true hs, Bool.and_false]
      · refine ⟨us, _, _, _, _, _, rfl, kp7, hf7, by omega, no ?_⟩
        unfold openT
        rw [eq_false_of_ne_true hab, Bool.false_and]
    · rintro σ H6 ⟨us, e1, e2, e3, e4, e5, rfl, kp, hf6, ul, tu⟩
      rw [tm.1, List.take_length] at tu
      exact ⟨_, rfl, k fo us H6 (fun b o e => kp b o (s5 _ _ (s04 _ _ e)) (ne_of_none e nfo)) nfo hf6 tu⟩
end
end K41

namespace K41
open PySem L2
/-! ### general rules -/
theorem truT {te : TE} {σ : St} {H : Hp} {K1 : VK} {K2 : Hp → Prop} (h : te σ H K1) : tTru σ H fun b H5 => if b = true then te σ H5 K1 else K2 H5 := h
theorem eqL_all (bs : List Bool) : eqL bs = bs.all id := by
  unfold eqL
  rw [Bool.eq_iff_iff, List.all_eq_true, List.all_eq_true]
  constructor
  · intro h b hb
    obtain ⟨i, hi, rfl⟩ := List.getElem_of_mem hb
    have := h i (List.mem_range.mpr hi)
    rw [List.getD_eq_getElem?_getD, List.getElem?_eq_getElem hi] at this
    exact this
  · intro h i hi
    have hi' := List.mem_range.mp hi
    rw [List.getD_eq_getElem?_getD, List.getElem?_eq_getElem hi']
    exact h _ (List.getElem_mem hi')
theorem neSelf {K : PySem.W.Frag} {H : Hp} {a b : Addr} {xs : List V} {Q : VK} (s : SqL K H a xs) (t : SqL K H b xs) (f : ∀ x ∈ xs, ∃ c, x = .ref c) (q : Q (.bl false) H) : NeLP K (.ref a) (.ref b) H Q := by
  refine .same a b _ _ (List.replicate xs.length true) rfl rfl s t (List.length_replicate ..).symm (List.length_replicate ..).symm (fun i u v c hu hv hc => ?_) ?_
  · rw [hu] at hv
    cases hv
    obtain ⟨d, rfl⟩ := f u (List.mem_of_getElem? hu)
    have := List.mem_of_getElem? hc
    rw [List.eq_of_mem_replicate this]
    exact if_pos rfl
  · rw [eqL_all, show (List.replicate xs.length true).all id = true from List.all_eq_true.mpr fun b hb => List.eq_of_mem_replicate hb]
    exact q
/-- a comprehension that makes a new thing at each turn -/
theorem lcG_new {J : It} {n : Nat} {is : List Nat} {g : TG} {te : TE} {σ : St} {H : Hp} {Q : VK} {N : Nat} (R : Nat → Hp → V → Prop) (mono : ∀ j v H H', Tk H H' → R j H v → R j H' v) (hz : N ≤ sizeLine) (hgo : ∀ i H2, Same H H2 → i < N → J.go i H2) (hstop : ∀ H2, Same H H2 → J.stop N H2)
    (he : ∀ (i : Nat) (os : St) v H2 H3 (K1 : VK), i < N → os.length = n → Same H H2 → J.yld i H2 v H3 → (∀ y H6, Same H2 H6 → R i H6 y → K1 y H6) →
      g v (os ++ caps is σ) H3 fun σ' H4 => (∃ os' : St, os'.length = n ∧ σ' = os' ++ caps is σ) ∧ te σ' H4 K1)
    (gm : ∀ v σ H (Q1 Q2 : St → Hp → Prop), (∀ σ' H', Q1 σ' H' → Q2 σ' H') → g v σ H Q1 → g v σ H Q2)
    (q : ∀ D ys H', H D = none → Same H H' → H' D = some (.lst ys) → ys.length = N → (∀ (j : Nat) v, ys[j]? = some v → R j H' v) → Q (.ref D) H') : lcGoalG J n is g tTru te σ H Q := by
  intro D hDn
  refine ⟨fun i m ys H2 => m = N - i ∧ i ≤ N ∧ Same H H2 ∧ H2 D = some (.lst ys) ∧ ys.length = i ∧ ∀ (j : Nat) v, ys[j]? = some v → R j H2 v, ⟨_, rfl, Nat.zero_le _, Same.upd hDn, upd_same, rfl, fun j v h => by cases h⟩, ?_⟩
  rintro i m ys H2 ⟨rfl, hi, sm, hd, rfl, ra⟩
  refine ⟨hd, ?_⟩
  by_cases hlt : ys.length < N
  · refine .inr ⟨hgo _ H2 sm hlt, fun os v H3 hos y => ?_⟩
    refine gm _ _ _ _ _ (fun σ' H' h => ⟨h.1, iteT (B := ∃ m', m' < N - ys.length ∧ m' = N - (ys.length + 1) ∧ ys.length + 1 ≤ N ∧ Same H H' ∧ H' D = some (.lst ys) ∧ ys.length = ys.length + 1 ∧ ∀ (j : Nat) v, ys[j]? = some v → R j H' v) h.2⟩) (he _ os v H2 H3 _ hlt hos sm y fun z H6 s6 rz => ⟨s6 _ _ hd, by omega, N - (ys.length + 1), by omega, rfl, hlt, fun b o e => ?_, upd_same, by rw [List.length_append]; rfl, fun j u hu => ?_⟩)
    · rw [upd_ne (ne_of_none e hDn)]
      exact s6 _ _ (sm _ _ e)
    · have tk := Tk.upd (s6 _ _ hd) (ys := ys ++ [z])
      by_cases hj : j < ys.length
      · rw [List.getElem?_append_left hj] at hu
        exact mono _ _ _ _ ((Tk.of s6).trans tk) (ra j u hu)
      · have e : j = ys.length := by
          have := (List.getElem?_eq_some_iff.mp hu).1
          rw [List.length_append] at this
          have : j < ys.length + 1 := this
          omega
        subst e
        rw [List.getElem?_append_right (Nat.le_refl _), Nat.sub_self] at hu
        cases hu
        exact mono _ _ _ _ tk rz
  · have e : ys.length = N := by omega
    exact .inl ⟨by rw [e]; exact hstop H2 sm, q D ys H2 hDn sm hd e ra⟩
theorem lcN_list {K : PySem.W.Frag} {is : List Nat} {te : TE} {σ : St} {H : Hp} {Q : VK} {a : Addr} {xs : List V} (R : Nat → Hp → V → Prop) (mono : ∀ j v H H', Tk H H' → R j H v → R j H' v) (hq : SqL K H a xs) (hz : xs.length ≤ sizeLine)
    (he : ∀ (i : Nat) v H2 (K1 : VK), xs[i]? = some v → Same H H2 → (∀ y H6, Same H2 H6 → R i H6 y → K1 y H6) → te ([some v] ++ caps is σ) H2 K1)
    (q : ∀ D ys H', H D = none → Same H H' → H' D = some (.lst ys) → ys.length = xs.length → (∀ (j : Nat) v, ys[j]? = some v → R j H' v) → Q (.ref D) H') : lcGoalG (Itl K a) 1 is (gName 0) tTru te σ H Q :=
  lcG_new R mono hz (fun i H2 sm hi => ⟨xs, xs[i], sm.seq hq, by simp [hi]⟩) (fun H2 sm => ⟨xs, sm.seq hq, Nat.le_refl _⟩) (fun i os v H2 H3 K1 hi hos sm y k1 => by
    obtain ⟨rfl, y⟩ := y
    match os, hos with
    | [o], _ => exact ⟨⟨[some v], rfl, rfl⟩, he i v _ K1 (y xs (sm.seq hq)) sm k1⟩) (fun _ _ _ _ _ h k => h _ _ k) q
theorem lcN_range {is : List Nat} {te : TE} {σ : St} {H : Hp} {Q : VK} {lo : Int} {N : Nat} (R : Nat → Hp → V → Prop) (mono : ∀ j v H H', Tk H H' → R j H v → R j H' v) (hz : N ≤ sizeLine)
    (he : ∀ (i : Nat) H2 (K1 : VK), i < N → Same H H2 → (∀ y H6, Same H2 H6 → R i H6 y → K1 y H6) → te ([some (.int (lo + i))] ++ caps is σ) H2 K1)
    (q : ∀ D ys H', H D = none → Same H H' → H' D = some (.lst ys) → ys.length = N → (∀ (j : Nat) v, ys[j]? = some v → R j H' v) → Q (.ref D) H') : lcGoalG (Itr lo N) 1 is (gName 0) tTru te σ H Q :=
  lcG_new R mono hz (fun i H2 _ hi => hi) (fun H2 _ => Nat.le_refl N) (fun i os v H2 H3 K1 hi hos sm y k1 => by
    obtain ⟨rfl, rfl⟩ := y
    match os, hos with
    | [o], _ => exact ⟨⟨[some _], rfl, rfl⟩, he i _ K1 hi sm k1⟩) (fun _ _ _ _ _ h k => h _ _ k) q
theorem seq_ifR {i : Nat} {v : V} {tc : TT} {u t2 : TS} {D : Ends} {σ : St} {H : Hp} (R : St → Hp → Prop) (hR : ∀ σ' H', R σ' H' → t2 D σ' H') (b : Bool) (hc : ∀ Q : Bool → Hp → Prop, Q b H → tc (σ.set i (some v)) H Q) (h1 : b = true → (∀ σ' H', R σ' H' → t2 D σ' H') → u { D with nx := t2 D } (σ.set i (some v)) H) (h2 : b = false → R (σ.set i (some v)) H) :
    gName i v σ H (fun σ2 H2 => tSeq (tIfS tc u tNext) t2 D σ2 H2) := by
  refine hc _ ?_
  cases b with
  | true => exact iteT (h1 rfl hR)
  | false => exact iteF (hR _ _ (h2 rfl))
/-- a comprehension that keeps some of the items -/
theorem lcS_list {K : PySem.W.Frag} {is : List Nat} {tc : TT} {te : TE} {σ : St} {H : Hp} {Q : VK} {a : Addr} {xs : List V} (hq : SqL K H a xs) (hz : xs.length ≤ sizeLine)
    (he : ∀ (i : Nat) v H2 (K1 : VK) (K2 : Hp → Prop), xs[i]? = some v → Same H H2 → (∀ H6, Same H2 H6 → K1 v H6) → (∀ H5, Same H2 H5 → K2 H5) → tc ([some v] ++ caps is σ) H2 fun b H5 => if b = true then te ([some v] ++ caps is σ) H5 K1 else K2 H5)
    (q : ∀ D ys H', H D = none → Same H H' → H' D = some (.lst ys) → ys.length ≤ xs.length → (∀ v ∈ ys, v ∈ xs) → Q (.ref D) H') : lcGoalG (Itl K a) 1 is (gName 0) tc te σ H Q := by
  intro D hDn
  refine ⟨fun i m ys H2 => m = xs.length - i ∧ i ≤ xs.length ∧ Same H H2 ∧ H2 D = some (.lst ys) ∧ ys.length ≤ i ∧ ∀ v ∈ ys, v ∈ xs, ⟨_, rfl, Nat.zero_le _, Same.upd hDn, upd_same, Nat.le_refl 0, fun v h => by cases h⟩, ?_⟩
  rintro i m ys H2 ⟨rfl, hi, sm, hd, yl, ya⟩
  refine ⟨hd, ?_⟩
  by_cases hlt : i < xs.length
  · refine .inr ⟨⟨xs, xs[i], sm.seq hq, by simp [hlt]⟩, fun os v H3 hos y => ?_⟩
    obtain ⟨rfl, y⟩ := y
    have hv := y xs (sm.seq hq)
    match os, hos with
    | [o], _ =>
      refine ⟨⟨[some v], rfl, rfl⟩, he i v _ _ _ hv sm (fun H6 s6 => ⟨s6 _ _ hd, by omega, xs.length - (i + 1), by omega, rfl, hlt, fun b o e => ?_, upd_same, ?_, fun u hu => ?_⟩) (fun H5 s5 => ⟨xs.length - (i + 1), by omega, rfl, hlt, sm.trans s5, s5 _ _ hd, by omega, ya⟩)⟩
      · rw [upd_ne (ne_of_none e hDn)]
        exact s6 _ _ (sm _ _ e)
      · rw [List.length_append]
        show ys.length + 1 ≤ i + 1
        omega
      · rcases List.mem_append.mp hu with hu | hu
        · exact ya u hu
        · rw [List.mem_singleton.mp hu]
          exact List.mem_of_getElem? hv
  · have e : i = xs.length := by omega
    subst e
    exact .inl ⟨⟨xs, sm.seq hq, Nat.le_refl _⟩, q D ys H2 hDn sm hd yl ya⟩
theorem say_in {ps : List Str} {H : Hp} {v : V} {d : SD} (h : SayD H v d) (k : SdOk ps d) : SayIn ps H v := by
  obtain ⟨a, e, ha⟩ := h
  refine ⟨a, e, ?_⟩
  cases d with
  | knew p h => exact .inl ⟨p, h, ha, k.1, k.2⟩
  | unh p h =>
    refine .inr (.inl ⟨p, oV h, ha, k.1, ?_⟩)
    cases h with
    | none => exact .inl rfl
    | some i => exact .inr ⟨i, rfl, k.2 i rfl⟩
  | sil p b e => exact .inr (.inr (.inl ⟨p, b, e, ha, k.1, k.2.1, k.2.2.1, k.2.2.2⟩))
  | bar p q => exact .inr (.inr (.inr ⟨p, q, ha, k.1, k.2.1, k.2.2⟩))
theorem pers_at {ps : List Str} {i : Int} (h0 : 0 ≤ i) (h1 : i < ps.length) : ∃ z, atI (ps.map V.str) i = some (.str z) ∧ z ∈ ps := by
  have hi : i.toNat < ps.length := by omega
  have e : ((i.toNat : Nat) : Int) = i := Int.toNat_of_nonneg h0
  have := atI_nat (xs := ps.map V.str) (j := i.toNat) (v := V.str ps[i.toNat]) (by rw [List.getElem?_map, List.getElem?_eq_getElem hi]; rfl)
  rw [e] at this
  exact ⟨_, this, List.getElem_mem hi⟩
theorem atP_some {α : Type} {l : List α} {p : α → Bool} {i : Nat} {d : α} (h : l[i]? = some d) : atP l p i = p d := by
  unfold atP
  rw [h]
theorem Lz.snoc {α : Type} {R : Hp → V → α → Prop} {H : Hp} {xs : List V} {ds : List α} {v : V} {d : α} (h : Lz R H xs ds) (hv : R H v d) : Lz R H (xs ++ [v]) (ds ++ [d]) := by
  refine ⟨by rw [List.length_append, List.length_append, h.1]; rfl, fun i u e hu he => ?_⟩
  by_cases hi : i < xs.length
  · rw [List.getElem?_append_left hi] at hu
    rw [List.getElem?_append_left (by rw [← h.1]; exact hi)] at he
    exact h.2 i u e hu he
  · rw [List.getElem?_append_right (by omega)] at hu
    rw [List.getElem?_append_right (by rw [← h.1]; omega), ← h.1] at he
    obtain ⟨h1, h2⟩ := List.getElem?_eq_some_iff.mp hu
    have h0 : i - xs.length = 0 := by
      have : i - xs.length < 1 := h1
      omega
    rw [h0] at hu he
    cases hu
    cases he
    exact hv
theorem tel_in {ps : List Str} {qd : List QD} (qk : ∀ d ∈ qd, QdOk ps d) {tk : TK} (h : tk ∈ tel 0 (qtd qd)) : ∃ q, qd[tk.1]? = some q ∧ tk.2.1 ∈ ps ∧ tk.2.2 ∈ ps := by
  obtain ⟨j, d', hj, e1, e2⟩ := tel_mem h
  unfold qtd at hj
  rw [List.getElem?_map] at hj
  obtain ⟨q, hq, rfl⟩ := Option.map_eq_some_iff.mp hj
  have qo := qk q (List.mem_of_getElem? hq)
  rw [Nat.zero_add] at e1
  refine ⟨q, (by rw [e1]; exact hq), ?_⟩
  rcases e2 with e2 | e2
  · rw [e2]
    exact ⟨qo.2.1, qo.2.2.1⟩
  · rw [e2]
    exact ⟨qo.2.2.1, qo.2.1⟩
theorem mem_take1 {α : Type} {l : List α} {i : Nat} {x y : α} (h : l[i]? = some x) (m : y ∈ l.take (i + 1)) : y ∈ l.take i ∨ y = x := by
  rw [List.take_add_one, h, List.mem_append] at m
  rcases m with m | m
  · exact .inl m
  · exact .inr (List.mem_singleton.mp m)
/-! ### lines: who saw when -/
abbrev FH := Str → Option Int
def stepF (F : FH) (g : GD) : FH := fun y => if y = g.1 then some (match F g.1 with
  | none => g.2
  | some j => if j < g.2 then j else g.2) else F y
def seenF (gs : List GD) : FH := gs.foldl stepF fun _ => none
theorem seenF_snoc (gs : List GD) (g : GD) : seenF (gs ++ [g]) = stepF (seenF gs) g := by
  unfold seenF
  rw [List.foldl_append]
  rfl
structure SeenD (kvs : List (Key × V)) (F : FH) : Prop where
  get : ∀ z, valV kvs (Sum.inr z) = (F z).map V.int
theorem SeenD.put {kvs : List (Key × V)} {F : FH} {g : GD} {m : Int} (d : SeenD kvs F) (e : stepF F g g.1 = some m) : SeenD (putK kvs (Sum.inr g.1) (.int m)) (stepF F g) := ⟨fun z => by
  rw [valV_put]
  by_cases h : z = g.1
  · rw [if_pos (by rw [h]), h, e]
    rfl
  · rw [if_neg (fun q => h (Sum.inr.inj q)), d.get z]
    show _ = (if z = g.1 then _ else F z).map V.int
    rw [if_neg h]⟩
def dataAt (sg : List GD) (ix : List Nat) : List GD := ix.filterMap fun i => sg[i]?
theorem dataAt_open (p : GD → Bool) : ∀ sg : List GD, dataAt sg ((List.range sg.length).filter (atP sg p)) = sg.filter p := fun sg => by
  have gen : ∀ n, n ≤ sg.length → dataAt sg ((List.range n).filter (atP sg p)) = (sg.take n).filter p := fun n => by
    induction n with
    | zero => exact fun _ => rfl
    | succ n ih =>
      intro hn
      have hg : sg[n]? = some sg[n] := List.getElem?_eq_getElem (by omega)
      have e := ih (by omega)
      unfold dataAt at e ⊢
      rw [List.range_succ, List.filter_append, List.filterMap_append, e, List.take_add_one, hg, List.filter_append]
      congr 1
      show List.filterMap _ (List.filter (atP sg p) [n]) = List.filter p [sg[n]]
      rw [List.filter_cons, List.filter_cons, atP_some hg]
      cases p sg[n] with
      | true => 
        show List.filterMap _ [n] = _
        rw [List.filterMap_cons, hg]
        rfl
      | false => rfl
  have := gen sg.length (Nat.le_refl _)
  rw [List.take_length] at this
  exact this
inductive SeenP (C : Addr) (vs : List V) (H : Hp) (Q : VK) : Prop
  | mk (x p s t y : Addr) (ps : List Str) (ss ts ys : List V) (sg : List GD) (sd : List SD) (e : vs = [.ref x]) (bk : Bk C H x p s t y ps ss ts ys) (pl : ps.length ≤ 24) (sl : ss.length ≤ 24) (gs : Lz SightD H ss sg) (gp : ∀ d ∈ sg, d.1 ∈ ps) (sy : Sys H ys sd) (l : ys.length ≤ 60)
      (k : ∀ d kvs H', Same H H' → H d = none → H' d = some (.dK kvs) → SeenD kvs (seenF (sg.filter (openS sd))) → Q (.ref d) H')
def spSeen (C : Addr) : Sp := fun vs H Q _ => SeenP C vs H Q
inductive SeInv (x tb d l : Addr) (H1 : Hp) (sg : List GD) (ix : List Nat) (i : Nat) (σ : St) (H2 : Hp) : Prop
  | mk (e3 e4 : Option V) (kvs : List (Key × V)) (e : σ = [some (.ref x), some (.ref tb), some (.ref d), e3, e4]) (kp : ∀ b o, H1 b = some o → b ≠ d → H2 b = some o) (hd : H2 d = some (.dK kvs)) (kl : kvs.length ≤ i) (sn : SeenD kvs (seenF (dataAt sg (ix.take i))))
def sawB (F : FH) (p : Str) (h : Int) : Bool := match F p with
  | none => false
  | some j => decide (j < h)
inductive spSawP  (vs : List V) (H : Hp) (Q : VK) : Prop
  | mk (d : Addr) (kvs : List (Key × V)) (F : FH) (p : Str) (h : Int) (h0 : vs = [.ref d, .str p, .int h]) (h1 : H d = some (.dK kvs)) (h2 : SeenD kvs F) (h3 : Q (.bl (sawB F p h)) H)
def spSaw  : Sp := fun vs H Q _ => spSawP  vs H Q
section
variable {P : Program} {w : World} {K : PySem.W.Frag} {mg : Str → Option Value} {base : Heap} {kw C : Addr}
theorem sc_saw_ahead_of : FnScope ["seen", "person", "hour"] ["seen", "person", "hour"] (defScope s_saw_ahead_of) := ⟨rfl, rfl, rfl, by decide +kernel, rfl, by decide +kernel, by decide +kernel⟩
theorem ok_saw {f : Addr} {fd : FuncData} (D : Df K mg "saw_ahead_of" s_saw_ahead_of ["seen", "person", "hour"] f fd) : Gd P w K mg base 1 "saw_ahead_of" spSaw := by
  refine J.def_ok D sc_saw_ahead_of (fun vs H Q E h => ?_) (fun X H vs Q E hh h => ?_)
  · obtain ⟨d, kvs, F, p, h, rfl, _⟩ := h
    rfl
  · obtain ⟨d, kvs, F, p, h, rfl, hd, sn, k⟩ := h
    have S0 : L2.Slot X 0 "seen" := hh.slot 0 rfl (by first | exact .inl rfl | exact .inr rfl) (by decide) (by decide)
    have S1 : L2.Slot X 1 "person" := hh.slot 1 rfl (by first | exact .inl rfl | exact .inr rfl) (by decide) (by decide)
    have S2 : L2.Slot X 2 "hour" := hh.slot 2 rfl (by first | exact .inl rfl | exact .inr rfl) (by decide) (by decide)
    have hu := hu_of hh.room
    refine ⟨_, (J.pss_one (J.ps_ret (J.pe_and (J.pe_din hu (J.rd S1) (J.rd S0)) (J.pe_one (J.pe_cmpR J.op_lt (J.dget hu (J.rd S0) (J.rd S1) J.ix_name) (J.rd S2) (L2.nomark _)))))), ?_⟩
    have dg := DGet.k (k := Sum.inr p) hd
    rw [sn.get] at dg
    unfold sawB at k
    cases hF : F p with
    | none =>
      rw [hF] at dg k
      exact ⟨_, rfl, _, rfl, d, _, rfl, dg, _, rfl, iteN Bool.false_ne_true k⟩
    | some j =>
      rw [hF] at dg k
      exact ⟨_, rfl, _, rfl, d, _, rfl, dg, _, rfl, iteP rfl ⟨_, rfl, _, rfl, d, _, rfl, dg, _, rfl, _, _, rfl, rfl, k⟩⟩
theorem sc_seen_hours : FnScope ["book", "sights", "hours", "i", "person"] ["book"] (defScope s_seen_hours) := ⟨rfl, rfl, rfl, by decide +kernel, rfl, by decide +kernel, by decide +kernel⟩
theorem ok_seen {f : Addr} {fd : FuncData} (D : Df K mg "seen_hours" s_seen_hours ["book"] f fd) (T : Txt K mg kw C) (G_sights : Md P w K mg base 1 C "sights" (spTell1 C fun _ s _ _ => s)) (G_open_sights : Gd P w K mg base 4 "open_sights" (spOpenS C)) : Gd P w K mg base 5 "seen_hours" (spSeen C) := by
  refine J.def_ok D sc_seen_hours (fun vs H Q E h => ?_) (fun X H vs Q E hh h => ?_)
  · obtain ⟨x, p, s, t, y, ps, ss, ts, ys, sg, sd, rfl, _⟩ := h
    rfl
  · obtain ⟨x, p, s, t, y, ps, ss, ts, ys, sg, sd, rfl, bk, pl, sl, gs, gp, sy, l60, k⟩ := h
    have S0 : L2.Slot X 0 "book" := hh.slot 0 rfl (by first | exact .inl rfl | exact .inr rfl) (by decide) (by decide)
    have S1 : L2.Slot X 1 "sights" := hh.slot 1 rfl (by first | exact .inl rfl | exact .inr rfl) (by decide) (by decide)
    have S2 : L2.Slot X 2 "hours" := hh.slot 2 rfl (by first | exact .inl rfl | exact .inr rfl) (by decide) (by decide)
    have S3 : L2.Slot X 3 "i" := hh.slot 3 rfl (by first | exact .inl rfl | exact .inr rfl) (by decide) (by decide)
    have S4 : L2.Slot X 4 "person" := hh.slot 4 rfl (by first | exact .inl rfl | exact .inr rfl) (by decide) (by decide)
    have B_min : Bt X "min" := hh.bt T.b_min rfl (by decide) (by decide)
    have C_open_sights := hh.cal G_open_sights rfl (by first | decide | exact Nat.le_refl _) (by decide)
    have M_sights := hh.met G_sights (by decide)
    have hu := hu_of hh.room
    have hsz : sizeLine = 16777216 := sizeLine_eq
    obtain ⟨⟨dx, hx⟩, hp, hs, ht, hy⟩ := id bk
    refine ⟨_, (J.pss_cons (J.set S1 hh.nd (J.met0 M_sights (J.rd S0) rfl))
 (J.pss_cons (J.set S2 hh.nd J.pe_dnew)
 (J.pss_cons (J.ps_for hh.own hh.calm (J.pi_list (J.cal C_open_sights (J.pa_c (J.rd S0) J.pa_nil))) (J.tgt S3 hh.nd)
 (J.pss_cons (J.set S4 hh.nd (J.pe_ix J.ix_tup (J.pe_ix J.ix_list (J.rd S1) (J.rd S3) J.ix_name) J.pe_int J.ix_con))
 (J.pss_one (J.dput hu (J.rd S2) (J.rd S4) (J.blt B_min (J.call_min2 hh.calm) L2.bb_min (J.pa_c (J.pe_ix J.ix_tup (J.pe_ix J.ix_list (J.rd S1) (J.rd S3) J.ix_name) J.pe_int J.ix_con) (J.pa_c (J.get2 hu (J.rd S2) (J.rd S4) (J.pe_ix J.ix_tup (J.pe_ix J.ix_list (J.rd S1) (J.rd S3) J.ix_name) J.pe_int J.ix_con)) J.pa_nil)))))))
 (J.pss_one (J.ps_ret (J.rd S2)))))), ?_⟩
    refine ⟨_, rfl, x, dx, _, rfl, hx, fld_no _ _ _ _ (by decide +kernel) (by decide +kernel) (by decide +kernel) (by decide +kernel), x, p, s, t, y, ss, rfl, ⟨dx, hx⟩, hs, fun tb htb => ?_⟩
    have s1 := Same.upd (o := .lst ss) htb
    have htb1 : upd H tb (.lst ss) tb = some (.lst ss) := upd_same
    generalize upd H tb (.lst ss) = H1 at s1 htb1
    intro d nd
    have s2 := Same.upd (o := .dK []) nd
    have hd2 : upd H1 d (.dK []) d = some (.dK []) := upd_same
    generalize upd H1 d (.dK []) = H2 at s2 hd2
    have s02 := s1.trans s2
    refine ⟨_, rfl, x, p, s, t, y, ps, ss, ts, ys, sg, sd, rfl, bk.mono s02, pl, sl, gs.mono (SightD.mono (Tk.of s02)), gp, sy.mono (Tk.of s02), l60, fun l H3 s3 ln hl => ?_⟩
    have e1 : openIx sg sd sg.length = ((List.range sg.length).filter (atP sg (openS sd))).map fun i => V.int (i : Nat) := rfl
    rw [e1] at hl
    have s03 := s02.trans s3
    have s13 := s2.trans s3
    have il : ∀ i ∈ (List.range sg.length).filter (atP sg (openS sd)), i < sg.length := fun i hi => List.mem_range.mp (List.mem_filter.mp hi).1
    have dl := dataAt_open (openS sd) sg
    have ixl : ((List.range sg.length).filter (atP sg (openS sd))).length ≤ 24 := by
      have := List.length_filter_le (atP sg (openS sd)) (List.range sg.length)
      rw [List.length_range] at this
      have := gs.1
      omega
    generalize (List.range sg.length).filter (atP sg (openS sd)) = ix at hl il dl ixl
    have hd3 := s3 _ _ hd2
    have hdH : H d = none := s1.free nd
    refine ⟨l, rfl, ⟨_, SqL.of hl⟩, for_list (K := X.K) (a := l) (xs := ix.map fun i => V.int (i : Nat)) (SeInv x tb d l H3 sg ix) ⟨none, none, [], rfl, fun b o e _ => e, hd3, Nat.le_refl 0, ⟨fun _ => rfl⟩⟩ ?_ ?_ ?_⟩
    · rintro i σ H4 hi ⟨e3, e4, kvs, rfl, kp, hd, kl, sn⟩
      exact SqL.of (kp _ _ hl (ne_of_none hd2 ln).symm)
    · rintro i v σ H4 hv ⟨e3, e4, kvs, rfl, kp, hd, kl, sn⟩
      rw [List.getElem?_map] at hv
      obtain ⟨n, hn, rfl⟩ := Option.map_eq_some_iff.mp hv
      have hnl := il n (List.mem_of_getElem? hn)
      have hil : i < ix.length := (List.getElem?_eq_some_iff.mp hn).1
      obtain ⟨g, hg⟩ : ∃ g, sg[n]? = some g := ⟨_, List.getElem?_eq_getElem hnl⟩
      obtain ⟨vg, hvg⟩ : ∃ vg, ss[n]? = some vg := ⟨_, List.getElem?_eq_getElem (by rw [gs.1]; exact hnl)⟩
      obtain ⟨a, ta, rfl, ha⟩ := gs.2 _ _ _ hvg hg
      have keep : ∀ {b : Addr} {o : HO}, H b = some o → H4 b = some o := fun e => kp _ _ (s03 _ _ e) (ne_of_none e hdH)
      have ha4 := keep ha
      have htb4 := kp _ _ (s13 _ _ htb1) (ne_of_none htb1 nd)
      have dg := DGet.k (k := Sum.inr g.1) hd
      rw [sn.get] at dg
      have lk : kvs.length < sizeLine := by omega
      have dA : dataAt sg (ix.take (i + 1)) = dataAt sg (ix.take i) ++ [g] := by
        unfold dataAt
        rw [List.take_add_one, hn, List.filterMap_append]
        show _ ++ List.filterMap _ [n] = _
        rw [List.filterMap_cons, hg]
        rfl
      have put : ∀ m : Int, stepF (seenF (dataAt sg (ix.take i))) g g.1 = some m → SeInv x tb d l H3 sg ix (i + 1) [some (.ref x), some (.ref tb), some (.ref d), some (.int (n : Nat)), some (.str g.1)] (upd H4 d (.dK (putK kvs (Sum.inr g.1) (.int m)))) := fun m em =>
        ⟨_, _, _, rfl, (fun b o e n' => by rw [upd_ne n']; exact kp b o e n'), upd_same, Nat.le_trans (length_putK _ _ _) (by omega), by
          rw [dA, seenF_snoc]
          exact sn.put em⟩
      refine ⟨_, rfl, _, rfl, tb, _, _, _, rfl, rfl, SqL.of htb4, atI_nat hvg, a, _, _, _, rfl, rfl, SqT.of ha4, rfl, ?_⟩
      cases hF : seenF (dataAt sg (ix.take i)) g.1 with
      | none =>
        rw [hF] at dg
        exact ⟨_, rfl, _, rfl, tb, _, _, _, rfl, rfl, SqL.of htb4, atI_nat hvg, a, _, _, _, rfl, rfl, SqT.of ha4, rfl, _, rfl, d, rfl, .inl ⟨_, .inl hd⟩, _, rfl, _, rfl, _, rfl, tb, _, _, _, rfl, rfl, SqL.of htb4, atI_nat hvg, a, _, _, _, rfl, rfl, SqT.of ha4, rfl, _, dg, g.2, g.2, rfl, _, rfl, _, rfl, d, _, rfl, DPut.k (k := Sum.inr g.1) hd lk, put _ (by unfold stepF; rw [if_pos rfl, hF, if_neg (Int.lt_irrefl _)])⟩
      | some j =>
        rw [hF] at dg
        exact ⟨_, rfl, _, rfl, tb, _, _, _, rfl, rfl, SqL.of htb4, atI_nat hvg, a, _, _, _, rfl, rfl, SqT.of ha4, rfl, _, rfl, d, rfl, .inl ⟨_, .inl hd⟩, _, rfl, _, rfl, _, rfl, tb, _, _, _, rfl, rfl, SqL.of htb4, atI_nat hvg, a, _, _, _, rfl, rfl, SqT.of ha4, rfl, _, dg, g.2, j, rfl, _, rfl, _, rfl, d, _, rfl, DPut.k (k := Sum.inr g.1) hd lk, put _ (by unfold stepF; rw [if_pos rfl, hF])⟩
    · rintro σ H4 ⟨e3, e4, kvs, rfl, kp, hd, kl, sn⟩
      rw [List.length_map, List.take_length, dl] at sn
      exact ⟨_, rfl, k d kvs H4 (fun b o e => kp _ _ (s03 _ _ e) (ne_of_none e hdH)) hdH hd sn⟩
end
/-! ### lines: the hours of the tellings -/
def tkK (t : TK) : List Key := [Sum.inl (t.1 : Int), Sum.inr t.2.1, Sum.inr t.2.2]
theorem tkK_inj {a b : TK} (h : tkK a = tkK b) : a = b := by
  obtain ⟨k, t, e⟩ := a
  obtain ⟨k', t', e'⟩ := b
  injection h with h1 h2
  injection h2 with h2 h3
  injection h3 with h3 _
  have q : (k : Int) = (k' : Int) := Sum.inl.inj h1
  have q1 : k = k' := by omega
  have q2 : t = t' := Sum.inr.inj h2
  have q3 : e = e' := Sum.inr.inj h3
  subst q1 q2 q3
  rfl
def HtD (kvs : List (List Key × V)) (qd : List QD) (ks : List TK) : Prop := ∀ t ∈ ks, valV kvs (tkK t) = some (.int (hourAt qd t.1))
def HoD (kvs : List (List Key × V)) (qd : List QD) (ot : List TK) : Prop := ∀ t : TK, valV kvs (tkK t) = if t ∈ ot then some (.int (hourAt qd t.1)) else none
theorem hoD_merge (qd : List QD) : ∀ (more done : List TK) (kvs : List (List Key × V)), HoD kvs qd done → HoD (mergeT kvs (more.map fun t => (tkK t, V.int (hourAt qd t.1)))) qd (done ++ more)
  | [], done, kvs, h => by
    rw [List.append_nil]
    exact h
  | t :: r, done, kvs, h => by
    have := hoD_merge qd r (done ++ [t]) (putK kvs (tkK t) (.int (hourAt qd t.1))) fun u => by
      rw [valV_put, h u]
      by_cases e : u = t
      · rw [if_pos (by rw [e]), if_pos (by rw [e]; exact List.mem_append_right _ List.mem_cons_self), e]
      · rw [if_neg (fun q => e (tkK_inj q))]
        by_cases m : u ∈ done
        · rw [if_pos m, if_pos (List.mem_append_left _ m)]
        · rw [if_neg m, if_neg (fun q => (List.mem_append.mp q).elim m fun z => e (List.mem_singleton.mp z))]
    rw [List.append_assoc] at this
    exact this
inductive HotP (C : Addr) (vs : List V) (H : Hp) (Q : VK) : Prop
  | mk (x p s t y : Addr) (ps : List Str) (ss ts ys : List V) (qd : List QD) (e : vs = [.ref x]) (bk : Bk C H x p s t y ps ss ts ys) (tl : ts.length ≤ 120) (qs : Lz TalkQ H ts qd) (qk : ∀ d ∈ qd, QdOk ps d)
      (k : ∀ d kvs H', Same H H' → H d = none → H' d = some (.dT kvs) → HtD kvs qd (tel 0 (qtd qd)) → Q (.ref d) H')
def spHot (C : Addr) : Sp := fun vs H Q _ => HotP C vs H Q
inductive HtInv (x tb d : Addr) (H1 : Hp) (qd : List QD) (ks : List TK) (i : Nat) (σ : St) (H2 : Hp) : Prop
  | mk (e3 : Option V) (kvs : List (List Key × V)) (e : σ = [some (.ref x), some (.ref tb), some (.ref d), e3]) (kp : ∀ b o, H1 b = some o → b ≠ d → H2 b = some o) (hd : H2 d = some (.dT kvs)) (kl : kvs.length ≤ i) (sn : HtD kvs qd (ks.take i))
inductive HooP (C : Addr) (vs : List V) (H : Hp) (Q : VK) : Prop
  | mk (x p s t y : Addr) (ps : List Str) (ss ts ys : List V) (qd : List QD) (sd : List SD) (e : vs = [.ref x]) (bk : Bk C H x p s t y ps ss ts ys) (pl : ps.length ≤ 24) (tl : ts.length ≤ 120) (qs : Lz TalkQ H ts qd) (qk : ∀ d ∈ qd, QdOk ps d) (sy : Sys H ys sd) (l : ys.length ≤ 60)
      (k : ∀ d kvs H', Same H H' → H d = none → H' d = some (.dT kvs) → HoD kvs qd ((tel 0 (qtd qd)).filter (openT qd sd)) → Q (.ref d) H')
def spHoo (C : Addr) : Sp := fun vs H Q _ => HooP C vs H Q
def leadB (qd : List QD) (a b : TK) : Bool := decide (a.2.2 = b.2.1) && decide (hourAt qd a.1 < hourAt qd b.1)
def TelV' (H : Hp) (a : Addr) (t : TK) : Prop := H a = some (.tup [.int (t.1 : Nat), .str t.2.1, .str t.2.2])
inductive spLeadP  (vs : List V) (H : Hp) (Q : VK) : Prop
  | mk (d a b : Addr) (kvs : List (List Key × V)) (qd : List QD) (ot : List TK) (t u : TK) (h0 : vs = [.ref d, .ref a, .ref b]) (h1 : H d = some (.dT kvs)) (h2 : HoD kvs qd ot) (h3 : TelV' H a t) (h4 : TelV' H b u) (h5 : t ∈ ot) (h6 : u ∈ ot) (h7 : Q (.bl (leadB qd t u)) H)
def spLead  : Sp := fun vs H Q _ => spLeadP  vs H Q
section
variable {P : Program} {w : World} {K : PySem.W.Frag} {mg : Str → Option Value} {base : Heap} {kw C : Addr}
theorem sc_leads_to : FnScope ["hours", "telling", "later"] ["hours", "telling", "later"] (defScope s_leads_to) := ⟨rfl, rfl, rfl, by decide +kernel, rfl, by decide +kernel, by decide +kernel⟩
theorem ok_leads {f : Addr} {fd : FuncData} (D : Df K mg "leads_to" s_leads_to ["hours", "telling", "later"] f fd) : Gd P w K mg base 1 "leads_to" spLead := by
  refine J.def_ok D sc_leads_to (fun vs H Q E h => ?_) (fun X H vs Q E hh h => ?_)
  · obtain ⟨d, a, b, kvs, qd, ot, t, u, rfl, _⟩ := h
    rfl
  · obtain ⟨d, a, b, kvs, qd, ot, t, u, rfl, hd, ho, ha, hb, mt, mu, k⟩ := h
    have S0 : L2.Slot X 0 "hours" := hh.slot 0 rfl (by first | exact .inl rfl | exact .inr rfl) (by decide) (by decide)
    have S1 : L2.Slot X 1 "telling" := hh.slot 1 rfl (by first | exact .inl rfl | exact .inr rfl) (by decide) (by decide)
    have S2 : L2.Slot X 2 "later" := hh.slot 2 rfl (by first | exact .inl rfl | exact .inr rfl) (by decide) (by decide)
    have hu := hu_of hh.room
    refine ⟨_, (J.pss_one (J.ps_ret (J.pe_and (J.pe_cmpR J.op_eq (J.pe_ix J.ix_tup (J.rd S1) J.pe_int J.ix_con) (J.pe_ix J.ix_tup (J.rd S2) J.pe_int J.ix_con) (L2.nomark _)) (J.pe_one (J.pe_cmpR J.op_lt (J.dget hu (J.rd S0) (J.rd S1) J.ix_name) (J.dget hu (J.rd S0) (J.rd S2) J.ix_name) (L2.nomark _)))))), ?_⟩
    have da := DGet.t (k := tkK t) hd ha
    have db := DGet.t (k := tkK u) hd hb
    rw [ho t, if_pos mt] at da
    rw [ho u, if_pos mu] at db
    unfold leadB at k
    refine ⟨_, rfl, a, _, _, _, rfl, rfl, SqT.of ha, rfl, _, rfl, b, _, _, _, rfl, rfl, SqT.of hb, rfl, rfl, _, rfl, ite2 (fun yes => ?_) (fun no => ?_)⟩
    · rw [decide_eq_true (V.str.inj (of_decide_eq_true yes)), Bool.true_and] at k
      exact ⟨_, rfl, _, rfl, d, _, rfl, da, _, rfl, _, rfl, d, _, rfl, db, _, _, rfl, rfl, k⟩
    · rw [decide_eq_false (fun e => no (decide_eq_true (congrArg V.str e))), Bool.false_and] at k
      exact k
theorem sc_hours_of_tellings : FnScope ["book", "talks", "hours", "telling"] ["book"] (defScope s_hours_of_tellings) := ⟨rfl, rfl, rfl, by decide +kernel, rfl, by decide +kernel, by decide +kernel⟩
theorem ok_hot {f : Addr} {fd : FuncData} (D : Df K mg "hours_of_tellings" s_hours_of_tellings ["book"] f fd) (T : Txt K mg kw C) (G_talks : Md P w K mg base 1 C "talks" (spTell1 C fun _ _ t _ => t)) (G_tellings : Md P w K mg base 1 C "tellings" (spTellings C)) : Gd P w K mg base 2 "hours_of_tellings" (spHot C) := by
  refine J.def_ok D sc_hours_of_tellings (fun vs H Q E h => ?_) (fun X H vs Q E hh h => ?_)
  · obtain ⟨x, p, s, t, y, ps, ss, ts, ys, qd, rfl, _⟩ := h
    rfl
  · obtain ⟨x, p, s, t, y, ps, ss, ts, ys, qd, rfl, bk, tl, qs, qk, k⟩ := h
    have S0 : L2.Slot X 0 "book" := hh.slot 0 rfl (by first | exact .inl rfl | exact .inr rfl) (by decide) (by decide)
    have S1 : L2.Slot X 1 "talks" := hh.slot 1 rfl (by first | exact .inl rfl | exact .inr rfl) (by decide) (by decide)
    have S2 : L2.Slot X 2 "hours" := hh.slot 2 rfl (by first | exact .inl rfl | exact .inr rfl) (by decide) (by decide)
    have S3 : L2.Slot X 3 "telling" := hh.slot 3 rfl (by first | exact .inl rfl | exact .inr rfl) (by decide) (by decide)
    have M_talks := hh.met G_talks (by decide)
    have M_tellings := hh.met G_tellings (by decide)
    have hu := hu_of hh.room
    have hsz : sizeLine = 16777216 := sizeLine_eq
    obtain ⟨⟨dx, hx⟩, hp, hs, ht, hy⟩ := id bk
    refine ⟨_, (J.pss_cons (J.set S1 hh.nd (J.met0 M_talks (J.rd S0) rfl))
 (J.pss_cons (J.set S2 hh.nd J.dnewT)
 (J.pss_cons (J.ps_for hh.own hh.calm (J.pi_list (J.met0 M_tellings (J.rd S0) rfl)) (J.tgt S3 hh.nd)
 (J.pss_one (J.dput hu (J.rd S2) (J.rd S3) (J.pe_ix J.ix_tup (J.pe_ix J.ix_list (J.rd S1) (J.pe_ix J.ix_tup (J.rd S3) J.pe_int J.ix_con) J.ix_sub) J.pe_int J.ix_con))))
 (J.pss_one (J.ps_ret (J.rd S2)))))), ?_⟩
    refine ⟨_, rfl, x, dx, _, rfl, hx, fld_no _ _ _ _ (by decide +kernel) (by decide +kernel) (by decide +kernel) (by decide +kernel), x, p, s, t, y, ts, rfl, ⟨dx, hx⟩, ht, fun tb htb => ?_⟩
    have s1 := Same.upd (o := .lst ts) htb
    have htb1 : upd H tb (.lst ts) tb = some (.lst ts) := upd_same
    generalize upd H tb (.lst ts) = H1 at s1 htb1
    intro d nd
    have s2 := Same.upd (o := .dT []) nd
    have hd2 : upd H1 d (.dT []) d = some (.dT []) := upd_same
    generalize upd H1 d (.dT []) = H2 at s2 hd2
    have s02 := s1.trans s2
    have hdH : H d = none := s1.free nd
    refine ⟨_, rfl, x, dx, _, rfl, s02 _ _ hx, fld_no _ _ _ _ (by decide +kernel) (by decide +kernel) (by decide +kernel) (by decide +kernel), x, p, s, t, y, ps, ss, ts, ys, qtd qd, rfl, bk.mono s02, qtls (qs.mono (TalkQ.mono (Tk.of s02))), tl, fun l us H3 s3 ln hl tu => ?_⟩
    have s03 := s02.trans s3
    have s13 := s2.trans s3
    have ul : us.length ≤ 240 := by
      have := tel_len (qtd qd) 0
      have := tu.1
      have := (qtls qs).1
      omega
    have mem : ∀ tk ∈ tel 0 (qtd qd), ∃ q, qd[tk.1]? = some q ∧ tk.2.1 ∈ ps ∧ tk.2.2 ∈ ps := fun tk hk => tel_in qk hk
    generalize tel 0 (qtd qd) = ks at tu k mem
    refine ⟨l, rfl, ⟨_, SqL.of hl⟩, for_list (K := X.K) (a := l) (xs := us) (HtInv x tb d H3 qd ks) ⟨none, [], rfl, fun b o e _ => e, s3 _ _ hd2, Nat.le_refl 0, fun t ht => by cases ht⟩ ?_ ?_ ?_⟩
    · rintro i σ H4 hi ⟨e3, kvs, rfl, kp, hd, kl, sn⟩
      exact SqL.of (kp _ _ hl (ne_of_none hd2 ln).symm)
    · rintro i v σ H4 hv ⟨e3, kvs, rfl, kp, hd, kl, sn⟩
      have hil := (List.getElem?_eq_some_iff.mp hv).1
      obtain ⟨tk, htk⟩ : ∃ tk, ks[i]? = some tk := ⟨_, List.getElem?_eq_getElem (by rw [← tu.1]; exact hil)⟩
      obtain ⟨a, rfl, ha⟩ := tu.2 _ _ _ hv htk
      obtain ⟨q, hq, _, _⟩ := mem tk (List.mem_of_getElem? htk)
      obtain ⟨vq, hvq⟩ : ∃ vq, ts[tk.1]? = some vq := ⟨_, List.getElem?_eq_getElem (by rw [qs.1]; exact (List.getElem?_eq_some_iff.mp hq).1)⟩
      obtain ⟨aq, rfl, haq⟩ := qs.2 _ _ _ hvq hq
      have hd3 := s3 _ _ hd2
      have ha4 := kp _ _ ha (fun e => by rw [e, hd3] at ha; cases ha)
      have haq4 := kp _ _ (s03 _ _ haq) (ne_of_none haq hdH)
      have htb4 := kp _ _ (s13 _ _ htb1) (ne_of_none htb1 nd)
      have lk : kvs.length < sizeLine := by omega
      have eh := hourAt_at hq
      refine ⟨_, rfl, _, rfl, a, _, _, _, rfl, rfl, SqT.of ha4, rfl, tb, _, _, _, rfl, rfl, SqL.of htb4, atI_nat hvq, aq, _, _, _, rfl, rfl, SqT.of haq4, rfl, _, rfl, _, rfl, d, _, rfl, DPut.t (k := tkK tk) hd ha4 lk, _, _, rfl, (fun b o e n' => by rw [upd_ne n']; exact kp b o e n'), upd_same, Nat.le_trans (length_putK _ _ _) (by omega), fun u hu => ?_⟩
      rw [valV_put]
      by_cases e : u = tk
      · rw [if_pos (by rw [e]), e, eh]
      · rw [if_neg (fun q => e (tkK_inj q))]
        exact sn u ((mem_take1 htk hu).resolve_right e)
    · rintro σ H4 ⟨e3, kvs, rfl, kp, hd, kl, sn⟩
      rw [tu.1, List.take_length] at sn
      exact ⟨_, rfl, k d kvs H4 (fun b o e => kp _ _ (s03 _ _ e) (ne_of_none e hdH)) hdH hd sn⟩
theorem sc_hours_of_open : FnScope ["book", "hours"] ["book"] (defScope s_hours_of_open) := ⟨rfl, rfl, rfl, by decide +kernel, rfl, by decide +kernel, by decide +kernel⟩
theorem ok_hoo {f : Addr} {fd : FuncData} (D : Df K mg "hours_of_open" s_hours_of_open ["book"] f fd) (T : Txt K mg kw C) (G_hours_of_tellings : Gd P w K mg base 2 "hours_of_tellings" (spHot C)) (G_open_tellings : Gd P w K mg base 4 "open_tellings" (spOpenT C)) : Gd P w K mg base 5 "hours_of_open" (spHoo C) := by
  refine J.def_ok D sc_hours_of_open (fun vs H Q E h => ?_) (fun X H vs Q E hh h => ?_)
  · obtain ⟨x, p, s, t, y, ps, ss, ts, ys, qd, sd, rfl, _⟩ := h
    rfl
  · obtain ⟨x, p, s, t, y, ps, ss, ts, ys, qd, sd, rfl, bk, pl, tl, qs, qk, sy, l60, k⟩ := h
    have S0 : L2.Slot X 0 "book" := hh.slot 0 rfl (by first | exact .inl rfl | exact .inr rfl) (by decide) (by decide)
    have S1 : L2.Slot X 1 "hours" := hh.slot 1 rfl (by first | exact .inl rfl | exact .inr rfl) (by decide) (by decide)
    have B_dict : Bt X "dict" := hh.bt T.b_dict rfl (by decide) (by decide)
    have C_hours_of_tellings := hh.cal G_hours_of_tellings rfl (by first | decide | exact Nat.le_refl _) (by decide)
    have C_open_tellings := hh.cal G_open_tellings rfl (by first | decide | exact Nat.le_refl _) (by decide)
    have hu := hu_of hh.room
    have hsz : sizeLine = 16777216 := sizeLine_eq
    refine ⟨_, (J.pss_cons (J.set S1 hh.nd (J.cal C_hours_of_tellings (J.pa_c (J.rd S0) J.pa_nil)))
 (J.pss_one (J.ps_ret (J.bltT B_dict (J.call_dict_pairsT (L2.hu2_of hh.room) hh.calm) L2.bb_dict (J.pa_c (J.lcG (sc := L2.defScope s_hours_of_open) (N := ["book", "hours"]) (is := [1]) (xs := ["telling"]) (ns := ["hours"]) hh.calm (J.pi_list (J.cal C_open_tellings (J.pa_c (J.rd S0) J.pa_nil))) ⟨rfl, by decide +kernel, by decide +kernel, by decide +kernel, rfl, by decide +kernel⟩ (fun _ _ _ _ _ => (J.lct (i := 0) (by decide +kernel) rfl rfl)) (fun _ _ _ _ _ => J.pts_nil) (fun _ _ _ _ _ => (J.pe_tup (J.pa_c (J.lcv (i := 0) rfl rfl (by decide) (by decide)) (J.pa_c (J.dget hu (J.lcf (i := 1) rfl rfl (by decide) (by decide)) (J.lcv (i := 0) rfl rfl (by decide) (by decide)) J.ix_name) J.pa_nil)))) hh.hsc hh.hN) J.pa_nil))))), ?_⟩
    refine ⟨_, rfl, x, p, s, t, y, ps, ss, ts, ys, qd, rfl, bk, tl, qs, qk, fun d kvs H1 s1 nd hd ht => ?_⟩
    refine ⟨_, rfl, x, p, s, t, y, ps, ss, ts, ys, qd, sd, rfl, bk.mono s1, pl, tl, qs.mono (TalkQ.mono (Tk.of s1)), qk, sy.mono (Tk.of s1), l60, fun l us H2 s2 ln hl tu => ?_⟩
    have ul : us.length ≤ 240 := by
      have := tel_len (qtd qd) 0
      have := tu.1
      have := (qtls qs).1
      have := List.length_filter_le (openT qd sd) (tel 0 (qtd qd))
      omega
    have om : ∀ t ∈ (tel 0 (qtd qd)).filter (openT qd sd), t ∈ tel 0 (qtd qd) := fun t ht => (List.mem_filter.mp ht).1
    generalize (tel 0 (qtd qd)).filter (openT qd sd) = ot at tu k om
    refine ⟨l, rfl, ⟨_, SqL.of hl⟩, lcN_list (fun j H v => ∃ (u : TK) (a b : Addr), ot[j]? = some u ∧ v = .ref a ∧ H a = some (.tup [.ref b, .int (hourAt qd u.1)]) ∧ TelV' H b u) (fun _ _ _ _ tk ⟨u, a, b, e, ev, ha, hb⟩ => ⟨u, a, b, e, ev, tk _ _ ha, tk _ _ hb⟩) (SqL.of hl) (by omega) ?_ ?_⟩
    · intro i v H3 K1 hv s3 k1
      obtain ⟨u, hu⟩ : ∃ u, ot[i]? = some u := ⟨_, List.getElem?_eq_getElem (by rw [← tu.1]; exact (List.getElem?_eq_some_iff.mp hv).1)⟩
      obtain ⟨b, rfl, hb⟩ := tu.2 _ _ _ hv hu
      have hb3 := s3 _ _ hb
      have dg := DGet.t (k := tkK u) (s3 _ _ (s2 _ _ hd)) hb3
      rw [ht u (om u (List.mem_of_getElem? hu))] at dg
      exact ⟨_, rfl, _, rfl, _, rfl, d, _, rfl, dg, by show 2 ≤ sizeLine; decide, fun t2 nt2 => k1 _ _ (Same.upd nt2) ⟨u, t2, b, hu, rfl, upd_same, Same.upd nt2 _ _ hb3⟩⟩
    · intro q1 zs H3 nq1 s3 hq1 zl zr
      refine ⟨q1, zs, ot.map fun t => (tkK t, V.int (hourAt qd t.1)), rfl, SqL.of hq1, by rw [zl, tu.1, List.length_map], fun i v kv hv hkv => ?_, fun e ne => ?_⟩
      · obtain ⟨u, a, b, hu, rfl, ha, hb⟩ := zr i v hv
        rw [List.getElem?_map, hu] at hkv
        cases hkv
        exact ⟨a, b, rfl, ha, hb⟩
      · have s03 := (s1.trans s2).trans s3
        exact k e _ _ (s03.trans (Same.upd ne)) (s03.free ne) upd_same (hoD_merge qd ot [] [] fun t => by rw [if_neg (fun h => by cases h)]; rfl)
end
/-! ### is_line -/
def chainB (qd : List QD) (sm : List TK) : Bool := (List.range (sm.length - 1)).all fun k => match sm[k]?, sm[k + 1]? with
  | some a, some b => leadB qd a b
  | _, _ => false
def lineB (F : FH) (qd : List QD) (ot : List TK) (sm : List TK) (p : Str) (h : Int) : Bool := match sm.head?, sm.getLast? with
  | some a, some b => (sm.all fun t => decide (t ∈ ot)) && (sawB F a.2.1 (hourAt qd a.1) && (chainB qd sm && (decide (b.2.2 = p) && decide (hourAt qd b.1 ≤ h))))
  | _, _ => false
theorem atI_last {α : Type} {xs : List α} (h : 1 ≤ xs.length) : atI xs (-1) = xs[xs.length - 1]? := by
  have e : ixN xs.length (-1) = some (xs.length - 1) := by
    unfold ixN
    rw [if_neg (by decide), if_pos (by omega)]
    congr 1
    omega
  unfold atI
  rw [e]
  rfl
inductive LineP (C : Addr) (vs : List V) (H : Hp) (Q : VK) : Prop
  | mk (x p s t y : Addr) (ps : List Str) (ss ts ys : List V) (sg : List GD) (qd : List QD) (sd : List SD) (so : Addr) (us : List V) (sm : List TK) (z : Str) (h : Int) (e : vs = [.ref x, .ref so, .str z, .int h]) (bk : Bk C H x p s t y ps ss ts ys) (pl : ps.length ≤ 24) (sl : ss.length ≤ 24) (tl : ts.length ≤ 120) (gs : Lz SightD H ss sg) (gp : ∀ d ∈ sg, d.1 ∈ ps) (qs : Lz TalkQ H ts qd) (qk : ∀ d ∈ qd, QdOk ps d) (sy : Sys H ys sd) (l : ys.length ≤ 60) (hso : H so = some (.lst us)) (tu : TelL H us sm) (ul : us.length ≤ 100)
      (k : ∀ H', Same H H' → Q (.bl (lineB (seenF (sg.filter (openS sd))) qd ((tel 0 (qtd qd)).filter (openT qd sd)) sm z h)) H')
def spLine (C : Addr) : Sp := fun vs H Q _ => LineP C vs H Q
section
variable {P : Program} {w : World} {K : PySem.W.Frag} {mg : Str → Option Value} {base : Heap} {kw C : Addr}
theorem sc_is_line : FnScope ["book", "some", "person", "hour", "hours", "first", "last"] ["book", "some", "person", "hour"] (defScope s_is_line) := ⟨rfl, rfl, rfl, by decide +kernel, rfl, by decide +kernel, by decide +kernel⟩
theorem ok_line {f : Addr} {fd : FuncData} (D : Df K mg "is_line" s_is_line ["book", "some", "person", "hour"] f fd) (T : Txt K mg kw C) (G_hours_of_open : Gd P w K mg base 5 "hours_of_open" (spHoo C)) (G_seen_hours : Gd P w K mg base 5 "seen_hours" (spSeen C)) (G_saw_ahead_of : Gd P w K mg base 1 "saw_ahead_of" spSaw) (G_leads_to : Gd P w K mg base 1 "leads_to" spLead) : Gd P w K mg base 6 "is_line" (spLine C) := by
  refine J.def_ok D sc_is_line (fun vs H Q E h => ?_) (fun X H vs Q E hh h => ?_)
  · obtain ⟨x, p, s, t, y, ps, ss, ts, ys, sg, qd, sd, so, us, sm, z, h, rfl, _⟩ := h
    rfl
  · obtain ⟨x, p, s, t, y, ps, ss, ts, ys, sg, qd, sd, so, us, sm, z, h, rfl, bk, pl, sl, tl, gs, gp, qs, qk, sy, l60, hso, tu, ul, k⟩ := h
    have S0 : L2.Slot X 0 "book" := hh.slot 0 rfl (by first | exact .inl rfl | exact .inr rfl) (by decide) (by decide)
    have S1 : L2.Slot X 1 "some" := hh.slot 1 rfl (by first | exact .inl rfl | exact .inr rfl) (by decide) (by decide)
    have S2 : L2.Slot X 2 "person" := hh.slot 2 rfl (by first | exact .inl rfl | exact .inr rfl) (by decide) (by decide)
    have S3 : L2.Slot X 3 "hour" := hh.slot 3 rfl (by first | exact .inl rfl | exact .inr rfl) (by decide) (by decide)
    have S4 : L2.Slot X 4 "hours" := hh.slot 4 rfl (by first | exact .inl rfl | exact .inr rfl) (by decide) (by decide)
    have S5 : L2.Slot X 5 "first" := hh.slot 5 rfl (by first | exact .inl rfl | exact .inr rfl) (by decide) (by decide)
    have S6 : L2.Slot X 6 "last" := hh.slot 6 rfl (by first | exact .inl rfl | exact .inr rfl) (by decide) (by decide)
    have B_all : Bt X "all" := hh.bt T.b_all rfl (by decide) (by decide)
    have B_len : Bt X "len" := hh.bt T.b_len rfl (by decide) (by decide)
    have B_range : Bt X "range" := hh.bt T.b_range rfl (by decide) (by decide)
    have C_hours_of_open := hh.cal G_hours_of_open rfl (by first | decide | exact Nat.le_refl _) (by decide)
    have C_saw_ahead_of := hh.cal G_saw_ahead_of rfl (by first | decide | exact Nat.le_refl _) (by decide)
    have C_seen_hours := hh.cal G_seen_hours rfl (by first | decide | exact Nat.le_refl _) (by decide)
    have CI_leads_to := hh.cali G_leads_to (by first | decide | exact Nat.le_refl _) (by decide)
    have hu := hu_of hh.room
    have hsz : sizeLine = 16777216 := sizeLine_eq
    refine ⟨_, (J.pss_cons (J.set S4 hh.nd (J.cal C_hours_of_open (J.pa_c (J.rd S0) J.pa_nil)))
 (J.pss_cons (J.ps_if (J.pw_pt (J.pw_or (J.pt_cmpR (J.op_eqLL hu) (J.rd S1) (J.pe_lst J.pa_nil) (L2.nomark _)) (J.pw_or1 (J.pt_not (J.pt_call (J.blt B_all (J.call_allB hh.calm) L2.bb_all (J.pa_c (J.lcG (sc := L2.defScope s_is_line) (N := ["book", "some", "person", "hour", "hours", "first", "last"]) (is := [4]) (xs := ["telling"]) (ns := ["hours"]) hh.calm (J.pi_list (J.rd S1)) ⟨rfl, by decide +kernel, by decide +kernel, by decide +kernel, rfl, by decide +kernel⟩ (fun _ _ _ _ _ => (J.lct (i := 0) (by decide +kernel) rfl rfl)) (fun _ _ _ _ _ => J.pts_nil) (fun _ _ _ _ _ => (J.pe_din hu (J.lcv (i := 0) rfl rfl (by decide) (by decide)) (J.lcf (i := 1) rfl rfl (by decide) (by decide)))) hh.hsc hh.hN) J.pa_nil)))))))
 (J.pss_one (J.ps_ret J.pe_bl))
 J.pss_nil)
 (J.pss_cons (J.set S5 hh.nd (J.pe_ix J.ix_list (J.rd S1) J.pe_int J.ix_con))
 (J.pss_cons (J.set S6 hh.nd (J.pe_ix J.ix_list (J.rd S1) (J.pe_un J.un_neg J.pe_int) J.ix_un))
 (J.pss_cons (J.ps_if (J.pt_not (J.pt_call (J.cal C_saw_ahead_of (J.pa_c (J.cal C_seen_hours (J.pa_c (J.rd S0) J.pa_nil)) (J.pa_c (J.pe_ix J.ix_tup (J.rd S5) J.pe_int J.ix_con) (J.pa_c (J.dget hu (J.rd S4) (J.rd S5) J.ix_name) J.pa_nil))))))
 (J.pss_one (J.ps_ret J.pe_bl))
 J.pss_nil)
 (J.pss_cons (J.ps_if (J.pt_not (J.pt_call (J.blt B_all (J.call_allB hh.calm) L2.bb_all (J.pa_c (J.lcG (sc := L2.defScope s_is_line) (N := ["book", "some", "person", "hour", "hours", "first", "last"]) (is := [1, 4]) (xs := ["k"]) (ns := ["some", "hours"]) hh.calm (J.pi_range1 B_range (J.pa_c (J.pe_op J.op_sub (J.blt B_len J.call_len_seq L2.bb_len (J.pa_c (J.rd S1) J.pa_nil)) J.pe_int) J.pa_nil)) ⟨rfl, by decide +kernel, by decide +kernel, by decide +kernel, rfl, by decide +kernel⟩ (fun _ _ _ _ _ => (J.lct (i := 0) (by decide +kernel) rfl rfl)) (fun _ _ _ _ _ => J.pts_nil) (fun _ _ _ _ _ => (J.cal (CI_leads_to.lg rfl) (J.pa_c (J.lcf (i := 2) rfl rfl (by decide) (by decide)) (J.pa_c (J.pe_ix J.ix_listG (J.lcf (i := 1) rfl rfl (by decide) (by decide)) (J.lcv (i := 0) rfl rfl (by decide) (by decide)) J.ix_name) (J.pa_c (J.pe_ix J.ix_listG (J.lcf (i := 1) rfl rfl (by decide) (by decide)) (J.pe_op J.op_add (J.lcv (i := 0) rfl rfl (by decide) (by decide)) J.pe_int) J.ix_op) J.pa_nil))))) hh.hsc hh.hN) J.pa_nil))))
 (J.pss_one (J.ps_ret J.pe_bl))
 J.pss_nil)
 (J.pss_one (J.ps_ret (J.pe_and (J.pe_cmpR J.op_eq (J.pe_ix J.ix_tup (J.rd S6) J.pe_int J.ix_con) (J.rd S2) (L2.nomark _)) (J.pe_one (J.pe_cmpR J.op_le (J.dget hu (J.rd S4) (J.rd S6) J.ix_name) (J.rd S3) (L2.nomark _)))))))))))), ?_⟩
    refine ⟨_, rfl, x, p, s, t, y, ps, ss, ts, ys, qd, sd, rfl, bk, pl, tl, qs, qk, sy, l60, fun d kvs H1 s1 nd hd ho => ?_⟩
    generalize (tel 0 (qtd qd)).filter (openT qd sd) = ot at ho k
    generalize hF : seenF (sg.filter (openS sd)) = F at k
    dsimp only
    have ml := tu.1
    cases sm with
    | nil =>
      have ue : us = [] := List.eq_nil_of_length_eq_zero ml
      subst ue
      refine ⟨_, rfl, by show 0 ≤ sizeLine; decide, fun e0 n0 => .same so e0 [] [] [] rfl rfl (SqL.of (Same.upd n0 _ _ (s1 _ _ hso))) (SqL.of upd_same) rfl rfl (fun i u v c hu => by cases hu) ⟨_, rfl, iteP rfl (iteT (k _ (s1.trans (Same.upd n0))))⟩⟩
    | cons a0 sm' =>
      have ul1 : us.length = sm'.length + 1 := ml
      obtain ⟨v0, hv0⟩ : ∃ v0, us[0]? = some v0 := ⟨_, List.getElem?_eq_getElem (by omega)⟩
      obtain ⟨vl, hvl⟩ : ∃ vl, us[us.length - 1]? = some vl := ⟨_, List.getElem?_eq_getElem (by omega)⟩
      obtain ⟨b0, hb0⟩ : ∃ b0, (a0 :: sm')[us.length - 1]? = some b0 := ⟨_, List.getElem?_eq_getElem (by show _ < sm'.length + 1; omega)⟩
      obtain ⟨a, rfl, ha⟩ := tu.2 0 v0 a0 hv0 rfl
      obtain ⟨al, rfl, hal⟩ := tu.2 _ vl b0 hvl hb0
      have gl : (a0 :: sm').getLast? = some b0 := by
        rw [List.getLast?_eq_getElem?, ← hb0]
        congr 1
        show sm'.length + 1 - 1 = _
        omega
      have k' : ∀ H', Same H H' → Q (.bl (((a0 :: sm').all fun t => decide (t ∈ ot)) && (sawB F a0.2.1 (hourAt qd a0.1) && (chainB qd (a0 :: sm') && (decide (b0.2.2 = z) && decide (hourAt qd b0.1 ≤ h)))))) H' := fun H' s' => by
        have := k H' s'
        unfold lineB at this
        rw [gl] at this
        exact this
      clear k gl
      generalize hsm : a0 :: sm' = sm at *
      have hm0 : sm[0]? = some a0 := by rw [← hsm]; rfl
      clear hsm
      have at0 : atI us 0 = some (.ref a) := atI_nat (j := 0) hv0
      have atl : atI us (-1) = some (.ref al) := by rw [atI_last (by omega)]; exact hvl
      refine ⟨_, rfl, by show 0 ≤ sizeLine; decide, fun e0 n0 => .other so e0 us [] rfl rfl (SqL.of (Same.upd n0 _ _ (s1 _ _ hso))) (SqL.of upd_same) (by show us.length ≠ 0; omega) ⟨_, rfl, iteN Bool.false_ne_true ?_⟩⟩
      have s2 := s1.trans (Same.upd (o := .lst []) n0)
      have hd2 := Same.upd (o := .lst []) n0 _ _ hd
      generalize upd H1 e0 (.lst []) = H2 at s2 hd2
      clear s1 hd n0 nd
      have hso2 := s2 _ _ hso
      refine ⟨_, rfl, so, rfl, ⟨_, SqL.of hso2⟩, lcG_list (xs := us) (atP sm fun _ => true) (atF sm fun t => .bl (decide (t ∈ ot))) (SqL.of hso2) (by omega) ?_ ?_⟩
      · intro i os v H3 K1 K2 hv hos s3 k1 k2
        obtain ⟨tk, htk⟩ : ∃ tk, sm[i]? = some tk := ⟨_, List.getElem?_eq_getElem (by rw [← ml]; exact (List.getElem?_eq_some_iff.mp hv).1)⟩
        obtain ⟨b, rfl, hb⟩ := tu.2 _ _ _ hv htk
        rw [atP_at htk, atF_at htk] at k1
        have dg := DGet.t (k := tkK tk) (s3 _ _ hd2) (s3 _ _ (s2 _ _ hb))
        rw [ho tk] at dg
        have ei : (if tk ∈ ot then some (V.int (hourAt qd tk.1)) else none).isSome = decide (tk ∈ ot) := by
          by_cases m : tk ∈ ot
          · rw [if_pos m, decide_eq_true m]
            rfl
          · rw [if_neg m, decide_eq_false m]
            rfl
        match os, hos with
        | [o1], _ =>
          refine ⟨⟨[_], rfl, rfl⟩, truT ⟨_, rfl, _, rfl, d, _, rfl, dg, ?_⟩⟩
          rw [ei]
          exact k1 rfl H3 (Same.refl _)
      · intro l1 H3 n1 s3 hl1
        rw [ml, range_pf (fun _ => true) (fun t : TK => V.bl (decide (t ∈ ot))) sm, List.filter_eq_self.mpr fun _ _ => rfl] at hl1
        have eb : (sm.map fun t => V.bl (decide (t ∈ ot))) = (sm.map fun t => decide (t ∈ ot)).map V.bl := by
          rw [List.map_map]
          rfl
        rw [eb] at hl1
        have s03 := s2.trans s3
        have hd3 := s3 _ _ hd2
        have hso3 := s3 _ _ hso2
        have ea : (sm.map fun t => decide (t ∈ ot)).all id = sm.all fun t => decide (t ∈ ot) := by
          rw [List.all_map]
          rfl
        refine ⟨l1, _, rfl, SqL.of hl1, _, rfl, ite2 (fun no => ?_) (fun yes => ?_)⟩
        · rw [ea, Bool.not_eq_true'] at no
          have := k' H3 s03
          rw [no, Bool.false_and] at this
          exact this
        · rw [ea, Bool.not_eq_true, Bool.not_eq_false'] at yes
          have min' : ∀ tk ∈ sm, tk ∈ ot := fun tk hk => of_decide_eq_true (List.all_eq_true.mp yes tk hk)
          rw [yes] at k'
          have d0 := DGet.t (k := tkK a0) hd3 (s03 _ _ ha)
          rw [ho a0, if_pos (min' a0 (List.mem_of_getElem? hm0))] at d0
          clear eb ea
          refine ⟨_, rfl, so, _, _, _, rfl, rfl, SqL.of hso3, at0, ?_⟩
          refine ⟨_, rfl, 1, rfl, so, _, _, _, rfl, rfl, SqL.of hso3, atl, ?_⟩
          refine ⟨_, rfl, x, p, s, t, y, ps, ss, ts, ys, sg, sd, rfl, bk.mono s03, pl, sl, gs.mono (SightD.mono (Tk.of s03)), gp, sy.mono (Tk.of s03), l60, fun e kvs2 H4 s4 ne he sn => ?_⟩
          have s04 := s03.trans s4
          have hd4 := s4 _ _ hd3
          have hso4 := s4 _ _ hso3
          have d04 := DGet.t (k := tkK a0) hd4 (s04 _ _ ha)
          rw [ho a0, if_pos (min' a0 (List.mem_of_getElem? hm0))] at d04
          rw [hF] at sn
          refine ⟨_, rfl, a, _, _, _, rfl, rfl, SqT.of (s04 _ _ ha), rfl, _, rfl, _, rfl, d, _, rfl, d04, e, kvs2, F, a0.2.1, hourAt qd a0.1, rfl, he, sn, _, rfl, ite2 (fun no => ?_) (fun yes2 => ?_)⟩
          · rw [Bool.not_eq_true'] at no
            have := k' H4 s04
            rw [no, Bool.false_and, Bool.true_and] at this
            exact this
          · rw [Bool.not_eq_true, Bool.not_eq_false'] at yes2
            rw [yes2, Bool.true_and, Bool.true_and] at k'
            refine ⟨_, rfl, so, _, rfl, .inl (SqL.of hso4), _, _, rfl, rfl, ((us.length : Int) - 1), rfl, by omega, by omega, lcG_range (lo := 0) (N := ((us.length : Int) - 1).toNat) (fun _ => true) (fun k => V.bl (match sm[k]?, sm[k + 1]? with
              | some a, some b => leadB qd a b
              | _, _ => false)) (by omega) ?_ ?_⟩
            · intro i os H5 K1 K2 hi hos s5 k1 k2
              have hi1 : i + 1 < us.length := by omega
              obtain ⟨tk, htk⟩ : ∃ tk, sm[i]? = some tk := ⟨_, List.getElem?_eq_getElem (by rw [← ml]; omega)⟩
              obtain ⟨tj, htj⟩ : ∃ tj, sm[i + 1]? = some tj := ⟨_, List.getElem?_eq_getElem (by rw [← ml]; omega)⟩
              obtain ⟨vi, hvi⟩ : ∃ vi, us[i]? = some vi := ⟨_, List.getElem?_eq_getElem (by omega)⟩
              obtain ⟨vj, hvj⟩ : ∃ vj, us[i + 1]? = some vj := ⟨_, List.getElem?_eq_getElem hi1⟩
              obtain ⟨bi, rfl, hbi⟩ := tu.2 _ _ _ hvi htk
              obtain ⟨bj, rfl, hbj⟩ := tu.2 _ _ _ hvj htj
              rw [htk, htj] at k1
              have ai : atI us ((0 : Int) + (i : Int)) = some (.ref bi) := by rw [Int.zero_add]; exact atI_nat hvi
              have aj : atI us ((0 : Int) + (i : Int) + 1) = some (.ref bj) := by
                rw [Int.zero_add, show ((i : Int) + 1) = ((i + 1 : Nat) : Int) by omega]
                exact atI_nat hvj
              have hso5 := s5 _ _ hso4
              have s05 := s04.trans s5
              match os, hos with
              | [o1], _ => exact ⟨⟨[_], rfl, rfl⟩, truT ⟨_, rfl, _, rfl, _, rfl, so, _, _, _, rfl, rfl, SqL.of hso5, ai, _, rfl, _, rfl, _, _, rfl, rfl, so, _, _, _, rfl, rfl, SqL.of hso5, aj, d, bi, bj, kvs, qd, ot, tk, tj, rfl, s5 _ _ hd4, ho, s05 _ _ hbi, s05 _ _ hbj, min' tk (List.mem_of_getElem? htk), min' tj (List.mem_of_getElem? htj), k1 rfl H5 (Same.refl _)⟩⟩
            · intro l2 H5 n2 s5 hl2
              have s05 := s04.trans s5
              have hd5 := s5 _ _ hd4
              rw [List.filter_eq_self.mpr fun _ _ => rfl] at hl2
              have eN : ((us.length : Int) - 1).toNat = sm.length - 1 := by rw [← ml]; omega
              have eb : ((List.range ((us.length : Int) - 1).toNat).map fun k => V.bl (match sm[k]?, sm[k + 1]? with
                  | some a, some b => leadB qd a b
                  | _, _ => false)) = ((List.range (sm.length - 1)).map fun k => (match sm[k]?, sm[k + 1]? with
                  | some a, some b => leadB qd a b
                  | _, _ => false)).map V.bl := by
                rw [eN, List.map_map]
                rfl
              rw [eb] at hl2
              have ea : ((List.range (sm.length - 1)).map fun k => (match sm[k]?, sm[k + 1]? with
                  | some a, some b => leadB qd a b
                  | _, _ => false)).all id = chainB qd sm := by
                rw [List.all_map]
                rfl
              refine ⟨l2, _, rfl, SqL.of hl2, _, rfl, ite2 (fun no => ?_) (fun yes3 => ?_)⟩
              · rw [ea, Bool.not_eq_true'] at no
                have := k' H5 s05
                rw [no, Bool.false_and] at this
                exact this
              · rw [ea, Bool.not_eq_true, Bool.not_eq_false'] at yes3
                rw [yes3, Bool.true_and] at k'
                have dl := DGet.t (k := tkK b0) hd5 (s05 _ _ hal)
                rw [ho b0, if_pos (min' b0 (List.mem_of_getElem? hb0))] at dl
                refine ⟨_, rfl, al, _, _, _, rfl, rfl, SqT.of (s05 _ _ hal), rfl, _, rfl, rfl, _, rfl, ite2 (fun yes4 => ?_) (fun no => ?_)⟩
                · rw [decide_eq_true (V.str.inj (of_decide_eq_true yes4)), Bool.true_and] at k'
                  exact ⟨_, rfl, _, rfl, d, _, rfl, dl, _, rfl, _, _, rfl, rfl, k' H5 s05⟩
                · rw [decide_eq_false (fun e => no (decide_eq_true (congrArg V.str e))), Bool.false_and] at k'
                  exact k' H5 s05
end
/-! ### the law's cells -/
inductive spCellP  (K : PySem.W.Frag) (vs : List V) (H : Hp) (Q : VK) : Prop
  | mk (sc : Addr) (ns : List Int) (k : Int) (h0 : vs = [.ref sc, .int k]) (h1 : SqL K H sc (ns.map V.int)) (h2 : 0 ≤ k) (h3 : ∀ c : Int, Q (.int c) H)
def spCell  (K : PySem.W.Frag) : Sp := fun vs H Q _ => spCellP K vs H Q
inductive spMixP  (vs : List V) (H : Hp) (Q : VK) : Prop
  | mk (c k : Int) (h0 : vs = [.int c, .int k]) (h1 : 0 ≤ k) (h2 : k ≤ 1000) (h3 : ∀ m : Int, 0 ≤ m → m < 2147483587 → Q (.int m) H)
def spMix  : Sp := fun vs H Q _ => spMixP  vs H Q
theorem emod_in (a : Int) {m : Int} (h : 0 < m) : 0 ≤ a % m ∧ a % m < m := ⟨Int.emod_nonneg _ (by omega), Int.emod_lt_of_pos _ h⟩
section
variable {P : Program} {w : World} {K : PySem.W.Frag} {mg : Str → Option Value} {base : Heap} {kw C : Addr}
theorem sc_l_cell_at : FnScope ["_law_script", "_law_k"] ["_law_script", "_law_k"] (defScope s_l_cell_at) := ⟨rfl, rfl, rfl, by decide +kernel, rfl, by decide +kernel, by decide +kernel⟩
theorem ok_cell {f : Addr} {fd : FuncData} (D : Df K mg "_law_cell_at" s_l_cell_at ["_law_script", "_law_k"] f fd) (T : Txt K mg kw C) : Gd P w K mg base 1 "_law_cell_at" (spCell K) := by
  refine J.def_ok D sc_l_cell_at (fun vs H Q E h => ?_) (fun X H vs Q E hh h => ?_)
  · obtain ⟨sc, ns, k, rfl, _⟩ := h
    rfl
  · obtain ⟨sc, ns, k, rfl, hsc, k0, q⟩ := h
    rw [← hh.fK] at hsc
    have S0 : L2.Slot X 0 "_law_script" := hh.slot 0 rfl (by first | exact .inl rfl | exact .inr rfl) (by decide) (by decide)
    have S1 : L2.Slot X 1 "_law_k" := hh.slot 1 rfl (by first | exact .inl rfl | exact .inr rfl) (by decide) (by decide)
    have B_len : Bt X "len" := hh.bt T.b_len rfl (by decide) (by decide)
    refine ⟨_, (J.pss_cons (J.ps_if (J.pt_cmpR J.op_lt (J.rd S1) (J.blt B_len J.call_len_seq L2.bb_len (J.pa_c (J.rd S0) J.pa_nil)) (L2.nomark _))
 (J.pss_one (J.ps_ret (J.pe_ix J.ix_list (J.rd S0) (J.rd S1) J.ix_name)))
 J.pss_nil)
 (J.pss_one (J.ps_ret J.pe_int))), ?_⟩
    refine ⟨_, rfl, _, rfl, sc, _, rfl, .inl hsc, _, _, rfl, rfl, _, rfl, ite2 (fun lt => ?_) (fun _ => ?_)⟩
    · rw [decide_eq_true_iff, List.length_map] at lt
      have e : ((k.toNat : Nat) : Int) = k := Int.toNat_of_nonneg k0
      have av := atI_nat (xs := ns.map V.int) (j := k.toNat) (v := V.int (ns[k.toNat]'(by omega))) (by rw [List.getElem?_map, List.getElem?_eq_getElem (by omega)]; rfl)
      rw [e] at av
      exact ⟨_, rfl, _, rfl, sc, _, _, _, rfl, rfl, hsc, av, q _⟩
    · exact q 0
theorem sc_l_mix : FnScope ["_law_cell", "_law_k", "_law_number"] ["_law_cell", "_law_k"] (defScope s_l_mix) := ⟨rfl, rfl, rfl, by decide +kernel, rfl, by decide +kernel, by decide +kernel⟩
theorem ok_mix {f : Addr} {fd : FuncData} (D : Df K mg "_law_mix" s_l_mix ["_law_cell", "_law_k"] f fd) : Gd P w K mg base 1 "_law_mix" spMix := by
  refine J.def_ok D sc_l_mix (fun vs H Q E h => ?_) (fun X H vs Q E hh h => ?_)
  · obtain ⟨c, k, rfl, _⟩ := h
    rfl
  · obtain ⟨c, k, rfl, k0, k1, q⟩ := h
    have S0 : L2.Slot X 0 "_law_cell" := hh.slot 0 rfl (by first | exact .inl rfl | exact .inr rfl) (by decide) (by decide)
    have S1 : L2.Slot X 1 "_law_k" := hh.slot 1 rfl (by first | exact .inl rfl | exact .inr rfl) (by decide) (by decide)
    have S2 : L2.Slot X 2 "_law_number" := hh.slot 2 rfl (by first | exact .inl rfl | exact .inr rfl) (by decide) (by decide)
    refine ⟨_, (J.pss_cons (J.set S2 hh.nd (J.pe_op J.op_mod (J.pe_op J.op_mul (J.pe_op J.op_add (J.pe_op J.op_add (J.pe_op J.op_add (J.pe_op J.op_mod (J.rd S0) (J.pe_op J.op_pow J.pe_int J.pe_int)) (J.pe_op J.op_mul (J.pe_op J.op_mul J.pe_int (J.rd S1)) (J.rd S1))) (J.pe_op J.op_mul (J.pe_op J.op_mul J.pe_int (J.rd S1)) (J.rd S1))) J.pe_int) J.pe_int) J.pe_int))
 (J.pss_one (J.ps_ret (J.pe_op J.op_mod (J.pe_op J.op_mul (J.rd S2) (J.rd S2)) J.pe_int)))), ?_⟩
    have p15 : (0 : Int) < 10 ^ Int.toNat 15 := by decide +kernel
    refine ⟨_, rfl, _, _, rfl, rfl, ⟨by decide, by decide, by decide⟩, _, _, rfl, rfl, p15, _, rfl, _, _, rfl, rfl, .inl ⟨by decide, by decide⟩, _, rfl, _, _, rfl, rfl, .inr ⟨by omega, by omega⟩, _, _, rfl, rfl, _, rfl, _, _, rfl, rfl, .inl ⟨by decide, by decide⟩, _, rfl, _, _, rfl, rfl, .inr ⟨by omega, by omega⟩, _, _, rfl, rfl, _, _, rfl, rfl, _, _, rfl, rfl, .inr ⟨by decide, by decide⟩, _, _, rfl, rfl, (by show (0 : Int) < 2147483629; decide), ?_⟩
    have sb := emod_in ((c % 10 ^ Int.toNat 15 + 104729 * k * k + 31 * k * k + 1) * 48271) (m := 2147483629) (by decide)
    dsimp only
    generalize (c % 10 ^ Int.toNat 15 + 104729 * k * k + 31 * k * k + 1) * 48271 % 2147483629 = S at sb
    have r := emod_in (S * S) (m := 2147483587) (by decide)
    exact ⟨_, rfl, _, rfl, _, _, rfl, rfl, .inl ⟨by omega, by omega⟩, _, _, rfl, rfl, (by show (0 : Int) < 2147483587; decide), q _ r.1 r.2⟩
end
/-! ### the law's names -/
def az : Str := "abcdefghijklmnopqrstuvwxyz"
def AzS (z : Str) : Prop := ∀ c ∈ z.cps.toList, c ∈ az.cps.toList
theorem az_sign : ∀ c ∈ az.cps.toList, signOk (.str ⟨#[c]⟩) = true := by decide +kernel
def sgns : List Str := ["j", "q", "x", "z", "jz", "qz", "xz", "zj", "zq", "zx"]
def mark (c : Nat) : Bool := c == 106 || c == 113 || c == 120 || c == 122
theorem sgns_ok : ∀ z ∈ sgns, 1 ≤ z.length ∧ z.length ≤ 2 ∧ (z.cps.toList.any mark) = true ∧ (z.cps.toList.all fun c => az.cps.toList.contains c) = true := by decide +kernel
theorem sgns_nd : sgns.Nodup := by decide +kernel
theorem kept_mark : ∀ w ∈ kept, (w.cps.toList.any mark) = false := by decide +kernel
theorem nameS_az {z : Str} (h : AzS z) (h1 : 1 ≤ z.length) (h2 : z.length ≤ 12) (hm : (z.cps.toList.any mark) = true) : nameS z = true := by
  unfold nameS
  rw [decide_eq_true (by omega), decide_eq_true (by omega), Bool.true_and, Bool.true_and, Bool.and_eq_true]
  refine ⟨?_, ?_⟩
  · rw [List.all_map, List.all_eq_true]
    intro v hv
    obtain ⟨c, hc, rfl⟩ := List.mem_map.mp hv
    exact az_sign c (h c hc)
  · cases e : inV (.str z) (kept.map V.str) with
    | false => rfl
    | true =>
      have e' : (kept.map V.str).any (fun y => eqV y (.str z)) = true := e
      rw [List.any_map, List.any_eq_true] at e'
      obtain ⟨w, hw, e2⟩ := e'
      have e3 : (w == z) = true := e2
      have e4 : w = z := eq_of_beq e3
      have ko := kept_mark w hw
      rw [e4, hm] at ko
      cases ko
theorem join_az : ∀ zs : List Str, (∀ z ∈ zs, AzS z) → AzS (Str.join "" zs)
  | [], _ => fun c hc => by
    have : c ∈ ([] : List Nat) := hc
    cases this
  | [z], h => h z (List.mem_cons_self ..)
  | z :: y :: r, h => fun c hc => by
    have e : (Str.join "" (z :: y :: r)).cps.toList = z.cps.toList ++ (Str.join "" (y :: r)).cps.toList := by
      show (z ++ "" ++ Str.join "" (y :: r)).cps.toList = _
      rw [app_cps, app_cps]
      show z.cps.toList ++ [] ++ _ = _
      rw [List.append_nil]
    rw [e] at hc
    rcases List.mem_append.mp hc with hc | hc
    · exact h z (List.mem_cons_self ..) c hc
    · exact join_az (y :: r) (fun u hu => h u (List.mem_cons_of_mem _ hu)) c hc
def letA (i : Int) : Nat := az.cps.toList.getD i.toNat 0
theorem letA_all : ∀ i : Fin 26, atI az.cps.toList ((i.val : Nat) : Int) = some (letA (i.val : Nat)) ∧ letA (i.val : Nat) ∈ az.cps.toList := by decide +kernel
theorem letA_at {i : Int} (h0 : 0 ≤ i) (h1 : i < 26) : atI az.cps.toList i = some (letA i) ∧ letA i ∈ az.cps.toList := by
  have e : ((i.toNat : Nat) : Int) = i := Int.toNat_of_nonneg h0
  have := letA_all ⟨i.toNat, by omega⟩
  rw [e] at this
  exact this
def sgnAt (i : Int) : Str := sgns.getD i.toNat ""
theorem sgn_at {i : Int} (h0 : 0 ≤ i) (h1 : i < 10) : atI (sgns.map V.str) i = some (.str (sgnAt i)) ∧ sgnAt i ∈ sgns := by
  have hi : i.toNat < sgns.length := by
    show i.toNat < 10
    omega
  have e : ((i.toNat : Nat) : Int) = i := Int.toNat_of_nonneg h0
  have g : sgns[i.toNat]? = some sgns[i.toNat] := List.getElem?_eq_getElem hi
  have d : sgnAt i = sgns[i.toNat] := by
    unfold sgnAt
    rw [List.getD_eq_getElem?_getD, g]
    rfl
  have := atI_nat (xs := sgns.map V.str) (j := i.toNat) (v := V.str sgns[i.toNat]) (by rw [List.getElem?_map, g]; rfl)
  rw [e] at this
  rw [d]
  exact ⟨this, List.getElem_mem hi⟩
theorem sgn_inj {i j : Int} (h0 : 0 ≤ i) (h1 : i < 10) (g0 : 0 ≤ j) (g1 : j < 10) (h : sgnAt i = sgnAt j) : i = j := by
  have hi : i.toNat < sgns.length := by
    show i.toNat < 10
    omega
  have hj : j.toNat < sgns.length := by
    show j.toNat < 10
    omega
  have d : ∀ {k : Int} (hk : k.toNat < sgns.length), sgnAt k = sgns[k.toNat] := fun hk => by
    unfold sgnAt
    rw [List.getD_eq_getElem?_getD, List.getElem?_eq_getElem hk]
    rfl
  rw [d hi, d hj] at h
  have := (List.getElem_inj sgns_nd).mp h
  omega
def nmOf (B : Str) (A c : Int) (k : Nat) : Str := cutS B none (some A) ++ sgnAt (((k : Int) + c) % 10) ++ cutS B (some A) none
theorem cut_az {B : Str} {lo hi : Option Int} (h : AzS B) : AzS (cutS B lo hi) := fun c hc => h c (List.mem_of_mem_drop (List.mem_of_mem_take hc))
theorem nm_ok {B : Str} {A c : Int} {k : Nat} (hB : AzS B) (hl : B.length ≤ 9) (a0 : 0 ≤ A) (a1 : A ≤ B.length) : nameS (nmOf B A c k) = true := by
  have m := emod_in ((k : Int) + c) (m := 10) (by decide)
  obtain ⟨s1, s2, s3, s4⟩ := sgns_ok _ (sgn_at m.1 m.2).2
  have aA : ((A.toNat : Nat) : Int) = A := Int.toNat_of_nonneg a0
  have l1 : (cutS B none (some A)).length = A.toNat := by
    have := cut_lo (z := B) (k := A.toNat) (by omega)
    rw [aA] at this
    rw [← len_cps, this, List.length_take, len_cps]
    omega
  have l2 : (cutS B (some A) none).length = B.length - A.toNat := by
    have := cut_hi (z := B) (k := A.toNat) (by omega)
    rw [aA] at this
    rw [← len_cps, this, List.length_drop, len_cps]
  have len : (nmOf B A c k).length = A.toNat + (sgnAt (((k : Int) + c) % 10)).length + (B.length - A.toNat) := by
    unfold nmOf
    rw [app_len, app_len, l1, l2]
  refine nameS_az (fun x hx => ?_) (by omega) (by omega) ?_
  · unfold nmOf at hx
    rw [app_cps, app_cps] at hx
    rcases List.mem_append.mp hx with hx | hx
    · rcases List.mem_append.mp hx with hx | hx
      · exact cut_az hB x hx
      · exact List.contains_iff_mem.mp (List.all_eq_true.mp s4 x hx)
    · exact cut_az hB x hx
  · unfold nmOf
    rw [app_cps, app_cps, List.any_append, List.any_append, s3, Bool.or_true, Bool.true_or]
theorem nm_ne {B : Str} {A c : Int} {i j : Nat} (hij : i < j) (hj : j < 10) : nmOf B A c i ≠ nmOf B A c j := by
  intro e
  have e1 := congrArg (fun z : Str => z.cps.toList) e
  unfold nmOf at e1
  simp only [app_cps] at e1
  have e2 := List.append_cancel_right e1
  have e3 := List.append_cancel_left e2
  have mi := emod_in ((i : Int) + c) (m := 10) (by decide)
  have mj := emod_in ((j : Int) + c) (m := 10) (by decide)
  have := sgn_inj mi.1 mi.2 mj.1 mj.2 (str_ext e3)
  omega
theorem nodup_range {f : Nat → Str} {n : Nat} (h : ∀ i j, i < j → j < n → f i ≠ f j) : ((List.range n).map f).Nodup := by
  unfold List.Nodup
  rw [List.pairwise_map]
  exact List.Pairwise.imp_of_mem (fun {a b} _ hb hab => h a b hab (List.mem_range.mp hb)) List.pairwise_lt_range
theorem ones_of : ∀ ys : List V, (∀ v ∈ ys, ∃ c ∈ az.cps.toList, v = V.str ⟨#[c]⟩) → ∃ zs : List Str, ys = zs.map V.str ∧ ∀ z ∈ zs, z.length = 1 ∧ AzS z
  | [], _ => ⟨[], rfl, fun z hz => by cases hz⟩
  | v :: r, h => by
    obtain ⟨zs, e, hz⟩ := ones_of r fun u hu => h u (List.mem_cons_of_mem _ hu)
    obtain ⟨c, hc, rfl⟩ := h v List.mem_cons_self
    refine ⟨⟨#[c]⟩ :: zs, by rw [List.map_cons, ← e], fun z hz' => ?_⟩
    rcases List.mem_cons.mp hz' with rfl | hz'
    · exact ⟨rfl, fun d hd => by
        have : d ∈ [c] := hd
        rw [List.mem_singleton.mp this]
        exact hc⟩
    · exact hz z hz'
theorem sum_ones : ∀ zs : List Str, (∀ z ∈ zs, z.length = 1) → (zs.map (·.length)).sum = zs.length
  | [], _ => rfl
  | z :: r, h => by
    rw [List.map_cons, List.sum_cons, sum_ones r fun y hy => h y (List.mem_cons_of_mem _ hy), h z List.mem_cons_self, List.length_cons]
    omega
inductive spNames4P  (vs : List V) (H : Hp) (Q : VK) : Prop
  | mk (c m : Int) (h0 : vs = [.int c, .int m]) (h1 : 1 ≤ m) (h2 : m ≤ 10) (h3 : ∀ (l : Addr) (us : List Str) (H' : Hp), Same H H' → H l = none → H' l = some (.lst (us.map V.str)) → PersOk us → us.length = m.toNat → Q (.ref l) H')
def spNames4  : Sp := fun vs H Q _ => spNames4P  vs H Q
section
variable {P : Program} {w : World} {K : PySem.W.Frag} {mg : Str → Option Value} {base : Heap} {kw C : Addr}
theorem sc_l_names : FnScope ["_law_cell", "_law_many", "_law_letters", "_law_signs", "_law_base", "_law_at"] ["_law_cell", "_law_many"] (defScope s_l_names) := ⟨rfl, rfl, rfl, by decide +kernel, rfl, by decide +kernel, by decide +kernel⟩
theorem ok_names4 {f : Addr} {fd : FuncData} (D : Df K mg "_law_names" s_l_names ["_law_cell", "_law_many"] f fd) (T : Txt K mg kw C) (G__law_mix : Gd P w K mg base 1 "_law_mix" spMix) : Gd P w K mg base 2 "_law_names" spNames4 := by
  refine J.def_ok D sc_l_names (fun vs H Q E h => ?_) (fun X H vs Q E hh h => ?_)
  · obtain ⟨c, m, rfl, _⟩ := h
    rfl
  · obtain ⟨c, m, rfl, m1, m10, k⟩ := h
    have S0 : L2.Slot X 0 "_law_cell" := hh.slot 0 rfl (by first | exact .inl rfl | exact .inr rfl) (by decide) (by decide)
    have S1 : L2.Slot X 1 "_law_many" := hh.slot 1 rfl (by first | exact .inl rfl | exact .inr rfl) (by decide) (by decide)
    have S2 : L2.Slot X 2 "_law_letters" := hh.slot 2 rfl (by first | exact .inl rfl | exact .inr rfl) (by decide) (by decide)
    have S3 : L2.Slot X 3 "_law_signs" := hh.slot 3 rfl (by first | exact .inl rfl | exact .inr rfl) (by decide) (by decide)
    have S4 : L2.Slot X 4 "_law_base" := hh.slot 4 rfl (by first | exact .inl rfl | exact .inr rfl) (by decide) (by decide)
    have S5 : L2.Slot X 5 "_law_at" := hh.slot 5 rfl (by first | exact .inl rfl | exact .inr rfl) (by decide) (by decide)
    have B_len : Bt X "len" := hh.bt T.b_len rfl (by decide) (by decide)
    have B_range : Bt X "range" := hh.bt T.b_range rfl (by decide) (by decide)
    have C__law_mix := hh.cal G__law_mix rfl (by first | decide | exact Nat.le_refl _) (by decide)
    have CI__law_mix := hh.cali G__law_mix (by first | decide | exact Nat.le_refl _) (by decide)
    have hsz : sizeLine = 16777216 := sizeLine_eq
    refine ⟨_, (J.pss_cons (J.set S2 hh.nd J.pe_str)
 (J.pss_cons (J.set S3 hh.nd (J.pe_lst (J.pa_c J.pe_str (J.pa_c J.pe_str (J.pa_c J.pe_str (J.pa_c J.pe_str (J.pa_c J.pe_str (J.pa_c J.pe_str (J.pa_c J.pe_str (J.pa_c J.pe_str (J.pa_c J.pe_str (J.pa_c J.pe_str J.pa_nil))))))))))))
 (J.pss_cons (J.set S4 hh.nd (J.bm PySem.F.plainAttrs_str PySem.F.slot_str_join PySem.F.type_str_join J.mt_join J.pe_str (J.pa_c (J.lcG (sc := L2.defScope s_l_names) (N := ["_law_cell", "_law_many", "_law_letters", "_law_signs", "_law_base", "_law_at"]) (is := [0, 2]) (xs := ["_law_k"]) (ns := ["_law_cell", "_law_letters"]) hh.calm (J.pi_range1 B_range (J.pa_c (J.pe_op J.op_mod (J.cal C__law_mix (J.pa_c (J.rd S0) (J.pa_c J.pe_int J.pa_nil))) J.pe_int) J.pa_nil)) ⟨rfl, by decide +kernel, by decide +kernel, by decide +kernel, rfl, by decide +kernel⟩ (fun _ _ _ _ _ => (J.lct (i := 0) (by decide +kernel) rfl rfl)) (fun _ _ _ _ _ => J.pts_nil) (fun _ _ _ _ _ => (J.pe_ix J.ix_str (J.lcf (i := 2) rfl rfl (by decide) (by decide)) (J.pe_op J.op_mod (J.cal (CI__law_mix.lg rfl) (J.pa_c (J.lcf (i := 1) rfl rfl (by decide) (by decide)) (J.pa_c (J.pe_op J.op_add J.pe_int (J.lcv (i := 0) rfl rfl (by decide) (by decide))) J.pa_nil))) J.pe_int) J.ix_op)) hh.hsc hh.hN) J.pa_nil)))
 (J.pss_cons (J.set S5 hh.nd (J.pe_op J.op_mod (J.cal C__law_mix (J.pa_c (J.rd S0) (J.pa_c J.pe_int J.pa_nil))) (J.pe_op J.op_add (J.blt B_len J.call_len_str L2.bb_len (J.pa_c (J.rd S4) J.pa_nil)) J.pe_int)))
 (J.pss_one (J.ps_ret (J.lcG (sc := L2.defScope s_l_names) (N := ["_law_cell", "_law_many", "_law_letters", "_law_signs", "_law_base", "_law_at"]) (is := [0, 3, 4, 5]) (xs := ["_law_k"]) (ns := ["_law_cell", "_law_signs", "_law_base", "_law_at"]) hh.calm (J.pi_range1 B_range (J.pa_c (J.rd S1) J.pa_nil)) ⟨rfl, by decide +kernel, by decide +kernel, by decide +kernel, rfl, by decide +kernel⟩ (fun _ _ _ _ _ => (J.lct (i := 0) (by decide +kernel) rfl rfl)) (fun _ _ _ _ _ => J.pts_nil) (fun _ _ _ _ _ => (J.pe_op J.op_add_str (J.pe_op J.op_add_str (J.pe_slice J.sl_str (J.lcf (i := 3) rfl rfl (by decide) (by decide)) J.po_none (J.po_some (J.lcf (i := 4) rfl rfl (by decide) (by decide)))) (J.pe_ix J.ix_listG (J.lcf (i := 2) rfl rfl (by decide) (by decide)) (J.pe_op J.op_mod (J.pe_op J.op_add (J.lcv (i := 0) rfl rfl (by decide) (by decide)) (J.lcf (i := 1) rfl rfl (by decide) (by decide))) J.pe_int) J.ix_op)) (J.pe_slice J.sl_str (J.lcf (i := 3) rfl rfl (by decide) (by decide)) (J.po_some (J.lcf (i := 4) rfl rfl (by decide) (by decide))) J.po_none))) hh.hsc hh.hN))))))), ?_⟩
    refine ⟨by show 10 ≤ sizeLine; decide, fun sl nsl => ?_⟩
    have s1 := Same.upd (o := .lst (sgns.map V.str)) nsl
    have hsl : upd H sl (.lst (sgns.map V.str)) sl = some (.lst (sgns.map V.str)) := upd_same
    generalize hH1 : upd H sl (.lst (sgns.map V.str)) = H1 at s1 hsl
    show gName 3 (.ref sl) _ (upd H sl (.lst (sgns.map V.str))) _
    rw [hH1]
    refine ⟨rfl, _, rfl, c, _, rfl, by decide, by decide, fun M M0 M1 => ?_⟩
    have mm := emod_in M (m := 10) (by decide)
    refine ⟨_, _, rfl, rfl, (by show (0 : Int) < 10; decide), ?_⟩
    dsimp only
    generalize M % 10 = N at mm
    refine ⟨N, rfl, by omega, by omega, lcN_range (lo := 0) (N := N.toNat) (fun _ _ v => ∃ c ∈ az.cps.toList, v = .str ⟨#[c]⟩) (fun _ _ _ _ _ h => h) (by omega) (fun i H2 K1 hi s2 k1 => ?_) fun D' ys H2 nD s2 hD yl yr => ?_⟩
    · refine ⟨_, rfl, _, rfl, _, rfl, _, _, rfl, rfl, c, _, rfl, by omega, by omega, fun m' m0' m1' => ?_⟩
      have p26 := emod_in m' (m := 26) (by decide)
      exact ⟨_, _, rfl, rfl, (by show (0 : Int) < 26; decide), az, _, _, rfl, rfl, (by show az.length ≤ sizeLine; decide +kernel), (letA_at p26.1 p26.2).1, k1 _ H2 (Same.refl _) ⟨_, (letA_at p26.1 p26.2).2, rfl⟩⟩
    · obtain ⟨zs, rfl, ones⟩ := ones_of ys fun v hv => by
        obtain ⟨j, hj⟩ := List.getElem?_of_mem hv
        exact yr j v hj
      rw [List.length_map] at yl
      have sl0 : (Txt.join "" zs).length = zs.length := PySem.W.KT.join_ones zs fun z hz => (ones z hz).1
      have sL : AzS (Txt.join "" zs) := by
        show AzS (Builtin.Str.glued "" zs)
        rw [StrLaws.glued_eq_join]
        exact join_az zs fun z hz => (ones z hz).2
      refine ⟨"", D', zs, rfl, rfl, SqL.of hD, ?_, ?_⟩
      · rw [sum_ones zs fun z hz => (ones z hz).1]
        have : ("" : Str).length = 0 := by decide +kernel
        rw [this]
        omega
      · generalize Txt.join "" zs = B at sl0 sL
        have bl : B.length ≤ 9 := by omega
        have s02 := s1.trans s2
        have hsl2 := s2 _ _ hsl
        clear yr ones hD sl0 yl
        refine ⟨_, rfl, c, _, rfl, by decide, by decide, fun R R0 R1 => ⟨_, rfl, B, rfl, by omega, _, _, rfl, rfl, _, _, rfl, rfl, by omega, ?_⟩⟩
        have am := emod_in R (m := (B.length : Int) + 1) (by omega)
        dsimp only
        generalize R % ((B.length : Int) + 1) = A at am
        have aA : ((A.toNat : Nat) : Int) = A := Int.toNat_of_nonneg am.1
        have c1 := cutS_length B none (some A)
        have c2 := cutS_length B (some A) none
        refine ⟨_, rfl, m, rfl, by omega, by omega, lcG_range (lo := 0) (N := m.toNat) (fun _ => true) (fun j => .str (nmOf B A c j)) (by omega) ?_ ?_⟩
        · intro i os H3 K1 K2 hi hos s3 k1 k2
          have m10' := emod_in ((i : Int) + c) (m := 10) (by decide)
          obtain ⟨sa, sm⟩ := sgn_at m10'.1 m10'.2
          obtain ⟨q1, q2, _⟩ := sgns_ok _ sm
          have sa' : atI (sgns.map V.str) ((0 + (i : Int) + c) % 10) = some (.str (sgnAt (((i : Int) + c) % 10))) := by
            rw [Int.zero_add]
            exact sa
          match os, hos with
          | [o1], _ =>
            refine ⟨⟨[_], rfl, rfl⟩, truT ⟨_, rfl, _, rfl, _, rfl, B, rfl, by omega, _, rfl, _, rfl, _, rfl, _, _, rfl, rfl, _, _, rfl, rfl, (by show (0 : Int) < 10; decide), sl, _, _, _, rfl, rfl, SqL.of (s3 _ _ hsl2), sa', _, _, rfl, rfl, by omega, _, rfl, _, rfl, _, rfl, B, rfl, by omega, _, _, rfl, rfl, ?_, k1 rfl H3 (Same.refl _)⟩⟩
            rw [app_len]
            omega
        · intro l H3 nl s3 hl
          rw [List.filter_eq_self.mpr fun _ _ => rfl] at hl
          have e : ((List.range m.toNat).map fun j => V.str (nmOf B A c j)) = ((List.range m.toNat).map (nmOf B A c)).map V.str := by
            rw [List.map_map]
            rfl
          rw [e] at hl
          refine k l _ H3 (s02.trans s3) (s02.free nl) hl ⟨by rw [List.length_map, List.length_range]; omega, by rw [List.length_map, List.length_range]; omega, nodup_range fun i j hij hj => nm_ne hij (by omega), fun z hz => ?_⟩ (by rw [List.length_map, List.length_range])
          obtain ⟨j, hj, rfl⟩ := List.mem_map.mp hz
          exact nm_ok sL bl am.1 (by omega)
end
/-! ### the law's sayings, and what it makes -/
theorem both {G A : Prop} (h : G) (k : G → A) : A := k h
theorem hrs_in {u k : Int} (u0 : 0 ≤ u) (u1 : u ≤ 1000000000000000) (k0 : 0 ≤ k) (k1 : k ≤ 60) : 0 ≤ u * k ∧ u * k ≤ 60000000000000000 :=
  ⟨Int.mul_nonneg u0 k0, Int.mul_le_mul u1 k1 k0 (by decide)⟩
inductive spSay4P  (vs : List V) (H : Hp) (Q : VK) : Prop
  | mk (c u : Int) (p q : Str) (ps : List Str) (h0 : vs = [.int c, .str p, .str q, .int u]) (h1 : 0 ≤ u) (h2 : u ≤ 1000000000000000) (h3 : p ∈ ps) (h4 : q ∈ ps) (h5 : p ≠ q) (h6 : ∀ (v : V) (d : SD) H', Same H H' → SayD H' v d → SdOk ps d → Q v H')
def spSay4  : Sp := fun vs H Q _ => spSay4P  vs H Q
section
variable {P : Program} {w : World} {K : PySem.W.Frag} {mg : Str → Option Value} {base : Heap} {kw C : Addr}
theorem sc_l_saying : FnScope ["_law_cell", "_law_one", "_law_other", "_law_unit", "_law_kind", "_law_hour_here"] ["_law_cell", "_law_one", "_law_other", "_law_unit"] (defScope s_l_saying) := ⟨rfl, rfl, rfl, by decide +kernel, rfl, by decide +kernel, by decide +kernel⟩
theorem ok_say4 {f : Addr} {fd : FuncData} (D : Df K mg "_law_saying" s_l_saying ["_law_cell", "_law_one", "_law_other", "_law_unit"] f fd) (T : Txt K mg kw C) (G__law_mix : Gd P w K mg base 1 "_law_mix" spMix) : Gd P w K mg base 2 "_law_saying" spSay4 := by
  refine J.def_ok D sc_l_saying (fun vs H Q E h => ?_) (fun X H vs Q E hh h => ?_)
  · obtain ⟨c, u, p, q, ps, rfl, _⟩ := h
    rfl
  · obtain ⟨c, u, p, q, ps, rfl, u0, u1, hp, hq, npq, k⟩ := h
    have S0 : L2.Slot X 0 "_law_cell" := hh.slot 0 rfl (by first | exact .inl rfl | exact .inr rfl) (by decide) (by decide)
    have S1 : L2.Slot X 1 "_law_one" := hh.slot 1 rfl (by first | exact .inl rfl | exact .inr rfl) (by decide) (by decide)
    have S2 : L2.Slot X 2 "_law_other" := hh.slot 2 rfl (by first | exact .inl rfl | exact .inr rfl) (by decide) (by decide)
    have S3 : L2.Slot X 3 "_law_unit" := hh.slot 3 rfl (by first | exact .inl rfl | exact .inr rfl) (by decide) (by decide)
    have S4 : L2.Slot X 4 "_law_kind" := hh.slot 4 rfl (by first | exact .inl rfl | exact .inr rfl) (by decide) (by decide)
    have S5 : L2.Slot X 5 "_law_hour_here" := hh.slot 5 rfl (by first | exact .inl rfl | exact .inr rfl) (by decide) (by decide)
    have C__law_mix := hh.cal G__law_mix rfl (by first | decide | exact Nat.le_refl _) (by decide)
    refine ⟨_, (J.pss_cons (J.set S4 hh.nd (J.pe_op J.op_mod (J.cal C__law_mix (J.pa_c (J.rd S0) (J.pa_c J.pe_int J.pa_nil))) J.pe_int))
 (J.pss_cons (J.set S5 hh.nd (J.pe_op J.op_mul (J.rd S3) (J.pe_op J.op_mod (J.cal C__law_mix (J.pa_c (J.rd S0) (J.pa_c J.pe_int J.pa_nil))) J.pe_int)))
 (J.pss_cons (J.ps_if (J.pt_cmpR J.op_eq (J.rd S4) J.pe_int (L2.nomark _))
 (J.pss_one (J.ps_ret (J.pe_tup (J.pa_c J.pe_str (J.pa_c (J.rd S1) (J.pa_c (J.rd S5) J.pa_nil))))))
 J.pss_nil)
 (J.pss_cons (J.ps_if (J.pt_cmpR J.op_eq (J.rd S4) J.pe_int (L2.nomark _))
 (J.pss_one (J.ps_ret (J.pe_tup (J.pa_c J.pe_str (J.pa_c (J.rd S1) (J.pa_c (J.pe_ix J.ix_list (J.pe_lst (J.pa_c (J.pe_op J.op_fdiv (J.rd S5) J.pe_int) (J.pa_c (J.rd S5) (J.pa_c J.pe_non J.pa_nil)))) (J.pe_op J.op_mod (J.cal C__law_mix (J.pa_c (J.rd S0) (J.pa_c J.pe_int J.pa_nil))) J.pe_int) J.ix_op) J.pa_nil))))))
 J.pss_nil)
 (J.pss_cons (J.ps_if (J.pt_cmpR J.op_eq (J.rd S4) J.pe_int (L2.nomark _))
 (J.pss_one (J.ps_ret (J.pe_tup (J.pa_c J.pe_str (J.pa_c (J.rd S1) (J.pa_c (J.rd S2) J.pa_nil))))))
 J.pss_nil)
 (J.pss_one (J.ps_ret (J.pe_tup (J.pa_c J.pe_str (J.pa_c (J.rd S1) (J.pa_c (J.rd S5) (J.pa_c (J.pe_op J.op_add (J.rd S5) (J.pe_op J.op_mul (J.rd S3) (J.pe_op J.op_mod (J.cal C__law_mix (J.pa_c (J.rd S0) (J.pa_c J.pe_int J.pa_nil))) J.pe_int))) J.pa_nil)))))))))))), ?_⟩
    have e18 : (10 : Int) ^ Int.toNat 18 = 1000000000000000000 := by decide +kernel
    have okH : ∀ {i : Int}, 0 ≤ i → i ≤ 200000000000000000 → HourOk i := fun a b => ⟨a, by rw [e18]; omega⟩
    refine ⟨_, rfl, c, _, rfl, by decide, by decide, fun A A0 A1 => ⟨_, _, rfl, rfl, (by show (0 : Int) < 5; decide), ?_⟩⟩
    refine ⟨_, rfl, _, rfl, c, _, rfl, by decide, by decide, fun B B0 B1 => ⟨_, _, rfl, rfl, (by show (0 : Int) < 30; decide), ?_⟩⟩
    have b30 := emod_in B (m := 30) (by decide)
    refine ⟨_, _, rfl, rfl, .inl ⟨by omega, by omega⟩, ?_⟩
    have hh1 := hrs_in u0 u1 b30.1 (by omega)
    dsimp only
    generalize u * (B % 30) = h at hh1
    generalize A % 5 = kd
    refine ⟨_, rfl, rfl, _, rfl, ite2 (fun _ => ⟨_, rfl, _, rfl, by show 3 ≤ sizeLine; decide, fun t nt => k _ (.knew p h) _ (Same.upd nt) ⟨t, rfl, upd_same⟩ ⟨hp, okH hh1.1 (by omega)⟩⟩) (fun _ => ?_)⟩
    refine ⟨_, rfl, rfl, _, rfl, ite2 (fun _ => ?_) (fun _ => ?_)⟩
    · have d3 : 0 ≤ h / 3 ∧ h / 3 ≤ h := ⟨Int.ediv_nonneg hh1.1 (by decide), Int.ediv_le_self _ hh1.1⟩
      refine ⟨_, rfl, _, rfl, _, _, rfl, rfl, ⟨by decide, by decide⟩, _, rfl, by show 3 ≤ sizeLine; decide, fun b nb => ⟨_, rfl, c, _, rfl, by decide, by decide, fun R R0 R1 => ⟨_, _, rfl, rfl, (by show (0 : Int) < 3; decide), ?_⟩⟩⟩
      have r3 := emod_in R (m := 3) (by decide)
      obtain ⟨bv, hb, hbm⟩ := at_ex (xs := [V.int (h / 3), V.int h, V.non]) (i := R % 3) r3.1 r3.2
      have hbv : ∃ o : Option Int, bv = oV o ∧ ∀ i, o = some i → HourOk i := by
        simp only [List.mem_cons, List.not_mem_nil, or_false] at hbm
        rcases hbm with rfl | rfl | rfl
        · exact ⟨some _, rfl, fun i e => by cases e; exact okH d3.1 (by omega)⟩
        · exact ⟨some _, rfl, fun i e => by cases e; exact okH hh1.1 (by omega)⟩
        · exact ⟨none, rfl, fun i e => by cases e⟩
      obtain ⟨o, rfl, oo⟩ := hbv
      exact ⟨b, _, _, _, rfl, rfl, SqL.of upd_same, hb, by show 3 ≤ sizeLine; decide, fun t nt => k _ (.unh p o) _ ((Same.upd nb).trans (Same.upd nt)) ⟨t, rfl, upd_same⟩ ⟨hp, oo⟩⟩
    · refine ⟨_, rfl, rfl, _, rfl, ite2 (fun _ => ⟨_, rfl, _, rfl, by show 3 ≤ sizeLine; decide, fun t nt => k _ (.bar p q) _ (Same.upd nt) ⟨t, rfl, upd_same⟩ ⟨hp, hq, npq⟩⟩) (fun _ => ?_)⟩
      refine ⟨_, rfl, _, rfl, _, rfl, _, rfl, _, rfl, c, _, rfl, by decide, by decide, fun R R0 R1 => ⟨_, _, rfl, rfl, (by show (0 : Int) < 12; decide), ?_⟩⟩
      have r12 := emod_in R (m := 12) (by decide)
      have hh2 := hrs_in u0 u1 r12.1 (by omega)
      refine ⟨_, _, rfl, rfl, .inl ⟨by omega, by omega⟩, _, _, rfl, rfl, by show 4 ≤ sizeLine; decide, fun t nt => k _ (.sil p h (h + u * (R % 12))) _ (Same.upd nt) ⟨t, rfl, upd_same⟩ ⟨hp, okH hh1.1 (by omega), okH (by omega) (by omega), by omega⟩⟩
end
theorem seq_ifH {tc : TT} {u t2 : TS} {D : Ends} {σ : St} {H : Hp} (R : St → Hp → Prop) (hR : ∀ σ' H', R σ' H' → t2 D σ' H') (b : Bool) (hc : ∀ Q : Bool → Hp → Prop, (∀ H', Same H H' → Q b H') → tc σ H Q) (h1 : b = true → ∀ H', Same H H' → (∀ σ' H', R σ' H' → t2 D σ' H') → u { D with nx := t2 D } σ H') (h2 : b = false → ∀ H', Same H H' → R σ H') :
    tSeq (tIfS tc u tNext) t2 D σ H := by
  refine hc _ fun H' s' => ?_
  cases b with
  | true => exact iteT (h1 rfl H' s' hR)
  | false => exact iteF (hR _ _ (h2 rfl H' s'))
theorem kne {a b : Str} (h : a ≠ b) : ¬ (Sum.inr a : Key) = Sum.inr b := fun e => h (Sum.inr.inj e)
def madeK (p s t y : Addr) : List (Key × V) := mergeK [] [(Sum.inr "persons", V.ref p), (Sum.inr "sights", V.ref s), (Sum.inr "talks", V.ref t), (Sum.inr "sayings", V.ref y)]
theorem madeK_p (p s t y : Addr) : valV (madeK p s t y) (Sum.inr "persons") = some (V.ref p) := by
  unfold madeK mergeK
  rw [List.foldl_cons, List.foldl_cons, List.foldl_cons, List.foldl_cons, List.foldl_nil]
  dsimp only
  rw [valV_put, valV_put, valV_put, valV_put, if_neg (kne (show ("persons" : Str) ≠ ("sayings" : Str) by decide)), if_neg (kne (show ("persons" : Str) ≠ ("talks" : Str) by decide)), if_neg (kne (show ("persons" : Str) ≠ ("sights" : Str) by decide)), if_pos rfl]
theorem madeK_s (p s t y : Addr) : valV (madeK p s t y) (Sum.inr "sights") = some (V.ref s) := by
  unfold madeK mergeK
  rw [List.foldl_cons, List.foldl_cons, List.foldl_cons, List.foldl_cons, List.foldl_nil]
  dsimp only
  rw [valV_put, valV_put, valV_put, if_neg (kne (show ("sights" : Str) ≠ ("sayings" : Str) by decide)), if_neg (kne (show ("sights" : Str) ≠ ("talks" : Str) by decide)), if_pos rfl]
theorem madeK_t (p s t y : Addr) : valV (madeK p s t y) (Sum.inr "talks") = some (V.ref t) := by
  unfold madeK mergeK
  rw [List.foldl_cons, List.foldl_cons, List.foldl_cons, List.foldl_cons, List.foldl_nil]
  dsimp only
  rw [valV_put, valV_put, if_neg (kne (show ("talks" : Str) ≠ ("sayings" : Str) by decide)), if_pos rfl]
theorem madeK_y (p s t y : Addr) : valV (madeK p s t y) (Sum.inr "sayings") = some (V.ref y) := by
  unfold madeK mergeK
  rw [List.foldl_cons, List.foldl_cons, List.foldl_cons, List.foldl_cons, List.foldl_nil]
  dsimp only
  rw [valV_put, if_pos rfl]
structure MOk (ps : List Str) (H : Hp) (md p s t y : Addr) (ss ts ys : List V) : Prop where
  hmd : H md = some (.dK (madeK p s t y))
  hp : H p = some (.lst (ps.map V.str))
  hs : H s = some (.lst ss)
  ht : H t = some (.lst ts)
  hy : H y = some (.lst ys)
  ls : ss.length ≤ 24
  lt : ts.length ≤ 63
  ly : ys.length ≤ 60
  gs : ∀ v ∈ ss, SightIn ps H v
  gt : ∀ v ∈ ts, TalkIn ps H v
  gy : ∀ v ∈ ys, SayIn ps H v
theorem MOk.mono {ps : List Str} {H H' : Hp} {md p s t y : Addr} {ss ts ys : List V} (sm : Same H H') (o : MOk ps H md p s t y ss ts ys) : MOk ps H' md p s t y ss ts ys :=
  ⟨sm _ _ o.hmd, sm _ _ o.hp, sm _ _ o.hs, sm _ _ o.ht, sm _ _ o.hy, o.ls, o.lt, o.ly, fun v hv => (o.gs v hv).mono (Tk.of sm), fun v hv => (o.gt v hv).mono (Tk.of sm), fun v hv => (o.gy v hv).mono (Tk.of sm)⟩
theorem MOk.addS {ps : List Str} {H : Hp} {md p s t y : Addr} {ss ts ys : List V} {v : V} (o : MOk ps H md p s t y ss ts ys) (n : md ≠ s ∧ p ≠ s ∧ t ≠ s ∧ y ≠ s) (l : ss.length + 1 ≤ 24) (hv : SightIn ps (upd H s (.lst (ss ++ [v]))) v) : MOk ps (upd H s (.lst (ss ++ [v]))) md p s t y (ss ++ [v]) ts ys := by
  have tk := Tk.upd o.hs (ys := ss ++ [v])
  refine ⟨by rw [upd_ne n.1]; exact o.hmd, by rw [upd_ne n.2.1]; exact o.hp, upd_same, by rw [upd_ne n.2.2.1]; exact o.ht, by rw [upd_ne n.2.2.2]; exact o.hy, by rw [List.length_append]; exact l, o.lt, o.ly, fun u hu => ?_, fun u hu => (o.gt u hu).mono tk, fun u hu => (o.gy u hu).mono tk⟩
  rcases List.mem_append.mp hu with hu | hu
  · exact (o.gs u hu).mono tk
  · rw [List.mem_singleton.mp hu]
    exact hv
theorem MOk.addT {ps : List Str} {H : Hp} {md p s t y : Addr} {ss ts ys : List V} {v : V} (o : MOk ps H md p s t y ss ts ys) (n : md ≠ t ∧ p ≠ t ∧ s ≠ t ∧ y ≠ t) (l : ts.length + 1 ≤ 63) (hv : TalkIn ps (upd H t (.lst (ts ++ [v]))) v) : MOk ps (upd H t (.lst (ts ++ [v]))) md p s t y ss (ts ++ [v]) ys := by
  have tk := Tk.upd o.ht (ys := ts ++ [v])
  refine ⟨by rw [upd_ne n.1]; exact o.hmd, by rw [upd_ne n.2.1]; exact o.hp, by rw [upd_ne n.2.2.1]; exact o.hs, upd_same, by rw [upd_ne n.2.2.2]; exact o.hy, o.ls, by rw [List.length_append]; exact l, o.ly, fun u hu => (o.gs u hu).mono tk, fun u hu => ?_, fun u hu => (o.gy u hu).mono tk⟩
  rcases List.mem_append.mp hu with hu | hu
  · exact (o.gt u hu).mono tk
  · rw [List.mem_singleton.mp hu]
    exact hv
theorem MOk.addY {ps : List Str} {H : Hp} {md p s t y : Addr} {ss ts ys : List V} {v : V} (o : MOk ps H md p s t y ss ts ys) (n : md ≠ y ∧ p ≠ y ∧ s ≠ y ∧ t ≠ y) (l : ys.length + 1 ≤ 60) (hv : SayIn ps (upd H y (.lst (ys ++ [v]))) v) : MOk ps (upd H y (.lst (ys ++ [v]))) md p s t y ss ts (ys ++ [v]) := by
  have tk := Tk.upd o.hy (ys := ys ++ [v])
  refine ⟨by rw [upd_ne n.1]; exact o.hmd, by rw [upd_ne n.2.1]; exact o.hp, by rw [upd_ne n.2.2.1]; exact o.hs, by rw [upd_ne n.2.2.2]; exact o.ht, upd_same, o.ls, o.lt, by rw [List.length_append]; exact l, fun u hu => (o.gs u hu).mono tk, fun u hu => (o.gt u hu).mono tk, fun u hu => ?_⟩
  rcases List.mem_append.mp hu with hu | hu
  · exact (o.gy u hu).mono tk
  · rw [List.mem_singleton.mp hu]
    exact hv
theorem MOk.dp {ps : List Str} {H : Hp} {md p s t y : Addr} {ss ts ys : List V} (o : MOk ps H md p s t y ss ts ys) : DGet H md (.str "persons") (some (.ref p)) := madeK_p p s t y ▸ DGet.k (k := Sum.inr "persons") o.hmd
theorem MOk.ds {ps : List Str} {H : Hp} {md p s t y : Addr} {ss ts ys : List V} (o : MOk ps H md p s t y ss ts ys) : DGet H md (.str "sights") (some (.ref s)) := madeK_s p s t y ▸ DGet.k (k := Sum.inr "sights") o.hmd
theorem MOk.dt {ps : List Str} {H : Hp} {md p s t y : Addr} {ss ts ys : List V} (o : MOk ps H md p s t y ss ts ys) : DGet H md (.str "talks") (some (.ref t)) := madeK_t p s t y ▸ DGet.k (k := Sum.inr "talks") o.hmd
theorem MOk.dy {ps : List Str} {H : Hp} {md p s t y : Addr} {ss ts ys : List V} (o : MOk ps H md p s t y ss ts ys) : DGet H md (.str "sayings") (some (.ref y)) := madeK_y p s t y ▸ DGet.k (k := Sum.inr "sayings") o.hmd
theorem rest_at {ps : List Str} {a : Nat} {z : Str} (nd : ps.Nodup) (n2 : 2 ≤ ps.length) (hz : ps[a]? = some z) : ∃ rs : List Str, cutV (ps.map V.str) (some ((a : Int) + 1)) none ++ cutV (ps.map V.str) none (some (a : Int)) = rs.map V.str ∧ 1 ≤ rs.length ∧ rs.length ≤ ps.length ∧ ∀ y ∈ rs, y ∈ ps ∧ y ≠ z := by
  have ha := (List.getElem?_eq_some_iff.mp hz).1
  have e1 : cutV (ps.map V.str) (some ((a : Int) + 1)) none = (ps.drop (a + 1)).map V.str := by
    rw [show ((a : Int) + 1) = ((a + 1 : Nat) : Int) by omega, cutV_strs, HT.sIx_none, HT.sIx_nat, Nat.min_eq_left (by omega), List.take_of_length_le (by rw [List.length_drop]; exact Nat.le_refl _)]
  have e2 : cutV (ps.map V.str) none (some (a : Int)) = (ps.take a).map V.str := by
    rw [cutV_strs, HT.sIx_none, HT.sIx_nat, Nat.min_eq_left (by omega), List.drop_zero, Nat.sub_zero]
  refine ⟨ps.drop (a + 1) ++ ps.take a, by rw [e1, e2, List.map_append], by rw [List.length_append, List.length_drop, List.length_take]; omega, by rw [List.length_append, List.length_drop, List.length_take]; omega, fun y hy => ?_⟩
  have idx : ∃ k, k ≠ a ∧ ps[k]? = some y := by
    rcases List.mem_append.mp hy with hy | hy
    · obtain ⟨j, hj⟩ := List.getElem?_of_mem hy
      rw [List.getElem?_drop] at hj
      exact ⟨a + 1 + j, by omega, hj⟩
    · obtain ⟨j, hj⟩ := List.getElem?_of_mem hy
      have jl := (List.getElem?_eq_some_iff.mp hj).1
      rw [List.length_take] at jl
      rw [List.getElem?_take_of_lt (by omega)] at hj
      exact ⟨j, by omega, hj⟩
  obtain ⟨k, nk, hk⟩ := idx
  refine ⟨List.mem_of_getElem? hk, fun e => nk ?_⟩
  obtain ⟨h1, h2⟩ := List.getElem?_eq_some_iff.mp hk
  obtain ⟨h3, h4⟩ := List.getElem?_eq_some_iff.mp hz
  exact (List.getElem_inj nd).mp (by rw [h2, h4, e])
theorem word_ok : nameS "word" = true := by decide +kernel
inductive MdInv (sc nl md S Tt Y : Addr) (hd U : Int) (H5 : Hp) (ps : List Str) (i : Nat) (σ : St) (H' : Hp) : Prop
  | mk (ss ts ys : List V) (e5 e6 e7 e8 e9 e10 e11 : Option V) (e : σ = [some (.ref sc), some (.int hd), some (.ref nl), some (.int U), some (.ref md), e5, e6, e7, e8, e9, e10, e11]) (kp : ∀ b o, H5 b = some o → b ≠ S → b ≠ Tt → b ≠ Y → H' b = some o) (ok : MOk ps H' md nl S Tt Y ss ts ys) (lt : ts.length ≤ i) (ly : ys.length ≤ 50)
inductive MadeP (K : PySem.W.Frag) (vs : List V) (H : Hp) (Q : VK) : Prop
  | mk (sc : Addr) (ns : List Int) (e : vs = [.ref sc]) (hsc : SqL K H sc (ns.map V.int)) (n63 : ns.length ≤ 63)
      (k : ∀ (md p s t y : Addr) (ps : List Str) (ss ts ys : List V) (H' : Hp), Same H H' → H md = none → PersOk ps → 2 ≤ ps.length → MOk ps H' md p s t y ss ts ys → Q (.ref md) H')
def spMade (K : PySem.W.Frag) : Sp := fun vs H Q _ => MadeP K vs H Q
section
variable {P : Program} {w : World} {K : PySem.W.Frag} {mg : Str → Option Value} {base : Heap} {kw C : Addr}
theorem sc_l_made : FnScope ["_law_script", "_law_header", "_law_names_here", "_law_unit", "_law_made_here", "_law_k", "_law_cell", "_law_at", "_law_one", "_law_rest", "_law_other", "_law_hour_here"] ["_law_script"] (defScope s_l_made) := ⟨rfl, rfl, rfl, by decide +kernel, rfl, by decide +kernel, by decide +kernel⟩
theorem ok_made {f : Addr} {fd : FuncData} (D : Df K mg "_law_made" s_l_made ["_law_script"] f fd) (T : Txt K mg kw C) (G__law_cell_at : Gd P w K mg base 1 "_law_cell_at" (spCell K)) (G__law_mix : Gd P w K mg base 1 "_law_mix" spMix) (G__law_names : Gd P w K mg base 2 "_law_names" spNames4) (G__law_saying : Gd P w K mg base 2 "_law_saying" spSay4) : Gd P w K mg base 3 "_law_made" (spMade K) := by
  refine J.def_ok D sc_l_made (fun vs H Q E h => ?_) (fun X H vs Q E hh h => ?_)
  · obtain ⟨sc, ns, rfl, _⟩ := h
    rfl
  · obtain ⟨sc, ns, rfl, hsc, n63, k⟩ := h
    have S0 : L2.Slot X 0 "_law_script" := hh.slot 0 rfl (by first | exact .inl rfl | exact .inr rfl) (by decide) (by decide)
    have S1 : L2.Slot X 1 "_law_header" := hh.slot 1 rfl (by first | exact .inl rfl | exact .inr rfl) (by decide) (by decide)
    have S2 : L2.Slot X 2 "_law_names_here" := hh.slot 2 rfl (by first | exact .inl rfl | exact .inr rfl) (by decide) (by decide)
    have S3 : L2.Slot X 3 "_law_unit" := hh.slot 3 rfl (by first | exact .inl rfl | exact .inr rfl) (by decide) (by decide)
    have S4 : L2.Slot X 4 "_law_made_here" := hh.slot 4 rfl (by first | exact .inl rfl | exact .inr rfl) (by decide) (by decide)
    have S5 : L2.Slot X 5 "_law_k" := hh.slot 5 rfl (by first | exact .inl rfl | exact .inr rfl) (by decide) (by decide)
    have S6 : L2.Slot X 6 "_law_cell" := hh.slot 6 rfl (by first | exact .inl rfl | exact .inr rfl) (by decide) (by decide)
    have S7 : L2.Slot X 7 "_law_at" := hh.slot 7 rfl (by first | exact .inl rfl | exact .inr rfl) (by decide) (by decide)
    have S8 : L2.Slot X 8 "_law_one" := hh.slot 8 rfl (by first | exact .inl rfl | exact .inr rfl) (by decide) (by decide)
    have S9 : L2.Slot X 9 "_law_rest" := hh.slot 9 rfl (by first | exact .inl rfl | exact .inr rfl) (by decide) (by decide)
    have S10 : L2.Slot X 10 "_law_other" := hh.slot 10 rfl (by first | exact .inl rfl | exact .inr rfl) (by decide) (by decide)
    have S11 : L2.Slot X 11 "_law_hour_here" := hh.slot 11 rfl (by first | exact .inl rfl | exact .inr rfl) (by decide) (by decide)
    have B_len : Bt X "len" := hh.bt T.b_len rfl (by decide) (by decide)
    have B_min : Bt X "min" := hh.bt T.b_min rfl (by decide) (by decide)
    have B_range : Bt X "range" := hh.bt T.b_range rfl (by decide) (by decide)
    have C__law_cell_at := hh.cal G__law_cell_at rfl (by first | decide | exact Nat.le_refl _) (by decide)
    have C__law_mix := hh.cal G__law_mix rfl (by first | decide | exact Nat.le_refl _) (by decide)
    have C__law_names := hh.cal G__law_names rfl (by first | decide | exact Nat.le_refl _) (by decide)
    have C__law_saying := hh.cal G__law_saying rfl (by first | decide | exact Nat.le_refl _) (by decide)
    have hu := hu_of hh.room
    obtain rfl := hh.fK
    have hsz : sizeLine = 16777216 := sizeLine_eq
    refine ⟨_, (J.pss_cons (J.set S1 hh.nd (J.cal C__law_mix (J.pa_c (J.cal C__law_cell_at (J.pa_c (J.rd S0) (J.pa_c J.pe_int J.pa_nil))) (J.pa_c J.pe_int J.pa_nil))))
 (J.pss_cons (J.set S2 hh.nd (J.cal C__law_names (J.pa_c (J.cal C__law_cell_at (J.pa_c (J.rd S0) (J.pa_c J.pe_int J.pa_nil))) (J.pa_c (J.pe_op J.op_add J.pe_int (J.pe_op J.op_mod (J.rd S1) J.pe_int)) J.pa_nil))))
 (J.pss_cons (J.set S3 hh.nd (J.pe_ix J.ix_list (J.pe_lst (J.pa_c J.pe_int (J.pa_c (J.pe_op J.op_add J.pe_int (J.pe_op J.op_mod (J.cal C__law_cell_at (J.pa_c (J.rd S0) (J.pa_c J.pe_int J.pa_nil))) (J.pe_op J.op_pow J.pe_int J.pe_int))) J.pa_nil))) (J.pe_op J.op_mod (J.pe_op J.op_fdiv (J.rd S1) J.pe_int) J.pe_int) J.ix_op))
 (J.pss_cons (J.set S4 hh.nd (J.disp4 J.pe_str (J.rd S2) J.pe_str (J.pe_lst J.pa_nil) J.pe_str (J.pe_lst J.pa_nil) J.pe_str (J.pe_lst J.pa_nil)))
 (J.pss_cons (J.ps_for hh.own hh.calm (J.pi_range2 B_range (J.pa_c J.pe_int (J.pa_c (J.blt B_min (J.call_min2 hh.calm) L2.bb_min (J.pa_c (J.blt B_len J.call_len_seq L2.bb_len (J.pa_c (J.rd S0) J.pa_nil)) (J.pa_c J.pe_int J.pa_nil))) J.pa_nil))) (J.tgt S5 hh.nd)
 (J.pss_cons (J.set S6 hh.nd (J.cal C__law_mix (J.pa_c (J.pe_ix J.ix_list (J.rd S0) (J.rd S5) J.ix_name) (J.pa_c (J.rd S5) J.pa_nil))))
 (J.pss_cons (J.set S7 hh.nd (J.pe_op J.op_mod (J.pe_op J.op_fdiv (J.rd S6) J.pe_int) (J.blt B_len J.call_len_seq L2.bb_len (J.pa_c (J.rd S2) J.pa_nil))))
 (J.pss_cons (J.set S8 hh.nd (J.pe_ix J.ix_list (J.rd S2) (J.rd S7) J.ix_name))
 (J.pss_cons (J.set S9 hh.nd (J.pe_op J.op_catS (J.pe_slice J.sl_list (J.rd S2) (J.po_some (J.pe_op J.op_add (J.rd S7) J.pe_int)) J.po_none) (J.pe_slice J.sl_list (J.rd S2) J.po_none (J.po_some (J.rd S7)))))
 (J.pss_cons (J.set S10 hh.nd (J.pe_ix J.ix_list (J.rd S9) (J.pe_op J.op_mod (J.pe_op J.op_fdiv (J.rd S6) J.pe_int) (J.blt B_len J.call_len_seq L2.bb_len (J.pa_c (J.rd S9) J.pa_nil))) J.ix_op))
 (J.pss_cons (J.set S11 hh.nd (J.pe_op J.op_mul (J.rd S3) (J.pe_op J.op_mod (J.pe_op J.op_fdiv (J.rd S6) J.pe_int) J.pe_int)))
 (J.pss_one (J.ps_if (J.pw_pt (J.pw_and (J.pt_cmpR J.op_eq (J.pe_op J.op_mod (J.rd S6) J.pe_int) J.pe_int (L2.nomark _)) (J.pw_and1 (J.pt_cmpR J.op_lt (J.blt B_len J.call_len_seq L2.bb_len (J.pa_c (J.dget hu (J.rd S4) J.pe_str J.ix_con) J.pa_nil)) J.pe_int (L2.nomark _)))))
 (J.pss_one (J.ps_do (J.bm PySem.F.plainAttrs_list PySem.F.slot_list_append PySem.F.type_list_append J.mt_append (J.dget hu (J.rd S4) J.pe_str J.ix_con) (J.pa_c (J.pe_tup (J.pa_c (J.rd S8) (J.pa_c (J.rd S11) (J.pa_c (J.pe_tup (J.pa_c J.pe_str J.pa_nil)) J.pa_nil)))) J.pa_nil))))
 (J.pss_one (J.ps_if (J.pw_pt (J.pw_and (J.pt_cmpR J.op_eq (J.pe_op J.op_mod (J.rd S6) J.pe_int) J.pe_int (L2.nomark _)) (J.pw_and1 (J.pt_cmpR J.op_lt (J.blt B_len J.call_len_seq L2.bb_len (J.pa_c (J.dget hu (J.rd S4) J.pe_str J.ix_con) J.pa_nil)) J.pe_int (L2.nomark _)))))
 (J.pss_one (J.ps_do (J.bm PySem.F.plainAttrs_list PySem.F.slot_list_append PySem.F.type_list_append J.mt_append (J.dget hu (J.rd S4) J.pe_str J.ix_con) (J.pa_c (J.cal C__law_saying (J.pa_c (J.rd S6) (J.pa_c (J.rd S8) (J.pa_c (J.rd S10) (J.pa_c (J.rd S3) J.pa_nil))))) J.pa_nil))))
 (J.pss_one (J.ps_do (J.bm PySem.F.plainAttrs_list PySem.F.slot_list_append PySem.F.type_list_append J.mt_append (J.dget hu (J.rd S4) J.pe_str J.ix_con) (J.pa_c (J.pe_tup (J.pa_c (J.rd S11) (J.pa_c (J.rd S8) (J.pa_c (J.rd S10) (J.pa_c (J.pe_ix J.ix_list (J.pe_lst (J.pa_c J.pe_str (J.pa_c J.pe_str J.pa_nil))) (J.pe_op J.op_mod (J.pe_op J.op_fdiv (J.rd S6) J.pe_int) J.pe_int) J.ix_op) J.pa_nil))))) J.pa_nil)))))))))))))))
 (J.pss_cons (J.ps_if (J.pt_cmpR (J.op_eqLL hu) (J.dget hu (J.rd S4) J.pe_str J.ix_con) (J.pe_lst J.pa_nil) (L2.nomark _))
 (J.pss_one (J.ps_do (J.bm PySem.F.plainAttrs_list PySem.F.slot_list_append PySem.F.type_list_append J.mt_append (J.dget hu (J.rd S4) J.pe_str J.ix_con) (J.pa_c (J.pe_tup (J.pa_c (J.pe_ix J.ix_list (J.rd S2) J.pe_int J.ix_con) (J.pa_c J.pe_int (J.pa_c (J.pe_tup (J.pa_c J.pe_str J.pa_nil)) J.pa_nil)))) J.pa_nil))))
 J.pss_nil)
 (J.pss_one (J.ps_ret (J.rd S4))))))))), ?_⟩
    have p15 : (10 : Int) ^ Int.toNat 15 = 1000000000000000 := by decide +kernel
    refine ⟨_, rfl, sc, ns, 0, rfl, hsc, by decide, fun c0 => ⟨c0, _, rfl, by decide, by decide, fun hd hd0 hd1 => ?_⟩⟩
    have h6 := emod_in hd (m := 6) (by decide)
    refine ⟨_, rfl, sc, ns, 0, rfl, hsc, by decide, fun c1 => ⟨_, rfl, _, _, rfl, rfl, (by show (0 : Int) < 6; decide), _, _, rfl, rfl, c1, _, rfl, by omega, by omega, fun nl ps H1 s1 nnl hnl po pl => ?_⟩⟩
    have pl2 : 2 ≤ ps.length := by omega
    have hsc1 := s1.seq hsc
    refine ⟨_, rfl, sc, ns, 1, rfl, hsc1, by decide, fun c2 => ⟨_, _, rfl, rfl, ⟨by decide, by decide, by decide⟩, _, _, rfl, rfl, (by rw [p15]; decide), _, _, rfl, rfl, by show 2 ≤ sizeLine; decide, fun b1 nb1 => ?_⟩⟩
    have u15 := emod_in c2 (m := 10 ^ Int.toNat 15) (by rw [p15]; decide)
    rw [p15] at u15
    have h2 := emod_in (hd / 6) (m := 2) (by decide)
    obtain ⟨bv, hb, hbm⟩ := at_ex (xs := [V.int 1, V.int (1 + c2 % 10 ^ Int.toNat 15)]) (i := hd / 6 % 2) h2.1 h2.2
    have hbv : ∃ U : Int, bv = .int U ∧ 0 ≤ U ∧ U ≤ 1000000000000000 := by
      simp only [List.mem_cons, List.not_mem_nil, or_false] at hbm
      rcases hbm with rfl | rfl
      · exact ⟨_, rfl, by decide, by decide⟩
      · rw [p15]
        exact ⟨_, rfl, by omega, by omega⟩
    obtain ⟨U, rfl, U0, U1⟩ := hbv
    have s2 := s1.trans (Same.upd (o := .lst [V.int 1, V.int (1 + c2 % 10 ^ Int.toNat 15)]) nb1)
    have hnl2 := Same.upd (o := .lst [V.int 1, V.int (1 + c2 % 10 ^ Int.toNat 15)]) nb1 _ _ hnl
    refine ⟨_, rfl, _, _, rfl, rfl, ⟨by decide, by decide⟩, _, _, rfl, rfl, (by show (0 : Int) < 2; decide), b1, _, _, _, rfl, rfl, SqL.of upd_same, hb, ?_⟩
    generalize upd H1 b1 (.lst [V.int 1, V.int (1 + c2 % 10 ^ Int.toNat 15)]) = H2 at s2 hnl2
    clear hb hbm nb1 hnl hsc1 s1 u15 h2
    intro md nmd
    refine ⟨_, rfl, by show 0 ≤ sizeLine; decide, fun S nS => ⟨by show 0 ≤ sizeLine; decide, fun Tt nT => ⟨by show 0 ≤ sizeLine; decide, fun Y nY => ?_⟩⟩⟩
    have sA := Same.upd (o := .dK []) nmd
    have sS := Same.upd (o := .lst []) nS
    have sT := Same.upd (o := .lst []) nT
    have sY := Same.upd (o := .lst []) nY
    have hmd4 := sY _ _ (sT _ _ (sS _ _ (show upd H2 md (.dK []) md = some (.dK []) from upd_same)))
    have hS4 := sY _ _ (sT _ _ (show upd (upd H2 md (.dK [])) S (.lst []) S = some (.lst []) from upd_same))
    have hT4 := sY _ _ (show upd (upd (upd H2 md (.dK [])) S (.lst [])) Tt (.lst []) Tt = some (.lst []) from upd_same)
    have hY4 : upd (upd (upd (upd H2 md (.dK [])) S (.lst [])) Tt (.lst [])) Y (.lst []) Y = some (.lst []) := upd_same
    have s24 := ((sA.trans sS).trans sT).trans sY
    have fS : H2 S = none := sA.free nS
    have fT : H2 Tt = none := (sA.trans sS).free nT
    have fY : H2 Y = none := ((sA.trans sS).trans sT).free nY
    refine ⟨hmd4, [(Sum.inr "persons", .ref nl), (Sum.inr "sights", .ref S), (Sum.inr "talks", .ref Tt), (Sum.inr "sayings", .ref Y)], rfl, by show 4 ≤ 15; decide, ?_⟩
    generalize upd (upd (upd (upd H2 md (.dK [])) S (.lst [])) Tt (.lst [])) Y (.lst []) = H4 at hmd4 hS4 hT4 hY4 s24
    have nSm : S ≠ md := fun e => by rw [e, hmd4] at hS4; cases hS4
    have nTm : Tt ≠ md := fun e => by rw [e, hmd4] at hT4; cases hT4
    have nYm : Y ≠ md := fun e => by rw [e, hmd4] at hY4; cases hY4
    have nST : S ≠ Tt := ne_of_none (show upd (upd H2 md (.dK [])) S (.lst []) S = some (.lst []) from upd_same) nT
    have nSY : S ≠ Y := ne_of_none (sT _ _ (show upd (upd H2 md (.dK [])) S (.lst []) S = some (.lst []) from upd_same)) nY
    have nTY : Tt ≠ Y := ne_of_none (show upd (upd (upd H2 md (.dK [])) S (.lst [])) Tt (.lst []) Tt = some (.lst []) from upd_same) nY
    clear sA sS sT sY nS nT nY
    have s05 : Same H2 (upd H4 md (.dK (mergeK [] [(Sum.inr "persons", .ref nl), (Sum.inr "sights", .ref S), (Sum.inr "talks", .ref Tt), (Sum.inr "sayings", .ref Y)]))) := fun b o e => by
      rw [upd_ne (ne_of_none e nmd)]
      exact s24 _ _ e
    have ok5 : MOk ps (upd H4 md (.dK (mergeK [] [(Sum.inr "persons", .ref nl), (Sum.inr "sights", .ref S), (Sum.inr "talks", .ref Tt), (Sum.inr "sayings", .ref Y)]))) md nl S Tt Y [] [] [] :=
      ⟨upd_same, s05 _ _ hnl2, (by rw [upd_ne nSm]; exact hS4), (by rw [upd_ne nTm]; exact hT4), (by rw [upd_ne nYm]; exact hY4), by decide, by decide, by decide, (fun v hv => by cases hv), (fun v hv => by cases hv), (fun v hv => by cases hv)⟩
    generalize upd H4 md (.dK (mergeK [] [(Sum.inr "persons", V.ref nl), (Sum.inr "sights", .ref S), (Sum.inr "talks", .ref Tt), (Sum.inr "sayings", .ref Y)])) = H5 at s05 ok5
    clear hmd4 hS4 hT4 hY4 s24
    have keep : ∀ {b : Addr} {o : HO} {H6 : Hp}, (∀ b o, H5 b = some o → b ≠ S → b ≠ Tt → b ≠ Y → H6 b = some o) → H2 b = some o → H6 b = some o := fun kp e => kp _ _ (s05 _ _ e) (ne_of_none e fS) (ne_of_none e fT) (ne_of_none e fY)
    have hml : (md ≠ S ∧ md ≠ Tt ∧ md ≠ Y) := ⟨nSm.symm, nTm.symm, nYm.symm⟩
    have hnlS : (nl ≠ S ∧ nl ≠ Tt ∧ nl ≠ Y) := ⟨ne_of_none hnl2 fS, ne_of_none hnl2 fT, ne_of_none hnl2 fY⟩
    have sq : ∀ {H6 : Hp}, Same H H6 → SqL X.K H6 sc (ns.map V.int) := fun s' => s'.seq hsc
    have s25 := s2.trans s05
    have kpS : ∀ {H6 : Hp}, (∀ b o, H5 b = some o → b ≠ S → b ≠ Tt → b ≠ Y → H6 b = some o) → Same H H6 := fun kp b o e => keep kp (s2 _ _ e)
    have e18 : (10 : Int) ^ Int.toNat 18 = 1000000000000000000 := by decide +kernel
    have okH : ∀ {i : Int}, 0 ≤ i → i ≤ 200000000000000000 → HourOk i := fun a b => ⟨a, by rw [e18]; omega⟩
    have nln : (ns.map V.int).length = ns.length := List.length_map ..
    have pln : (ps.map V.str).length = ps.length := List.length_map ..
    have jl : (if (63 : Int) < ((ns.map V.int).length : Int) then 63 else ((ns.map V.int).length : Int)) = (ns.length : Int) := by
      rw [nln]
      split <;> omega
    refine ⟨_, rfl, sc, _, rfl, .inl (sq s25), _, _, rfl, 2, (ns.length : Int), (by rw [jl]), ⟨by decide, by decide, by omega, by omega⟩, for_range (lo := 2) (n := ((ns.length : Int) - 2).toNat) (MdInv sc nl md S Tt Y hd U H5 ps) ⟨[], [], [], none, none, none, none, none, none, none, rfl, fun b o e _ _ _ => e, ok5, Nat.le_refl 0, by decide⟩ ?_ ?_⟩
    · rintro i σ H6 hi ⟨ss, ts, ys, e5, e6, e7, e8, e9, e10, e11, rfl, kp, ok, lt, ly⟩
      have hsc6 := sq (kpS kp)
      have hk : (i + 2) < ns.length := by omega
      have av : atI (ns.map V.int) ((2 : Int) + (i : Int)) = some (.int ns[i + 2]) := by
        rw [show (2 : Int) + (i : Int) = ((i + 2 : Nat) : Int) by omega]
        exact atI_nat (by rw [List.getElem?_map, List.getElem?_eq_getElem hk]; rfl)
      refine ⟨_, rfl, _, rfl, sc, _, _, _, rfl, rfl, hsc6, av, _, rfl, _, _, rfl, by omega, by omega, fun N n0 n1 => ?_⟩
      have om := emod_in (N / 8) (m := (ps.length : Int)) (by omega)
      refine ⟨_, rfl, _, _, rfl, rfl, ⟨by decide, by decide⟩, _, rfl, nl, _, rfl, .inl (SqL.of ok.hp), _, _, rfl, rfl, (by rw [pln]; omega), ?_⟩
      dsimp only
      rw [pln]
      generalize N / 8 % (ps.length : Int) = A at om
      have aA : ((A.toNat : Nat) : Int) = A := Int.toNat_of_nonneg om.1
      obtain ⟨z1, hz1⟩ : ∃ z, ps[A.toNat]? = some z := ⟨_, List.getElem?_eq_getElem (by omega)⟩
      have az1 : atI (ps.map V.str) A = some (.str z1) := by
        rw [← aA]
        exact atI_nat (by rw [List.getElem?_map, hz1]; rfl)
      obtain ⟨rs, ers, rs1, rs2, rsm⟩ := rest_at po.nd pl2 hz1
      rw [aA] at ers
      refine ⟨_, rfl, _, rfl, nl, _, _, _, rfl, rfl, SqL.of ok.hp, az1, ?_⟩
      have ch := fun lo hi => cutV_length (ps.map V.str) lo hi
      have phi := po.hi
      refine ⟨_, rfl, _, rfl, _, _, rfl, rfl, _, rfl, nl, _, rfl, SqL.of ok.hp, fun x1 y1 => ⟨_, rfl, _, rfl, _, rfl, nl, _, rfl, SqL.of (Same.upd y1 _ _ ok.hp), fun x2 y2 => ⟨x1, x2, _, _, rfl, rfl, SqL.of (Same.upd y2 _ _ upd_same), SqL.of upd_same, (by have := ch (some (A + 1)) none; have := ch none (some A); rw [pln] at *; omega), fun x3 y3 => ?_⟩⟩⟩
      have s67 : Same H6 (upd (upd (upd H6 x1 (.lst (cutV (ps.map V.str) (some (A + 1)) none))) x2 (.lst (cutV (ps.map V.str) none (some A)))) x3 (.lst (cutV (ps.map V.str) (some (A + 1)) none ++ cutV (ps.map V.str) none (some A)))) := ((Same.upd y1).trans (Same.upd y2)).trans (Same.upd y3)
      have hx3 : upd (upd (upd H6 x1 (.lst (cutV (ps.map V.str) (some (A + 1)) none))) x2 (.lst (cutV (ps.map V.str) none (some A)))) x3 (.lst (cutV (ps.map V.str) (some (A + 1)) none ++ cutV (ps.map V.str) none (some A))) x3 = some (.lst (rs.map V.str)) := by
        rw [← ers]
        exact upd_same
      generalize upd (upd (upd H6 x1 (.lst (cutV (ps.map V.str) (some (A + 1)) none))) x2 (.lst (cutV (ps.map V.str) none (some A)))) x3 (.lst (cutV (ps.map V.str) (some (A + 1)) none ++ cutV (ps.map V.str) none (some A))) = H7 at s67 hx3
      have rln : (rs.map V.str).length = rs.length := List.length_map ..
      have rm := emod_in (N / 64) (m := (rs.length : Int)) (by omega)
      obtain ⟨z2, az2, mz2⟩ := pers_at rm.1 rm.2
      obtain ⟨mp2, nz2⟩ := rsm z2 mz2
      have mp1 : z1 ∈ ps := List.mem_of_getElem? hz1
      refine ⟨_, rfl, _, rfl, _, _, rfl, rfl, ⟨by decide, by decide⟩, _, rfl, x3, _, rfl, .inl (SqL.of hx3), _, _, rfl, rfl, (by rw [rln]; omega), x3, _, _, _, rfl, rfl, SqL.of hx3, (by rw [rln]; exact az2), ?_⟩
      have hm := emod_in (N / 1009) (m := 36) (by decide)
      have hh1 := hrs_in U0 U1 hm.1 (by omega)
      refine ⟨_, rfl, _, rfl, _, _, rfl, rfl, ⟨by decide, by decide⟩, _, _, rfl, rfl, (by show (0 : Int) < 36; decide), _, _, rfl, rfl, .inl ⟨by omega, by omega⟩, ?_⟩
      dsimp only
      generalize U * (N / 1009 % 36) = hr at hh1
      have kH : HourOk hr := okH hh1.1 (by omega)
      have ok7 := ok.mono s67
      have kp7 : ∀ b o, H5 b = some o → b ≠ S → b ≠ Tt → b ≠ Y → H7 b = some o := fun b o e n1 n2 n3 => s67 _ _ (kp b o e n1 n2 n3)
      have ds := ok7.ds
      have dt := ok7.dt
      have dy := ok7.dy
      clear s67 hx3 ok kp hsc6 az1 az2 ers
      refine both (G := _) ?_ fun other => ⟨_, rfl, _, _, rfl, rfl, (by show (0 : Int) < 8; decide), rfl, _, rfl, ite2 (fun _ => ⟨_, rfl, md, _, rfl, ds, S, _, rfl, .inl (SqL.of ok7.hs), _, _, rfl, rfl, _, rfl, ite2 (fun h24 => ?_) (fun _ => other)⟩) (fun _ => iteF other)⟩
      · refine both (G := _) ?_ fun talk => ⟨_, rfl, _, _, rfl, rfl, (by show (0 : Int) < 8; decide), rfl, _, rfl, ite2 (fun _ => ⟨_, rfl, md, _, rfl, dy, Y, _, rfl, .inl (SqL.of ok7.hy), _, _, rfl, rfl, _, rfl, ite2 (fun h50 => ?_) (fun _ => talk)⟩) (fun _ => iteF talk)⟩
        · obtain ⟨wv, hw, hwm⟩ := at_ex (xs := [V.str "both", V.str "one"]) (i := N / 512 % 2) (emod_in _ (by decide)).1 (emod_in (N / 512) (m := 2) (by decide)).2
          have hwy : ∃ wy : Str, wv = .str wy ∧ (wy = "both" ∨ wy = "one") := by
            simp only [List.mem_cons, List.not_mem_nil, or_false] at hwm
            rcases hwm with rfl | rfl
            · exact ⟨_, rfl, .inl rfl⟩
            · exact ⟨_, rfl, .inr rfl⟩
          obtain ⟨wy, rfl, hwy⟩ := hwy
          refine ⟨_, rfl, md, _, rfl, dt, .inl ⟨rfl, _, SqL.of ok7.ht⟩, _, rfl, _, rfl, _, rfl, by show 2 ≤ sizeLine; decide, fun b3 hb3 => ⟨_, rfl, _, _, rfl, rfl, ⟨by decide, by decide⟩, _, _, rfl, rfl, (by show (0 : Int) < 2; decide), b3, _, _, _, rfl, rfl, SqL.of upd_same, hw, by show 4 ≤ sizeLine; decide, fun tp htp => ?_⟩⟩
          have s8 := (Same.upd (o := .lst [V.str "both", V.str "one"]) hb3).trans (Same.upd (o := .tup [.int hr, .str z1, .str z2, .str wy]) htp)
          have ok8 := ok7.mono s8
          have ntp : tp ≠ Tt := (ne_of_none (Same.upd (o := .lst [V.str "both", V.str "one"]) hb3 _ _ ok7.ht) htp).symm
          refine ⟨Tt, ts, .ref tp, rfl, rfl, ok8.ht, by omega, ?_⟩
          refine ⟨ss, ts ++ [.ref tp], ys, _, _, _, _, _, _, _, rfl, fun b o e n1 n2 n3 => (by rw [upd_ne n2]; exact s8 _ _ (kp7 b o e n1 n2 n3)), ok8.addT ⟨hml.2.1, hnlS.2.1, nST, nTY.symm⟩ (by omega) ⟨tp, hr, z1, z2, wy, rfl, (by rw [upd_ne ntp]; exact upd_same), kH, mp1, mp2, fun e => nz2 e.symm, hwy⟩, (by rw [List.length_append]; show ts.length + 1 ≤ i + 1; omega), ly⟩
        · rw [decide_eq_true_iff] at h50
          refine ⟨_, rfl, md, _, rfl, dy, .inl ⟨rfl, _, SqL.of ok7.hy⟩, _, rfl, _, rfl, _, rfl, _, rfl, N, U, z1, z2, ps, rfl, U0, U1, mp1, mp2, fun e => nz2 e.symm, fun v d H8 s8 sd sk => ?_⟩
          have ok8 := ok7.mono s8
          refine ⟨Y, ys, v, rfl, rfl, ok8.hy, by omega, ?_⟩
          have si := (say_in sd sk).mono (Tk.upd ok8.hy (ys := ys ++ [v]))
          refine ⟨ss, ts, ys ++ [v], _, _, _, _, _, _, _, rfl, fun b o e n1 n2 n3 => (by rw [upd_ne n3]; exact s8 _ _ (kp7 b o e n1 n2 n3)), ok8.addY ⟨hml.2.2, hnlS.2.2, nSY, nTY⟩ (by omega) si, by omega, (by rw [List.length_append]; show ys.length + 1 ≤ 50; omega)⟩
      · rw [decide_eq_true_iff] at h24
        refine ⟨_, rfl, md, _, rfl, ds, .inl ⟨rfl, _, SqL.of ok7.hs⟩, _, rfl, _, rfl, by show 1 ≤ sizeLine; decide, fun ta hta => ⟨by show 3 ≤ sizeLine; decide, fun tp htp => ?_⟩⟩
        have sa := Same.upd (o := .tup [.str "word"]) hta
        have s8 := sa.trans (Same.upd (o := .tup [.str z1, .int hr, .ref ta]) htp)
        have ok8 := ok7.mono s8
        have ntp : tp ≠ S := (ne_of_none (sa _ _ ok7.hs) htp).symm
        have nta : ta ≠ S := (ne_of_none ok7.hs hta).symm
        refine ⟨S, ss, .ref tp, rfl, rfl, ok8.hs, by omega, ?_⟩
        refine ⟨ss ++ [.ref tp], ts, ys, _, _, _, _, _, _, _, rfl, fun b o e n1 n2 n3 => (by rw [upd_ne n1]; exact s8 _ _ (kp7 b o e n1 n2 n3)), ok8.addS ⟨hml.1, hnlS.1, nST.symm, nSY.symm⟩ (by omega) ⟨tp, z1, hr, ta, ["word"], rfl, (by rw [upd_ne ntp]; exact upd_same), mp1, kH, (by rw [upd_ne nta]; exact Same.upd htp _ _ upd_same), by decide, by decide, fun x hx => by rw [List.mem_singleton] at hx; rw [hx]; exact word_ok⟩, by omega, ly⟩
    · rintro σ H6 ⟨ss, ts, ys, e5, e6, e7, e8, e9, e10, e11, rfl, kp, ok, lt, ly⟩
      have fin : ∀ {ss' : List V} {H8 : Hp}, Same H H8 → MOk ps H8 md nl S Tt Y ss' ts ys → Q (.ref md) H8 := fun s8 ok8 => k md nl S Tt Y ps _ ts ys _ s8 (s2.free nmd) po pl2 ok8
      have s6 := kpS kp
      have ds := ok.ds
      dsimp only
      refine seq_ifH (fun σ' H' => ∃ (ss' : List V), σ' = [some (.ref sc), some (.int hd), some (.ref nl), some (.int U), some (.ref md), e5, e6, e7, e8, e9, e10, e11] ∧ Same H H' ∧ MOk ps H' md nl S Tt Y ss' ts ys) ?_ ss.isEmpty (fun Q' q' => ?_) (fun em H7 s7 hR => ?_) (fun _ H7 s7 => ?_)
      · rintro σ' H8 ⟨ss', rfl, s8, ok8⟩
        exact ⟨_, rfl, fin s8 ok8⟩
      · refine ⟨_, rfl, md, _, rfl, ds, by show 0 ≤ sizeLine; decide, fun e0 n0 => ?_⟩
        have s7 := Same.upd (o := .lst []) n0
        cases ss with
        | nil => exact .same S e0 [] [] [] rfl rfl (SqL.of (s7 _ _ ok.hs)) (SqL.of upd_same) rfl rfl (fun i u v c hu => by cases hu) ⟨_, rfl, q' _ s7⟩
        | cons v r => exact .other S e0 (v :: r) [] rfl rfl (SqL.of (s7 _ _ ok.hs)) (SqL.of upd_same) (by show r.length + 1 ≠ 0; omega) ⟨_, rfl, q' _ s7⟩
      · have ok7 := ok.mono s7
        have se : ss = [] := List.isEmpty_iff.mp em
        subst se
        obtain ⟨z0, az0, mz0⟩ := pers_at (ps := ps) (i := 0) (by decide) (by omega)
        refine ⟨_, rfl, md, _, rfl, ok7.ds, .inl ⟨rfl, _, SqL.of ok7.hs⟩, _, rfl, nl, _, _, _, rfl, rfl, SqL.of ok7.hp, az0, by show 1 ≤ sizeLine; decide, fun ta hta => ⟨by show 3 ≤ sizeLine; decide, fun tp htp => ?_⟩⟩
        have sa := Same.upd (o := .tup [.str "word"]) hta
        have s8 := sa.trans (Same.upd (o := .tup [.str z0, .int 0, .ref ta]) htp)
        have ok8 := ok7.mono s8
        have ntp : tp ≠ S := (ne_of_none (sa _ _ ok7.hs) htp).symm
        have nta : ta ≠ S := (ne_of_none ok7.hs hta).symm
        have s07 := s6.trans (s7.trans s8)
        refine ⟨S, [], .ref tp, rfl, rfl, ok8.hs, by show 0 < sizeLine; decide, hR _ _ ⟨[.ref tp], rfl, fun b o e => ?_, ok8.addS ⟨hml.1, hnlS.1, nST.symm, nSY.symm⟩ (by decide) ⟨tp, z0, 0, ta, ["word"], rfl, (by rw [upd_ne ntp]; exact upd_same), mz0, okH (by decide) (by decide), (by rw [upd_ne nta]; exact Same.upd htp _ _ upd_same), by decide, by decide, fun x hx => by rw [List.mem_singleton] at hx; rw [hx]; exact word_ok⟩⟩⟩
        rw [upd_ne (ne_of_none e (s2.free fS))]
        exact s07 _ _ e
      · exact ⟨ss, rfl, s6.trans s7, ok.mono s7⟩
end
/-! ### the law's own looks: free, tellings, open -/
def blk (z : Str) (h : Int) : SD → Bool
  | .unh q none => decide (q = z)
  | .unh q (some i) => decide (q = z) && decide (h ≤ i)
  | _ => false
def okh (h : Int) : Option Int → Bool
  | none => false
  | some i => decide (i < h)
theorem flr_above (h : Int) : ∀ (us : List (Option Int)) (acc : Int), aboveB h (flr acc us) = (decide (acc < h) && us.all (okh h))
  | [], acc => by
    show decide (acc < h) = (decide (acc < h) && true)
    rw [Bool.and_true]
  | none :: r, acc => by
    show false = (decide (acc < h) && (false && r.all (okh h)))
    rw [Bool.false_and, Bool.and_false]
  | some i :: r, acc => by
    show aboveB h (flr (if i > acc then i else acc) r) = (decide (acc < h) && (decide (i < h) && r.all (okh h)))
    rw [flr_above h r, ← Bool.and_assoc]
    congr 1
    rw [Bool.eq_iff_iff, Bool.and_eq_true, decide_eq_true_iff, decide_eq_true_iff, decide_eq_true_iff]
    split <;> omega
theorem unhs_blk (z : Str) (h : Int) : ∀ sd : List SD, (unhs z sd).all (okh h) = !(sd.any (blk z h))
  | [] => rfl
  | d :: r => by
    have ih := unhs_blk z h r
    rw [List.any_cons, Bool.not_or, ← ih]
    cases d with
    | unh q o =>
      by_cases e : q = z
      · subst e
        rw [unhs_yes, List.all_cons]
        congr 1
        cases o with
        | none =>
          show false = !(decide (q = q))
          rw [decide_eq_true rfl]
          rfl
        | some i =>
          show decide (i < h) = !(decide (q = q) && decide (h ≤ i))
          rw [decide_eq_true rfl, Bool.true_and]
          by_cases c : i < h
          · rw [decide_eq_true c, decide_eq_false (by omega)]
            rfl
          · rw [decide_eq_false c, decide_eq_true (by omega)]
            rfl
      · rw [unhs_no (show isUnh z (.unh q o) = false from decide_eq_false e)]
        have : blk z h (.unh q o) = false := by
          cases o with
          | none => exact decide_eq_false e
          | some i =>
            show (decide (q = z) && decide (h ≤ i)) = false
            rw [decide_eq_false e, Bool.false_and]
        rw [this]
        rfl
    | knew q i =>
      rw [unhs_no rfl]
      rfl
    | sil q b e =>
      rw [unhs_no rfl]
      rfl
    | bar q q' =>
      rw [unhs_no rfl]
      rfl
theorem free_is {z : Str} {h : Int} {sd : List SD} (h0 : 0 ≤ h) : aboveB h (floorOf z sd) = !(sd.any (blk z h)) := by
  unfold floorOf
  rw [flr_above, unhs_blk, decide_eq_true (show (-1 : Int) < h by omega), Bool.true_and]
theorem any_take {α : Type} {f : α → Bool} {l : List α} {i : Nat} {d : α} (h : l[i]? = some d) (h0 : (l.take i).any f = false) (h1 : f d = false) : (l.take (i + 1)).any f = false := by
  rw [List.take_add_one, h, List.any_append, h0]
  show (false || (f d || false)) = false
  rw [h1]
  rfl
theorem any_or {α : Type} (f g : α → Bool) : ∀ l : List α, (l.any fun d => f d || g d) = (l.any f || l.any g)
  | [] => rfl
  | d :: r => by
    rw [List.any_cons, List.any_cons, List.any_cons, any_or f g r]
    cases f d <;> cases g d <;> cases r.any f <;> cases r.any g <;> rfl
def kepB (te he : Str) (h : Int) (d : SD) : Bool := silB te h d || barB he te d
/-! ### the law's own looks -/
inductive Free4P (vs : List V) (H : Hp) (Q : VK) : Prop
  | mk (md p s t y : Addr) (ps : List Str) (ss ts ys : List V) (z : Str) (h : Int) (sd : List SD) (e : vs = [.ref md, .str z, .int h]) (ok : MOk ps H md p s t y ss ts ys) (sy : Sys H ys sd) (h0 : 0 ≤ h) (k : ∀ H', Same H H' → Q (.bl (aboveB h (floorOf z sd))) H')
def spFree4 : Sp := fun vs H Q _ => Free4P vs H Q
inductive Hour4P (vs : List V) (H : Hp) (Q : VK) : Prop
  | mk (md p s t y a : Addr) (ps : List Str) (ss ts ys : List V) (qd : List QD) (tk : TK) (e : vs = [.ref md, .ref a]) (ok : MOk ps H md p s t y ss ts ys) (qs : Lz TalkQ H ts qd) (ht : TelV' H a tk) (lt : tk.1 < qd.length) (k : Q (.int (hourAt qd tk.1)) H)
def spHour4 : Sp := fun vs H Q _ => Hour4P vs H Q
inductive All4P (vs : List V) (H : Hp) (Q : VK) : Prop
  | mk (md p s t y : Addr) (ps : List Str) (ss ts ys : List V) (qd : List QD) (e : vs = [.ref md]) (ok : MOk ps H md p s t y ss ts ys) (qs : Lz TalkQ H ts qd)
      (k : ∀ (l : Addr) (us : List V) (H' : Hp), Same H H' → H l = none → H' l = some (.lst us) → TelL H' us (tel 0 (qtd qd)) → Q (.ref l) H')
def spAll4 : Sp := fun vs H Q _ => All4P vs H Q
inductive Seen4P (vs : List V) (H : Hp) (Q : VK) : Prop
  | mk (md p s t y : Addr) (ps : List Str) (ss ts ys : List V) (sg : List GD) (sd : List SD) (e : vs = [.ref md]) (ok : MOk ps H md p s t y ss ts ys) (gs : Lz SightD H ss sg) (gk : ∀ d ∈ sg, d.1 ∈ ps ∧ HourOk d.2) (sy : Sys H ys sd)
      (k : ∀ d kvs H', Same H H' → H d = none → H' d = some (.dK kvs) → SeenD kvs (seenF (sg.filter (openS sd))) → Q (.ref d) H')
def spSeen4 : Sp := fun vs H Q _ => Seen4P vs H Q
inductive Se4Inv (md d : Addr) (H1 : Hp) (gs : List GD) (sd : List SD) (i : Nat) (σ : St) (H2 : Hp) : Prop
  | mk (e2 e3 e4 : Option V) (kvs : List (Key × V)) (e : σ = [some (.ref md), some (.ref d), e2, e3, e4]) (kp : ∀ b o, H1 b = some o → b ≠ d → H2 b = some o) (hd : H2 d = some (.dK kvs)) (kl : kvs.length ≤ i) (sn : SeenD kvs (seenF ((gs.take i).filter (openS sd))))
section
variable {P : Program} {w : World} {K : PySem.W.Frag} {mg : Str → Option Value} {base : Heap} {kw C : Addr}
theorem sc_l_free : FnScope ["_law_made_here", "_law_person", "_law_hour_here", "_law_one"] ["_law_made_here", "_law_person", "_law_hour_here"] (defScope s_l_free) := ⟨rfl, rfl, rfl, by decide +kernel, rfl, by decide +kernel, by decide +kernel⟩
theorem ok_free4 {f : Addr} {fd : FuncData} (D : Df K mg "_law_free" s_l_free ["_law_made_here", "_law_person", "_law_hour_here"] f fd) : Gd P w K mg base 1 "_law_free" spFree4 := by
  refine J.def_ok D sc_l_free (fun vs H Q E h => ?_) (fun X H vs Q E hh h => ?_)
  · obtain ⟨md, p, s, t, y, ps, ss, ts, ys, z, h, sd, rfl, _⟩ := h
    rfl
  · obtain ⟨md, p, s, t, y, ps, ss, ts, ys, z, h, sd, rfl, ok, sy, h0, k⟩ := h
    have S0 : L2.Slot X 0 "_law_made_here" := hh.slot 0 rfl (by first | exact .inl rfl | exact .inr rfl) (by decide) (by decide)
    have S1 : L2.Slot X 1 "_law_person" := hh.slot 1 rfl (by first | exact .inl rfl | exact .inr rfl) (by decide) (by decide)
    have S2 : L2.Slot X 2 "_law_hour_here" := hh.slot 2 rfl (by first | exact .inl rfl | exact .inr rfl) (by decide) (by decide)
    have S3 : L2.Slot X 3 "_law_one" := hh.slot 3 rfl (by first | exact .inl rfl | exact .inr rfl) (by decide) (by decide)
    have hu := hu_of hh.room
    have hy := ok.hy
    rw [free_is h0] at k
    refine ⟨_, (J.pss_cons (J.ps_for hh.own hh.calm (J.pi_list (J.dget hu (J.rd S0) J.pe_str J.ix_con)) (J.tgt S3 hh.nd)
 (J.pss_one (J.ps_if (J.pw_pt (J.pw_and (J.pt_cmpR J.op_eq (J.pe_ix J.ix_tup (J.rd S3) J.pe_int J.ix_con) J.pe_str (L2.nomark _)) (J.pw_and (J.pt_cmpR J.op_eq (J.pe_ix J.ix_tup (J.rd S3) J.pe_int J.ix_con) (J.rd S1) (L2.nomark _)) (J.pw_and1 (J.pw_pt (J.pw_or (J.pt_cmpR J.op_isN (J.pe_ix J.ix_tup (J.rd S3) J.pe_int J.ix_con) J.pe_non (L2.nomark _)) (J.pw_or1 (J.pt_cmpR J.op_ge (J.pe_ix J.ix_tup (J.rd S3) J.pe_int J.ix_con) (J.rd S2) (L2.nomark _)))))))))
 (J.pss_one (J.ps_ret J.pe_bl))
 J.pss_nil)))
 (J.pss_one (J.ps_ret J.pe_bl))), ?_⟩
    refine ⟨_, rfl, md, _, rfl, ok.dy, y, rfl, ⟨_, SqL.of hy⟩, for_list (K := X.K) (a := y) (xs := ys) (fun i σ H2 => ∃ e : Option V, σ = [some (.ref md), some (.str z), some (.int h), e] ∧ Same H H2 ∧ (sd.take i).any (blk z h) = false)
      ⟨none, rfl, Same.refl _, rfl⟩ ?_ ?_ ?_⟩
    · rintro i σ H2 hi ⟨e, rfl, s2, _⟩
      exact SqL.of (s2 _ _ hy)
    · rintro i v σ H2 hv ⟨e, rfl, s2, ha0⟩
      obtain ⟨d, a, hd, rfl, ha⟩ := sy.at hv
      have ha2 := s2 _ _ ha
      have yes : blk z h d = true → Q (.bl false) H2 := fun hk => by
        have := k H2 s2
        rw [show sd.any (blk z h) = true from List.any_eq_true.mpr ⟨d, List.mem_of_getElem? hd, hk⟩] at this
        exact this
      have no : blk z h d = false → (sd.take (i + 1)).any (blk z h) = false := any_take hd ha0
      cases d with
      | knew q i' => exact ⟨_, rfl, a, _, _, _, rfl, rfl, SqT.of ha2, rfl, rfl, _, rfl, iteN (by decide +kernel) (iteF ⟨_, rfl, s2, no rfl⟩)⟩
      | sil q b e' => exact ⟨_, rfl, a, _, _, _, rfl, rfl, SqT.of ha2, rfl, rfl, _, rfl, iteN (by decide +kernel) (iteF ⟨_, rfl, s2, no rfl⟩)⟩
      | bar q q' => exact ⟨_, rfl, a, _, _, _, rfl, rfl, SqT.of ha2, rfl, rfl, _, rfl, iteN (by decide +kernel) (iteF ⟨_, rfl, s2, no rfl⟩)⟩
      | unh q o =>
        refine ⟨_, rfl, a, _, _, _, rfl, rfl, SqT.of ha2, rfl, rfl, _, rfl, iteP (by decide +kernel) ⟨_, rfl, a, _, _, _, rfl, rfl, SqT.of ha2, rfl, _, rfl, rfl, _, rfl, ite2 (fun hq => ?_) (fun hq => iteF ?_)⟩⟩
        · have hq' : q = z := V.str.inj (of_decide_eq_true hq)
          cases o with
          | none => exact ⟨_, rfl, a, _, _, _, rfl, rfl, SqT.of ha2, rfl, rfl, _, rfl, iteP (decide_eq_true rfl) (iteT (yes (decide_eq_true hq')))⟩
          | some j =>
            refine ⟨_, rfl, a, _, _, _, rfl, rfl, SqT.of ha2, rfl, rfl, _, rfl, iteN (by rw [decide_eq_true_iff]; intro e; cases e) ⟨_, rfl, a, _, _, _, rfl, rfl, SqT.of ha2, rfl, _, rfl, _, _, rfl, rfl, _, rfl, ite2 (fun hj => yes ?_) (fun hj => ⟨_, rfl, s2, no ?_⟩)⟩⟩
            · show (decide (q = z) && decide (h ≤ j)) = true
              rw [decide_eq_true hq', hj]
              rfl
            · show (decide (q = z) && decide (h ≤ j)) = false
              rw [eq_false_of_ne_true hj, Bool.and_false]
        · refine ⟨_, rfl, s2, no ?_⟩
          have hq' : ¬ q = z := fun e => hq (decide_eq_true (congrArg V.str e))
          cases o with
          | none => exact decide_eq_false hq'
          | some j =>
            show (decide (q = z) && decide (h ≤ j)) = false
            rw [decide_eq_false hq', Bool.false_and]
    · rintro σ H2 ⟨e, rfl, s2, ha0⟩
      rw [sy.1, List.take_length] at ha0
      have := k H2 s2
      rw [ha0] at this
      exact this
theorem sc_l_hour : FnScope ["_law_made_here", "_law_telling"] ["_law_made_here", "_law_telling"] (defScope s_l_hour) := ⟨rfl, rfl, rfl, by decide +kernel, rfl, by decide +kernel, by decide +kernel⟩
theorem ok_hour4 {f : Addr} {fd : FuncData} (D : Df K mg "_law_hour" s_l_hour ["_law_made_here", "_law_telling"] f fd) : Gd P w K mg base 1 "_law_hour" spHour4 := by
  refine J.def_ok D sc_l_hour (fun vs H Q E h => ?_) (fun X H vs Q E hh h => ?_)
  · obtain ⟨md, p, s, t, y, a, ps, ss, ts, ys, qd, tk, rfl, _⟩ := h
    rfl
  · obtain ⟨md, p, s, t, y, a, ps, ss, ts, ys, qd, tk, rfl, ok, qs, ht, lt, k⟩ := h
    have S0 : L2.Slot X 0 "_law_made_here" := hh.slot 0 rfl (by first | exact .inl rfl | exact .inr rfl) (by decide) (by decide)
    have S1 : L2.Slot X 1 "_law_telling" := hh.slot 1 rfl (by first | exact .inl rfl | exact .inr rfl) (by decide) (by decide)
    have hu := hu_of hh.room
    refine ⟨_, (J.pss_one (J.ps_ret (J.pe_ix J.ix_tup (J.pe_ix J.ix_list (J.dget hu (J.rd S0) J.pe_str J.ix_con) (J.pe_ix J.ix_tup (J.rd S1) J.pe_int J.ix_con) J.ix_sub) J.pe_int J.ix_con))), ?_⟩
    obtain ⟨q, hq⟩ : ∃ q, qd[tk.1]? = some q := ⟨_, List.getElem?_eq_getElem lt⟩
    obtain ⟨vq, hvq⟩ : ∃ vq, ts[tk.1]? = some vq := ⟨_, List.getElem?_eq_getElem (by rw [qs.1]; exact lt)⟩
    obtain ⟨aq, rfl, haq⟩ := qs.2 _ _ _ hvq hq
    rw [hourAt_at hq] at k
    exact ⟨_, rfl, md, _, rfl, ok.dt, _, rfl, a, _, _, _, rfl, rfl, SqT.of ht, rfl, t, _, _, _, rfl, rfl, SqL.of ok.ht, atI_nat hvq, aq, _, _, _, rfl, rfl, SqT.of haq, rfl, k⟩
theorem sc_l_all : FnScope ["_law_made_here", "_law_found", "_law_k", "_law_hour_here", "_law_one", "_law_other", "_law_way"] ["_law_made_here"] (defScope s_l_all) := ⟨rfl, rfl, rfl, by decide +kernel, rfl, by decide +kernel, by decide +kernel⟩
theorem ok_all4 {f : Addr} {fd : FuncData} (D : Df K mg "_law_all" s_l_all ["_law_made_here"] f fd) (T : Txt K mg kw C) : Gd P w K mg base 1 "_law_all" spAll4 := by
  refine J.def_ok D sc_l_all (fun vs H Q E h => ?_) (fun X H vs Q E hh h => ?_)
  · obtain ⟨md, p, s, t, y, ps, ss, ts, ys, qd, rfl, _⟩ := h
    rfl
  · obtain ⟨md, p, s, t, y, ps, ss, ts, ys, qd, rfl, ok, qs, k⟩ := h
    have S0 : L2.Slot X 0 "_law_made_here" := hh.slot 0 rfl (by first | exact .inl rfl | exact .inr rfl) (by decide) (by decide)
    have S1 : L2.Slot X 1 "_law_found" := hh.slot 1 rfl (by first | exact .inl rfl | exact .inr rfl) (by decide) (by decide)
    have S2 : L2.Slot X 2 "_law_k" := hh.slot 2 rfl (by first | exact .inl rfl | exact .inr rfl) (by decide) (by decide)
    have S3 : L2.Slot X 3 "_law_hour_here" := hh.slot 3 rfl (by first | exact .inl rfl | exact .inr rfl) (by decide) (by decide)
    have S4 : L2.Slot X 4 "_law_one" := hh.slot 4 rfl (by first | exact .inl rfl | exact .inr rfl) (by decide) (by decide)
    have S5 : L2.Slot X 5 "_law_other" := hh.slot 5 rfl (by first | exact .inl rfl | exact .inr rfl) (by decide) (by decide)
    have S6 : L2.Slot X 6 "_law_way" := hh.slot 6 rfl (by first | exact .inl rfl | exact .inr rfl) (by decide) (by decide)
    have B_len : Bt X "len" := hh.bt T.b_len rfl (by decide) (by decide)
    have B_range : Bt X "range" := hh.bt T.b_range rfl (by decide) (by decide)
    have hu := hu_of hh.room
    have hsz : sizeLine = 16777216 := sizeLine_eq
    have tl := ok.lt
    refine ⟨_, (J.pss_cons (J.set S1 hh.nd (J.pe_lst J.pa_nil))
 (J.pss_cons (J.ps_for hh.own hh.calm (J.pi_range1 B_range (J.pa_c (J.blt B_len J.call_len_seq L2.bb_len (J.pa_c (J.dget hu (J.rd S0) J.pe_str J.ix_con) J.pa_nil)) J.pa_nil)) (J.tgt S2 hh.nd)
 (J.pss_cons (J.asg (J.pe_ix J.ix_list (J.dget hu (J.rd S0) J.pe_str J.ix_con) (J.rd S2) J.ix_name) (J.pg_tup hh.calm (J.pgs_c (J.tgt S3 hh.nd) (J.pgs_c (J.tgt S4 hh.nd) (J.pgs_c (J.tgt S5 hh.nd) (J.pgs_c (J.tgt S6 hh.nd) J.pgs_nil))))))
 (J.pss_cons (J.ps_do (J.bm PySem.F.plainAttrs_list PySem.F.slot_list_append PySem.F.type_list_append J.mt_append (J.rd S1) (J.pa_c (J.pe_tup (J.pa_c (J.rd S2) (J.pa_c (J.rd S4) (J.pa_c (J.rd S5) J.pa_nil)))) J.pa_nil)))
 (J.pss_one (J.ps_if (J.pt_cmpR J.op_eq (J.rd S6) J.pe_str (L2.nomark _))
 (J.pss_one (J.ps_do (J.bm PySem.F.plainAttrs_list PySem.F.slot_list_append PySem.F.type_list_append J.mt_append (J.rd S1) (J.pa_c (J.pe_tup (J.pa_c (J.rd S2) (J.pa_c (J.rd S5) (J.pa_c (J.rd S4) J.pa_nil)))) J.pa_nil))))
 J.pss_nil)))))
 (J.pss_one (J.ps_ret (J.rd S1))))), ?_⟩
    refine ⟨by show 0 ≤ sizeLine; decide, fun l hl => ?_⟩
    have s1 := Same.upd (o := .lst []) hl
    refine ⟨_, rfl, md, _, rfl, (ok.mono s1).dt, t, _, rfl, .inl (SqL.of (s1 _ _ ok.ht)), (ts.length : Int), rfl, by omega, by omega, for_range (lo := 0) (n := ((ts.length : Nat) : Int).toNat) (fun i σ H2 => ∃ (us : List V) (e1 e2 e3 e4 e5 : Option V), σ = [some (.ref md), some (.ref l), e1, e2, e3, e4, e5] ∧ Same H H2 ∧ H2 l = some (.lst us) ∧ us.length ≤ 2 * i ∧ TelL H2 us (tel 0 ((qtd qd).take i)))
      ⟨[], none, none, none, none, none, rfl, s1, upd_same, Nat.le_refl 0, TelL.nil⟩ ?_ ?_⟩
    · rintro i σ H2 hi ⟨us, e1, e2, e3, e4, e5, rfl, s2, hl2, ul, tl⟩
      rw [Int.toNat_natCast] at hi
      have hv : ts[i]? = some ts[i] := List.getElem?_eq_getElem hi
      generalize ts[i] = v at hv
      obtain ⟨d, hd, a, rfl, ha⟩ := qs.at hv
      have hd' : (qtd qd)[i]? = some d.2 := by
        unfold qtd
        rw [List.getElem?_map, hd]
        rfl
      have ha2 := s2 _ _ ha
      have ok2 := ok.mono s2
      have av : atI ts ((0 : Int) + (i : Int)) = some (.ref a) := by rw [Int.zero_add]; exact atI_nat hv
      refine ⟨_, rfl, md, _, rfl, ok2.dt, _, rfl, t, _, _, _, rfl, rfl, SqL.of ok2.ht, av, a, _, rfl, SqT.of ha2, rfl, _, _, rfl, _, _, rfl, _, _, rfl, _, _, rfl, rfl, ?_⟩
      refine ⟨_, rfl, .inl ⟨rfl, _, SqL.of hl2⟩, _, rfl, _, rfl, _, rfl, by show 3 ≤ sizeLine; decide, fun t1 ht1 => ?_⟩
      rw [Int.zero_add]
      have s4 := Same.upd (o := .tup [.int i, .str d.2.1, .str d.2.2.1]) ht1
      refine ⟨l, us, .ref t1, rfl, rfl, s4 _ _ hl2, by omega, ?_⟩
      have t1l : t1 ≠ l := (ne_of_none hl2 ht1).symm
      have tv5 : TelV (upd (upd H2 t1 (.tup [.int i, .str d.2.1, .str d.2.2.1])) l (.lst (us ++ [.ref t1]))) (.ref t1) (i, d.2.1, d.2.2.1) := ⟨t1, rfl, by rw [upd_ne t1l]; exact upd_same⟩
      have tk5 := (Tk.of s4).trans (Tk.upd (s4 _ _ hl2) (ys := us ++ [.ref t1]))
      have tl5 := tl.mono tk5
      have hl5 : upd (upd H2 t1 (.tup [.int i, .str d.2.1, .str d.2.2.1])) l (.lst (us ++ [.ref t1])) l = some (.lst (us ++ [.ref t1])) := upd_same
      have s05 : Same H (upd (upd H2 t1 (.tup [.int i, .str d.2.1, .str d.2.2.1])) l (.lst (us ++ [.ref t1]))) := fun b o e => by
        rw [upd_ne (ne_of_none e hl)]
        exact s4 _ _ (s2 _ _ e)
      generalize upd (upd H2 t1 (.tup [.int i, .str d.2.1, .str d.2.2.1])) l (.lst (us ++ [.ref t1])) = H5 at tv5 tl5 hl5 s05
      refine ⟨_, rfl, rfl, _, rfl, ite2 (fun hb => ?_) (fun hb => ?_)⟩
      · have hb' : d.2.2.2 = "both" := V.str.inj (of_decide_eq_true hb)
        refine ⟨_, rfl, .inl ⟨rfl, _, SqL.of hl5⟩, _, rfl, _, rfl, _, rfl, by show 3 ≤ sizeLine; decide, fun t2 ht2' => ?_⟩
        have s6 := Same.upd (o := .tup [.int i, .str d.2.2.1, .str d.2.1]) ht2'
        refine ⟨l, _, .ref t2, rfl, rfl, s6 _ _ hl5, by rw [List.length_append]; show us.length + 1 < _; omega, ?_⟩
        have t2l : t2 ≠ l := (ne_of_none hl5 ht2').symm
        have tk7 := (Tk.of s6).trans (Tk.upd (s6 _ _ hl5) (ys := (us ++ [.ref t1]) ++ [.ref t2]))
        refine ⟨_, _, _, _, _, _, rfl, fun b o e => ?_, upd_same, ?_, (tel_put hd' (tl5.mono tk7)).1 hb' _ _ (tv5.mono tk7) ⟨t2, rfl, ?_⟩⟩
        · rw [upd_ne (ne_of_none e hl)]
          exact s6 _ _ (s05 _ _ e)
        · rw [List.length_append, List.length_append]
          show us.length + 1 + 1 ≤ 2 * (i + 1)
          omega
        · rw [upd_ne t2l]
          exact upd_same
      · have hb' : d.2.2.2 ≠ "both" := fun e => hb (decide_eq_true (congrArg V.str e))
        exact ⟨_, _, _, _, _, _, rfl, s05, hl5, by rw [List.length_append]; show us.length + 1 ≤ 2 * (i + 1); omega, (tel_put hd' tl5).2 hb' _ tv5⟩
    · rintro σ H2 ⟨us, e1, e2, e3, e4, e5, rfl, s2, hl2, ul, tl⟩
      rw [Int.toNat_natCast, qs.1, show qd.length = (qtd qd).length from (List.length_map ..).symm, List.take_length] at tl
      exact ⟨_, rfl, k l us H2 s2 hl hl2 tl⟩
theorem sc_l_seen : FnScope ["_law_made_here", "_law_seen_here", "_law_person", "_law_hour_here", "_law_tale"] ["_law_made_here"] (defScope s_l_seen) := ⟨rfl, rfl, rfl, by decide +kernel, rfl, by decide +kernel, by decide +kernel⟩
theorem ok_seen4 {f : Addr} {fd : FuncData} (D : Df K mg "_law_seen" s_l_seen ["_law_made_here"] f fd) (T : Txt K mg kw C) (G__law_free : Gd P w K mg base 1 "_law_free" spFree4) : Gd P w K mg base 2 "_law_seen" spSeen4 := by
  refine J.def_ok D sc_l_seen (fun vs H Q E h => ?_) (fun X H vs Q E hh h => ?_)
  · obtain ⟨md, p, s, t, y, ps, ss, ts, ys, sg, sd, rfl, _⟩ := h
    rfl
  · obtain ⟨md, p, s, t, y, ps, ss, ts, ys, sg, sd, rfl, ok, gs, gk, sy, k⟩ := h
    have S0 : L2.Slot X 0 "_law_made_here" := hh.slot 0 rfl (by first | exact .inl rfl | exact .inr rfl) (by decide) (by decide)
    have S1 : L2.Slot X 1 "_law_seen_here" := hh.slot 1 rfl (by first | exact .inl rfl | exact .inr rfl) (by decide) (by decide)
    have S2 : L2.Slot X 2 "_law_person" := hh.slot 2 rfl (by first | exact .inl rfl | exact .inr rfl) (by decide) (by decide)
    have S3 : L2.Slot X 3 "_law_hour_here" := hh.slot 3 rfl (by first | exact .inl rfl | exact .inr rfl) (by decide) (by decide)
    have S4 : L2.Slot X 4 "_law_tale" := hh.slot 4 rfl (by first | exact .inl rfl | exact .inr rfl) (by decide) (by decide)
    have B_min : Bt X "min" := hh.bt T.b_min rfl (by decide) (by decide)
    have C__law_free := hh.cal G__law_free rfl (by first | decide | exact Nat.le_refl _) (by decide)
    have hu := hu_of hh.room
    have hsz : sizeLine = 16777216 := sizeLine_eq
    have sl := ok.ls
    refine ⟨_, (J.pss_cons (J.set S1 hh.nd J.pe_dnew)
 (J.pss_cons (J.ps_for hh.own hh.calm (J.pi_list (J.dget hu (J.rd S0) J.pe_str J.ix_con)) (J.pg_tup hh.calm (J.pgs_c (J.tgt S2 hh.nd) (J.pgs_c (J.tgt S3 hh.nd) (J.pgs_c (J.tgt S4 hh.nd) J.pgs_nil))))
 (J.pss_one (J.ps_if (J.pt_call (J.cal C__law_free (J.pa_c (J.rd S0) (J.pa_c (J.rd S2) (J.pa_c (J.rd S3) J.pa_nil)))))
 (J.pss_one (J.dput hu (J.rd S1) (J.rd S2) (J.blt B_min (J.call_min2 hh.calm) L2.bb_min (J.pa_c (J.rd S3) (J.pa_c (J.get2 hu (J.rd S1) (J.rd S2) (J.rd S3)) J.pa_nil)))))
 J.pss_nil)))
 (J.pss_one (J.ps_ret (J.rd S1))))), ?_⟩
    intro d nd
    have s1 := Same.upd (o := .dK []) nd
    have hd1 : upd H d (.dK []) d = some (.dK []) := upd_same
    generalize upd H d (.dK []) = H1 at s1 hd1
    have ok1 := ok.mono s1
    have keep : ∀ {b : Addr} {o : HO} {H2 : Hp}, (∀ b o, H1 b = some o → b ≠ d → H2 b = some o) → H b = some o → H2 b = some o := fun kp e => kp _ _ (s1 _ _ e) (ne_of_none e nd)
    refine ⟨_, rfl, md, _, rfl, ok1.ds, s, rfl, ⟨_, SqL.of ok1.hs⟩, for_list (K := X.K) (a := s) (xs := ss) (Se4Inv md d H1 sg sd) ⟨none, none, none, [], rfl, fun b o e _ => e, hd1, Nat.le_refl 0, ⟨fun _ => rfl⟩⟩ ?_ ?_ ?_⟩
    · rintro i σ H2 hi ⟨e2, e3, e4, kvs, rfl, kp, hd, kl, sn⟩
      exact SqL.of (keep kp ok.hs)
    · rintro i v σ H2 hv ⟨e2, e3, e4, kvs, rfl, kp, hd, kl, sn⟩
      have hi := (List.getElem?_eq_some_iff.mp hv).1
      obtain ⟨g, hg, a, ta, rfl, ha⟩ := gs.at hv
      have ha2 := keep kp ha
      have s2 : Same H H2 := fun b o e => keep kp e
      have ok2 := ok.mono s2
      have gk' := gk g (List.mem_of_getElem? hg)
      have lk : kvs.length < sizeLine := by omega
      have tk1 : (sg.take (i + 1)).filter (openS sd) = (sg.take i).filter (openS sd) ++ (if openS sd g = true then [g] else []) := by
        rw [List.take_add_one, hg, List.filter_append]
        congr 1
        show List.filter (openS sd) [g] = _
        rw [List.filter_cons]
        rfl
      refine ⟨a, _, rfl, SqT.of ha2, rfl, _, _, rfl, _, _, rfl, _, _, rfl, rfl, ?_⟩
      refine ⟨_, rfl, _, rfl, _, rfl, md, p, s, t, y, ps, ss, ts, ys, g.1, g.2, sd, rfl, ok2, sy.mono (Tk.of s2), gk'.2.1, fun H3 s3 => ⟨_, rfl, ite2 (fun op => ?_) (fun no => ?_)⟩⟩
      · have hd3 := s3 _ _ hd
        have dg := DGet.k (k := Sum.inr g.1) hd3
        rw [sn.get] at dg
        rw [if_pos (show openS sd g = true from op)] at tk1
        have put : ∀ m : Int, stepF (seenF ((sg.take i).filter (openS sd))) g g.1 = some m → Se4Inv md d H1 sg sd (i + 1) [some (.ref md), some (.ref d), some (.str g.1), some (.int g.2), some (.ref ta)] (upd H3 d (.dK (putK kvs (Sum.inr g.1) (.int m)))) := fun m em =>
          ⟨_, _, _, _, rfl, (fun b o e n' => by rw [upd_ne n']; exact s3 _ _ (kp b o e n')), upd_same, Nat.le_trans (length_putK _ _ _) (by omega), by
            rw [tk1, seenF_snoc]
            exact sn.put em⟩
        cases hF : seenF ((sg.take i).filter (openS sd)) g.1 with
        | none =>
          rw [hF] at dg
          exact ⟨_, rfl, _, rfl, d, rfl, .inl ⟨_, .inl hd3⟩, _, rfl, _, rfl, _, dg, g.2, g.2, rfl, _, rfl, _, rfl, d, _, rfl, DPut.k (k := Sum.inr g.1) hd3 lk, put _ (by unfold stepF; rw [if_pos rfl, hF, if_neg (Int.lt_irrefl _)])⟩
        | some j =>
          rw [hF] at dg
          exact ⟨_, rfl, _, rfl, d, rfl, .inl ⟨_, .inl hd3⟩, _, rfl, _, rfl, _, dg, g.2, j, rfl, _, rfl, _, rfl, d, _, rfl, DPut.k (k := Sum.inr g.1) hd3 lk, put _ (by unfold stepF; rw [if_pos rfl, hF])⟩
      · rw [if_neg (show ¬ openS sd g = true from no), List.append_nil] at tk1
        exact ⟨_, _, _, kvs, rfl, (fun b o e n' => s3 _ _ (kp b o e n')), s3 _ _ hd, by omega, by rw [tk1]; exact sn⟩
    · rintro σ H2 ⟨e2, e3, e4, kvs, rfl, kp, hd, kl, sn⟩
      rw [gs.1, List.take_length] at sn
      exact ⟨_, rfl, k d kvs H2 (fun b o e => keep kp e) nd hd sn⟩
end
/-! ### the law's open tellings -/
inductive Open4P (vs : List V) (H : Hp) (Q : VK) : Prop
  | mk (md p s t y : Addr) (ps : List Str) (ss ts ys : List V) (qd : List QD) (sd : List SD) (e : vs = [.ref md]) (ok : MOk ps H md p s t y ss ts ys) (qs : Lz TalkQ H ts qd) (qk : ∀ d ∈ qd, QdOk ps d) (sy : Sys H ys sd)
      (k : ∀ (l : Addr) (us : List V) (H' : Hp), Same H H' → H l = none → H' l = some (.lst us) → TelL H' us ((tel 0 (qtd qd)).filter (openT qd sd)) → Q (.ref l) H')
def spOpen4 : Sp := fun vs H Q _ => Open4P vs H Q
inductive PairD  (H : Hp) (v : V) (d : Str × Str) : Prop
  | mk (a : Addr) (h0 : v = .ref a) (h1 : H a = some (.tup [.str d.1, .str d.2]))
theorem cut2 (x y : V) (b : Bool) : cutV [x, y] none (some (1 + (if b = true then 1 else 0))) = if b = true then [x, y] else [x] := by
  cases b <;> rfl
theorem cut_pairs {H : Hp} {v1 v2 : V} {o t : Str} {b : Bool} (h1 : PairD H v1 (o, t)) (h2 : PairD H v2 (t, o)) : Lz PairD H (cutV [v1, v2] none (some (1 + (if b = true then 1 else 0)))) (if b = true then [(o, t), (t, o)] else [(o, t)]) := by
  rw [cut2]
  cases b with
  | true =>
    rw [if_pos rfl, if_pos rfl]
    refine ⟨rfl, fun i v d hv hd => ?_⟩
    match i with
    | 0 =>
      cases hv
      cases hd
      exact h1
    | 1 =>
      cases hv
      cases hd
      exact h2
    | i + 2 => cases hv
  | false =>
    rw [if_neg Bool.false_ne_true, if_neg Bool.false_ne_true]
    refine ⟨rfl, fun i v d hv hd => ?_⟩
    match i with
    | 0 =>
      cases hv
      cases hd
      exact h1
    | i + 1 => cases hv
inductive O4Inv (md l : Addr) (H : Hp) (qd : List QD) (op : TK → Bool) (i : Nat) (σ : St) (H2 : Hp) : Prop
  | mk (us : List V) (e2 e3 e4 e5 e6 e7 e8 e9 e10 : Option V) (e : σ = [some (.ref md), some (.ref l), e2, e3, e4, e5, e6, e7, e8, e9, e10]) (s : Same H H2) (hl : H2 l = some (.lst us)) (ul : us.length ≤ 2 * i) (tu : TelL H2 us ((tel 0 ((qtd qd).take i)).filter op))
inductive M4Inv (md l : Addr) (d : QD) (i : Nat) (H6 : Hp) (tl : List TK) (prs : List (Str × Str)) (op : TK → Bool) (j : Nat) (σ : St) (H7 : Hp) : Prop
  | mk (us : List V) (e7 e8 e9 e10 : Option V) (e : σ = [some (.ref md), some (.ref l), some (.int i), some (.int d.1), some (.str d.2.1), some (.str d.2.2.1), some (.str d.2.2.2), e7, e8, e9, e10]) (kp : ∀ b o, H6 b = some o → b ≠ l → H7 b = some o) (hl : H7 l = some (.lst us)) (ul : us.length ≤ 2 * i + j) (tu : TelL H7 us ((tl ++ (prs.take j).map (fun pr => (i, pr.1, pr.2))).filter op))
section
variable {P : Program} {w : World} {K : PySem.W.Frag} {mg : Str → Option Value} {base : Heap} {kw C : Addr}
theorem sc_l_open : FnScope ["_law_made_here", "_law_found", "_law_k", "_law_hour_here", "_law_one", "_law_other", "_law_way", "_law_teller", "_law_hearer", "_law_good", "_law_saying_here"] ["_law_made_here"] (defScope s_l_open) := ⟨rfl, rfl, rfl, by decide +kernel, rfl, by decide +kernel, by decide +kernel⟩
theorem ok_open4 {f : Addr} {fd : FuncData} (D : Df K mg "_law_open" s_l_open ["_law_made_here"] f fd) (T : Txt K mg kw C) (G__law_free : Gd P w K mg base 1 "_law_free" spFree4) : Gd P w K mg base 2 "_law_open" spOpen4 := by
  refine J.def_ok D sc_l_open (fun vs H Q E h => ?_) (fun X H vs Q E hh h => ?_)
  · obtain ⟨md, p, s, t, y, ps, ss, ts, ys, qd, sd, rfl, _⟩ := h
    rfl
  · obtain ⟨md, p, s, t, y, ps, ss, ts, ys, qd, sd, rfl, ok, qs, qk, sy, k⟩ := h
    have S0 : L2.Slot X 0 "_law_made_here" := hh.slot 0 rfl (by first | exact .inl rfl | exact .inr rfl) (by decide) (by decide)
    have S1 : L2.Slot X 1 "_law_found" := hh.slot 1 rfl (by first | exact .inl rfl | exact .inr rfl) (by decide) (by decide)
    have S2 : L2.Slot X 2 "_law_k" := hh.slot 2 rfl (by first | exact .inl rfl | exact .inr rfl) (by decide) (by decide)
    have S3 : L2.Slot X 3 "_law_hour_here" := hh.slot 3 rfl (by first | exact .inl rfl | exact .inr rfl) (by decide) (by decide)
    have S4 : L2.Slot X 4 "_law_one" := hh.slot 4 rfl (by first | exact .inl rfl | exact .inr rfl) (by decide) (by decide)
    have S5 : L2.Slot X 5 "_law_other" := hh.slot 5 rfl (by first | exact .inl rfl | exact .inr rfl) (by decide) (by decide)
    have S6 : L2.Slot X 6 "_law_way" := hh.slot 6 rfl (by first | exact .inl rfl | exact .inr rfl) (by decide) (by decide)
    have S7 : L2.Slot X 7 "_law_teller" := hh.slot 7 rfl (by first | exact .inl rfl | exact .inr rfl) (by decide) (by decide)
    have S8 : L2.Slot X 8 "_law_hearer" := hh.slot 8 rfl (by first | exact .inl rfl | exact .inr rfl) (by decide) (by decide)
    have S9 : L2.Slot X 9 "_law_good" := hh.slot 9 rfl (by first | exact .inl rfl | exact .inr rfl) (by decide) (by decide)
    have S10 : L2.Slot X 10 "_law_saying_here" := hh.slot 10 rfl (by first | exact .inl rfl | exact .inr rfl) (by decide) (by decide)
    have B_int : Bt X "int" := hh.bt T.b_int rfl (by decide) (by decide)
    have B_len : Bt X "len" := hh.bt T.b_len rfl (by decide) (by decide)
    have B_range : Bt X "range" := hh.bt T.b_range rfl (by decide) (by decide)
    have C__law_free := hh.cal G__law_free rfl (by first | decide | exact Nat.le_refl _) (by decide)
    have hu := hu_of hh.room
    have hsz : sizeLine = 16777216 := sizeLine_eq
    have tl := ok.lt
    refine ⟨_, (J.pss_cons (J.set S1 hh.nd (J.pe_lst J.pa_nil))
 (J.pss_cons (J.ps_for hh.own hh.calm (J.pi_range1 B_range (J.pa_c (J.blt B_len J.call_len_seq L2.bb_len (J.pa_c (J.dget hu (J.rd S0) J.pe_str J.ix_con) J.pa_nil)) J.pa_nil)) (J.tgt S2 hh.nd)
 (J.pss_cons (J.asg (J.pe_ix J.ix_list (J.dget hu (J.rd S0) J.pe_str J.ix_con) (J.rd S2) J.ix_name) (J.pg_tup hh.calm (J.pgs_c (J.tgt S3 hh.nd) (J.pgs_c (J.tgt S4 hh.nd) (J.pgs_c (J.tgt S5 hh.nd) (J.pgs_c (J.tgt S6 hh.nd) J.pgs_nil))))))
 (J.pss_one (J.ps_for hh.own hh.calm (J.pi_list (J.pe_slice J.sl_list (J.pe_lst (J.pa_c (J.pe_tup (J.pa_c (J.rd S4) (J.pa_c (J.rd S5) J.pa_nil))) (J.pa_c (J.pe_tup (J.pa_c (J.rd S5) (J.pa_c (J.rd S4) J.pa_nil))) J.pa_nil))) J.po_none (J.po_some (J.pe_op J.op_add J.pe_int (J.bltT B_int J.call_int1 L2.bb_int (J.pa_c (J.pe_cmpR J.op_eq (J.rd S6) J.pe_str (L2.nomark _)) J.pa_nil)))))) (J.pg_tup hh.calm (J.pgs_c (J.tgt S7 hh.nd) (J.pgs_c (J.tgt S8 hh.nd) J.pgs_nil)))
 (J.pss_cons (J.set S9 hh.nd (J.cal C__law_free (J.pa_c (J.rd S0) (J.pa_c (J.rd S8) (J.pa_c (J.rd S3) J.pa_nil)))))
 (J.pss_cons (J.ps_for hh.own hh.calm (J.pi_list (J.dget hu (J.rd S0) J.pe_str J.ix_con)) (J.tgt S10 hh.nd)
 (J.pss_cons (J.ps_if (J.pw_pt (J.pw_and (J.pt_cmpR J.op_eq (J.pe_ix J.ix_tup (J.rd S10) J.pe_int J.ix_con) J.pe_str (L2.nomark _)) (J.pw_and (J.pt_cmpR J.op_eq (J.pe_ix J.ix_tup (J.rd S10) J.pe_int J.ix_con) (J.rd S7) (L2.nomark _)) (J.pw_and1 (J.pt_chain J.op_le J.op_le (J.pe_ix J.ix_tup (J.rd S10) J.pe_int J.ix_con) (J.rd S3) (J.pe_ix J.ix_tup (J.rd S10) J.pe_int J.ix_con) L2.chain_mark)))))
 (J.pss_one (J.set S9 hh.nd J.pe_bl))
 J.pss_nil)
 (J.pss_one (J.ps_if (J.pt_cmpR (J.op_eqTT hu) (J.rd S10) (J.pe_tup (J.pa_c J.pe_str (J.pa_c (J.rd S8) (J.pa_c (J.rd S7) J.pa_nil)))) (L2.nomark _))
 (J.pss_one (J.set S9 hh.nd J.pe_bl))
 J.pss_nil))))
 (J.pss_one (J.ps_if (J.pt_name (J.rd S9))
 (J.pss_one (J.ps_do (J.bm PySem.F.plainAttrs_list PySem.F.slot_list_append PySem.F.type_list_append J.mt_append (J.rd S1) (J.pa_c (J.pe_tup (J.pa_c (J.rd S2) (J.pa_c (J.rd S7) (J.pa_c (J.rd S8) J.pa_nil)))) J.pa_nil))))
 J.pss_nil))))))))
 (J.pss_one (J.ps_ret (J.rd S1))))), ?_⟩
    refine ⟨by show 0 ≤ sizeLine; decide, fun l hl => ?_⟩
    have s1 := Same.upd (o := .lst []) hl
    refine ⟨_, rfl, md, _, rfl, (ok.mono s1).dt, t, _, rfl, .inl (SqL.of (s1 _ _ ok.ht)), (ts.length : Int), rfl, by omega, by omega, for_range (lo := 0) (n := ((ts.length : Nat) : Int).toNat) (O4Inv md l H qd (openT qd sd))
      ⟨[], none, none, none, none, none, none, none, none, none, rfl, s1, upd_same, Nat.le_refl 0, TelL.nil⟩ ?_ ?_⟩
    · rintro i σ H2 hi ⟨us, e2, e3, e4, e5, e6, e7, e8, e9, e10, rfl, s2, hl2, ul, tu⟩
      rw [Int.toNat_natCast] at hi
      have hv : ts[i]? = some ts[i] := List.getElem?_eq_getElem hi
      generalize ts[i] = v at hv
      obtain ⟨d, hd, a, rfl, ha⟩ := qs.at hv
      have hd' : (qtd qd)[i]? = some d.2 := by
        unfold qtd
        rw [List.getElem?_map, hd]
        rfl
      have ha2 := s2 _ _ ha
      have ok2 := ok.mono s2
      have av : atI ts ((0 : Int) + (i : Int)) = some (.ref a) := by rw [Int.zero_add]; exact atI_nat hv
      have dk := qk d (List.mem_of_getElem? hd)
      refine ⟨_, rfl, md, _, rfl, ok2.dt, _, rfl, t, _, _, _, rfl, rfl, SqL.of ok2.ht, av, a, _, rfl, SqT.of ha2, rfl, _, _, rfl, _, _, rfl, _, _, rfl, _, _, rfl, rfl, ?_⟩
      rw [Int.zero_add]
      refine ⟨_, rfl, _, rfl, by show 2 ≤ sizeLine; decide, fun t1 n1 => ⟨_, rfl, _, rfl, by show 2 ≤ sizeLine; decide, fun t2 n2 => ⟨by show 2 ≤ sizeLine; decide, fun q0 nq0 => ?_⟩⟩⟩
      have sA := Same.upd (o := .tup [.str d.2.1, .str d.2.2.1]) n1
      have sB := Same.upd (o := .tup [.str d.2.2.1, .str d.2.1]) n2
      have sC := Same.upd (o := .lst [.ref t1, .ref t2]) nq0
      refine ⟨_, rfl, rfl, .inr ⟨_, rfl, _, _, rfl, rfl, _, rfl, q0, _, rfl, SqL.of upd_same, fun q1 nq1 => ?_⟩⟩
      have sD := Same.upd (o := .lst (cutV [.ref t1, .ref t2] none (some (1 + (if decide (V.str d.2.2.2 = V.str "both") = true then 1 else 0))))) nq1
      have s26 := ((sA.trans sB).trans sC).trans sD
      have p1 : PairD (upd (upd (upd (upd H2 t1 (.tup [.str d.2.1, .str d.2.2.1])) t2 (.tup [.str d.2.2.1, .str d.2.1])) q0 (.lst [.ref t1, .ref t2])) q1 (.lst (cutV [.ref t1, .ref t2] none (some (1 + (if decide (V.str d.2.2.2 = V.str "both") = true then 1 else 0)))))) (.ref t1) (d.2.1, d.2.2.1) := ⟨t1, rfl, sD _ _ (sC _ _ (sB _ _ upd_same))⟩
      have p2 : PairD (upd (upd (upd (upd H2 t1 (.tup [.str d.2.1, .str d.2.2.1])) t2 (.tup [.str d.2.2.1, .str d.2.1])) q0 (.lst [.ref t1, .ref t2])) q1 (.lst (cutV [.ref t1, .ref t2] none (some (1 + (if decide (V.str d.2.2.2 = V.str "both") = true then 1 else 0)))))) (.ref t2) (d.2.2.1, d.2.1) := ⟨t2, rfl, sD _ _ (sC _ _ upd_same)⟩
      have lz := cut_pairs (b := decide (V.str d.2.2.2 = V.str "both")) p1 p2
      have hq1 : upd (upd (upd (upd H2 t1 (.tup [.str d.2.1, .str d.2.2.1])) t2 (.tup [.str d.2.2.1, .str d.2.1])) q0 (.lst [.ref t1, .ref t2])) q1 (.lst (cutV [.ref t1, .ref t2] none (some (1 + (if decide (V.str d.2.2.2 = V.str "both") = true then 1 else 0))))) q1 = some (.lst (cutV [.ref t1, .ref t2] none (some (1 + (if decide (V.str d.2.2.2 = V.str "both") = true then 1 else 0))))) := upd_same
      have nq1l : q1 ≠ l := (ne_of_none (sC _ _ (sB _ _ (sA _ _ hl2))) nq1).symm
      have eo : telOne i d.2 = (if decide (V.str d.2.2.2 = V.str "both") = true then [(d.2.1, d.2.2.1), (d.2.2.1, d.2.1)] else [(d.2.1, d.2.2.1)]).map (fun pr : Str × Str => (i, pr.1, pr.2)) := by
        unfold telOne
        by_cases e : d.2.2.2 = "both"
        · rw [if_pos e, decide_eq_true (congrArg V.str e), if_pos rfl]
          rfl
        · rw [if_neg e, decide_eq_false (fun q => e (V.str.inj q)), if_neg Bool.false_ne_true]
          rfl
      have pm : ∀ pr ∈ (if decide (V.str d.2.2.2 = V.str "both") = true then [(d.2.1, d.2.2.1), (d.2.2.1, d.2.1)] else [(d.2.1, d.2.2.1)]), pr.1 ∈ ps ∧ pr.2 ∈ ps := fun pr hp => by
        split at hp
        · simp only [List.mem_cons, List.not_mem_nil, or_false] at hp
          rcases hp with rfl | rfl
          · exact ⟨dk.2.1, dk.2.2.1⟩
          · exact ⟨dk.2.2.1, dk.2.1⟩
        · simp only [List.mem_cons, List.not_mem_nil, or_false] at hp
          subst hp
          exact ⟨dk.2.1, dk.2.2.1⟩
      have xl : (cutV [V.ref t1, V.ref t2] none (some (1 + (if decide (V.str d.2.2.2 = V.str "both") = true then 1 else 0)))).length ≤ 2 := cutV_length _ _ _
      have tk26 := Tk.of s26
      generalize upd (upd (upd (upd H2 t1 (.tup [.str d.2.1, .str d.2.2.1])) t2 (.tup [.str d.2.2.1, .str d.2.1])) q0 (.lst [.ref t1, .ref t2])) q1 (.lst (cutV [.ref t1, .ref t2] none (some (1 + (if decide (V.str d.2.2.2 = V.str "both") = true then 1 else 0))))) = H6 at s26 lz hq1 tk26
      generalize (if decide (V.str d.2.2.2 = V.str "both") = true then [(d.2.1, d.2.2.1), (d.2.2.1, d.2.1)] else [(d.2.1, d.2.2.1)]) = prs at lz eo pm
      generalize cutV [V.ref t1, V.ref t2] none (some (1 + (if decide (V.str d.2.2.2 = V.str "both") = true then 1 else 0))) = xs at lz hq1 xl
      clear sA sB sC sD p1 p2 n1 n2 nq0 nq1
      have es : tel 0 ((qtd qd).take (i + 1)) = tel 0 ((qtd qd).take i) ++ telOne i d.2 := by
        rw [List.take_add_one, hd']
        show tel 0 ((qtd qd).take i ++ [d.2]) = _
        rw [tel_snoc, Nat.zero_add, List.length_take, Nat.min_eq_left (Nat.le_of_lt (List.getElem?_eq_some_iff.mp hd').1)]
      have hl6 := s26 _ _ hl2
      have keep : ∀ {b : Addr} {o : HO} {H7 : Hp}, (∀ b o, H6 b = some o → b ≠ l → H7 b = some o) → H b = some o → H7 b = some o := fun kp e => kp _ _ (s26 _ _ (s2 _ _ e)) (ne_of_none e hl)
      refine ⟨q1, rfl, ⟨_, SqL.of hq1⟩, for_list (K := X.K) (a := q1) (xs := xs) (M4Inv md l d i H6 (tel 0 ((qtd qd).take i)) prs (openT qd sd)) ⟨us, _, _, _, _, rfl, fun b o e _ => e, hl6, by omega, by rw [List.take_zero, List.map_nil, List.append_nil]; exact tu.mono tk26⟩ ?_ ?_ ?_⟩
      · rintro j σ H7 hj ⟨us7, f7, f8, f9, f10, rfl, kp, hl7, ul7, tu7⟩
        exact SqL.of (kp _ _ hq1 nq1l)
      · rintro j v σ H7 hv7 ⟨us7, f7, f8, f9, f10, rfl, kp, hl7, ul7, tu7⟩
        obtain ⟨pr, hpr, b, rfl, hb⟩ := lz.at hv7
        have hjl := (List.getElem?_eq_some_iff.mp hv7).1
        have hb7 : H7 b = some (.tup [.str pr.1, .str pr.2]) := kp _ _ hb (fun e => by rw [e, hl6] at hb; cases hb)
        have s7 : Same H H7 := fun b o e => keep kp e
        have ok7 := ok.mono s7
        have sy7 := sy.mono (Tk.of s7)
        have pm' := pm pr (List.mem_of_getElem? hpr)
        have ptk : (prs.take (j + 1)).map (fun pr => ((i, pr.1, pr.2) : TK)) = (prs.take j).map (fun pr => (i, pr.1, pr.2)) ++ [(i, pr.1, pr.2)] := by
          rw [List.take_add_one, hpr, List.map_append]
          rfl
        have opE : openT qd sd (i, pr.1, pr.2) = (aboveB d.1 (floorOf pr.2 sd) && !(sd.any (kepB pr.1 pr.2 d.1))) := by
          unfold openT
          rw [hourAt_at hd, ← any_or]
          rfl
        refine ⟨b, _, rfl, SqT.of hb7, rfl, _, _, rfl, _, _, rfl, rfl, ?_⟩
        refine ⟨_, rfl, _, rfl, _, rfl, md, p, s, t, y, ps, ss, ts, ys, pr.2, d.1, sd, rfl, ok7, sy7, dk.1.1, fun H8 s8 => ?_⟩
        have s68 : Same H H8 := s7.trans s8
        have ok8 := ok.mono s68
        have sy8 := sy.mono (Tk.of s68)
        have hl8 := s8 _ _ hl7
        rw [show aboveB d.1 (floorOf pr.2 sd) = (aboveB d.1 (floorOf pr.2 sd) && !((sd.take 0).any (kepB pr.1 pr.2 d.1))) by rw [List.take_zero]; exact (Bool.and_true _).symm]
        refine ⟨_, rfl, md, _, rfl, ok8.dy, y, rfl, ⟨_, SqL.of ok8.hy⟩, for_list (K := X.K) (a := y) (xs := ys) (fun m σ H9 => ∃ e10 : Option V, σ = [some (.ref md), some (.ref l), some (.int i), some (.int d.1), some (.str d.2.1), some (.str d.2.2.1), some (.str d.2.2.2), some (.str pr.1), some (.str pr.2), some (.bl (aboveB d.1 (floorOf pr.2 sd) && !((sd.take m).any (kepB pr.1 pr.2 d.1)))), e10] ∧ Same H8 H9) ⟨f10, rfl, Same.refl _⟩ ?_ ?_ ?_⟩
        · rintro m σ H9 hm ⟨e10, rfl, s9⟩
          exact SqL.of (s9 _ _ ok8.hy)
        · rintro m v σ H9 hv9 ⟨e10, rfl, s9⟩
          obtain ⟨g, c, hg, rfl, hc⟩ := sy8.at hv9
          have hc9 := s9 _ _ hc
          have nxt : (aboveB d.1 (floorOf pr.2 sd) && !((sd.take (m + 1)).any (kepB pr.1 pr.2 d.1))) = (((aboveB d.1 (floorOf pr.2 sd) && !((sd.take m).any (kepB pr.1 pr.2 d.1))) && !(silB pr.1 d.1 g)) && !(barB pr.2 pr.1 g)) := by
            rw [List.take_add_one, hg, List.any_append]
            show (aboveB d.1 (floorOf pr.2 sd) && !((sd.take m).any (kepB pr.1 pr.2 d.1) || ((silB pr.1 d.1 g || barB pr.2 pr.1 g) || false))) = _
            cases aboveB d.1 (floorOf pr.2 sd) <;> cases (sd.take m).any (kepB pr.1 pr.2 d.1) <;> cases silB pr.1 d.1 g <;> cases barB pr.2 pr.1 g <;> rfl
          rw [nxt]
          generalize (aboveB d.1 (floorOf pr.2 sd) && !((sd.take m).any (kepB pr.1 pr.2 d.1))) = gg
          refine seq_ifR (fun σ' H' => σ' = [some (.ref md), some (.ref l), some (.int i), some (.int d.1), some (.str d.2.1), some (.str d.2.2.1), some (.str d.2.2.2), some (.str pr.1), some (.str pr.2), some (.bl (gg && !(silB pr.1 d.1 g))), some (.ref c)] ∧ H' = H9) ?_ (silB pr.1 d.1 g) (fun Q' q' => ?_) (fun e hR => ?_) (fun e => ?_)
          · rintro σ' H' ⟨rfl, rfl⟩
            refine ⟨_, rfl, _, rfl, _, rfl, by show 3 ≤ sizeLine; decide, fun c2 nc2 => ?_⟩
            have s10 := Same.upd (o := .tup [.str "barred", .str pr.2, .str pr.1]) nc2
            refine ⟨c, c2, _, _, rfl, rfl, s10 _ _ hc9, upd_same, flat_tup g, rfl, _, rfl, ?_⟩
            rw [teq_bar]
            refine ite2 (fun yes => ⟨some (.ref c), ?_, s9.trans s10⟩) (fun no => ⟨some (.ref c), ?_, s9.trans s10⟩)
            · rw [yes, Bool.not_true, Bool.and_false]
              rfl
            · rw [eq_false_of_ne_true no, Bool.not_false, Bool.and_true]
          · cases g with
            | knew z i' => exact ⟨_, rfl, c, _, _, _, rfl, rfl, SqT.of hc9, rfl, rfl, _, rfl, iteN (by decide +kernel) q'⟩
            | unh z i' => exact ⟨_, rfl, c, _, _, _, rfl, rfl, SqT.of hc9, rfl, rfl, _, rfl, iteN (by decide +kernel) q'⟩
            | bar z z' => exact ⟨_, rfl, c, _, _, _, rfl, rfl, SqT.of hc9, rfl, rfl, _, rfl, iteN (by decide +kernel) q'⟩
            | sil z b1 b2 =>
              have q2 : Q' (decide (z = pr.1) && (if b1 ≤ d.1 then decide (d.1 ≤ b2) else false)) H9 := q'
              refine ⟨_, rfl, c, _, _, _, rfl, rfl, SqT.of hc9, rfl, rfl, _, rfl, iteP (by decide +kernel) ⟨_, rfl, c, _, _, _, rfl, rfl, SqT.of hc9, rfl, _, rfl, rfl, _, rfl, ite2 (fun hz => ⟨_, rfl, c, _, _, _, rfl, rfl, SqT.of hc9, rfl, _, rfl, _, _, rfl, rfl, _, rfl, ite2 (fun hb => ⟨_, rfl, c, _, _, _, rfl, rfl, SqT.of hc9, rfl, _, _, rfl, rfl, _, rfl, ?_⟩) (fun hb => ⟨_, rfl, ?_⟩)⟩) (fun hz => ?_)⟩⟩
              · rw [if_pos (of_decide_eq_true hb), decide_eq_true (V.str.inj (of_decide_eq_true hz)), Bool.true_and] at q2
                exact q2
              · rw [if_neg (fun e => hb (decide_eq_true e)), Bool.and_false] at q2
                exact q2
              · rw [decide_eq_false (fun e => hz (decide_eq_true (congrArg V.str e))), Bool.false_and] at q2
                exact q2
          · refine hR _ _ ⟨?_, rfl⟩
            rw [e, Bool.not_true, Bool.and_false]
            rfl
          · refine ⟨?_, rfl⟩
            rw [e, Bool.not_false, Bool.and_true]
            rfl
        · rintro σ H9 ⟨e10, rfl, s9⟩
          rw [sy.1, List.take_length, ← opE]
          have s89 := s8.trans s9
          have hl9 := s89 _ _ hl7
          have kp9 : ∀ b o, H6 b = some o → b ≠ l → H9 b = some o := fun b o e n => s89 _ _ (kp b o e n)
          refine ⟨_, rfl, _, rfl, ite2 (fun yes => ?_) (fun no => ?_)⟩
          · refine ⟨_, rfl, .inl ⟨rfl, _, SqL.of hl9⟩, _, rfl, _, rfl, _, rfl, by show 3 ≤ sizeLine; decide, fun t3 n3 => ?_⟩
            have s10 := Same.upd (o := .tup [.int i, .str pr.1, .str pr.2]) n3
            refine ⟨l, us7, .ref t3, rfl, rfl, s10 _ _ hl9, by omega, ?_⟩
            have t3l : t3 ≠ l := (ne_of_none hl9 n3).symm
            have tk := (Tk.of (s89.trans s10)).trans (Tk.upd (s10 _ _ hl9) (ys := us7 ++ [.ref t3]))
            refine ⟨us7 ++ [.ref t3], _, _, _, _, rfl, fun b o e n => (by rw [upd_ne n]; exact s10 _ _ (kp9 b o e n)), upd_same, (by rw [List.length_append]; show us7.length + 1 ≤ _; omega), ?_⟩
            rw [ptk, ← List.append_assoc, List.filter_append]
            show TelL _ _ (_ ++ List.filter (openT qd sd) [(i, pr.1, pr.2)])
            rw [List.filter_cons, if_pos yes]
            exact Lz.snoc (R := TelV) (tu7.mono tk) ⟨t3, rfl, by rw [upd_ne t3l]; exact upd_same⟩
          · refine ⟨us7, _, _, _, _, rfl, kp9, hl9, by omega, ?_⟩
            rw [ptk, ← List.append_assoc, List.filter_append]
            show TelL _ _ (_ ++ List.filter (openT qd sd) [(i, pr.1, pr.2)])
            rw [List.filter_cons, if_neg no]
            show TelL _ _ (_ ++ [])
            rw [List.append_nil]
            exact tu7.mono (Tk.of s89)
      · rintro σ H7 ⟨us7, f7, f8, f9, f10, rfl, kp, hl7, ul7, tu7⟩
        rw [lz.1, List.take_length, ← eo, ← es] at tu7
        exact ⟨us7, _, _, _, _, _, _, _, _, _, rfl, fun b o e => keep kp e, hl7, by omega, tu7⟩
    · rintro σ H2 ⟨us, e2, e3, e4, e5, e6, e7, e8, e9, e10, rfl, s2, hl2, ul, tu⟩
      rw [Int.toNat_natCast, qs.1, show qd.length = (qtd qd).length from (List.length_map ..).symm, List.take_length] at tu
      exact ⟨_, rfl, k l us H2 s2 hl hl2 tu⟩
end
/-! ### the law's look at a line -/
theorem teq3 (x1 x2 x3 y1 y2 y3 : V) : teq [x1, x2, x3] [y1, y2, y3] = (eqV x1 y1 && (eqV x2 y2 && eqV x3 y3)) := by
  unfold teq
  simp [List.range_succ]
theorem tel_eq (a b : TK) : teq [.int (a.1 : Nat), .str a.2.1, .str a.2.2] [.int (b.1 : Nat), .str b.2.1, .str b.2.2] = decide (a = b) := by
  rw [teq3]
  show (((a.1 : Int) == (b.1 : Int)) && ((a.2.1 == b.2.1) && (a.2.2 == b.2.2))) = _
  rw [Bool.eq_iff_iff, Bool.and_eq_true, Bool.and_eq_true, beq_iff_eq, beq_iff_eq, beq_iff_eq, decide_eq_true_iff]
  constructor
  · rintro ⟨h1, h2, h3⟩
    exact Prod.ext (by omega) (Prod.ext h2 h3)
  · rintro rfl
    exact ⟨rfl, rfl, rfl⟩
theorem inT_ref {H : Hp} {a : Addr} {zs xs : List V} (ha : H a = some (.tup zs)) : inT H xs (.ref a) = teq zs xs := by
  show (match H a with
    | some (.tup zs) => teq zs xs
    | _ => false) = _
  rw [ha]
theorem any_tel {H : Hp} {os : List V} {ot : List TK} (tu : TelL H os ot) (t : TK) : os.any (inT H [.int (t.1 : Nat), .str t.2.1, .str t.2.2]) = decide (t ∈ ot) := by
  rw [Bool.eq_iff_iff, List.any_eq_true, decide_eq_true_iff]
  constructor
  · rintro ⟨v, hv, hi⟩
    obtain ⟨i, hiv⟩ := List.getElem?_of_mem hv
    obtain ⟨u, hu⟩ : ∃ u, ot[i]? = some u := ⟨_, List.getElem?_eq_getElem (by rw [← tu.1]; exact (List.getElem?_eq_some_iff.mp hiv).1)⟩
    obtain ⟨a, rfl, ha⟩ := tu.2 _ _ _ hiv hu
    rw [inT_ref ha, tel_eq, decide_eq_true_iff] at hi
    rw [← hi]
    exact List.mem_of_getElem? hu
  · intro h
    obtain ⟨i, hi⟩ := List.getElem?_of_mem h
    obtain ⟨v, hv⟩ : ∃ v, os[i]? = some v := ⟨_, List.getElem?_eq_getElem (by rw [tu.1]; exact (List.getElem?_eq_some_iff.mp hi).1)⟩
    obtain ⟨a, rfl, ha⟩ := tu.2 _ _ _ hv hi
    refine ⟨_, List.mem_of_getElem? hv, ?_⟩
    rw [inT_ref ha, tel_eq]
    exact decide_eq_true rfl
theorem tel_flat {H : Hp} {os : List V} {ot : List TK} (tu : TelL H os ot) : ∀ v ∈ os, ∃ c zs, v = .ref c ∧ H c = some (.tup zs) ∧ zs.all flatV = true := fun v hv => by
  obtain ⟨i, hi⟩ := List.getElem?_of_mem hv
  obtain ⟨u, hu⟩ : ∃ u, ot[i]? = some u := ⟨_, List.getElem?_eq_getElem (by rw [← tu.1]; exact (List.getElem?_eq_some_iff.mp hi).1)⟩
  obtain ⟨a, rfl, ha⟩ := tu.2 _ _ _ hi hu
  exact ⟨a, _, rfl, ha, rfl⟩
inductive Good4P (vs : List V) (H : Hp) (Q : VK) : Prop
  | mk (md p s t y ol se so : Addr) (ps : List Str) (ss ts ys os us : List V) (qd : List QD) (ot sm : List TK) (kvs : List (Key × V)) (F : FH) (z : Str) (h : Int) (e : vs = [.ref md, .ref ol, .ref se, .ref so, .str z, .int h]) (ok : MOk ps H md p s t y ss ts ys) (qs : Lz TalkQ H ts qd) (hol : H ol = some (.lst os)) (to : TelL H os ot) (hse : H se = some (.dK kvs)) (sn : SeenD kvs F) (hso : H so = some (.lst us)) (tu : TelL H us sm) (ul : us.length ≤ 100) (sl : ∀ t ∈ sm, t.1 < qd.length)
      (k : ∀ H', Same H H' → Q (.bl (lineB F qd ot sm z h)) H')
def spGood4 : Sp := fun vs H Q _ => Good4P vs H Q
section
variable {P : Program} {w : World} {K : PySem.W.Frag} {mg : Str → Option Value} {base : Heap} {kw C : Addr}
theorem sc_l_line_good : FnScope ["_law_made_here", "_law_open_ones", "_law_seen_here", "_law_some", "_law_person", "_law_hour_here", "_law_telling", "_law_k", "_law_first"] ["_law_made_here", "_law_open_ones", "_law_seen_here", "_law_some", "_law_person", "_law_hour_here"] (defScope s_l_line_good) := ⟨rfl, rfl, rfl, by decide +kernel, rfl, by decide +kernel, by decide +kernel⟩
theorem ok_good4 {f : Addr} {fd : FuncData} (D : Df K mg "_law_line_good" s_l_line_good ["_law_made_here", "_law_open_ones", "_law_seen_here", "_law_some", "_law_person", "_law_hour_here"] f fd) (T : Txt K mg kw C) (G__law_hour : Gd P w K mg base 1 "_law_hour" spHour4) : Gd P w K mg base 2 "_law_line_good" spGood4 := by
  refine J.def_ok D sc_l_line_good (fun vs H Q E h => ?_) (fun X H vs Q E hh h => ?_)
  · obtain ⟨md, p, s, t, y, ol, se, so, ps, ss, ts, ys, os, us, qd, ot, sm, kvs, F, z, h, rfl, _⟩ := h
    rfl
  · obtain ⟨md, p, s, t, y, ol, se, so, ps, ss, ts, ys, os, us, qd, ot, sm, kvs, F, z, h, rfl, ok, qs, hol, to, hse, sn, hso, tu, ul, sl, k⟩ := h
    have S0 : L2.Slot X 0 "_law_made_here" := hh.slot 0 rfl (by first | exact .inl rfl | exact .inr rfl) (by decide) (by decide)
    have S1 : L2.Slot X 1 "_law_open_ones" := hh.slot 1 rfl (by first | exact .inl rfl | exact .inr rfl) (by decide) (by decide)
    have S2 : L2.Slot X 2 "_law_seen_here" := hh.slot 2 rfl (by first | exact .inl rfl | exact .inr rfl) (by decide) (by decide)
    have S3 : L2.Slot X 3 "_law_some" := hh.slot 3 rfl (by first | exact .inl rfl | exact .inr rfl) (by decide) (by decide)
    have S4 : L2.Slot X 4 "_law_person" := hh.slot 4 rfl (by first | exact .inl rfl | exact .inr rfl) (by decide) (by decide)
    have S5 : L2.Slot X 5 "_law_hour_here" := hh.slot 5 rfl (by first | exact .inl rfl | exact .inr rfl) (by decide) (by decide)
    have S6 : L2.Slot X 6 "_law_telling" := hh.slot 6 rfl (by first | exact .inl rfl | exact .inr rfl) (by decide) (by decide)
    have S7 : L2.Slot X 7 "_law_k" := hh.slot 7 rfl (by first | exact .inl rfl | exact .inr rfl) (by decide) (by decide)
    have S8 : L2.Slot X 8 "_law_first" := hh.slot 8 rfl (by first | exact .inl rfl | exact .inr rfl) (by decide) (by decide)
    have B_len : Bt X "len" := hh.bt T.b_len rfl (by decide) (by decide)
    have B_range : Bt X "range" := hh.bt T.b_range rfl (by decide) (by decide)
    have C__law_hour := hh.cal G__law_hour rfl (by first | decide | exact Nat.le_refl _) (by decide)
    have hu := hu_of hh.room
    have hsz : sizeLine = 16777216 := sizeLine_eq
    refine ⟨_, (J.pss_cons (J.ps_if (J.pt_cmpR (J.op_eqLL hu) (J.rd S3) (J.pe_lst J.pa_nil) (L2.nomark _))
 (J.pss_one (J.ps_ret J.pe_bl))
 J.pss_nil)
 (J.pss_cons (J.ps_for hh.own hh.calm (J.pi_list (J.rd S3)) (J.tgt S6 hh.nd)
 (J.pss_one (J.ps_if (J.pt_cmpR (J.op_notIn_tups hu) (J.rd S6) (J.rd S1) J.notSet_mark)
 (J.pss_one (J.ps_ret J.pe_bl))
 J.pss_nil)))
 (J.pss_cons (J.ps_for hh.own hh.calm (J.pi_range2 B_range (J.pa_c J.pe_int (J.pa_c (J.blt B_len J.call_len_seq L2.bb_len (J.pa_c (J.rd S3) J.pa_nil)) J.pa_nil))) (J.tgt S7 hh.nd)
 (J.pss_one (J.ps_if (J.pw_pt (J.pw_or (J.pt_cmpR J.op_ne (J.pe_ix J.ix_tup (J.pe_ix J.ix_list (J.rd S3) (J.rd S7) J.ix_name) J.pe_int J.ix_con) (J.pe_ix J.ix_tup (J.pe_ix J.ix_list (J.rd S3) (J.pe_op J.op_sub (J.rd S7) J.pe_int) J.ix_op) J.pe_int J.ix_con) (L2.nomark _)) (J.pw_or1 (J.pt_cmpR J.op_le (J.cal C__law_hour (J.pa_c (J.rd S0) (J.pa_c (J.pe_ix J.ix_list (J.rd S3) (J.rd S7) J.ix_name) J.pa_nil))) (J.cal C__law_hour (J.pa_c (J.rd S0) (J.pa_c (J.pe_ix J.ix_list (J.rd S3) (J.pe_op J.op_sub (J.rd S7) J.pe_int) J.ix_op) J.pa_nil))) (L2.nomark _)))))
 (J.pss_one (J.ps_ret J.pe_bl))
 J.pss_nil)))
 (J.pss_cons (J.set S8 hh.nd (J.pe_ix J.ix_tup (J.pe_ix J.ix_list (J.rd S3) J.pe_int J.ix_con) J.pe_int J.ix_con))
 (J.pss_cons (J.ps_if (J.pw_pt (J.pw_or (J.pt_dnotin hu (J.rd S8) (J.rd S2)) (J.pw_or1 (J.pt_cmpR J.op_ge (J.dget hu (J.rd S2) (J.rd S8) J.ix_name) (J.cal C__law_hour (J.pa_c (J.rd S0) (J.pa_c (J.pe_ix J.ix_list (J.rd S3) J.pe_int J.ix_con) J.pa_nil))) (L2.nomark _)))))
 (J.pss_one (J.ps_ret J.pe_bl))
 J.pss_nil)
 (J.pss_one (J.ps_ret (J.pe_and (J.pe_cmpR J.op_eq (J.pe_ix J.ix_tup (J.pe_ix J.ix_list (J.rd S3) (J.pe_un J.un_neg J.pe_int) J.ix_un) J.pe_int J.ix_con) (J.rd S4) (L2.nomark _)) (J.pe_one (J.pe_cmpR J.op_le (J.cal C__law_hour (J.pa_c (J.rd S0) (J.pa_c (J.pe_ix J.ix_list (J.rd S3) (J.pe_un J.un_neg J.pe_int) J.ix_un) J.pa_nil))) (J.rd S5) (L2.nomark _))))))))))), ?_⟩
    have ml := tu.1
    cases sm with
    | nil =>
      have ue : us = [] := List.eq_nil_of_length_eq_zero ml
      subst ue
      exact ⟨_, rfl, by show 0 ≤ sizeLine; decide, fun e0 n0 => .same so e0 [] [] [] rfl rfl (SqL.of (Same.upd n0 _ _ hso)) (SqL.of upd_same) rfl rfl (fun i u v c hu => by cases hu) ⟨_, rfl, iteT (k _ (Same.upd n0))⟩⟩
    | cons a0 sm' =>
      have ul1 : us.length = sm'.length + 1 := ml
      obtain ⟨v0, hv0⟩ : ∃ v0, us[0]? = some v0 := ⟨_, List.getElem?_eq_getElem (by omega)⟩
      obtain ⟨vl, hvl⟩ : ∃ vl, us[us.length - 1]? = some vl := ⟨_, List.getElem?_eq_getElem (by omega)⟩
      obtain ⟨b0, hb0⟩ : ∃ b0, (a0 :: sm')[us.length - 1]? = some b0 := ⟨_, List.getElem?_eq_getElem (by show _ < sm'.length + 1; omega)⟩
      obtain ⟨a, rfl, ha⟩ := tu.2 0 v0 a0 hv0 rfl
      obtain ⟨al, rfl, hal⟩ := tu.2 _ vl b0 hvl hb0
      have gl : (a0 :: sm').getLast? = some b0 := by
        rw [List.getLast?_eq_getElem?, ← hb0]
        congr 1
        show sm'.length + 1 - 1 = _
        omega
      have k' : ∀ H', Same H H' → Q (.bl (((a0 :: sm').all fun t => decide (t ∈ ot)) && (sawB F a0.2.1 (hourAt qd a0.1) && (chainB qd (a0 :: sm') && (decide (b0.2.2 = z) && decide (hourAt qd b0.1 ≤ h)))))) H' := fun H' s' => by
        have := k H' s'
        unfold lineB at this
        rw [gl] at this
        exact this
      clear k gl
      generalize hsm : a0 :: sm' = sm at *
      have hm0 : sm[0]? = some a0 := by rw [← hsm]; rfl
      clear hsm
      have at0 : atI us 0 = some (.ref a) := atI_nat (j := 0) hv0
      have atl : atI us (-1) = some (.ref al) := by rw [atI_last (by omega)]; exact hvl
      refine ⟨_, rfl, by show 0 ≤ sizeLine; decide, fun e0 n0 => .other so e0 us [] rfl rfl (SqL.of (Same.upd n0 _ _ hso)) (SqL.of upd_same) (by show us.length ≠ 0; omega) ⟨_, rfl, iteF ?_⟩⟩
      have s1 := Same.upd (o := .lst []) n0
      generalize upd H e0 (.lst []) = H1 at s1
      clear n0
      refine ⟨_, rfl, so, rfl, ⟨_, SqL.of (s1 _ _ hso)⟩, for_list (K := X.K) (a := so) (xs := us) (fun i σ H2 => ∃ e6 : Option V, σ = [some (.ref md), some (.ref ol), some (.ref se), some (.ref so), some (.str z), some (.int h), e6, none, none] ∧ Same H H2 ∧ (sm.take i).all (fun t => decide (t ∈ ot)) = true) ⟨none, rfl, s1, rfl⟩ ?_ ?_ ?_⟩
      · rintro i σ H2 hi ⟨e6, rfl, s2, _⟩
        exact SqL.of (s2 _ _ hso)
      · rintro i v σ H2 hv ⟨e6, rfl, s2, al'⟩
        obtain ⟨tk, htk⟩ : ∃ tk, sm[i]? = some tk := ⟨_, List.getElem?_eq_getElem (by rw [← ml]; exact (List.getElem?_eq_some_iff.mp hv).1)⟩
        obtain ⟨b, rfl, hb⟩ := tu.2 _ _ _ hv htk
        have to2 := to.mono (Tk.of s2)
        refine ⟨_, rfl, _, rfl, b, ol, _, os, rfl, rfl, s2 _ _ hb, SqL.of (s2 _ _ hol), rfl, tel_flat to2, _, rfl, ?_⟩
        rw [any_tel to2]
        refine ite2 (fun no => ?_) (fun yes => ⟨_, rfl, s2, ?_⟩)
        · rw [Bool.not_eq_true'] at no
          have := k' H2 s2
          rw [show (sm.all fun t => decide (t ∈ ot)) = false from List.all_eq_false.mpr ⟨tk, List.mem_of_getElem? htk, by rw [no]; exact Bool.false_ne_true⟩, Bool.false_and] at this
          exact this
        · rw [Bool.not_eq_true, Bool.not_eq_false'] at yes
          rw [List.take_add_one, htk, List.all_append, al']
          show (true && (decide (tk ∈ ot) && true)) = true
          rw [yes]
          rfl
      · rintro σ H2 ⟨e6, rfl, s2, yes⟩
        rw [ml, List.take_length] at yes
        rw [yes] at k'
        have hour : ∀ {H3 : Hp} {Q' : VK} {b : Addr} {tk : TK}, Same H H3 → TelV' H b tk → tk ∈ sm → Q' (.int (hourAt qd tk.1)) H3 → spHour4 [.ref md, .ref b] H3 Q' E0 := fun s3 hb hm q' =>
          ⟨md, p, s, t, y, _, ps, ss, ts, ys, qd, _, rfl, ok.mono s3, qs.mono (TalkQ.mono (Tk.of s3)), s3 _ _ hb, sl _ hm, q'⟩
        refine ⟨_, rfl, so, _, rfl, .inl (SqL.of (s2 _ _ hso)), 1, (us.length : Int), rfl, ⟨by decide, by decide, by omega, by omega⟩, for_range (lo := 1) (n := ((us.length : Int) - 1).toNat) (fun i σ H3 => ∃ e7 : Option V, σ = [some (.ref md), some (.ref ol), some (.ref se), some (.ref so), some (.str z), some (.int h), e6, e7, none] ∧ Same H H3 ∧ ((List.range i).all fun k => match sm[k]?, sm[k + 1]? with
          | some a, some b => leadB qd a b
          | _, _ => false) = true) ⟨none, rfl, s2, rfl⟩ ?_ ?_⟩
        · rintro i σ H3 hi ⟨e7, rfl, s3, al'⟩
          have hi1 : i + 1 < us.length := by omega
          obtain ⟨ti, hti⟩ : ∃ tk, sm[i]? = some tk := ⟨_, List.getElem?_eq_getElem (by rw [← ml]; omega)⟩
          obtain ⟨tj, htj⟩ : ∃ tj, sm[i + 1]? = some tj := ⟨_, List.getElem?_eq_getElem (by rw [← ml]; omega)⟩
          obtain ⟨vi, hvi⟩ : ∃ vi, us[i]? = some vi := ⟨_, List.getElem?_eq_getElem (by omega)⟩
          obtain ⟨vj, hvj⟩ : ∃ vj, us[i + 1]? = some vj := ⟨_, List.getElem?_eq_getElem hi1⟩
          obtain ⟨bi, rfl, hbi⟩ := tu.2 _ _ _ hvi hti
          obtain ⟨bj, rfl, hbj⟩ := tu.2 _ _ _ hvj htj
          have aj : atI us ((1 : Int) + (i : Int)) = some (.ref bj) := by
            rw [show (1 : Int) + (i : Int) = ((i + 1 : Nat) : Int) by omega]
            exact atI_nat hvj
          have ai : atI us ((1 : Int) + (i : Int) - 1) = some (.ref bi) := by
            rw [show (1 : Int) + (i : Int) - 1 = ((i : Nat) : Int) by omega]
            exact atI_nat hvi
          have hso3 := s3 _ _ hso
          have no : leadB qd ti tj = false → Q (.bl false) H3 := fun hno => by
            have := k' H3 s3
            rw [show chainB qd sm = false from List.all_eq_false.mpr ⟨i, List.mem_range.mpr (by rw [← ml]; omega), by rw [hti, htj]; show ¬ leadB qd ti tj = true; rw [hno]; exact Bool.false_ne_true⟩, Bool.false_and, Bool.and_false, Bool.and_false] at this
            exact this
          have yes' : leadB qd ti tj = true → ((List.range (i + 1)).all fun k => match sm[k]?, sm[k + 1]? with
              | some a, some b => leadB qd a b
              | _, _ => false) = true := fun hy => by
            rw [List.range_succ, List.all_append, al']
            show (true && ((match sm[i]?, sm[i + 1]? with
              | some a, some b => leadB qd a b
              | _, _ => false) && true)) = true
            rw [hti, htj]
            show (true && (leadB qd ti tj && true)) = true
            rw [hy]
            rfl
          refine ⟨_, rfl, _, rfl, so, _, _, _, rfl, rfl, SqL.of hso3, aj, bj, _, _, _, rfl, rfl, SqT.of (s3 _ _ hbj), rfl, _, rfl, _, rfl, _, _, rfl, rfl, so, _, _, _, rfl, rfl, SqL.of hso3, ai, bi, _, _, _, rfl, rfl, SqT.of (s3 _ _ hbi), rfl, rfl, _, rfl, ite2 (fun ne => iteT (no ?_)) (fun eq => ?_)⟩
          · unfold leadB
            rw [Bool.not_eq_true', decide_eq_false_iff_not] at ne
            rw [decide_eq_false (fun e => ne (congrArg V.str e.symm)), Bool.false_and]
          · rw [Bool.not_eq_true, Bool.not_eq_false', decide_eq_true_iff] at eq
            have e2 : ti.2.2 = tj.2.1 := (V.str.inj eq).symm
            refine ⟨_, rfl, _, rfl, _, rfl, so, _, _, _, rfl, rfl, SqL.of hso3, aj, hour s3 hbj (List.mem_of_getElem? htj) ⟨_, rfl, _, rfl, _, rfl, _, _, rfl, rfl, so, _, _, _, rfl, rfl, SqL.of hso3, ai, hour s3 hbi (List.mem_of_getElem? hti) ⟨_, _, rfl, rfl, _, rfl, ite2 (fun le => no ?_) (fun nle => ⟨_, rfl, s3, yes' ?_⟩)⟩⟩⟩
            · rw [decide_eq_true_iff] at le
              unfold leadB
              rw [decide_eq_false (show ¬ hourAt qd ti.1 < hourAt qd tj.1 by omega), Bool.and_false]
            · rw [decide_eq_true_iff] at nle
              unfold leadB
              rw [decide_eq_true e2, decide_eq_true (show hourAt qd ti.1 < hourAt qd tj.1 by omega)]
              rfl
        · rintro σ H3 ⟨e7, rfl, s3, al'⟩
          have ch : chainB qd sm = true := by
            unfold chainB
            rw [show sm.length - 1 = ((us.length : Int) - 1).toNat by rw [← ml]; omega]
            exact al'
          rw [ch, Bool.true_and, Bool.true_and] at k'
          have hso3 := s3 _ _ hso
          have ha3 := s3 _ _ ha
          have dg := DGet.k (k := Sum.inr a0.2.1) (s3 _ _ hse)
          rw [sn.get] at dg
          refine ⟨_, rfl, so, _, _, _, rfl, rfl, SqL.of hso3, at0, a, _, _, _, rfl, rfl, SqT.of ha3, rfl, ?_⟩
          refine ⟨_, rfl, _, rfl, se, _, rfl, dg, _, rfl, ?_⟩
          have lst : sawB F a0.2.1 (hourAt qd a0.1) = true → tRet (tAndV (tOp rEq (tOp (rIxT X.K) (tOp (rIxL X.K) (tVar 3) (tUn (rU fun i => V.int (-i)) (tC (V.int 1)))) (tC (V.int 2))) (tVar 4)) (tOp (rI0 fun i j => V.bl (decide (i ≤ j))) (tCall spHour4 [] E0 (tCons (tVar 0) (tCons (tOp (rIxL X.K) (tVar 3) (tUn (rU fun i => V.int (-i)) (tC (V.int 1)))) tNil))) (tVar 5))) { nx := fun x H' => Q V.non H', rt := Q } [some (.ref md), some (.ref ol), some (.ref se), some (.ref so), some (.str z), some (.int h), e6, e7, some (.str a0.2.1)] H3 := fun sw => by
            rw [sw, Bool.true_and] at k'
            refine ⟨_, rfl, 1, rfl, so, _, _, _, rfl, rfl, SqL.of hso3, atl, al, _, _, _, rfl, rfl, SqT.of (s3 _ _ hal), rfl, _, rfl, rfl, _, rfl, ite2 (fun yes4 => ?_) (fun no => ?_)⟩
            · rw [decide_eq_true (V.str.inj (of_decide_eq_true yes4)), Bool.true_and] at k'
              exact ⟨_, rfl, _, rfl, 1, rfl, so, _, _, _, rfl, rfl, SqL.of hso3, atl, hour s3 hal (List.mem_of_getElem? hb0) ⟨_, rfl, _, _, rfl, rfl, k' H3 s3⟩⟩
            · rw [decide_eq_false (fun e => no (decide_eq_true (congrArg V.str e))), Bool.false_and] at k'
              exact k' H3 s3
          have nos : sawB F a0.2.1 (hourAt qd a0.1) = false → Q (.bl false) H3 := fun sw => by
            have := k' H3 s3
            rw [sw, Bool.false_and] at this
            exact this
          cases hF : F a0.2.1 with
          | none => exact iteP rfl (iteT (nos (by unfold sawB; rw [hF])))
          | some j =>
            rw [hF] at dg
            refine iteN Bool.false_ne_true ⟨_, rfl, _, rfl, se, _, rfl, dg, _, rfl, _, rfl, so, _, _, _, rfl, rfl, SqL.of hso3, at0, hour s3 ha (List.mem_of_getElem? hm0) ⟨_, _, rfl, rfl, _, rfl, ite2 (fun ge => nos ?_) (fun lt => lst ?_)⟩⟩
            · unfold sawB
              rw [hF]
              rw [decide_eq_true_iff] at ge
              exact decide_eq_false (by omega)
            · unfold sawB
              rw [hF]
              rw [decide_eq_true_iff] at lt
              exact decide_eq_true (by omega)
end
/-! ### the law's lists of tellings -/
def Tin (n : Nat) (H : Hp) (v : V) : Prop := ∃ (a : Addr) (tk : TK), v = .ref a ∧ TelV' H a tk ∧ tk.1 < n
theorem Tin.mono {n : Nat} {H H' : Hp} {v : V} (s : Tk H H') (h : Tin n H v) : Tin n H' v := by
  obtain ⟨a, tk, e, ha, l⟩ := h
  exact ⟨a, tk, e, s _ _ ha, l⟩
theorem tins_data {n : Nat} {H : Hp} {us : List V} (h : ∀ v ∈ us, Tin n H v) : ∃ sm : List TK, TelL H us sm ∧ ∀ t ∈ sm, t.1 < n :=
  lz_data (R := TelV) fun v hv => by
    obtain ⟨a, tk, e, ha, l⟩ := h v hv
    exact ⟨tk, ⟨a, e, ha⟩, l⟩
theorem tins_of {n : Nat} {H : Hp} {us : List V} {ks : List TK} (tu : TelL H us ks) (h : ∀ t ∈ ks, t.1 < n) : ∀ v ∈ us, Tin n H v := fun v hv => by
  obtain ⟨i, hi⟩ := List.getElem?_of_mem hv
  obtain ⟨u, hu⟩ : ∃ u, ks[i]? = some u := ⟨_, List.getElem?_eq_getElem (by rw [← tu.1]; exact (List.getElem?_eq_some_iff.mp hi).1)⟩
  obtain ⟨a, e, ha⟩ := tu.2 _ _ _ hi hu
  exact ⟨a, u, e, ha, h u (List.mem_of_getElem? hu)⟩
theorem mem_at {xs : List V} {i : Int} (h0 : 0 ≤ i) (h1 : i < xs.length) : ∃ v, atI xs i = some v ∧ v ∈ xs := at_ex h0 h1
inductive OnwP (vs : List V) (H : Hp) (Q : VK) : Prop
  | mk (md p s t y tl la : Addr) (ps : List Str) (ss ts ys us : List V) (qd : List QD) (lk : TK) (e : vs = [.ref md, .ref tl, .ref la]) (ok : MOk ps H md p s t y ss ts ys) (qs : Lz TalkQ H ts qd) (htl : H tl = some (.lst us)) (ut : ∀ v ∈ us, Tin qd.length H v) (ul : us.length ≤ 300) (hla : TelV' H la lk) (ll : lk.1 < qd.length)
      (k : ∀ (l : Addr) (zs : List V) (H' : Hp), Same H H' → H l = none → H' l = some (.lst zs) → zs.length ≤ us.length → (∀ v ∈ zs, v ∈ us) → Q (.ref l) H')
def spOnw : Sp := fun vs H Q _ => OnwP vs H Q
inductive GrwP (vs : List V) (H : Hp) (Q : VK) : Prop
  | mk (md p s t y tl : Addr) (c : Int) (ps : List Str) (ss ts ys us : List V) (qd : List QD) (e : vs = [.ref md, .ref tl, .int c]) (ok : MOk ps H md p s t y ss ts ys) (qs : Lz TalkQ H ts qd) (htl : H tl = some (.lst us)) (ut : ∀ v ∈ us, Tin qd.length H v) (u1 : 1 ≤ us.length) (ul : us.length ≤ 300)
      (k : ∀ (l : Addr) (zs : List V) (H' : Hp), Same H H' → H l = none → H' l = some (.lst zs) → 1 ≤ zs.length → zs.length ≤ 10 → (∀ v ∈ zs, Tin qd.length H' v) → Q (.ref l) H')
def spGrw : Sp := fun vs H Q _ => GrwP vs H Q
inductive SplP (vs : List V) (H : Hp) (Q : VK) : Prop
  | mk (so tl : Addr) (c : Int) (zs us : List V) (n : Nat) (e : vs = [.ref so, .ref tl, .int c]) (hso : H so = some (.lst zs)) (z1 : 1 ≤ zs.length) (z10 : zs.length ≤ 10) (zt : ∀ v ∈ zs, Tin n H v) (htl : H tl = some (.lst us)) (u1 : 1 ≤ us.length) (ut : ∀ v ∈ us, Tin n H v)
      (k : ∀ (l : Addr) (ws : List V) (H' : Hp), Same H H' → H l = none → H' l = some (.lst ws) → ws.length ≤ 30 → (∀ v ∈ ws, Tin n H' v) → Q (.ref l) H')
def spSpl : Sp := fun vs H Q _ => SplP vs H Q
inductive GrInv (md tl l : Addr) (c : Int) (H : Hp) (n : Nat) (i : Nat) (σ : St) (H2 : Hp) : Prop
  | mk (zs : List V) (e4 e5 : Option V) (e : σ = [some (.ref md), some (.ref tl), some (.int c), some (.ref l), e4, e5]) (s : Same H H2) (hl : H2 l = some (.lst zs)) (z1 : 1 ≤ zs.length) (zl : zs.length ≤ i + 1) (zt : ∀ v ∈ zs, Tin n H2 v)
section
variable {P : Program} {w : World} {K : PySem.W.Frag} {mg : Str → Option Value} {base : Heap} {kw C : Addr}
theorem sc_l_onward : FnScope ["_law_made_here", "_law_told_ones", "_law_last"] ["_law_made_here", "_law_told_ones", "_law_last"] (defScope s_l_onward) := ⟨rfl, rfl, rfl, by decide +kernel, rfl, by decide +kernel, by decide +kernel⟩
theorem ok_onw {f : Addr} {fd : FuncData} (D : Df K mg "_law_onward" s_l_onward ["_law_made_here", "_law_told_ones", "_law_last"] f fd) (T : Txt K mg kw C) (G__law_hour : Gd P w K mg base 1 "_law_hour" spHour4) : Gd P w K mg base 2 "_law_onward" spOnw := by
  refine J.def_ok D sc_l_onward (fun vs H Q E h => ?_) (fun X H vs Q E hh h => ?_)
  · obtain ⟨md, p, s, t, y, tl, la, ps, ss, ts, ys, us, qd, lk, rfl, _⟩ := h
    rfl
  · obtain ⟨md, p, s, t, y, tl, la, ps, ss, ts, ys, us, qd, lk, rfl, ok, qs, htl, ut, ul, hla, ll, k⟩ := h
    have S0 : L2.Slot X 0 "_law_made_here" := hh.slot 0 rfl (by first | exact .inl rfl | exact .inr rfl) (by decide) (by decide)
    have S1 : L2.Slot X 1 "_law_told_ones" := hh.slot 1 rfl (by first | exact .inl rfl | exact .inr rfl) (by decide) (by decide)
    have S2 : L2.Slot X 2 "_law_last" := hh.slot 2 rfl (by first | exact .inl rfl | exact .inr rfl) (by decide) (by decide)
    have CI__law_hour := hh.cali G__law_hour (by first | decide | exact Nat.le_refl _) (by decide)
    have hsz : sizeLine = 16777216 := sizeLine_eq
    refine ⟨_, (J.pss_one (J.ps_ret (J.lcG (sc := L2.defScope s_l_onward) (N := ["_law_made_here", "_law_told_ones", "_law_last"]) (is := [0, 2]) (xs := ["_law_one"]) (ns := ["_law_made_here", "_law_last"]) hh.calm (J.pi_list (J.rd S1)) ⟨rfl, by decide +kernel, by decide +kernel, by decide +kernel, rfl, by decide +kernel⟩ (fun _ _ _ _ _ => (J.lct (i := 0) (by decide +kernel) rfl rfl)) (fun _ _ _ _ _ => (J.pts_one (J.pw_pt (J.pw_and (J.pt_cmpR J.op_eq (J.pe_ix J.ix_tupG (J.lcv (i := 0) rfl rfl (by decide) (by decide)) J.pe_int J.ix_con) (J.pe_ix J.ix_tupG (J.lcf (i := 2) rfl rfl (by decide) (by decide)) J.pe_int J.ix_con) (L2.nomark _)) (J.pw_and1 (J.pt_cmpR J.op_gt (J.cal (CI__law_hour.lg rfl) (J.pa_c (J.lcf (i := 1) rfl rfl (by decide) (by decide)) (J.pa_c (J.lcv (i := 0) rfl rfl (by decide) (by decide)) J.pa_nil))) (J.cal (CI__law_hour.lg rfl) (J.pa_c (J.lcf (i := 1) rfl rfl (by decide) (by decide)) (J.pa_c (J.lcf (i := 2) rfl rfl (by decide) (by decide)) J.pa_nil))) (L2.nomark _))))))) (fun _ _ _ _ _ => (J.lcv (i := 0) rfl rfl (by decide) (by decide))) hh.hsc hh.hN))), ?_⟩
    have hour : ∀ {H3 : Hp} {Q' : VK} {b : Addr} {tk : TK}, Same H H3 → TelV' H b tk → tk.1 < qd.length → Q' (.int (hourAt qd tk.1)) H3 → spHour4 [.ref md, .ref b] H3 Q' E0 := fun s3 hb hm q' =>
      ⟨md, p, s, t, y, _, ps, ss, ts, ys, qd, _, rfl, ok.mono s3, qs.mono (TalkQ.mono (Tk.of s3)), s3 _ _ hb, hm, q'⟩
    refine ⟨_, rfl, tl, rfl, ⟨_, SqL.of htl⟩, lcS_list (SqL.of htl) (by omega) ?_ ?_⟩
    · intro i v H2 K1 K2 hv s2 k1 k2
      obtain ⟨b, tk, rfl, hb, lt⟩ := ut v (List.mem_of_getElem? hv)
      refine ⟨_, rfl, b, _, _, _, rfl, rfl, SqT.of (s2 _ _ hb), rfl, _, rfl, la, _, _, _, rfl, rfl, SqT.of (s2 _ _ hla), rfl, rfl, _, rfl, ite2 (fun _ => ?_) (fun _ => iteF (A := (tVar 0 : TE) _ H2 K1) (k2 H2 (Same.refl _)))⟩
      exact ⟨_, rfl, _, rfl, hour s2 hb lt ⟨_, rfl, _, rfl, hour s2 hla ll ⟨_, _, rfl, rfl, _, rfl, ite2 (fun _ => ⟨_, rfl, k1 H2 (Same.refl _)⟩) (fun _ => k2 H2 (Same.refl _))⟩⟩⟩
    · intro l zs H2 nl s2 hl zl zm
      exact k l zs H2 s2 nl hl zl zm
theorem sc_l_grown : FnScope ["_law_made_here", "_law_told_ones", "_law_cell", "_law_some", "_law_k", "_law_further"] ["_law_made_here", "_law_told_ones", "_law_cell"] (defScope s_l_grown) := ⟨rfl, rfl, rfl, by decide +kernel, rfl, by decide +kernel, by decide +kernel⟩
theorem ok_grw {f : Addr} {fd : FuncData} (D : Df K mg "_law_grown" s_l_grown ["_law_made_here", "_law_told_ones", "_law_cell"] f fd) (T : Txt K mg kw C) (G__law_mix : Gd P w K mg base 1 "_law_mix" spMix) (G__law_onward : Gd P w K mg base 2 "_law_onward" spOnw) : Gd P w K mg base 3 "_law_grown" spGrw := by
  refine J.def_ok D sc_l_grown (fun vs H Q E h => ?_) (fun X H vs Q E hh h => ?_)
  · obtain ⟨md, p, s, t, y, tl, c, ps, ss, ts, ys, us, qd, rfl, _⟩ := h
    rfl
  · obtain ⟨md, p, s, t, y, tl, c, ps, ss, ts, ys, us, qd, rfl, ok, qs, htl, ut, u1, ul, k⟩ := h
    have S0 : L2.Slot X 0 "_law_made_here" := hh.slot 0 rfl (by first | exact .inl rfl | exact .inr rfl) (by decide) (by decide)
    have S1 : L2.Slot X 1 "_law_told_ones" := hh.slot 1 rfl (by first | exact .inl rfl | exact .inr rfl) (by decide) (by decide)
    have S2 : L2.Slot X 2 "_law_cell" := hh.slot 2 rfl (by first | exact .inl rfl | exact .inr rfl) (by decide) (by decide)
    have S3 : L2.Slot X 3 "_law_some" := hh.slot 3 rfl (by first | exact .inl rfl | exact .inr rfl) (by decide) (by decide)
    have S4 : L2.Slot X 4 "_law_k" := hh.slot 4 rfl (by first | exact .inl rfl | exact .inr rfl) (by decide) (by decide)
    have S5 : L2.Slot X 5 "_law_further" := hh.slot 5 rfl (by first | exact .inl rfl | exact .inr rfl) (by decide) (by decide)
    have B_len : Bt X "len" := hh.bt T.b_len rfl (by decide) (by decide)
    have B_range : Bt X "range" := hh.bt T.b_range rfl (by decide) (by decide)
    have C__law_mix := hh.cal G__law_mix rfl (by first | decide | exact Nat.le_refl _) (by decide)
    have C__law_onward := hh.cal G__law_onward rfl (by first | decide | exact Nat.le_refl _) (by decide)
    have hu := hu_of hh.room
    have hsz : sizeLine = 16777216 := sizeLine_eq
    refine ⟨_, (J.pss_cons (J.set S3 hh.nd (J.pe_lst (J.pa_c (J.pe_ix J.ix_list (J.rd S1) (J.pe_op J.op_mod (J.cal C__law_mix (J.pa_c (J.rd S2) (J.pa_c J.pe_int J.pa_nil))) (J.blt B_len J.call_len_seq L2.bb_len (J.pa_c (J.rd S1) J.pa_nil))) J.ix_op) J.pa_nil)))
 (J.pss_cons (J.ps_for hh.own hh.calm (J.pi_range1 B_range (J.pa_c (J.pe_op J.op_mod (J.cal C__law_mix (J.pa_c (J.rd S2) (J.pa_c J.pe_int J.pa_nil))) J.pe_int) J.pa_nil)) (J.tgt S4 hh.nd)
 (J.pss_cons (J.set S5 hh.nd (J.cal C__law_onward (J.pa_c (J.rd S0) (J.pa_c (J.rd S1) (J.pa_c (J.pe_ix J.ix_list (J.rd S3) (J.pe_un J.un_neg J.pe_int) J.ix_un) J.pa_nil)))))
 (J.pss_one (J.ps_if (J.pt_cmpR (J.op_neLL hu) (J.rd S5) (J.pe_lst J.pa_nil) (L2.nomark _))
 (J.pss_one (J.ps_do (J.bm PySem.F.plainAttrs_list PySem.F.slot_list_append PySem.F.type_list_append J.mt_append (J.rd S3) (J.pa_c (J.pe_ix J.ix_list (J.rd S5) (J.pe_op J.op_mod (J.cal C__law_mix (J.pa_c (J.rd S2) (J.pa_c (J.pe_op J.op_add J.pe_int (J.rd S4)) J.pa_nil))) (J.blt B_len J.call_len_seq L2.bb_len (J.pa_c (J.rd S5) J.pa_nil))) J.ix_op) J.pa_nil))))
 J.pss_nil))))
 (J.pss_one (J.ps_ret (J.rd S3))))), ?_⟩
    refine ⟨_, rfl, _, rfl, c, _, rfl, by decide, by decide, fun A A0 A1 => ⟨_, rfl, tl, _, rfl, .inl (SqL.of htl), _, _, rfl, rfl, by omega, ?_⟩⟩
    have am := emod_in A (m := (us.length : Int)) (by omega)
    obtain ⟨v0, av0, mv0⟩ := mem_at am.1 am.2
    refine ⟨tl, _, _, _, rfl, rfl, SqL.of htl, av0, by show 1 ≤ sizeLine; decide, fun l nl => ?_⟩
    have s1 := Same.upd (o := .lst [v0]) nl
    have hl1 : upd H l (.lst [v0]) l = some (.lst [v0]) := upd_same
    generalize upd H l (.lst [v0]) = H1 at s1 hl1
    refine ⟨_, rfl, c, _, rfl, by decide, by decide, fun B B0 B1 => ⟨_, _, rfl, rfl, (by show (0 : Int) < 6; decide), ?_⟩⟩
    have bm := emod_in B (m := 6) (by decide)
    refine ⟨B % 6, rfl, by omega, by omega, for_range (lo := 0) (n := (B % 6).toNat) (GrInv md tl l c H qd.length) ⟨[v0], none, none, rfl, s1, hl1, Nat.le_refl 1, Nat.le_refl 1, fun v hv => by rw [List.mem_singleton.mp hv]; exact (ut v0 mv0).mono (Tk.of s1)⟩ ?_ ?_⟩
    · rintro i σ H2 hi ⟨zs, e4, e5, rfl, s2, hl2, z1, zl, zt⟩
      have hlast : ∃ v, atI zs (-1) = some v ∧ v ∈ zs := by
        rw [atI_last z1]
        exact ⟨_, List.getElem?_eq_getElem (by omega), List.getElem_mem _⟩
      obtain ⟨vl, avl, mvl⟩ := hlast
      obtain ⟨la, lk, rfl, hla, ll⟩ := zt vl mvl
      refine ⟨_, rfl, _, rfl, _, rfl, 1, rfl, l, _, _, _, rfl, rfl, SqL.of hl2, avl, md, p, s, t, y, tl, la, ps, ss, ts, ys, us, qd, lk, rfl, ok.mono s2, qs.mono (TalkQ.mono (Tk.of s2)), s2 _ _ htl, (fun v hv => (ut v hv).mono (Tk.of s2)), ul, hla, ll, fun fu ws H3 s3 nfu hfu wl wm => ?_⟩
      have s23 := s2.trans s3
      have hl3 := s3 _ _ hl2
      have stay : ∀ H4, Same H3 H4 → GrInv md tl l c H qd.length (i + 1) [some (.ref md), some (.ref tl), some (.int c), some (.ref l), some (.int (0 + (i : Int))), some (.ref fu)] H4 := fun H4 s4 => ⟨zs, _, _, rfl, s23.trans s4, s4 _ _ hl3, z1, by omega, fun v hv => (zt v hv).mono (Tk.of (s3.trans s4))⟩
      refine ⟨_, rfl, by show 0 ≤ sizeLine; decide, fun e0 n0 => ?_⟩
      have s4 := Same.upd (o := .lst []) n0
      cases ws with
      | nil => exact .same fu e0 [] [] [] rfl rfl (SqL.of (s4 _ _ hfu)) (SqL.of upd_same) rfl rfl (fun i u v c hu => by cases hu) ⟨_, rfl, iteF (stay _ s4)⟩
      | cons w0 wr =>
        refine .other fu e0 (w0 :: wr) [] rfl rfl (SqL.of (s4 _ _ hfu)) (SqL.of upd_same) (by show wr.length + 1 ≠ 0; omega) ⟨_, rfl, iteT ?_⟩
        have hl4 := s4 _ _ hl3
        have hfu4 := s4 _ _ hfu
        generalize upd H3 e0 (.lst []) = H4 at s4 hl4 hfu4
        have w1 : 1 ≤ (w0 :: wr).length := by show 1 ≤ wr.length + 1; omega
        generalize w0 :: wr = ws at *
        refine ⟨_, rfl, .inl ⟨rfl, _, SqL.of hl4⟩, _, rfl, _, rfl, _, rfl, _, _, rfl, rfl, c, _, rfl, by omega, by omega, fun R R0 R1 => ⟨_, rfl, fu, _, rfl, .inl (SqL.of hfu4), _, _, rfl, rfl, by omega, ?_⟩⟩
        have rm := emod_in R (m := (ws.length : Int)) (by omega)
        obtain ⟨vn, avn, mvn⟩ := mem_at rm.1 rm.2
        refine ⟨fu, _, _, _, rfl, rfl, SqL.of hfu4, avn, l, zs, vn, rfl, rfl, hl4, by omega, ?_⟩
        have s24 := s23.trans s4
        have tk := (Tk.of (s3.trans s4)).trans (Tk.upd hl4 (ys := zs ++ [vn]))
        have tkH := (Tk.of s24).trans (Tk.upd hl4 (ys := zs ++ [vn]))
        refine ⟨zs ++ [vn], _, _, rfl, fun b o e => (by rw [upd_ne (ne_of_none e nl)]; exact s24 _ _ e), upd_same, (by rw [List.length_append]; omega), (by rw [List.length_append]; show zs.length + 1 ≤ _; omega), fun v hv => ?_⟩
        rcases List.mem_append.mp hv with hv | hv
        · exact (zt v hv).mono tk
        · rw [List.mem_singleton.mp hv]
          exact (ut vn (wm vn mvn)).mono tkH
    · rintro σ H2 ⟨zs, e4, e5, rfl, s2, hl2, z1, zl, zt⟩
      exact ⟨_, rfl, k l zs H2 s2 nl hl2 z1 (by omega) zt⟩
theorem sc_l_spoiled : FnScope ["_law_some", "_law_told_ones", "_law_cell", "_law_at", "_law_kind"] ["_law_some", "_law_told_ones", "_law_cell"] (defScope s_l_spoiled) := ⟨rfl, rfl, rfl, by decide +kernel, rfl, by decide +kernel, by decide +kernel⟩
theorem ok_spl {f : Addr} {fd : FuncData} (D : Df K mg "_law_spoiled" s_l_spoiled ["_law_some", "_law_told_ones", "_law_cell"] f fd) (T : Txt K mg kw C) (G__law_mix : Gd P w K mg base 1 "_law_mix" spMix) : Gd P w K mg base 2 "_law_spoiled" spSpl := by
  refine J.def_ok D sc_l_spoiled (fun vs H Q E h => ?_) (fun X H vs Q E hh h => ?_)
  · obtain ⟨so, tl, c, zs, us, n, rfl, _⟩ := h
    rfl
  · obtain ⟨so, tl, c, zs, us, n, rfl, hso, z1, z10, zt, htl, u1, ut, k⟩ := h
    have S0 : L2.Slot X 0 "_law_some" := hh.slot 0 rfl (by first | exact .inl rfl | exact .inr rfl) (by decide) (by decide)
    have S1 : L2.Slot X 1 "_law_told_ones" := hh.slot 1 rfl (by first | exact .inl rfl | exact .inr rfl) (by decide) (by decide)
    have S2 : L2.Slot X 2 "_law_cell" := hh.slot 2 rfl (by first | exact .inl rfl | exact .inr rfl) (by decide) (by decide)
    have S3 : L2.Slot X 3 "_law_at" := hh.slot 3 rfl (by first | exact .inl rfl | exact .inr rfl) (by decide) (by decide)
    have S4 : L2.Slot X 4 "_law_kind" := hh.slot 4 rfl (by first | exact .inl rfl | exact .inr rfl) (by decide) (by decide)
    have B_len : Bt X "len" := hh.bt T.b_len rfl (by decide) (by decide)
    have C__law_mix := hh.cal G__law_mix rfl (by first | decide | exact Nat.le_refl _) (by decide)
    have hsz : sizeLine = 16777216 := sizeLine_eq
    refine ⟨_, (J.pss_cons (J.set S3 hh.nd (J.pe_op J.op_mod (J.cal C__law_mix (J.pa_c (J.rd S2) (J.pa_c J.pe_int J.pa_nil))) (J.blt B_len J.call_len_seq L2.bb_len (J.pa_c (J.rd S0) J.pa_nil))))
 (J.pss_cons (J.set S4 hh.nd (J.pe_op J.op_mod (J.cal C__law_mix (J.pa_c (J.rd S2) (J.pa_c J.pe_int J.pa_nil))) J.pe_int))
 (J.pss_cons (J.ps_if (J.pt_cmpR J.op_eq (J.rd S4) J.pe_int (L2.nomark _))
 (J.pss_one (J.ps_ret (J.pe_op J.op_catS (J.pe_slice J.sl_list (J.rd S0) J.po_none (J.po_some (J.rd S3))) (J.pe_slice J.sl_list (J.rd S0) (J.po_some (J.pe_op J.op_add (J.rd S3) J.pe_int)) J.po_none))))
 J.pss_nil)
 (J.pss_cons (J.ps_if (J.pt_cmpR J.op_eq (J.rd S4) J.pe_int (L2.nomark _))
 (J.pss_one (J.ps_ret (J.pe_op J.op_catS (J.pe_op J.op_catS (J.pe_slice J.sl_list (J.rd S0) J.po_none (J.po_some (J.rd S3))) (J.pe_lst (J.pa_c (J.pe_ix J.ix_list (J.rd S0) (J.rd S3) J.ix_name) J.pa_nil))) (J.pe_slice J.sl_list (J.rd S0) (J.po_some (J.rd S3)) J.po_none))))
 J.pss_nil)
 (J.pss_cons (J.ps_if (J.pt_cmpR J.op_eq (J.rd S4) J.pe_int (L2.nomark _))
 (J.pss_one (J.ps_ret (J.sliceRev (J.rd S0) (J.po_some (J.pe_un J.un_neg J.pe_int)))))
 J.pss_nil)
 (J.pss_cons (J.ps_if (J.pt_cmpR J.op_eq (J.rd S4) J.pe_int (L2.nomark _))
 (J.pss_one (J.ps_ret (J.pe_op J.op_catS (J.pe_op J.op_catS (J.pe_slice J.sl_list (J.rd S0) J.po_none (J.po_some (J.rd S3))) (J.pe_lst (J.pa_c (J.pe_tup (J.pa_c (J.pe_ix J.ix_tup (J.pe_ix J.ix_list (J.rd S0) (J.rd S3) J.ix_name) J.pe_int J.ix_con) (J.pa_c (J.pe_ix J.ix_tup (J.pe_ix J.ix_list (J.rd S0) (J.rd S3) J.ix_name) J.pe_int J.ix_con) (J.pa_c (J.pe_ix J.ix_tup (J.pe_ix J.ix_list (J.rd S0) (J.rd S3) J.ix_name) J.pe_int J.ix_con) J.pa_nil)))) J.pa_nil))) (J.pe_slice J.sl_list (J.rd S0) (J.po_some (J.pe_op J.op_add (J.rd S3) J.pe_int)) J.po_none))))
 J.pss_nil)
 (J.pss_one (J.ps_ret (J.pe_op J.op_catS (J.pe_op J.op_catS (J.pe_slice J.sl_list (J.rd S0) J.po_none (J.po_some (J.rd S3))) (J.pe_lst (J.pa_c (J.pe_ix J.ix_list (J.rd S1) (J.pe_op J.op_mod (J.cal C__law_mix (J.pa_c (J.rd S2) (J.pa_c J.pe_int J.pa_nil))) (J.blt B_len J.call_len_seq L2.bb_len (J.pa_c (J.rd S1) J.pa_nil))) J.ix_op) J.pa_nil))) (J.pe_slice J.sl_list (J.rd S0) (J.po_some (J.pe_op J.op_add (J.rd S3) J.pe_int)) J.po_none)))))))))), ?_⟩
    have cl := fun lo hi => cutV_length zs lo hi
    have cin : ∀ lo hi, ∀ v ∈ cutV zs lo hi, v ∈ zs := fun lo hi v hv => List.mem_of_mem_drop (List.mem_of_mem_take hv)
    refine ⟨_, rfl, c, _, rfl, by decide, by decide, fun A A0 A1 => ⟨_, rfl, so, _, rfl, .inl (SqL.of hso), _, _, rfl, rfl, by omega, ?_⟩⟩
    have am := emod_in A (m := (zs.length : Int)) (by omega)
    dsimp only
    generalize A % (zs.length : Int) = a at am
    obtain ⟨va, ava, mva⟩ := mem_at (xs := zs) am.1 am.2
    obtain ⟨ba, ta, rfl, hba, lta⟩ := zt va mva
    refine ⟨_, rfl, c, _, rfl, by decide, by decide, fun B B0 B1 => ⟨_, _, rfl, rfl, (by show (0 : Int) < 5; decide), ?_⟩⟩
    have l1 := cl none (some a)
    have l2 := cl (some (a + 1)) none
    have l3 := cl (some a) none
    have fin : ∀ {H2 : Hp} {ws : List V} (l : Addr), Same H H2 → H2 l = none → ws.length ≤ 30 → (∀ v ∈ ws, v ∈ zs ∨ Tin n H2 v) → Q (.ref l) (upd H2 l (.lst ws)) := fun l s2 nl wl wm =>
      k l _ _ (s2.trans (Same.upd nl)) (s2.free nl) upd_same wl fun v hv => (wm v hv).elim (fun h => (zt v h).mono (Tk.of (s2.trans (Same.upd nl)))) (fun h => h.mono (Tk.of (Same.upd nl)))
    have cat3 : ∀ {H0 : Hp} {v : V} {lo : Int} {x1 x2 x3 x4 x5 : Addr} {hs : List V}, Same H H0 → cutV zs (some lo) none = hs → hs.length ≤ zs.length → (∀ u ∈ hs, u ∈ zs) → H0 x5 = none → Tin n H0 v → Q (.ref x5) (upd H0 x5 (.lst ((cutV zs none (some a) ++ [v]) ++ hs))) := fun s0 e hl hm n5 tv =>
      fin _ s0 n5 (by rw [List.length_append, List.length_append]; show _ + 1 + _ ≤ 30; omega) fun u hu => by
        rcases List.mem_append.mp hu with hu | hu
        · rcases List.mem_append.mp hu with hu | hu
          · exact .inl (cin _ _ u hu)
          · rw [List.mem_singleton.mp hu]
            exact .inr tv
        · exact .inl (hm u hu)
    refine ⟨_, rfl, rfl, _, rfl, ite2 (fun _ => ?_) (fun _ => ?_)⟩
    · refine ⟨_, rfl, _, rfl, _, rfl, so, zs, rfl, SqL.of hso, fun x1 y1 => ⟨_, rfl, _, rfl, _, _, rfl, rfl, _, rfl, so, zs, rfl, SqL.of (Same.upd y1 _ _ hso), fun x2 y2 => ⟨x1, x2, _, _, rfl, rfl, SqL.of (Same.upd y2 _ _ upd_same), SqL.of upd_same, by omega, fun x3 y3 => fin x3 ((Same.upd y1).trans (Same.upd y2)) y3 (by rw [List.length_append]; omega) fun u hu => ?_⟩⟩⟩
      rcases List.mem_append.mp hu with hu | hu
      · exact .inl (cin _ _ u hu)
      · exact .inl (cin _ _ u hu)
    refine ⟨_, rfl, rfl, _, rfl, ite2 (fun _ => ?_) (fun _ => ?_)⟩
    · refine ⟨_, rfl, _, rfl, _, rfl, so, zs, rfl, SqL.of hso, fun x1 y1 => ⟨_, rfl, _, rfl, so, _, _, _, rfl, rfl, SqL.of (Same.upd y1 _ _ hso), ava, by show 1 ≤ sizeLine; decide, fun x2 y2 => ⟨x1, x2, _, _, rfl, rfl, SqL.of (Same.upd y2 _ _ upd_same), SqL.of upd_same, (by show _ + 1 ≤ _; omega), fun x3 y3 => ?_⟩⟩⟩
      have sA := Same.upd (o := .lst (cutV zs none (some a))) y1
      have sB := Same.upd (o := .lst [.ref ba]) y2
      have sC := Same.upd (o := .lst (cutV zs none (some a) ++ [.ref ba])) y3
      have s3 := (sA.trans sB).trans sC
      refine ⟨_, rfl, _, rfl, _, rfl, so, zs, rfl, SqL.of (s3 _ _ hso), fun x4 y4 => ⟨x3, x4, _, _, rfl, rfl, SqL.of (Same.upd y4 _ _ upd_same), SqL.of upd_same, (by rw [List.length_append]; show _ + 1 + _ ≤ _; omega), fun x5 y5 => ?_⟩⟩
      have s4 := s3.trans (Same.upd (o := .lst (cutV zs (some a) none)) y4)
      exact cat3 (x1 := 0) (x2 := 0) (x3 := 0) (x4 := 0) s4 rfl l3 (cin _ _) y5 ⟨ba, ta, rfl, s4 _ _ hba, lta⟩
    refine ⟨_, rfl, rfl, _, rfl, ite2 (fun _ => ?_) (fun _ => ?_)⟩
    · exact ⟨_, rfl, 1, rfl, _, rfl, so, zs, rfl, rfl, SqL.of hso, fun x1 ws y1 wl wm => fin x1 (Same.refl _) y1 (by omega) fun u hu => .inl (wm u hu)⟩
    refine ⟨_, rfl, rfl, _, rfl, ite2 (fun _ => ?_) (fun _ => ?_)⟩
    · refine ⟨_, rfl, _, rfl, _, rfl, so, zs, rfl, SqL.of hso, fun x1 y1 => ?_⟩
      have sA := Same.upd (o := .lst (cutV zs none (some a))) y1
      have hsoA := sA _ _ hso
      have hbaA := sA _ _ hba
      refine ⟨_, rfl, _, rfl, so, _, _, _, rfl, rfl, SqL.of hsoA, ava, ba, _, _, _, rfl, rfl, SqT.of hbaA, rfl, _, rfl, _, rfl, so, _, _, _, rfl, rfl, SqL.of hsoA, ava, ba, _, _, _, rfl, rfl, SqT.of hbaA, rfl, _, rfl, _, rfl, so, _, _, _, rfl, rfl, SqL.of hsoA, ava, ba, _, _, _, rfl, rfl, SqT.of hbaA, rfl, by show 3 ≤ sizeLine; decide, fun tn ntn => ⟨by show 1 ≤ sizeLine; decide, fun x2 y2 => ?_⟩⟩
      have sT := Same.upd (o := .tup [.int (ta.1 : Nat), .str ta.2.2, .str ta.2.1]) ntn
      have sB := Same.upd (o := .lst [.ref tn]) y2
      refine ⟨x1, x2, _, _, rfl, rfl, SqL.of (sB _ _ (sT _ _ upd_same)), SqL.of upd_same, (by show _ + 1 ≤ _; omega), fun x3 y3 => ?_⟩
      have sC := Same.upd (o := .lst (cutV zs none (some a) ++ [.ref tn])) y3
      have s3 := ((sA.trans sT).trans sB).trans sC
      refine ⟨_, rfl, _, rfl, _, _, rfl, rfl, _, rfl, so, zs, rfl, SqL.of (s3 _ _ hso), fun x4 y4 => ⟨x3, x4, _, _, rfl, rfl, SqL.of (Same.upd y4 _ _ upd_same), SqL.of upd_same, (by rw [List.length_append]; show _ + 1 + _ ≤ _; omega), fun x5 y5 => ?_⟩⟩
      have sD := Same.upd (o := .lst (cutV zs (some (a + 1)) none)) y4
      exact cat3 (x1 := 0) (x2 := 0) (x3 := 0) (x4 := 0) (s3.trans sD) rfl l2 (cin _ _) y5 ⟨tn, (ta.1, ta.2.2, ta.2.1), rfl, sD _ _ (sC _ _ (sB _ _ upd_same)), lta⟩
    · refine ⟨_, rfl, _, rfl, _, rfl, so, zs, rfl, SqL.of hso, fun x1 y1 => ?_⟩
      have sA := Same.upd (o := .lst (cutV zs none (some a))) y1
      have htlA := sA _ _ htl
      refine ⟨_, rfl, _, rfl, c, _, rfl, by decide, by decide, fun R R0 R1 => ⟨_, rfl, tl, _, rfl, .inl (SqL.of htlA), _, _, rfl, rfl, by omega, ?_⟩⟩
      have rm := emod_in R (m := (us.length : Int)) (by omega)
      obtain ⟨vn, avn, mvn⟩ := mem_at (xs := us) rm.1 rm.2
      refine ⟨tl, _, _, _, rfl, rfl, SqL.of htlA, avn, by show 1 ≤ sizeLine; decide, fun x2 y2 => ?_⟩
      have sB := Same.upd (o := .lst [vn]) y2
      refine ⟨x1, x2, _, _, rfl, rfl, SqL.of (sB _ _ upd_same), SqL.of upd_same, (by show _ + 1 ≤ _; omega), fun x3 y3 => ?_⟩
      have sC := Same.upd (o := .lst (cutV zs none (some a) ++ [vn])) y3
      have s3 := (sA.trans sB).trans sC
      refine ⟨_, rfl, _, rfl, _, _, rfl, rfl, _, rfl, so, zs, rfl, SqL.of (s3 _ _ hso), fun x4 y4 => ⟨x3, x4, _, _, rfl, rfl, SqL.of (Same.upd y4 _ _ upd_same), SqL.of upd_same, (by rw [List.length_append]; show _ + 1 + _ ≤ _; omega), fun x5 y5 => ?_⟩⟩
      have sD := Same.upd (o := .lst (cutV zs (some (a + 1)) none)) y4
      exact cat3 (x1 := 0) (x2 := 0) (x3 := 0) (x4 := 0) (s3.trans sD) rfl l2 (cin _ _) y5 ((ut vn mvn).mono (Tk.of (s3.trans sD)))
end
/-! ### the law's book -/
inductive Bk4P (C : Addr) (vs : List V) (H : Hp) (Q : VK) : Prop
  | mk (md p s t y : Addr) (ps : List Str) (ss ts ys : List V) (e : vs = [.ref md]) (po : PersOk ps) (ok : MOk ps H md p s t y ss ts ys)
      (k : ∀ (x p' s' t' y' : Addr) (H' : Hp), Same H H' → H x = none → Bk C H' x p' s' t' y' ps ss ts ys → Q (.ref x) H')
def spBk4 (C : Addr) : Sp := fun vs H Q _ => Bk4P C vs H Q
section
variable {P : Program} {w : World} {K : PySem.W.Frag} {mg : Str → Option Value} {base : Heap} {kw C : Addr}
theorem sc_l_book : FnScope ["_law_made_here"] ["_law_made_here"] (defScope s_l_book) := ⟨rfl, rfl, rfl, by decide +kernel, rfl, by decide +kernel, by decide +kernel⟩
theorem ok_book4 {f : Addr} {fd : FuncData} (D : Df K mg "_law_book" s_l_book ["_law_made_here"] f fd) (T : Txt K mg kw C) (G_Book : Kd P w K mg base 7 "Book" C (spInit C)) : Gd P w K mg base 9 "_law_book" (spBk4 C) := by
  refine J.def_ok D sc_l_book (fun vs H Q E h => ?_) (fun X H vs Q E hh h => ?_)
  · obtain ⟨md, p, s, t, y, ps, ss, ts, ys, rfl, _⟩ := h
    rfl
  · obtain ⟨md, p, s, t, y, ps, ss, ts, ys, rfl, po, ok, k⟩ := h
    have S0 : L2.Slot X 0 "_law_made_here" := hh.slot 0 rfl (by first | exact .inl rfl | exact .inr rfl) (by decide) (by decide)
    have B_list : Bt X "list" := hh.bt T.b_list rfl (by decide) (by decide)
    have K_Book := hh.mak G_Book rfl (by decide) (by decide)
    have hu := hu_of hh.room
    refine ⟨_, (J.pss_one (J.ps_ret (J.mak K_Book (J.pa_c (J.bltT B_list J.call_list_of L2.bb_list (J.pa_c (J.dget hu (J.rd S0) J.pe_str J.ix_con) J.pa_nil)) (J.pa_c (J.bltT B_list J.call_list_of L2.bb_list (J.pa_c (J.dget hu (J.rd S0) J.pe_str J.ix_con) J.pa_nil)) (J.pa_c (J.bltT B_list J.call_list_of L2.bb_list (J.pa_c (J.dget hu (J.rd S0) J.pe_str J.ix_con) J.pa_nil)) (J.pa_c (J.bltT B_list J.call_list_of L2.bb_list (J.pa_c (J.dget hu (J.rd S0) J.pe_str J.ix_con) J.pa_nil)) J.pa_nil))))))), ?_⟩
    have ll := ok.lt
    have pa : Parts H ps ss ts ys := ⟨po, ok.ls, ok.gs, by omega, ok.gt, ok.ly, ok.gy⟩
    refine ⟨_, rfl, md, _, rfl, ok.dp, p, _, rfl, .inl (SqL.of ok.hp), fun l1 n1 => ?_⟩
    have s1 := Same.upd (o := .lst (ps.map V.str)) n1
    have k1 : upd H l1 (.lst (ps.map V.str)) l1 = some (.lst (ps.map V.str)) := upd_same
    generalize upd H l1 (.lst (ps.map V.str)) = H1 at s1 k1
    have ok1 := ok.mono s1
    refine ⟨_, rfl, md, _, rfl, ok1.ds, s, _, rfl, .inl (SqL.of ok1.hs), fun l2 n2 => ?_⟩
    have s2 := Same.upd (o := .lst ss) n2
    have k2 : upd H1 l2 (.lst ss) l2 = some (.lst ss) := upd_same
    generalize upd H1 l2 (.lst ss) = H2 at s2 k2
    have t2 := s1.trans s2
    have ok2 := ok.mono t2
    refine ⟨_, rfl, md, _, rfl, ok2.dt, t, _, rfl, .inl (SqL.of ok2.ht), fun l3 n3 => ?_⟩
    have s3 := Same.upd (o := .lst ts) n3
    have k3 : upd H2 l3 (.lst ts) l3 = some (.lst ts) := upd_same
    generalize upd H2 l3 (.lst ts) = H3 at s3 k3
    have t3 := t2.trans s3
    have ok3 := ok.mono t3
    refine ⟨_, rfl, md, _, rfl, ok3.dy, y, _, rfl, .inl (SqL.of ok3.hy), fun l4 n4 => ?_⟩
    have s4 := Same.upd (o := .lst ys) n4
    have k4 : upd H3 l4 (.lst ys) l4 = some (.lst ys) := upd_same
    generalize upd H3 l4 (.lst ys) = H4 at s4 k4
    have t4 := t3.trans s4
    intro x dx nx ndx nex
    have s5 : Same H4 (upd (upd H4 dx (.own x)) x (.ins C dx [])) := fun b o e => by
      rw [upd_ne (ne_of_none e nx), upd_ne (ne_of_none e ndx)]
      exact e
    have t5 := t4.trans s5
    refine ⟨x, dx, l1, l2, l3, l4, ps, ss, ts, ys, rfl, upd_same, s5 _ _ (s4 _ _ (s3 _ _ (s2 _ _ k1))), s5 _ _ (s4 _ _ (s3 _ _ k2)), s5 _ _ (s4 _ _ k3), s5 _ _ k4, pa.mono (Tk.of t5), fun p' s' t' y' H6 _ _ _ _ bk kp => ⟨rfl, ?_⟩⟩
    exact k x p' s' t' y' H6 (fun b o e => kp b o (t5 _ _ e) (ne_of_none e (t4.free nx))) (t4.free nx) bk
end
end K41

namespace K41
open PySem L2
/-! ### the law -/
inductive spLawP  (K : PySem.W.Frag) (vs : List V) (H : Hp) (Q : VK) : Prop
  | mk (a : Addr) (ns : List Int) (h0 : vs = [.ref a]) (h1 : SqL K H a (ns.map V.int)) (h2 : ns.length ≤ 63) (h3 : ∀ H', Q (.bl true) H')
def spLaw  (K : PySem.W.Frag) : Sp := fun vs H Q _ => spLawP K vs H Q
theorem andV_b {ta tb : TE} {σ : St} {H : Hp} {Q : VK} (b1 b2 : Bool) (h1 : ∀ Q' : VK, Q' (.bl b1) H → ta σ H Q') (h2 : ∀ Q' : VK, (∀ H', Same H H' → Q' (.bl b2) H') → tb σ H Q') (k : ∀ H', Same H H' → Q (.bl (b1 && b2)) H') : tAndV ta tb σ H Q := by
  refine h1 _ ⟨b1, rfl, ?_⟩
  cases b1 with
  | true => exact iteT (h2 _ k)
  | false => exact iteF (k H (Same.refl _))
theorem and_b {t u : TT} {σ : St} {H : Hp} {Q : Bool → Hp → Prop} (b1 b2 : Bool) (h1 : ∀ Q' : Bool → Hp → Prop, (∀ H', Same H H' → Q' b1 H') → t σ H Q') (h2 : ∀ H', Same H H' → ∀ Q' : Bool → Hp → Prop, Q' b2 H' → u σ H' Q') (k : ∀ H', Same H H' → Q (b1 && b2) H') : tAnd t u σ H Q := by
  refine h1 _ fun H' s' => ?_
  cases b1 with
  | true => exact iteT (h2 H' s' _ (k H' s'))
  | false => exact iteF (k H' s')
theorem ne_nil {K : PySem.W.Frag} {i : Nat} {a : Addr} {xs : List V} {σ : St} {H : Hp} {Q : VK} (hv : σ[i]? = some (some (.ref a))) (h : H a = some (.lst xs)) (k : ∀ H', Same H H' → Q (.bl (!xs.isEmpty)) H') : tOp (fun x y H Q => NeLP K x y H Q) (tVar i) (tLst tNil) σ H Q := by
  refine ⟨_, hv, by show 0 ≤ sizeLine; decide, fun e n => ?_⟩
  have s1 := Same.upd (o := .lst []) n
  cases xs with
  | nil => exact .same a e [] [] [] rfl rfl (SqL.of (s1 _ _ h)) (SqL.of upd_same) rfl rfl (fun i u v c hu => by cases hu) (k _ s1)
  | cons x0 xr => exact .other a e (x0 :: xr) [] rfl rfl (SqL.of (s1 _ _ h)) (SqL.of upd_same) (by show xr.length + 1 ≠ 0; omega) (k _ s1)
section
variable {P : Program} {w : World} {K : PySem.W.Frag} {mg : Str → Option Value} {base : Heap} {kw C : Addr}
theorem sc_law : FnScope ["_law_script", "_law_made_here", "_law_book_here", "_law_open_ones", "_law_seen_here", "_law_everything", "_law_k", "_law_cell", "_law_told_ones", "_law_some", "_law_person", "_law_hour_here", "_law_handed", "_law_found", "_law_due"] ["_law_script"] (defScope s_law) := ⟨rfl, rfl, rfl, by decide +kernel, rfl, by decide +kernel, by decide +kernel⟩
theorem ok_law {f : Addr} {fd : FuncData} (F : Fun K "law" "law" s_law f fd) (T : Txt K mg kw C) (G__law_made : Gd P w K mg base 3 "_law_made" (spMade K)) (G__law_mix : Gd P w K mg base 1 "_law_mix" spMix) (G__law_open : Gd P w K mg base 2 "_law_open" spOpen4) (G__law_seen : Gd P w K mg base 2 "_law_seen" spSeen4) (G__law_all : Gd P w K mg base 1 "_law_all" spAll4) (G__law_hour : Gd P w K mg base 1 "_law_hour" spHour4)
    (G__law_book : Gd P w K mg base 9 "_law_book" (spBk4 C)) (G__law_grown : Gd P w K mg base 3 "_law_grown" spGrw) (G__law_spoiled : Gd P w K mg base 2 "_law_spoiled" spSpl) (G_is_line : Gd P w K mg base 6 "is_line" (spLine C)) (G__law_line_good : Gd P w K mg base 2 "_law_line_good" spGood4) : FnOk P w K mg base CX0 10 f fd ["_law_script"] (spLaw K) := by
  refine J.here_fn F sc_law (fun vs H Q E h => ?_) (fun X H vs Q E hh h => ?_)
  · obtain ⟨a, ns, rfl, _⟩ := h
    rfl
  · obtain ⟨sc, ns, rfl, hsc, n63, q⟩ := h
    have S0 : L2.Slot X 0 "_law_script" := hh.slot 0 rfl (by first | exact .inl rfl | exact .inr rfl) (by decide) (by decide)
    have S1 : L2.Slot X 1 "_law_made_here" := hh.slot 1 rfl (by first | exact .inl rfl | exact .inr rfl) (by decide) (by decide)
    have S2 : L2.Slot X 2 "_law_book_here" := hh.slot 2 rfl (by first | exact .inl rfl | exact .inr rfl) (by decide) (by decide)
    have S3 : L2.Slot X 3 "_law_open_ones" := hh.slot 3 rfl (by first | exact .inl rfl | exact .inr rfl) (by decide) (by decide)
    have S4 : L2.Slot X 4 "_law_seen_here" := hh.slot 4 rfl (by first | exact .inl rfl | exact .inr rfl) (by decide) (by decide)
    have S5 : L2.Slot X 5 "_law_everything" := hh.slot 5 rfl (by first | exact .inl rfl | exact .inr rfl) (by decide) (by decide)
    have S6 : L2.Slot X 6 "_law_k" := hh.slot 6 rfl (by first | exact .inl rfl | exact .inr rfl) (by decide) (by decide)
    have S7 : L2.Slot X 7 "_law_cell" := hh.slot 7 rfl (by first | exact .inl rfl | exact .inr rfl) (by decide) (by decide)
    have S8 : L2.Slot X 8 "_law_told_ones" := hh.slot 8 rfl (by first | exact .inl rfl | exact .inr rfl) (by decide) (by decide)
    have S9 : L2.Slot X 9 "_law_some" := hh.slot 9 rfl (by first | exact .inl rfl | exact .inr rfl) (by decide) (by decide)
    have S10 : L2.Slot X 10 "_law_person" := hh.slot 10 rfl (by first | exact .inl rfl | exact .inr rfl) (by decide) (by decide)
    have S11 : L2.Slot X 11 "_law_hour_here" := hh.slot 11 rfl (by first | exact .inl rfl | exact .inr rfl) (by decide) (by decide)
    have S12 : L2.Slot X 12 "_law_handed" := hh.slot 12 rfl (by first | exact .inl rfl | exact .inr rfl) (by decide) (by decide)
    have S13 : L2.Slot X 13 "_law_found" := hh.slot 13 rfl (by first | exact .inl rfl | exact .inr rfl) (by decide) (by decide)
    have S14 : L2.Slot X 14 "_law_due" := hh.slot 14 rfl (by first | exact .inl rfl | exact .inr rfl) (by decide) (by decide)
    have B_bool : Bt X "bool" := hh.bt T.b_bool rfl (by decide) (by decide)
    have B_int : Bt X "int" := hh.bt T.b_int rfl (by decide) (by decide)
    have B_isinstance : Bt X "isinstance" := hh.bt T.b_isinstance rfl (by decide) (by decide)
    have B_len : Bt X "len" := hh.bt T.b_len rfl (by decide) (by decide)
    have B_list : Bt X "list" := hh.bt T.b_list rfl (by decide) (by decide)
    have B_max : Bt X "max" := hh.bt T.b_max rfl (by decide) (by decide)
    have B_min : Bt X "min" := hh.bt T.b_min rfl (by decide) (by decide)
    have B_range : Bt X "range" := hh.bt T.b_range rfl (by decide) (by decide)
    have C__law_all := hh.cal G__law_all rfl (by first | decide | exact Nat.le_refl _) (by decide)
    have C__law_book := hh.cal G__law_book rfl (by first | decide | exact Nat.le_refl _) (by decide)
    have C__law_grown := hh.cal G__law_grown rfl (by first | decide | exact Nat.le_refl _) (by decide)
    have C__law_hour := hh.cal G__law_hour rfl (by first | decide | exact Nat.le_refl _) (by decide)
    have C__law_line_good := hh.cal G__law_line_good rfl (by first | decide | exact Nat.le_refl _) (by decide)
    have C__law_made := hh.cal G__law_made rfl (by first | decide | exact Nat.le_refl _) (by decide)
    have C__law_mix := hh.cal G__law_mix rfl (by first | decide | exact Nat.le_refl _) (by decide)
    have C__law_open := hh.cal G__law_open rfl (by first | decide | exact Nat.le_refl _) (by decide)
    have C__law_seen := hh.cal G__law_seen rfl (by first | decide | exact Nat.le_refl _) (by decide)
    have C__law_spoiled := hh.cal G__law_spoiled rfl (by first | decide | exact Nat.le_refl _) (by decide)
    have C_is_line := hh.cal G_is_line rfl (by first | decide | exact Nat.le_refl _) (by decide)
    have hu := hu_of hh.room
    obtain rfl := hh.fK
    have hsz : sizeLine = 16777216 := sizeLine_eq
    refine ⟨_, (J.pss_cons (J.set S1 hh.nd (J.cal C__law_made (J.pa_c (J.rd S0) J.pa_nil)))
 (J.pss_cons (J.set S2 hh.nd (J.cal C__law_book (J.pa_c (J.rd S1) J.pa_nil)))
 (J.pss_cons (J.set S3 hh.nd (J.cal C__law_open (J.pa_c (J.rd S1) J.pa_nil)))
 (J.pss_cons (J.set S4 hh.nd (J.cal C__law_seen (J.pa_c (J.rd S1) J.pa_nil)))
 (J.pss_cons (J.set S5 hh.nd (J.cal C__law_all (J.pa_c (J.rd S1) J.pa_nil)))
 (J.pss_cons (J.ps_if (J.pt_cmpR J.op_notB (J.cal C_is_line (J.pa_c (J.rd S2) (J.pa_c (J.pe_lst J.pa_nil) (J.pa_c (J.pe_ix J.ix_list (J.dget hu (J.rd S1) J.pe_str J.ix_con) J.pe_int J.ix_con) (J.pa_c (J.pe_op J.op_pow J.pe_int J.pe_int) J.pa_nil))))) J.pe_bl (L2.nomark _))
 (J.pss_one (J.ps_ret J.pe_bl))
 J.pss_nil)
 (J.pss_cons (J.ps_if (J.pt_cmpR (J.op_eqLL hu) (J.rd S5) (J.pe_lst J.pa_nil) (L2.nomark _))
 (J.pss_one (J.ps_ret J.pe_bl))
 J.pss_nil)
 (J.pss_cons (J.ps_for hh.own hh.calm (J.pi_range2 B_range (J.pa_c J.pe_int (J.pa_c (J.blt B_min (J.call_min2 hh.calm) L2.bb_min (J.pa_c (J.blt B_len J.call_len_seq L2.bb_len (J.pa_c (J.rd S0) J.pa_nil)) (J.pa_c J.pe_int J.pa_nil))) J.pa_nil))) (J.tgt S6 hh.nd)
 (J.pss_cons (J.set S7 hh.nd (J.cal C__law_mix (J.pa_c (J.pe_ix J.ix_list (J.rd S0) (J.rd S6) J.ix_name) (J.pa_c (J.pe_op J.op_add J.pe_int (J.rd S6)) J.pa_nil))))
 (J.pss_cons (J.set S8 hh.nd (J.pe_ix J.ix_list (J.pe_lst (J.pa_c (J.rd S5) (J.pa_c (J.rd S3) J.pa_nil))) (J.bltT B_int J.call_int1 L2.bb_int (J.pa_c (J.pe_and (J.pe_cmpR J.op_gt (J.pe_op J.op_mod (J.rd S7) J.pe_int) J.pe_int (L2.nomark _)) (J.pe_one (J.pe_cmpR (J.op_neLL hu) (J.rd S3) (J.pe_lst J.pa_nil) (L2.nomark _)))) J.pa_nil)) J.ix_call))
 (J.pss_cons (J.set S9 hh.nd (J.cal C__law_grown (J.pa_c (J.rd S1) (J.pa_c (J.rd S8) (J.pa_c (J.rd S7) J.pa_nil)))))
 (J.pss_cons (J.ps_if (J.pt_cmpR J.op_eq (J.pe_op J.op_mod (J.pe_op J.op_fdiv (J.rd S7) J.pe_int) J.pe_int) J.pe_int (L2.nomark _))
 (J.pss_one (J.set S9 hh.nd (J.cal C__law_spoiled (J.pa_c (J.rd S9) (J.pa_c (J.rd S5) (J.pa_c (J.rd S7) J.pa_nil))))))
 J.pss_nil)
 (J.pss_cons (J.set S10 hh.nd (J.pe_ix J.ix_list (J.dget hu (J.rd S1) J.pe_str J.ix_con) (J.pe_op J.op_mod (J.pe_op J.op_fdiv (J.rd S7) J.pe_int) (J.blt B_len J.call_len_seq L2.bb_len (J.pa_c (J.dget hu (J.rd S1) J.pe_str J.ix_con) J.pa_nil))) J.ix_op))
 (J.pss_cons (J.set S11 hh.nd (J.cal C__law_hour (J.pa_c (J.rd S1) (J.pa_c (J.pe_ix J.ix_list (J.rd S5) (J.pe_op J.op_mod (J.pe_op J.op_fdiv (J.rd S7) J.pe_int) (J.blt B_len J.call_len_seq L2.bb_len (J.pa_c (J.rd S5) J.pa_nil))) J.ix_op) J.pa_nil))))
 (J.pss_cons (J.ps_if (J.pw_pt (J.pw_and (J.pt_cmpR (J.op_neLL hu) (J.rd S9) (J.pe_lst J.pa_nil) (L2.nomark _)) (J.pw_and1 (J.pt_cmpR J.op_gt (J.pe_op J.op_mod (J.pe_op J.op_fdiv (J.rd S7) J.pe_int) J.pe_int) J.pe_int (L2.nomark _)))))
 (J.pss_cons (J.set S10 hh.nd (J.pe_ix J.ix_tup (J.pe_ix J.ix_list (J.rd S9) (J.pe_un J.un_neg J.pe_int) J.ix_un) J.pe_int J.ix_con))
 (J.pss_one (J.set S11 hh.nd (J.pe_op J.op_add (J.cal C__law_hour (J.pa_c (J.rd S1) (J.pa_c (J.pe_ix J.ix_list (J.rd S9) (J.pe_un J.un_neg J.pe_int) J.ix_un) J.pa_nil))) (J.pe_ix J.ix_list (J.pe_lst (J.pa_c J.pe_int (J.pa_c J.pe_int (J.pa_c (J.pe_un J.un_neg J.pe_int) J.pa_nil)))) (J.pe_op J.op_mod (J.pe_op J.op_fdiv (J.rd S7) J.pe_int) J.pe_int) J.ix_op)))))
 J.pss_nil)
 (J.pss_cons (J.set S12 hh.nd (J.bltT B_list J.call_list_of L2.bb_list (J.pa_c (J.rd S9) J.pa_nil)))
 (J.pss_cons (J.set S13 hh.nd (J.cal C_is_line (J.pa_c (J.rd S2) (J.pa_c (J.rd S12) (J.pa_c (J.rd S10) (J.pa_c (J.blt B_max (J.call_max2 hh.calm) L2.bb_max (J.pa_c J.pe_int (J.pa_c (J.rd S11) J.pa_nil))) J.pa_nil))))))
 (J.pss_cons (J.set S14 hh.nd (J.cal C__law_line_good (J.pa_c (J.rd S1) (J.pa_c (J.rd S3) (J.pa_c (J.rd S4) (J.pa_c (J.rd S9) (J.pa_c (J.rd S10) (J.pa_c (J.blt B_max (J.call_max2 hh.calm) L2.bb_max (J.pa_c J.pe_int (J.pa_c (J.rd S11) J.pa_nil))) J.pa_nil))))))))
 (J.pss_one (J.ps_if (J.pw_pt (J.pw_or (J.pt_not (J.pt_call (J.blt B_isinstance J.call_isi L2.bb_isinstance (J.pa_c (J.rd S13) (J.pa_c (J.ty B_bool L2.bb_bool) J.pa_nil))))) (J.pw_or (J.pt_cmpR J.op_ne (J.rd S13) (J.rd S14) (L2.nomark _)) (J.pw_or1 (J.pt_cmpR (J.op_neLL hu) (J.rd S12) (J.rd S9) (L2.nomark _))))))
 (J.pss_one (J.ps_ret J.pe_bl))
 J.pss_nil)))))))))))))
 (J.pss_one (J.ps_ret J.pe_bl)))))))))), ?_⟩
    refine ⟨_, rfl, sc, ns, rfl, hsc, n63, fun md p s t y ps ss ts ys H1 s1 _ po p2 ok1 => ?_⟩
    refine ⟨_, rfl, md, p, s, t, y, ps, ss, ts, ys, rfl, po, ok1, fun x p' s' t' y' H2 s2 _ bk => ?_⟩
    obtain ⟨sg, gs, gk⟩ := sights_data ok1.gs
    obtain ⟨qd, qs, qk⟩ := talksq ok1.gt
    obtain ⟨sd, sy, sk⟩ := says_data ok1.gy
    refine ⟨_, rfl, md, p, s, t, y, ps, ss, ts, ys, qd, sd, rfl, ok1.mono s2, qs.mono (TalkQ.mono (Tk.of s2)), qk, sy.mono (Tk.of s2), fun ol os H3 s3 _ hol to => ?_⟩
    have s13 := s2.trans s3
    refine ⟨_, rfl, md, p, s, t, y, ps, ss, ts, ys, sg, sd, rfl, ok1.mono s13, gs.mono (SightD.mono (Tk.of s13)), gk, sy.mono (Tk.of s13), fun se kvs H4 s4 _ hse sn => ?_⟩
    have s14 := s13.trans s4
    refine ⟨_, rfl, md, p, s, t, y, ps, ss, ts, ys, qd, rfl, ok1.mono s14, qs.mono (TalkQ.mono (Tk.of s14)), fun al as H5 s5 _ hal ta => ?_⟩
    have s15 := s14.trans s5
    have s25 := (s3.trans s4).trans s5
    have hsc5 := (s1.trans s15).seq hsc
    have ok5 := ok1.mono s15
    have bk5 := bk.mono s25
    have gs5 := gs.mono (SightD.mono (Tk.of s15))
    have qs5 := qs.mono (TalkQ.mono (Tk.of s15))
    have sy5 := sy.mono (Tk.of s15)
    have hol5 := (s4.trans s5) _ _ hol
    have to5 := to.mono (Tk.of (s4.trans s5))
    have hse5 := s5 _ _ hse
    clear s1 s2 s3 s4 s5 s13 s14 s15 s25 ok1 bk gs qs sy hol to hse hsc
    have pl := po.hi
    have lls := ok5.ls
    have llt := ok5.lt
    have lly := ok5.ly
    have gp : ∀ d ∈ sg, d.1 ∈ ps := fun d hd => (gk d hd).1
    have line : ∀ {H6 : Hp} {so : Addr} {us : List V} {sm : List TK} {z : Str} {h : Int} {Q' : VK}, Same H5 H6 → H6 so = some (.lst us) → TelL H6 us sm → us.length ≤ 100 → (∀ H', Same H6 H' → Q' (.bl (lineB (seenF (sg.filter (openS sd))) qd ((tel 0 (qtd qd)).filter (openT qd sd)) sm z h)) H') → spLine C [.ref x, .ref so, .str z, .int h] H6 Q' E0 := fun s6 hso tu ul k' =>
      ⟨x, p', s', t', y', ps, ss, ts, ys, sg, qd, sd, _, _, _, _, _, rfl, bk5.mono s6, pl, lls, by omega, gs5.mono (SightD.mono (Tk.of s6)), gp, qs5.mono (TalkQ.mono (Tk.of s6)), qk, sy5.mono (Tk.of s6), lly, hso, tu, ul, k'⟩
    have hour : ∀ {H6 : Hp} {Q' : VK} {b : Addr} {tk : TK}, Same H5 H6 → TelV' H6 b tk → tk.1 < qd.length → Q' (.int (hourAt qd tk.1)) H6 → spHour4 [.ref md, .ref b] H6 Q' E0 := fun s6 hb hm q' =>
      ⟨md, p, s, t, y, _, ps, ss, ts, ys, qd, _, rfl, ok5.mono s6, qs5.mono (TalkQ.mono (Tk.of s6)), hb, hm, q'⟩
    obtain ⟨z0, hz0⟩ : ∃ z, ps[0]? = some z := ⟨_, List.getElem?_eq_getElem (by omega)⟩
    have az0 : atI (ps.map V.str) ((0 : Nat) : Int) = some (.str z0) := atI_nat (by rw [List.getElem?_map, hz0]; rfl)
    refine ⟨_, rfl, by show 0 ≤ sizeLine; decide, fun e0 n0 => ?_⟩
    have s6 := Same.upd (o := .lst []) n0
    have he0 : upd H5 e0 (.lst []) e0 = some (.lst []) := upd_same
    generalize upd H5 e0 (.lst []) = H6 at s6 he0
    have ok6 := ok5.mono s6
    refine ⟨_, rfl, md, _, rfl, ok6.dp, p, _, _, _, rfl, rfl, SqL.of ok6.hp, az0, _, _, rfl, rfl, ⟨by decide, by decide, by decide⟩, line s6 he0 TelL.nil (by show 0 ≤ 100; decide) fun H7 s7 => ⟨_, false, rfl, rfl, _, rfl, iteN (by show ¬ (!(false == false)) = true; decide) ?_⟩⟩
    have s57 := s6.trans s7
    clear s6 s7 ok6 he0 n0 az0 hz0
    have al2 := tel_len (qtd qd) 0
    have qle : (qtd qd).length = qd.length := List.length_map _
    have asl := ta.1
    have qsl := qs5.1
    have osl := to5.1
    have fl := List.length_filter_le (openT qd sd) (tel 0 (qtd qd))
    have tin : ∀ t ∈ tel 0 (qtd qd), t.1 < qd.length := fun t ht => by
      obtain ⟨q, hq, _⟩ := tel_in qk ht
      exact (List.getElem?_eq_some_iff.mp hq).1
    have tia := tins_of ta tin
    have tio := tins_of to5 fun t ht => tin t (List.mem_filter.mp ht).1
    refine ⟨_, rfl, by show 0 ≤ sizeLine; decide, fun e1 n1 => ?_⟩
    have s8 := s57.trans (Same.upd (o := .lst []) n1)
    cases has : as with
    | nil =>
      subst has
      exact .same al e1 [] [] [] rfl rfl (SqL.of (s8 _ _ hal)) (SqL.of upd_same) rfl rfl (fun i u v c hu => by cases hu) ⟨_, rfl, iteT (q _)⟩
    | cons a0 ar =>
    have as1 : 1 ≤ as.length := by rw [has]; show 1 ≤ ar.length + 1; omega
    clear has
    refine .other al e1 as [] rfl rfl (SqL.of (s8 _ _ hal)) (SqL.of upd_same) (by show as.length ≠ 0; omega) ⟨_, rfl, iteF ?_⟩
    clear a0 ar
    generalize upd H7 e1 (.lst []) = H8 at s8
    have nln : (ns.map V.int).length = ns.length := List.length_map _
    obtain ⟨j, ej, j1, j0, j40⟩ : ∃ j : Int, (if (40 : Int) < ((ns.map V.int).length : Int) then 40 else ((ns.map V.int).length : Int)) = j ∧ j ≤ (ns.length : Int) ∧ 0 ≤ j ∧ j ≤ 40 := ⟨_, rfl, by rw [nln]; split <;> omega, by split <;> omega, by split <;> omega⟩
    refine ⟨_, rfl, sc, _, rfl, .inl (s8.seq hsc5), _, _, rfl, 2, j, (by rw [ej]), ⟨by decide, by decide, by omega, by omega⟩, for_range (lo := 2) (n := (j - 2).toNat) (fun i σ H9 => ∃ e6 e7 e8 e9 e10 e11 e12 e13 e14 : Option V, σ = [some (.ref sc), some (.ref md), some (.ref x), some (.ref ol), some (.ref se), some (.ref al), e6, e7, e8, e9, e10, e11, e12, e13, e14] ∧ Same H5 H9) ⟨none, none, none, none, none, none, none, none, none, rfl, s8⟩ ?_ ?_⟩
    · rintro i σ H9 hi ⟨e6, e7, e8, e9, e10, e11, e12, e13, e14, rfl, s9⟩
      have hk : (i + 2) < ns.length := by omega
      have av : atI (ns.map V.int) ((2 : Int) + (i : Int)) = some (.int ns[i + 2]) := by
        rw [show (2 : Int) + (i : Int) = ((i + 2 : Nat) : Int) by omega]
        exact atI_nat (by rw [List.getElem?_map, List.getElem?_eq_getElem hk]; rfl)
      refine ⟨_, rfl, _, rfl, sc, _, _, _, rfl, rfl, s9.seq hsc5, av, _, rfl, _, _, rfl, rfl, _, _, rfl, by omega, by omega, fun N N0 N1 => ?_⟩
      have pick : ∀ b : Bool, (b = true → os ≠ []) → ∃ (tl : Addr) (us : List V), atI [V.ref al, V.ref ol] (if b = true then 1 else 0) = some (.ref tl) ∧ H5 tl = some (.lst us) ∧ 1 ≤ us.length ∧ us.length ≤ 300 ∧ ∀ v ∈ us, Tin qd.length H5 v
        | false, _ => ⟨al, as, rfl, hal, as1, by omega, tia⟩
        | true, h => ⟨ol, os, rfl, hol5, List.length_pos_iff.mpr (h rfl), by omega, tio⟩
      obtain ⟨tl, us, at1, htl, u1, ul, ut⟩ := pick (decide (0 < N % 4) && !os.isEmpty) fun h e => by
        rw [e, Bool.and_eq_true] at h
        exact absurd h.2 (by decide)
      refine ⟨_, rfl, _, rfl, by show 2 ≤ sizeLine; decide, fun pr npr => ?_⟩
      have s10 := s9.trans (Same.upd (o := .lst [V.ref al, V.ref ol]) npr)
      have hpr : upd H9 pr (.lst [V.ref al, V.ref ol]) pr = some (.lst [V.ref al, V.ref ol]) := upd_same
      generalize upd H9 pr (.lst [V.ref al, V.ref ol]) = H10 at s10 hpr
      refine andV_b (decide (0 < N % 4)) (!os.isEmpty) (fun Q' k => ⟨_, rfl, _, _, rfl, rfl, (by show (0 : Int) < 4; decide), _, _, rfl, rfl, k⟩) (fun Q' k => ne_nil rfl (s10 _ _ hol5) k) fun H11 sB => ?_
      have s11 := s10.trans sB
      refine .inr ⟨_, rfl, pr, _, _, _, rfl, rfl, SqL.of (sB _ _ hpr), at1, ?_⟩
      refine ⟨_, rfl, _, rfl, _, rfl, md, p, s, t, y, tl, N, ps, ss, ts, ys, us, qd, rfl, ok5.mono s11, qs5.mono (TalkQ.mono (Tk.of s11)), s11 _ _ htl, (fun v hv => (ut v hv).mono (Tk.of s11)), u1, ul, fun so0 zs0 H12 sC _ hso0 z1 z10 zt0 => ?_⟩
      have s12 := s11.trans sC
      clear s10 sB s11 sC hpr npr s9 av at1 htl u1 ul ut pick
      dsimp only [gName]
      refine seq_ifH (fun σ' H' => ∃ (so : Addr) (zs : List V), σ' = [some (.ref sc), some (.ref md), some (.ref x), some (.ref ol), some (.ref se), some (.ref al), some (.int (2 + (i : Int))), some (.int N), some (.ref tl), some (.ref so), e10, e11, e12, e13, e14] ∧ Same H5 H' ∧ H' so = some (.lst zs) ∧ zs.length ≤ 30 ∧ ∀ v ∈ zs, Tin qd.length H' v) ?_ (decide (V.int (N / 4 % 3) = V.int 1)) (fun Q' k => ?_) (fun _ H' sA hR => ?_) (fun _ H' sA => ?_)
      rotate_left
      · exact ⟨_, rfl, _, _, rfl, rfl, ⟨by decide, by decide⟩, _, _, rfl, rfl, (by show (0 : Int) < 3; decide), rfl, _, rfl, k _ (Same.refl _)⟩
      · exact ⟨_, rfl, _, rfl, _, rfl, so0, al, N, zs0, as, qd.length, rfl, sA _ _ hso0, z1, z10, (fun v hv => (zt0 v hv).mono (Tk.of sA)), s12.trans sA _ _ hal, as1, (fun v hv => (tia v hv).mono (Tk.of (s12.trans sA))), fun so2 ws H13 sD _ hws wl wt => hR _ _ ⟨so2, ws, rfl, (s12.trans sA).trans sD, hws, wl, wt⟩⟩
      · exact ⟨so0, zs0, rfl, s12.trans sA, sA _ _ hso0, by omega, fun v hv => (zt0 v hv).mono (Tk.of sA)⟩
      clear hso0 z1 z10 zt0 s12
      rintro σ' H13 ⟨so, zs, rfl, s13, hso, zl, zt⟩
      have ok13 := ok5.mono s13
      have hal13 := s13 _ _ hal
      have pln : (ps.map V.str).length = ps.length := List.length_map _
      have pm := emod_in (N / 12) (m := (((ps.map V.str).length : Nat) : Int)) (by rw [pln]; omega)
      obtain ⟨zv, azv, mzv⟩ := mem_at (xs := ps.map V.str) pm.1 pm.2
      obtain ⟨z, _, rfl⟩ := List.mem_map.mp mzv
      refine ⟨_, rfl, md, _, rfl, ok13.dp, _, rfl, _, _, rfl, rfl, ⟨by decide, by decide⟩, _, rfl, md, _, rfl, ok13.dp, p, _, rfl, .inl (SqL.of ok13.hp), _, _, rfl, rfl, (by rw [pln]; omega), p, _, _, _, rfl, rfl, SqL.of ok13.hp, azv, ?_⟩
      have hm := emod_in (N / 97) (m := (as.length : Int)) (by omega)
      obtain ⟨va, ava, mva⟩ := mem_at (xs := as) hm.1 hm.2
      obtain ⟨ba, bt, rfl, hba, lba⟩ := (tia va mva).mono (Tk.of s13)
      refine ⟨_, rfl, _, rfl, _, rfl, _, _, rfl, rfl, ⟨by decide, by decide⟩, _, rfl, al, _, rfl, .inl (SqL.of hal13), _, _, rfl, rfl, (by omega), al, _, _, _, rfl, rfl, SqL.of hal13, ava, hour s13 hba lba ?_⟩
      dsimp only [gName]
      refine seq_ifH (fun σ' H' => ∃ (z : Str) (h : Int), σ' = [some (.ref sc), some (.ref md), some (.ref x), some (.ref ol), some (.ref se), some (.ref al), some (.int (2 + (i : Int))), some (.int N), some (.ref tl), some (.ref so), some (.str z), some (.int h), e12, e13, e14] ∧ Same H13 H') ?_ (!zs.isEmpty && decide (0 < N / 12 % 5)) (fun Q' k => ?_) (fun hb H' sA hR => ?_) (fun _ H' sA => ?_)
      rotate_left
      · exact and_b (!zs.isEmpty) (decide (0 < N / 12 % 5)) (fun Q2 k2 => ne_nil rfl hso fun H' s' => ⟨_, rfl, k2 H' s'⟩) (fun H' s' Q2 k2 => ⟨_, rfl, _, _, rfl, rfl, ⟨by decide, by decide⟩, _, _, rfl, rfl, (by show (0 : Int) < 5; decide), _, _, rfl, rfl, _, rfl, k2⟩) k
      · have z1 : 1 ≤ zs.length := by
          rw [Bool.and_eq_true] at hb
          cases zs with
          | nil => exact absurd hb.1 (by decide)
          | cons a r => show 1 ≤ r.length + 1; omega
        have hlast : ∃ v, atI zs (-1) = some v ∧ v ∈ zs := by
          rw [atI_last z1]
          exact ⟨_, List.getElem?_eq_getElem (by omega), List.getElem_mem _⟩
        obtain ⟨vl, avl, mvl⟩ := hlast
        obtain ⟨la, lk, rfl, hla, ll⟩ := (zt vl mvl).mono (Tk.of sA)
        have hsoA := sA _ _ hso
        refine ⟨_, rfl, 1, rfl, so, _, _, _, rfl, rfl, SqL.of hsoA, avl, la, _, _, _, rfl, rfl, SqT.of hla, rfl, ?_⟩
        refine ⟨_, rfl, _, rfl, 1, rfl, so, _, _, _, rfl, rfl, SqL.of hsoA, avl, hour (s13.trans sA) hla ll ⟨1, rfl, by show 3 ≤ sizeLine; decide, fun b nb => ?_⟩⟩
        have r3 := emod_in (N / 60) (m := 3) (by decide)
        obtain ⟨bv, hbv, hbm⟩ := at_ex (xs := [V.int 0, V.int 1, V.int (-1)]) (i := N / 60 % 3) r3.1 r3.2
        have hi' : ∃ d : Int, bv = .int d := by
          simp only [List.mem_cons, List.not_mem_nil, or_false] at hbm
          rcases hbm with rfl | rfl | rfl
          · exact ⟨_, rfl⟩
          · exact ⟨_, rfl⟩
          · exact ⟨_, rfl⟩
        obtain ⟨d, rfl⟩ := hi'
        exact ⟨_, rfl, _, _, rfl, rfl, ⟨by decide, by decide⟩, _, _, rfl, rfl, (by show (0 : Int) < 3; decide), b, _, _, _, rfl, rfl, SqL.of upd_same, hbv, _, _, rfl, rfl, hR _ _ ⟨_, _, rfl, sA.trans (Same.upd nb)⟩⟩
      · exact ⟨z, _, rfl, sA⟩
      clear azv mzv pm ava mva hba lba hm
      rintro σ'' H14 ⟨z2, h2, rfl, s14⟩
      obtain ⟨sm, tu, sl⟩ := tins_data fun v hv => (zt v hv).mono (Tk.of s14)
      have hso14 := s14 _ _ hso
      refine ⟨_, rfl, so, zs, rfl, .inl (SqL.of hso14), fun hd nhd => ?_⟩
      have s15 := Same.upd (o := .lst zs) nhd
      have hhd : upd H14 hd (.lst zs) hd = some (.lst zs) := upd_same
      generalize upd H14 hd (.lst zs) = H15 at s15 hhd
      have s5' := (s13.trans s14).trans s15
      refine ⟨_, rfl, _, rfl, _, rfl, _, rfl, _, _, rfl, line s5' hhd (tu.mono (Tk.of s15)) (by omega) fun H16 s16 => ?_⟩
      have s6' := s5'.trans s16
      refine ⟨_, rfl, _, rfl, _, rfl, _, rfl, _, rfl, _, rfl, _, _, rfl, md, p, s, t, y, ol, se, so, ps, ss, ts, ys, os, zs, qd, (tel 0 (qtd qd)).filter (openT qd sd), sm, kvs, seenF (sg.filter (openS sd)), z2, _, rfl, ok5.mono s6', qs5.mono (TalkQ.mono (Tk.of s6')), s6' _ _ hol5, to5.mono (Tk.of s6'), s6' _ _ hse5, sn, (s15.trans s16) _ _ hso14, tu.mono (Tk.of (s15.trans s16)), by omega, sl, fun H17 s17 => ?_⟩
      refine ⟨_, rfl, _, _, _, _, rfl, TyOf.bl _, kit_isa (by decide) (by decide), _, rfl, iteN (by decide) ⟨_, rfl, _, rfl, rfl, _, rfl, iteN (by rw [decide_eq_true rfl]; decide) ⟨_, rfl, _, rfl, neSelf (SqL.of (s17 _ _ (s16 _ _ hhd))) (SqL.of ((s15.trans (s16.trans s17)) _ _ hso14)) (fun u hu => ?_) ⟨_, rfl, iteF ⟨_, _, _, _, _, _, _, _, _, rfl, s6'.trans s17⟩⟩⟩⟩⟩
      obtain ⟨c, tk, e, _⟩ := zt u hu
      exact ⟨c, e⟩
    · rintro σ H9 ⟨e6, e7, e8, e9, e10, e11, e12, e13, e14, rfl, s9⟩
      exact q _
end
end K41

namespace K41
open PySem L2
theorem len0 (us : List Value) (h : us.length = 0) : us = [] := List.eq_nil_of_length_eq_zero h
theorem lenS {n : Nat} (us : List Value) (h : us.length = n + 1) : ∃ a r, us = a :: r ∧ r.length = n := by
  cases us with
  | nil => cases h
  | cons a r => exact ⟨a, r, rfl, Nat.succ.inj h⟩
theorem len1 (us : List Value) (h : us.length = 1) : ∃ a, us = [a] := by
  obtain ⟨a, r, rfl, h'⟩ := lenS us h
  exact ⟨a, by rw [len0 r h']⟩
theorem len2 (us : List Value) (h : us.length = 2) : ∃ a b, us = [a, b] := by
  obtain ⟨a, r, rfl, h'⟩ := lenS us h
  obtain ⟨b, rfl⟩ := len1 r h'
  exact ⟨a, b, rfl⟩
theorem len3 (us : List Value) (h : us.length = 3) : ∃ a b c, us = [a, b, c] := by
  obtain ⟨a, r, rfl, h'⟩ := lenS us h
  obtain ⟨b, c, rfl⟩ := len2 r h'
  exact ⟨a, b, c, rfl⟩
theorem len4 (us : List Value) (h : us.length = 4) : ∃ a b c d, us = [a, b, c, d] := by
  obtain ⟨a, r, rfl, h'⟩ := lenS us h
  obtain ⟨b, c, d, rfl⟩ := len3 r h'
  exact ⟨a, b, c, d, rfl⟩
theorem len5 (us : List Value) (h : us.length = 5) : ∃ a b c d e, us = [a, b, c, d, e] := by
  obtain ⟨a, r, rfl, h'⟩ := lenS us h
  obtain ⟨b, c, d, e, rfl⟩ := len4 r h'
  exact ⟨a, b, c, d, e, rfl⟩
theorem len6 (us : List Value) (h : us.length = 6) : ∃ a b c d e f, us = [a, b, c, d, e, f] := by
  obtain ⟨a, r, rfl, h'⟩ := lenS us h
  obtain ⟨b, c, d, e, f, rfl⟩ := len5 r h'
  exact ⟨a, b, c, d, e, f, rfl⟩
/-! what the top has written, and the law's own head -/
theorem vals_of_strs : ∀ {zs : List Str} {us : List Value}, strsOf us = zs.map some → Vals (zs.map V.str) us
  | [], [], _ => .nil
  | [], _ :: _, h => by cases h
  | _ :: _, [], h => by cases h
  | z :: zs, u :: us, h => by
    have h1 : oneOf u :: strsOf us = some z :: zs.map some := h
    injection h1 with e1 e2
    refine .cons ?_ (vals_of_strs e2)
    cases u with
    | str x t =>
      cases e1
      exact ⟨t, rfl⟩
    | _ => cases e1
theorem all_mk {l : PySem.W.OpenLaw} {w : World} {K : PySem.W.Frag} {h : Heap} {mg : Str → Option Value} {fa : Addr} (X : K.In h) (G : h.Ns mainGlobals mg) (hfa : mg "law" = some (.ref fa)) (FX : Facts K) :
    ∃ fd : FuncData, (∀ (s : Shared) (v : Value), BindsTo s fd ⟨[v], []⟩ [("_law_script", v)]) ∧ ∀ base : Heap, K.In base → base.Ns mainGlobals mg → FnOk l.prog w K mg base CX0 10 fa fd ["_law_script"] (spLaw K) := by
  obtain @⟨kw, C, f1, f2, f3, f4, f5, f6, f7, f8, f9, f10, f11, f12, f13, f14, f15, f16, f17, f18, f19, f20, f21, f22, f23, f24, f25, f26, f27, f28, f29, f30, f31, f32, f33, f34, f35, f36, f37, f38, f39, f40, f41, f42, f43, f44, f45, f46, f47, f48, f49, f50, f51, f52, f53, odw, od1, an1, od2, an2, od3, an3, od4, an4, od5, an5, od6, an6, od7, an7, od8, an8, od9, an9, od10, an10, od11, an11, od12, an12, od13, an13, od14, an14, od15, an15, od16, an16, od17, an17, od18, an18, od19, an19, od20, an20, od21, an21, od22, an22, od23, an23, od24, an24, od25, an25, od26, an26, od27, an27, od28, an28, od29, an29, od30, an30, od31, an31, od32, an32, od33, an33, od34, an34, od35, an35, od36, an36, od37, an37, od38, an38, od39, an39, od40, an40, od41, an41, od42, an42, od43, an43, od44, an44, od45, an45, od46, an46, od47, an47, od48, an48, od49, an49, od50, an50, od51, an51, od52, an52, od53, an53, slw, sl1, sl2, sl3, sl4, sl5, sl6, sl7, sl8, sl9, sl10, sl11, sl12, sl13, sl14, sl15, sl16, sl17, sl18, sl19, sl20, sl21, sl22, sl23, sl24, sl25, sl26, sl27, sl28, sl29, sl30, sl31, sl32, sl33, sl34, sl35, sl36, sl37, sl38, sl39, sl40, sl41, sl42, sl43, sl44, sl45, sl46, sl47, sl48, sl49, sl50, sl51, sl52, sl53, oc1, kV1, dc1, pm1, cd1, ct1, oc2, kV2, dc2, pm2, cd2, ct2, oc3, kV3, dc3, pm3, cd3, ct3, oc4, kV4, dc4, pm4, cd4, ct4, oc5, kV5, dc5, pm5, cd5, ct5, oc6, kV6, dc6, pm6, cd6, ct6, oc7, kV7, dc7, pm7, cd7, ct7, oc8, kV8, dc8, pm8, cd8, ct8, oc9, kV9, dc9, pm9, cd9, ct9, oc10, kV10, dc10, pm10, cd10, ct10, oc11, kV11, dc11, pm11, cd11, ct11, oc12, kV12, dc12, pm12, cd12, ct12, oc13, kV13, dc13, pm13, cd13, ct13, oc14, kV14, dc14, pm14, cd14, ct14, oc15, kV15, dc15, pm15, cd15, ct15, oc16, kV16, dc16, pm16, cd16, ct16, oc17, kV17, dc17, pm17, cd17, ct17, oc18, kV18, dc18, pm18, cd18, ct18, oc19, kV19, dc19, pm19, cd19, ct19, oc20, kV20, dc20, pm20, cd20, ct20, oc21, kV21, dc21, pm21, cd21, ct21, oc22, kV22, dc22, pm22, cd22, ct22, oc23, kV23, dc23, pm23, cd23, ct23, oc24, kV24, dc24, pm24, cd24, ct24, oc25, kV25, dc25, pm25, cd25, ct25, oc26, kV26, dc26, pm26, cd26, ct26, oc27, kV27, dc27, pm27, cd27, ct27, oc28, kV28, dc28, pm28, cd28, ct28, oc29, kV29, dc29, pm29, cd29, ct29, oc30, kV30, dc30, pm30, cd30, ct30, oc31, kV31, dc31, pm31, cd31, ct31, oc32, kV32, dc32, pm32, cd32, ct32, oc33, kV33, dc33, pm33, cd33, ct33, oc34, kV34, dc34, pm34, cd34, ct34, oc35, kV35, dc35, pm35, cd35, ct35, oc36, kV36, dc36, pm36, cd36, ct36, oc37, kV37, dc37, pm37, cd37, ct37, oc38, kV38, dc38, pm38, cd38, ct38, oc39, kV39, dc39, pm39, cd39, ct39, oc40, kV40, dc40, pm40, cd40, ct40, oc41, kV41, dc41, pm41, cd41, ct41, oc42, kV42, dc42, pm42, cd42, ct42, oc43, kV43, dc43, pm43, cd43, ct43, oc44, kV44, dc44, pm44, cd44, ct44, oc45, kV45, dc45, pm45, cd45, ct45, oc46, kV46, dc46, pm46, cd46, ct46, oc47, kV47, dc47, pm47, cd47, ct47, oc48, kV48, dc48, pm48, cd48, ct48, oc49, kV49, dc49, pm49, cd49, ct49, oc50, kV50, dc50, pm50, cd50, ct50, oc51, kV51, dc51, pm51, cd51, ct51, oc52, kV52, dc52, pm52, cd52, ct52, oc53, kV53, dc53, pm53, cd53, ct53, its, nW, tk1, tk2, tk3, tk4, tk5, aW, lW, vW, a1, l1, c1, k1, a2, l2, c2, k2, a3, l3, c3, k3, a4, l4, c4, k4, a5, l5, c5, k5, a6, l6, c6, k6, a7, l7, c7, k7, a8, l8, c8, k8, a9, l9, c9, k9, a10, l10, c10, k10, a11, l11, c11, k11, a12, l12, c12, k12, a13, l13, c13, k13, a14, l14, c14, k14, a15, l15, c15, k15, a16, l16, c16, k16, a17, l17, c17, k17, a18, l18, c18, k18, a19, l19, c19, k19, a20, l20, c20, k20, a21, l21, c21, k21, a22, l22, c22, k22, a23, l23, c23, k23, a24, l24, c24, k24, a25, l25, c25, k25, a26, l26, c26, k26, a27, l27, c27, k27, a28, l28, c28, k28, a29, l29, c29, k29, a30, l30, c30, k30, a31, l31, c31, k31, a32, l32, c32, k32, a33, l33, c33, k33, a34, l34, c34, k34, a35, l35, c35, k35, a36, l36, c36, k36, a37, l37, c37, k37, a38, l38, c38, k38, a39, l39, c39, k39, a40, l40, c40, k40, a41, l41, c41, k41, a42, l42, c42, k42, a43, l43, c43, k43, a44, l44, c44, k44, a45, l45, c45, k45, a46, l46, c46, k46, a47, l47, c47, k47, aC, pg, hd, po, sa, mk, kc, nP, nS, nT, nY, a48, i48, l48, c48, k48, a49, i49, l49, c49, k49, a50, i50, l50, c50, k50, a51, i51, l51, c51, k51, a52, i52, l52, c52, k52, a53, i53, l53, c53, k53, z1, z2, z3, z4, z5, z6, z7, z8, z9, z10, z11, z12, z13, z14, z15, z16, z17, z18, z19, g1, g2, g3, g4, g5⟩ := FX
  have vW := vals_of_strs (zs := kept) vW
  have e := hfa.symm.trans (PySem.W.mg_of X G a47)
  cases e
  have hsz : its.size ≤ sizeLine := by
    have e := vW.length
    have e2 : (kept.map V.str).length = 12 := by decide +kernel
    rw [e2, Array.length_toList] at e
    have : sizeLine = 16777216 := sizeLine_eq
    omega
  have T : Txt K mg kw C := ⟨PySem.W.mg_none_of X G z1, PySem.W.mg_none_of X G z2, PySem.W.mg_none_of X G z3, PySem.W.mg_none_of X G z4, PySem.W.mg_none_of X G z5, PySem.W.mg_none_of X G z6, PySem.W.mg_none_of X G z7, PySem.W.mg_none_of X G z8, PySem.W.mg_none_of X G z9, PySem.W.mg_none_of X G z10, PySem.W.mg_none_of X G z11, PySem.W.mg_none_of X G z12, PySem.W.mg_none_of X G z13, PySem.W.mg_none_of X G z14, PySem.W.mg_none_of X G z15, PySem.W.mg_none_of X G z16, PySem.W.mg_none_of X G z17, PySem.W.mg_none_of X G z18, PySem.W.mg_none_of X G z19, PySem.W.mg_of X G aW, ⟨_, its, nW, lW, rfl, rfl, hsz, vW⟩, ⟨_, PySem.W.mg_of X G g1, ⟨_, rfl⟩⟩, ⟨_, PySem.W.mg_of X G g2, ⟨_, rfl⟩⟩, ⟨_, PySem.W.mg_of X G g3, ⟨_, rfl⟩⟩, ⟨_, PySem.W.mg_of X G g4, ⟨_, rfl⟩⟩, ⟨_, PySem.W.mg_of X G g5, ⟨_, rfl⟩⟩, ⟨pg, hd, po, sa⟩, nP, nS, nT, nY⟩
  have F1 := fun_mk (st := s_is_whole) l1 c1 k1
  have F2 := fun_mk (st := s_is_hour) l2 c2 k2
  have F3 := fun_mk (st := s_is_name) l3 c3 k3
  have F4 := fun_mk (st := s_is_list_up_to) l4 c4 k4
  have F5 := fun_mk (st := s_is_tuple_of) l5 c5 k5
  have F6 := fun_mk (st := s_is_person) l6 c6 k6
  have F7 := fun_mk (st := s_are_unlike_persons) l7 c7 k7
  have F8 := fun_mk (st := s_is_tale) l8 c8 k8
  have F9 := fun_mk (st := s_is_sight) l9 c9 k9
  have F10 := fun_mk (st := s_is_way) l10 c10 k10
  have F11 := fun_mk (st := s_is_talk) l11 c11 k11
  have F12 := fun_mk (st := s_is_span) l12 c12 k12
  have F13 := fun_mk (st := s_is_short_saying) l13 c13 k13
  have F14 := fun_mk (st := s_is_saying) l14 c14 k14
  have F15 := fun_mk (st := s_are_persons) l15 c15 k15
  have F16 := fun_mk (st := s_are_sights) l16 c16 k16
  have F17 := fun_mk (st := s_are_talks) l17 c17 k17
  have F18 := fun_mk (st := s_are_sayings) l18 c18 k18
  have F19 := fun_mk (st := s_floor_of) l19 c19 k19
  have F20 := fun_mk (st := s_floors_of_all) l20 c20 k20
  have F21 := fun_mk (st := s_is_above) l21 c21 k21
  have F22 := fun_mk (st := s_is_silent) l22 c22 k22
  have F23 := fun_mk (st := s_is_barred) l23 c23 k23
  have F24 := fun_mk (st := s_open_sights) l24 c24 k24
  have F25 := fun_mk (st := s_open_tellings) l25 c25 k25
  have F26 := fun_mk (st := s_hours_of_tellings) l26 c26 k26
  have F27 := fun_mk (st := s_seen_hours) l27 c27 k27
  have F28 := fun_mk (st := s_saw_ahead_of) l28 c28 k28
  have F29 := fun_mk (st := s_hours_of_open) l29 c29 k29
  have F30 := fun_mk (st := s_leads_to) l30 c30 k30
  have F31 := fun_mk (st := s_is_line) l31 c31 k31
  have F32 := fun_mk (st := s_l_cell_at) l32 c32 k32
  have F33 := fun_mk (st := s_l_mix) l33 c33 k33
  have F34 := fun_mk (st := s_l_names) l34 c34 k34
  have F35 := fun_mk (st := s_l_saying) l35 c35 k35
  have F36 := fun_mk (st := s_l_made) l36 c36 k36
  have F37 := fun_mk (st := s_l_book) l37 c37 k37
  have F38 := fun_mk (st := s_l_free) l38 c38 k38
  have F39 := fun_mk (st := s_l_open) l39 c39 k39
  have F40 := fun_mk (st := s_l_seen) l40 c40 k40
  have F41 := fun_mk (st := s_l_hour) l41 c41 k41
  have F42 := fun_mk (st := s_l_line_good) l42 c42 k42
  have F43 := fun_mk (st := s_l_onward) l43 c43 k43
  have F44 := fun_mk (st := s_l_grown) l44 c44 k44
  have F45 := fun_mk (st := s_l_all) l45 c45 k45
  have F46 := fun_mk (st := s_l_spoiled) l46 c46 k46
  have F47 := fun_mk (st := s_law) l47 c47 k47
  have F48 := fun_mk (st := s_m_init) l48 c48 k48
  have F49 := fun_mk (st := s_m_persons) l49 c49 k49
  have F50 := fun_mk (st := s_m_sights) l50 c50 k50
  have F51 := fun_mk (st := s_m_talks) l51 c51 k51
  have F52 := fun_mk (st := s_m_sayings) l52 c52 k52
  have F53 := fun_mk (st := s_m_tellings) l53 c53 k53
  have b1 := F1.binds (ps := ["thing"]) fun _ _ _ _ _ _ us hl => by
    obtain ⟨_, rfl⟩ := len1 us hl
    rfl
  have D_is_whole : Df K mg "is_whole" s_is_whole ["thing"] f1 _ := ⟨F1, PySem.W.mg_of X G a1, b1⟩
  have b2 := F2.binds (ps := ["thing"]) fun _ _ _ _ _ _ us hl => by
    obtain ⟨_, rfl⟩ := len1 us hl
    rfl
  have D_is_hour : Df K mg "is_hour" s_is_hour ["thing"] f2 _ := ⟨F2, PySem.W.mg_of X G a2, b2⟩
  have b3 := F3.binds (ps := ["thing"]) fun _ _ _ _ _ _ us hl => by
    obtain ⟨_, rfl⟩ := len1 us hl
    rfl
  have D_is_name : Df K mg "is_name" s_is_name ["thing"] f3 _ := ⟨F3, PySem.W.mg_of X G a3, b3⟩
  have b4 := F4.binds (ps := ["thing", "most"]) fun _ _ _ _ _ _ us hl => by
    obtain ⟨_, _, rfl⟩ := len2 us hl
    rfl
  have D_is_list_up_to : Df K mg "is_list_up_to" s_is_list_up_to ["thing", "most"] f4 _ := ⟨F4, PySem.W.mg_of X G a4, b4⟩
  have b5 := F5.binds (ps := ["thing", "length"]) fun _ _ _ _ _ _ us hl => by
    obtain ⟨_, _, rfl⟩ := len2 us hl
    rfl
  have D_is_tuple_of : Df K mg "is_tuple_of" s_is_tuple_of ["thing", "length"] f5 _ := ⟨F5, PySem.W.mg_of X G a5, b5⟩
  have b6 := F6.binds (ps := ["persons", "thing"]) fun _ _ _ _ _ _ us hl => by
    obtain ⟨_, _, rfl⟩ := len2 us hl
    rfl
  have D_is_person : Df K mg "is_person" s_is_person ["persons", "thing"] f6 _ := ⟨F6, PySem.W.mg_of X G a6, b6⟩
  have b7 := F7.binds (ps := ["persons", "one", "other"]) fun _ _ _ _ _ _ us hl => by
    obtain ⟨_, _, _, rfl⟩ := len3 us hl
    rfl
  have D_are_unlike_persons : Df K mg "are_unlike_persons" s_are_unlike_persons ["persons", "one", "other"] f7 _ := ⟨F7, PySem.W.mg_of X G a7, b7⟩
  have b8 := F8.binds (ps := ["thing"]) fun _ _ _ _ _ _ us hl => by
    obtain ⟨_, rfl⟩ := len1 us hl
    rfl
  have D_is_tale : Df K mg "is_tale" s_is_tale ["thing"] f8 _ := ⟨F8, PySem.W.mg_of X G a8, b8⟩
  have b9 := F9.binds (ps := ["persons", "thing"]) fun _ _ _ _ _ _ us hl => by
    obtain ⟨_, _, rfl⟩ := len2 us hl
    rfl
  have D_is_sight : Df K mg "is_sight" s_is_sight ["persons", "thing"] f9 _ := ⟨F9, PySem.W.mg_of X G a9, b9⟩
  have b10 := F10.binds (ps := ["thing"]) fun _ _ _ _ _ _ us hl => by
    obtain ⟨_, rfl⟩ := len1 us hl
    rfl
  have D_is_way : Df K mg "is_way" s_is_way ["thing"] f10 _ := ⟨F10, PySem.W.mg_of X G a10, b10⟩
  have b11 := F11.binds (ps := ["persons", "thing"]) fun _ _ _ _ _ _ us hl => by
    obtain ⟨_, _, rfl⟩ := len2 us hl
    rfl
  have D_is_talk : Df K mg "is_talk" s_is_talk ["persons", "thing"] f11 _ := ⟨F11, PySem.W.mg_of X G a11, b11⟩
  have b12 := F12.binds (ps := ["begin", "end"]) fun _ _ _ _ _ _ us hl => by
    obtain ⟨_, _, rfl⟩ := len2 us hl
    rfl
  have D_is_span : Df K mg "is_span" s_is_span ["begin", "end"] f12 _ := ⟨F12, PySem.W.mg_of X G a12, b12⟩
  have b13 := F13.binds (ps := ["persons", "kind", "person", "behind"]) fun _ _ _ _ _ _ us hl => by
    obtain ⟨_, _, _, _, rfl⟩ := len4 us hl
    rfl
  have D_is_short_saying : Df K mg "is_short_saying" s_is_short_saying ["persons", "kind", "person", "behind"] f13 _ := ⟨F13, PySem.W.mg_of X G a13, b13⟩
  have b14 := F14.binds (ps := ["persons", "thing"]) fun _ _ _ _ _ _ us hl => by
    obtain ⟨_, _, rfl⟩ := len2 us hl
    rfl
  have D_is_saying : Df K mg "is_saying" s_is_saying ["persons", "thing"] f14 _ := ⟨F14, PySem.W.mg_of X G a14, b14⟩
  have b15 := F15.binds (ps := ["thing"]) fun _ _ _ _ _ _ us hl => by
    obtain ⟨_, rfl⟩ := len1 us hl
    rfl
  have D_are_persons : Df K mg "are_persons" s_are_persons ["thing"] f15 _ := ⟨F15, PySem.W.mg_of X G a15, b15⟩
  have b16 := F16.binds (ps := ["persons", "thing"]) fun _ _ _ _ _ _ us hl => by
    obtain ⟨_, _, rfl⟩ := len2 us hl
    rfl
  have D_are_sights : Df K mg "are_sights" s_are_sights ["persons", "thing"] f16 _ := ⟨F16, PySem.W.mg_of X G a16, b16⟩
  have b17 := F17.binds (ps := ["persons", "thing"]) fun _ _ _ _ _ _ us hl => by
    obtain ⟨_, _, rfl⟩ := len2 us hl
    rfl
  have D_are_talks : Df K mg "are_talks" s_are_talks ["persons", "thing"] f17 _ := ⟨F17, PySem.W.mg_of X G a17, b17⟩
  have b18 := F18.binds (ps := ["persons", "thing"]) fun _ _ _ _ _ _ us hl => by
    obtain ⟨_, _, rfl⟩ := len2 us hl
    rfl
  have D_are_sayings : Df K mg "are_sayings" s_are_sayings ["persons", "thing"] f18 _ := ⟨F18, PySem.W.mg_of X G a18, b18⟩
  have b19 := F19.binds (ps := ["book", "person"]) fun _ _ _ _ _ _ us hl => by
    obtain ⟨_, _, rfl⟩ := len2 us hl
    rfl
  have D_floor_of : Df K mg "floor_of" s_floor_of ["book", "person"] f19 _ := ⟨F19, PySem.W.mg_of X G a19, b19⟩
  have b20 := F20.binds (ps := ["book"]) fun _ _ _ _ _ _ us hl => by
    obtain ⟨_, rfl⟩ := len1 us hl
    rfl
  have D_floors_of_all : Df K mg "floors_of_all" s_floors_of_all ["book"] f20 _ := ⟨F20, PySem.W.mg_of X G a20, b20⟩
  have b21 := F21.binds (ps := ["hour", "floor"]) fun _ _ _ _ _ _ us hl => by
    obtain ⟨_, _, rfl⟩ := len2 us hl
    rfl
  have D_is_above : Df K mg "is_above" s_is_above ["hour", "floor"] f21 _ := ⟨F21, PySem.W.mg_of X G a21, b21⟩
  have b22 := F22.binds (ps := ["sayings", "person", "hour"]) fun _ _ _ _ _ _ us hl => by
    obtain ⟨_, _, _, rfl⟩ := len3 us hl
    rfl
  have D_is_silent : Df K mg "is_silent" s_is_silent ["sayings", "person", "hour"] f22 _ := ⟨F22, PySem.W.mg_of X G a22, b22⟩
  have b23 := F23.binds (ps := ["sayings", "hearer", "teller"]) fun _ _ _ _ _ _ us hl => by
    obtain ⟨_, _, _, rfl⟩ := len3 us hl
    rfl
  have D_is_barred : Df K mg "is_barred" s_is_barred ["sayings", "hearer", "teller"] f23 _ := ⟨F23, PySem.W.mg_of X G a23, b23⟩
  have b24 := F24.binds (ps := ["book"]) fun _ _ _ _ _ _ us hl => by
    obtain ⟨_, rfl⟩ := len1 us hl
    rfl
  have D_open_sights : Df K mg "open_sights" s_open_sights ["book"] f24 _ := ⟨F24, PySem.W.mg_of X G a24, b24⟩
  have b25 := F25.binds (ps := ["book"]) fun _ _ _ _ _ _ us hl => by
    obtain ⟨_, rfl⟩ := len1 us hl
    rfl
  have D_open_tellings : Df K mg "open_tellings" s_open_tellings ["book"] f25 _ := ⟨F25, PySem.W.mg_of X G a25, b25⟩
  have b26 := F26.binds (ps := ["book"]) fun _ _ _ _ _ _ us hl => by
    obtain ⟨_, rfl⟩ := len1 us hl
    rfl
  have D_hours_of_tellings : Df K mg "hours_of_tellings" s_hours_of_tellings ["book"] f26 _ := ⟨F26, PySem.W.mg_of X G a26, b26⟩
  have b27 := F27.binds (ps := ["book"]) fun _ _ _ _ _ _ us hl => by
    obtain ⟨_, rfl⟩ := len1 us hl
    rfl
  have D_seen_hours : Df K mg "seen_hours" s_seen_hours ["book"] f27 _ := ⟨F27, PySem.W.mg_of X G a27, b27⟩
  have b28 := F28.binds (ps := ["seen", "person", "hour"]) fun _ _ _ _ _ _ us hl => by
    obtain ⟨_, _, _, rfl⟩ := len3 us hl
    rfl
  have D_saw_ahead_of : Df K mg "saw_ahead_of" s_saw_ahead_of ["seen", "person", "hour"] f28 _ := ⟨F28, PySem.W.mg_of X G a28, b28⟩
  have b29 := F29.binds (ps := ["book"]) fun _ _ _ _ _ _ us hl => by
    obtain ⟨_, rfl⟩ := len1 us hl
    rfl
  have D_hours_of_open : Df K mg "hours_of_open" s_hours_of_open ["book"] f29 _ := ⟨F29, PySem.W.mg_of X G a29, b29⟩
  have b30 := F30.binds (ps := ["hours", "telling", "later"]) fun _ _ _ _ _ _ us hl => by
    obtain ⟨_, _, _, rfl⟩ := len3 us hl
    rfl
  have D_leads_to : Df K mg "leads_to" s_leads_to ["hours", "telling", "later"] f30 _ := ⟨F30, PySem.W.mg_of X G a30, b30⟩
  have b31 := F31.binds (ps := ["book", "some", "person", "hour"]) fun _ _ _ _ _ _ us hl => by
    obtain ⟨_, _, _, _, rfl⟩ := len4 us hl
    rfl
  have D_is_line : Df K mg "is_line" s_is_line ["book", "some", "person", "hour"] f31 _ := ⟨F31, PySem.W.mg_of X G a31, b31⟩
  have b32 := F32.binds (ps := ["_law_script", "_law_k"]) fun _ _ _ _ _ _ us hl => by
    obtain ⟨_, _, rfl⟩ := len2 us hl
    rfl
  have D_l_cell_at : Df K mg "_law_cell_at" s_l_cell_at ["_law_script", "_law_k"] f32 _ := ⟨F32, PySem.W.mg_of X G a32, b32⟩
  have b33 := F33.binds (ps := ["_law_cell", "_law_k"]) fun _ _ _ _ _ _ us hl => by
    obtain ⟨_, _, rfl⟩ := len2 us hl
    rfl
  have D_l_mix : Df K mg "_law_mix" s_l_mix ["_law_cell", "_law_k"] f33 _ := ⟨F33, PySem.W.mg_of X G a33, b33⟩
  have b34 := F34.binds (ps := ["_law_cell", "_law_many"]) fun _ _ _ _ _ _ us hl => by
    obtain ⟨_, _, rfl⟩ := len2 us hl
    rfl
  have D_l_names : Df K mg "_law_names" s_l_names ["_law_cell", "_law_many"] f34 _ := ⟨F34, PySem.W.mg_of X G a34, b34⟩
  have b35 := F35.binds (ps := ["_law_cell", "_law_one", "_law_other", "_law_unit"]) fun _ _ _ _ _ _ us hl => by
    obtain ⟨_, _, _, _, rfl⟩ := len4 us hl
    rfl
  have D_l_saying : Df K mg "_law_saying" s_l_saying ["_law_cell", "_law_one", "_law_other", "_law_unit"] f35 _ := ⟨F35, PySem.W.mg_of X G a35, b35⟩
  have b36 := F36.binds (ps := ["_law_script"]) fun _ _ _ _ _ _ us hl => by
    obtain ⟨_, rfl⟩ := len1 us hl
    rfl
  have D_l_made : Df K mg "_law_made" s_l_made ["_law_script"] f36 _ := ⟨F36, PySem.W.mg_of X G a36, b36⟩
  have b37 := F37.binds (ps := ["_law_made_here"]) fun _ _ _ _ _ _ us hl => by
    obtain ⟨_, rfl⟩ := len1 us hl
    rfl
  have D_l_book : Df K mg "_law_book" s_l_book ["_law_made_here"] f37 _ := ⟨F37, PySem.W.mg_of X G a37, b37⟩
  have b38 := F38.binds (ps := ["_law_made_here", "_law_person", "_law_hour_here"]) fun _ _ _ _ _ _ us hl => by
    obtain ⟨_, _, _, rfl⟩ := len3 us hl
    rfl
  have D_l_free : Df K mg "_law_free" s_l_free ["_law_made_here", "_law_person", "_law_hour_here"] f38 _ := ⟨F38, PySem.W.mg_of X G a38, b38⟩
  have b39 := F39.binds (ps := ["_law_made_here"]) fun _ _ _ _ _ _ us hl => by
    obtain ⟨_, rfl⟩ := len1 us hl
    rfl
  have D_l_open : Df K mg "_law_open" s_l_open ["_law_made_here"] f39 _ := ⟨F39, PySem.W.mg_of X G a39, b39⟩
  have b40 := F40.binds (ps := ["_law_made_here"]) fun _ _ _ _ _ _ us hl => by
    obtain ⟨_, rfl⟩ := len1 us hl
    rfl
  have D_l_seen : Df K mg "_law_seen" s_l_seen ["_law_made_here"] f40 _ := ⟨F40, PySem.W.mg_of X G a40, b40⟩
  have b41 := F41.binds (ps := ["_law_made_here", "_law_telling"]) fun _ _ _ _ _ _ us hl => by
    obtain ⟨_, _, rfl⟩ := len2 us hl
    rfl
  have D_l_hour : Df K mg "_law_hour" s_l_hour ["_law_made_here", "_law_telling"] f41 _ := ⟨F41, PySem.W.mg_of X G a41, b41⟩
  have b42 := F42.binds (ps := ["_law_made_here", "_law_open_ones", "_law_seen_here", "_law_some", "_law_person", "_law_hour_here"]) fun _ _ _ _ _ _ us hl => by
    obtain ⟨_, _, _, _, _, _, rfl⟩ := len6 us hl
    rfl
  have D_l_line_good : Df K mg "_law_line_good" s_l_line_good ["_law_made_here", "_law_open_ones", "_law_seen_here", "_law_some", "_law_person", "_law_hour_here"] f42 _ := ⟨F42, PySem.W.mg_of X G a42, b42⟩
  have b43 := F43.binds (ps := ["_law_made_here", "_law_told_ones", "_law_last"]) fun _ _ _ _ _ _ us hl => by
    obtain ⟨_, _, _, rfl⟩ := len3 us hl
    rfl
  have D_l_onward : Df K mg "_law_onward" s_l_onward ["_law_made_here", "_law_told_ones", "_law_last"] f43 _ := ⟨F43, PySem.W.mg_of X G a43, b43⟩
  have b44 := F44.binds (ps := ["_law_made_here", "_law_told_ones", "_law_cell"]) fun _ _ _ _ _ _ us hl => by
    obtain ⟨_, _, _, rfl⟩ := len3 us hl
    rfl
  have D_l_grown : Df K mg "_law_grown" s_l_grown ["_law_made_here", "_law_told_ones", "_law_cell"] f44 _ := ⟨F44, PySem.W.mg_of X G a44, b44⟩
  have b45 := F45.binds (ps := ["_law_made_here"]) fun _ _ _ _ _ _ us hl => by
    obtain ⟨_, rfl⟩ := len1 us hl
    rfl
  have D_l_all : Df K mg "_law_all" s_l_all ["_law_made_here"] f45 _ := ⟨F45, PySem.W.mg_of X G a45, b45⟩
  have b46 := F46.binds (ps := ["_law_some", "_law_told_ones", "_law_cell"]) fun _ _ _ _ _ _ us hl => by
    obtain ⟨_, _, _, rfl⟩ := len3 us hl
    rfl
  have D_l_spoiled : Df K mg "_law_spoiled" s_l_spoiled ["_law_some", "_law_told_ones", "_law_cell"] f46 _ := ⟨F46, PySem.W.mg_of X G a46, b46⟩
  have b_m_init := F48.binds (ps := ["self", "persons", "sights", "talks", "sayings"]) fun _ _ _ _ _ _ us hl => by
    obtain ⟨_, _, _, _, _, rfl⟩ := len5 us hl
    rfl
  have F_m_init := F48
  have mk_m_init : Mk K C f48 := ⟨mk, a48, i48, kc⟩
  have b_m_persons := F49.binds (ps := ["self"]) fun _ _ _ _ _ _ us hl => by
    obtain ⟨_, rfl⟩ := len1 us hl
    rfl
  have F_m_persons := F49
  have me_m_persons : Meth K C "persons" f49 := ⟨a49, i49, k49⟩
  have b_m_sights := F50.binds (ps := ["self"]) fun _ _ _ _ _ _ us hl => by
    obtain ⟨_, rfl⟩ := len1 us hl
    rfl
  have F_m_sights := F50
  have me_m_sights : Meth K C "sights" f50 := ⟨a50, i50, k50⟩
  have b_m_talks := F51.binds (ps := ["self"]) fun _ _ _ _ _ _ us hl => by
    obtain ⟨_, rfl⟩ := len1 us hl
    rfl
  have F_m_talks := F51
  have me_m_talks : Meth K C "talks" f51 := ⟨a51, i51, k51⟩
  have b_m_sayings := F52.binds (ps := ["self"]) fun _ _ _ _ _ _ us hl => by
    obtain ⟨_, rfl⟩ := len1 us hl
    rfl
  have F_m_sayings := F52
  have me_m_sayings : Meth K C "sayings" f52 := ⟨a52, i52, k52⟩
  have b_m_tellings := F53.binds (ps := ["self"]) fun _ _ _ _ _ _ us hl => by
    obtain ⟨_, rfl⟩ := len1 us hl
    rfl
  have F_m_tellings := F53
  have me_m_tellings : Meth K C "tellings" f53 := ⟨a53, i53, k53⟩
  have nmB := PySem.W.mg_of X G aC
  refine ⟨PySem.W.fnOf "law" "law" (defArgs s_law) (defBody s_law) (defScope s_law) .none kV47 dc47 pm47 an47 cd47 ct47, fun s v => .of_eq rfl, fun base _ _ => ?_⟩
  have G1 : Gd l.prog w K mg base 2 "is_hour" (spHour K) := ⟨_, _, _, ok_hour D_is_hour.fn D_is_whole T, D_is_hour.nm, D_is_hour.fn.kp, D_is_hour.bi⟩
  have G2 : Gd l.prog w K mg base 1 "is_name" (spName K) := ⟨_, _, _, ok_name D_is_name.fn T, D_is_name.nm, D_is_name.fn.kp, D_is_name.bi⟩
  have G3 : Gd l.prog w K mg base 1 "is_list_up_to" spListUp := ok_list_up D_is_list_up_to T
  have G4 : Gd l.prog w K mg base 1 "is_tuple_of" spTupOf := ok_tup_of D_is_tuple_of T
  have G5 : Gd l.prog w K mg base 2 "is_person" spPerson := ok_person D_is_person G2
  have G6 : Gd l.prog w K mg base 3 "are_unlike_persons" spUnlike := ok_unlike D_are_unlike_persons G5
  have G7 : Gd l.prog w K mg base 2 "is_tale" spTale := ok_tale D_is_tale T G2
  have G8 : Gd l.prog w K mg base 3 "is_sight" spSight := ok_sight D_is_sight G4 G5 G1 G7
  have G9 : Gd l.prog w K mg base 1 "is_way" spWay := ok_way D_is_way T
  have G10 : Gd l.prog w K mg base 4 "is_talk" spTalk := ok_talk D_is_talk G4 G6 G1 G9
  have G11 : Gd l.prog w K mg base 3 "is_span" spSpan := ok_span D_is_span G1
  have G12 : Gd l.prog w K mg base 4 "is_short_saying" spShort := ok_short D_is_short_saying G6 G5 G1
  have G13 : Gd l.prog w K mg base 5 "is_saying" spSaying := ok_saying D_is_saying T G5 G11 G12
  have G14 : Gd l.prog w K mg base 2 "are_persons" spPersons := ok_persons D_are_persons T G3 G2
  have G15 : Gd l.prog w K mg base 4 "are_sights" (spMany SightIn 24) := ok_all_sights D_are_sights T G3 G8
  have G16 : Gd l.prog w K mg base 5 "are_talks" (spMany TalkIn 120) := ok_all_talks D_are_talks T G3 G10
  have G17 : Gd l.prog w K mg base 6 "are_sayings" (spMany SayIn 60) := ok_all_sayings D_are_sayings T G3 G13
  have GB : Kd l.prog w K mg base 7 "Book" C (spInit C) := ok_init F_m_init mk_m_init b_m_init nmB T G14 G15 G16 G17
  have M1 : Md l.prog w K mg base 1 C "persons" (spTell1 C fun p _ _ _ => p) := ok_m_persons F_m_persons me_m_persons b_m_persons T
  have M2 : Md l.prog w K mg base 1 C "sights" (spTell1 C fun _ s _ _ => s) := ok_m_sights F_m_sights me_m_sights b_m_sights T
  have M3 : Md l.prog w K mg base 1 C "talks" (spTell1 C fun _ _ t _ => t) := ok_m_talks F_m_talks me_m_talks b_m_talks T
  have M4 : Md l.prog w K mg base 1 C "sayings" (spTell1 C fun _ _ _ y => y) := ok_m_sayings F_m_sayings me_m_sayings b_m_sayings T
  have M5 : Md l.prog w K mg base 1 C "tellings" (spTellings C) := ok_tellings F_m_tellings me_m_tellings b_m_tellings T
  have G26 : Gd l.prog w K mg base 2 "floor_of" (spFloor C) := ok_floor_of D_floor_of T M4
  have G27 : Gd l.prog w K mg base 3 "floors_of_all" (spFloors C) := ok_floors D_floors_of_all T M1 G26
  have G28 : Gd l.prog w K mg base 1 "is_above" spAbove := ok_is_above D_is_above
  have G33 : Gd l.prog w K mg base 1 "is_silent" spSil := ok_is_silent D_is_silent T
  have G34 : Gd l.prog w K mg base 1 "is_barred" spBar := ok_is_barred D_is_barred
  have G29 : Gd l.prog w K mg base 4 "open_tellings" (spOpenT C) := ok_open_tellings D_open_tellings T M3 M4 M5 G27 G28 G33 G34
  have G30 : Gd l.prog w K mg base 4 "open_sights" (spOpenS C) := ok_open_sights D_open_sights T M2 G27 G28
  have P1 : Gd l.prog w K mg base 2 "hours_of_tellings" (spHot C) := ok_hot D_hours_of_tellings T M3 M5
  have P2 : Gd l.prog w K mg base 5 "seen_hours" (spSeen C) := ok_seen D_seen_hours T M2 G30
  have P3 : Gd l.prog w K mg base 1 "saw_ahead_of" spSaw := ok_saw D_saw_ahead_of
  have P4 : Gd l.prog w K mg base 5 "hours_of_open" (spHoo C) := ok_hoo D_hours_of_open T P1 G29
  have P5 : Gd l.prog w K mg base 1 "leads_to" spLead := ok_leads D_leads_to
  have P6 : Gd l.prog w K mg base 6 "is_line" (spLine C) := ok_line D_is_line T P4 P2 P3 P5
  have A1 : Gd l.prog w K mg base 1 "_law_cell_at" (spCell K) := ok_cell D_l_cell_at T
  have A2 : Gd l.prog w K mg base 1 "_law_mix" spMix := ok_mix D_l_mix
  have A3 : Gd l.prog w K mg base 2 "_law_names" spNames4 := ok_names4 D_l_names T A2
  have A4 : Gd l.prog w K mg base 2 "_law_saying" spSay4 := ok_say4 D_l_saying T A2
  have A5 : Gd l.prog w K mg base 3 "_law_made" (spMade K) := ok_made D_l_made T A1 A2 A3 A4
  have A6 : Gd l.prog w K mg base 9 "_law_book" (spBk4 C) := ok_book4 D_l_book T GB
  have A7 : Gd l.prog w K mg base 1 "_law_free" spFree4 := ok_free4 D_l_free
  have A8 : Gd l.prog w K mg base 2 "_law_open" spOpen4 := ok_open4 D_l_open T A7
  have A9 : Gd l.prog w K mg base 2 "_law_seen" spSeen4 := ok_seen4 D_l_seen T A7
  have A10 : Gd l.prog w K mg base 1 "_law_hour" spHour4 := ok_hour4 D_l_hour
  have A11 : Gd l.prog w K mg base 2 "_law_line_good" spGood4 := ok_good4 D_l_line_good T A10
  have A12 : Gd l.prog w K mg base 2 "_law_onward" spOnw := ok_onw D_l_onward T A10
  have A13 : Gd l.prog w K mg base 3 "_law_grown" spGrw := ok_grw D_l_grown T A2 A12
  have A14 : Gd l.prog w K mg base 1 "_law_all" spAll4 := ok_all4 D_l_all T
  have A15 : Gd l.prog w K mg base 2 "_law_spoiled" spSpl := ok_spl D_l_spoiled T A2
  exact ok_law F47 T A5 A2 A8 A9 A14 A10 A6 A13 A15 P6 A11

theorem walk {l : PySem.W.OpenLaw} {q : Program} {loose : List Str} {XP : (Str → Option Value) → Heap → Prop} {YP : World → Heap → Prop} {d : DefRec} {K : Params → PySem.W.Frag} (hn : l.most = some 63) (hdf : d.params.defaults = [])
    (hY : ∀ (w : World) (h : Heap), YP w h → (K w.params).In h)
    (F : ∀ (w : World) (mg : Str → Option Value) (fa : Addr) (h : Heap), (K w.params).In h → h.Ns mainGlobals mg → mg d.name = some (.ref fa) →
      ∃ fd : FuncData, (∀ (s : Shared) (u : Value), BindsTo s fd ⟨[u], []⟩ [("_law_script", u)]) ∧ ∀ base : Heap, (K w.params).In base → base.Ns mainGlobals mg → FnOk l.prog w (K w.params) mg base CX0 10 fa fd ["_law_script"] (spLaw (K w.params))) :
    PySem.W.WalkO q loose XP YP l.row.toRowW d [] (fun f vs => PySem.call f vs) :=
  L2.walk_of (n := 63) (k := 10) (x := "_law_script") (CX := fun _ => CX0) (sp := fun w => spLaw (K w.params)) hn (by decide) hdf ⟨rfl, by decide, by decide⟩ hY F (fun _ _ a ns hl _ hS => ⟨a, ns, rfl, hS, hl, fun _ => rfl⟩) fun _ _ _ _ _ z => z
end K41
open PySem PySem.W PyProof.Rows
theorem PySem.Challenge.cw_knewby_k41_what_is_a_line_holds : PySem.Challenge.rw_knewby_k41_what_is_a_line.Holds :=
  K41.closing fun hdn hdf hY hF => K41.walk (l := PySem.Challenge.rw_knewby_k41_what_is_a_line) rfl hdf hY fun w mg fa h KX G hmg => K41.all_mk KX G (by rw [← hdn]; exact hmg) (hF w mg fa h KX G hmg)

