import PyProof.Rows.All
import Wide.All
import OpenK.AllK
import Wide.FinOn
import Lean
import PyProof.EqAt
import PyProof.EqKinds
import PyProof.TupleCall
import PyProof.NeKinds
import PyProof.ListRange
import PyProof.Rows.SortStr
import KE.KRevIter
import KE.KDictOf
import PyProof.AttrMissSeq
import PyProof.Rows.SortRunsK
import PyProof.Rows.SortShellK
import PyProof.Rows.CallKwBuiltin
import PySem.Challenge.RW_knewby_k21_earliest_hours
set_option Elab.async false
set_option linter.all false
set_option maxRecDepth 100000
set_option maxHeartbeats 4000000
namespace L2
open PySem PySem.Spec PyProof.Rows
def inClass (s : Stmt) (j : Nat) : Stmt := match s with
  | .ClassDef _ _ _ body _ _ _ _ _ _ _ => body.getD j (.Pass ⟨0, 0, 0, 0⟩)
  | _ => .Pass ⟨0, 0, 0, 0⟩
def aF (s : Stmt) : Arguments := match s with
  | .FunctionDef _ a _ _ _ _ _ _ _ _ => a
  | _ => { posonlyargs := [], args := [], vararg := none, kwonlyargs := [], kw_defaults := [], kwarg := none, defaults := [] }
def aA (s : Stmt) : List Stmt := match s with
  | .FunctionDef _ _ b _ _ _ _ _ _ _ => b
  | _ => []
def aa (s : Stmt) : Scope := match s with
  | .FunctionDef _ _ _ _ _ _ sc _ _ _ => sc
  | _ => { kind := .function, names := [], isGenerator := false, isCoroutine := false }
end L2
namespace TR
open PySem PySem.W
def uY (stp : SharedT → Thread → Option (SharedT × Thread)) (ok : Thread → Bool) : Nat → SharedT → Thread → Option SharedT
  | 0, _, _ => none
  | n + 1, s, t => match through t with
    | true => some s
    | false => match ok t with
      | false => none
      | true => match stp s t with
        | some (s', t') => uY stp ok n s' t'
        | none => none
theorem rn {tb : String → Option Builtin} {p : Program} {w : World} {n₀ : Nat} {ann : Option Value} : ∀ {n : Nat} {s s' : SharedT} {t : Thread}, uY (stepT (denote tb) p w) (stepOk n₀ ann) n s t = some s' → topRun tb p w n₀ ann n s.abs t = some s'.abs
  | 0, _, _, _, h => by cases h
  | n + 1, s, s', t, h => by
    unfold uY at h
    unfold topRun
    cases he : through t with
    | true => rw [he] at h; cases h; rfl
    | false =>
      rw [he] at h
      cases hk : stepOk n₀ ann t with
      | false => rw [hk] at h; cases h
      | true =>
        rw [hk] at h
        cases hs : stepT (denote tb) p w s t with
        | none => rw [hs] at h; cases h
        | some r =>
          obtain ⟨s₂, t₂⟩ := r
          rw [hs] at h
          rw [stepT_spec hs]
          exact rn h
def grow : List Obj → BT → Nat → Option BT
  | [], t, _ => some t
  | o :: r, t, n => match ((t.ins n o).get n).isSome with
    | true => grow r (t.ins n o) (n + 1)
    | false => none
theorem pe {life : Life} : ∀ {l : List Obj} {t t' : BT} {n : Nat}, grow l t n = some t' → absHeap t' (n + l.length) life = l.foldl (fun h o => h.push o) (absHeap t n life)
  | [], _, _, _, h => by cases h; rfl
  | o :: r, t, t', n, h => by
    unfold grow at h
    cases g : ((t.ins n o).get n).isSome with
    | false => rw [g] at h; cases h
    | true =>
      rw [g] at h
      have ih := pe (life := life) h
      rw [absHeap_ins g] at ih
      rw [List.length_cons, List.foldl_cons, ← ih]
      congr 1
      omega
theorem ph (life : Life) : ∀ (l m : List Obj), l.foldl (fun (h : Heap) o => h.push o) ⟨m.toArray, life⟩ = ⟨(m ++ l).toArray, life⟩
  | [], m => by rw [List.append_nil]; rfl
  | o :: r, m => by
    have : (⟨m.toArray, life⟩ : Heap).push o = ⟨(m ++ [o]).toArray, life⟩ := by
      show (⟨m.toArray.push o, life⟩ : Heap) = _
      rw [List.push_toArray]
    rw [List.foldl_cons, this, ph life r, List.append_assoc]
    rfl
def CI (s : Shared) (t : BT) : SharedT := ⟨t, s.heap.objs.size, s.heap.life, s.gens, s.drawn, s.toks, s.os⟩
theorem yf {s : Shared} {t : BT} (h : grow s.heap.objs.toList .nil 0 = some t) : (CI s t).abs = s := by
  have := pe (life := s.heap.life) h
  rw [Nat.zero_add, show absHeap .nil 0 s.heap.life = ⟨([] : List Obj).toArray, s.heap.life⟩ from rfl, ph, List.nil_append, Array.length_toList] at this
  obtain ⟨⟨objs, life⟩, gens, drawn, toks, os⟩ := s
  show (⟨absHeap t objs.size life, gens, drawn, toks, os⟩ : Shared) = _
  rw [this]
theorem left {p q : Program} {loose : List Str} {Xt : Shared → Bool} {α : Type} {Yf : Shared → α} {Ya : World → α} {N : Nat}
    (h : ∀ w, ((fencedOpening treeTable p w N).bind fun s₀ => (grow s₀.heap.objs.toList .nil 0).bind fun t => match s₀.heap.isNs mainGlobals && s₀.gens.size == 0 with
      | true => (uY (stepT (denote treeTable) p w) (stepOk s₀.heap.objs.size (s₀.heap.nsMap mainGlobals "__annotations__")) N (CI s₀ t) (topStub p)).bind fun s₁ => match staticsOk (importedModules p.main.body) s₀.heap s₁.abs.heap && namesBound p s₁.abs.heap && gensDone s₁.abs && laidKept s₀.heap s₁.abs.heap with
        | true => some (openSeen q loose (importedModules p.main.body) Xt true s₁.abs, Yf s₁.abs)
        | false => none
      | false => none) = some (openGood q loose, Ya w)) : LeftO p q loose Xt Yf Ya N := fun w => by
  have hw := h w
  unfold openEnds
  cases e0 : fencedOpening treeTable p w N with
  | none => rw [e0] at hw; cases hw
  | some s₀ =>
    rw [e0] at hw
    simp only [Option.bind_some] at hw ⊢
    cases eg : grow s₀.heap.objs.toList .nil 0 with
    | none => rw [eg] at hw; cases hw
    | some t =>
      rw [eg] at hw
      simp only [Option.bind_some] at hw
      unfold topFrom
      cases c : (s₀.heap.isNs mainGlobals && s₀.gens.size == 0) with
      | false => rw [c] at hw; cases hw
      | true =>
        rw [c] at hw
        dsimp only at hw ⊢
        cases er : uY (stepT (denote treeTable) p w) (stepOk s₀.heap.objs.size (s₀.heap.nsMap mainGlobals "__annotations__")) N (CI s₀ t) (topStub p) with
        | none => rw [er] at hw; cases hw
        | some s₁ =>
          rw [er] at hw
          have r := rn er
          rw [yf eg] at r
          rw [r]
          simp only [Option.bind_some] at hw ⊢
          cases c2 : (staticsOk (importedModules p.main.body) s₀.heap s₁.abs.heap && namesBound p s₁.abs.heap && gensDone s₁.abs && laidKept s₀.heap s₁.abs.heap) with
          | false => rw [c2] at hw; cases hw
          | true =>
            rw [c2] at hw
            exact hw
end TR
section
namespace K21
open PySem L2
def top (i : Nat) : Stmt := PySem.Challenge.pw_knewby_k21_earliest_hours.main.body.getD i (.Pass ⟨0, 0, 0, 0⟩)
abbrev dz : Stmt := top 2
abbrev bH : Stmt := top 3
abbrev dw : Stmt := top 4
abbrev cb : Stmt := top 5
abbrev cM : Stmt := top 6
abbrev bM : Stmt := top 7
abbrev bI : Stmt := top 8
abbrev bF : Stmt := top 10
abbrev d6 : Stmt := top 11
abbrev cw : Stmt := top 12
abbrev bG : Stmt := top 13
abbrev cJ : Stmt := top 14
abbrev cU : Stmt := top 20
abbrev d9 : Stmt := top 21
abbrev dF : Stmt := top 22
abbrev bJ : Stmt := top 29
abbrev cm : Stmt := top 30
abbrev cW : Stmt := top 31
abbrev aZ : Stmt := top 32
abbrev dO : Stmt := top 33
abbrev dy : Stmt := top 34
abbrev eS : Stmt := top 35
abbrev d4 : Stmt := top 36
abbrev ef : Stmt := top 37
abbrev br : Stmt := top 38
abbrev cL : Stmt := top 39
abbrev bQ : Stmt := top 40
abbrev bZ : Stmt := top 41
abbrev cu : Stmt := top 42
abbrev bP : Stmt := top 43
abbrev fG : Stmt := inClass (top 44) 0
abbrev dI : Stmt := inClass (top 44) 1
abbrev eh : Stmt := inClass (top 44) 2
abbrev eP : Stmt := inClass (top 44) 3
abbrev dJ : Stmt := inClass (top 44) 4
abbrev vX : Stmt := inClass (top 44) 5
abbrev wJ : Stmt := inClass (top 44) 6
abbrev uF : Stmt := inClass (top 44) 7
abbrev qi : Stmt := inClass (top 44) 8
abbrev cZ : Stmt := inClass (top 44) 9
abbrev gd : Stmt := top 46
abbrev d8 : Stmt := top 47
abbrev dM : Stmt := top 48
abbrev dB : Stmt := top 49
abbrev eT : Stmt := top 50
abbrev dD : Stmt := top 51
abbrev eR : Stmt := top 52
abbrev cv : Stmt := top 53
abbrev cQ : Stmt := top 54
abbrev dU : Stmt := top 55
abbrev d3 : Stmt := top 56
abbrev cO : Stmt := top 57
abbrev dP : Stmt := top 58
abbrev fb : Stmt := top 59
abbrev ee : Stmt := top 60
abbrev gE : Stmt := top 61
def oneOf : Value → Option Str
  | .str x _ => some x
  | _ => none
def strsOf (l : List Value) : List (Option Str) := l.map oneOf
def zj : List (Option Str) := [some "person", some "talk", some "saw", some "knew", some "heard", some "told", some "not", some "nobody", some "never", some "by", some "from", some "to"]
inductive Facts (K : PySem.W.Frag) : Prop
  | mk {kw C f1 f2 f3 f4 f5 f6 f7 f8 f9 f10 f11 f12 f13 f14 f15 f16 f17 f18 f19 f20 f21 f22 f23 f24 f25 f26 f27 f28 f29 f30 f31 f32 f33 f34 f35 f36 f37 f38 f39 f40 f41 f42 f43 f44 f45 f46 f47 f48 f49 f50 f51 f52 : Addr}
    {odw od1 an1 od2 an2 od3 an3 od4 an4 od5 an5 od6 an6 od7 an7 od8 an8 od9 an9 od10 an10 od11 an11 od12 an12 od13 an13 od14 an14 od15 an15 od16 an16 od17 an17 od18 an18 od19 an19 od20 an20 od21 an21 od22 an22 od23 an23 od24 an24 od25 an25 od26 an26 od27 an27 od28 an28 od29 an29 od30 an30 od31 an31 od32 an32 od33 an33 od34 an34 od35 an35 od36 an36 od37 an37 od38 an38 od39 an39 od40 an40 od41 an41 od42 an42 od43 an43 od44 an44 od45 an45 od46 an46 od47 an47 od48 an48 od49 an49 od50 an50 od51 an51 od52 an52 : Option Addr} {slw sl1 sl2 sl3 sl4 sl5 sl6 sl7 sl8 sl9 sl10 sl11 sl12 sl13 sl14 sl15 sl16 sl17 sl18 sl19 sl20 sl21 sl22 sl23 sl24 sl25 sl26 sl27 sl28 sl29 sl30 sl31 sl32 sl33 sl34 sl35 sl36 sl37 sl38 sl39 sl40 sl41 sl42 sl43 sl44 sl45 sl46 sl47 sl48 sl49 sl50 sl51 sl52 : Array (Option Value)} {oc1 kV1 dc1 pm1 cd1 ct1 oc2 kV2 dc2 pm2 cd2 ct2 oc3 kV3 dc3 pm3 cd3 ct3 oc4 kV4 dc4 pm4 cd4 ct4 oc5 kV5 dc5 pm5 cd5 ct5 oc6 kV6 dc6 pm6 cd6 ct6 oc7 kV7 dc7 pm7 cd7 ct7 oc8 kV8 dc8 pm8 cd8 ct8 oc9 kV9 dc9 pm9 cd9 ct9 oc10 kV10 dc10 pm10 cd10 ct10 oc11 kV11 dc11 pm11 cd11 ct11 oc12 kV12 dc12 pm12 cd12 ct12 oc13 kV13 dc13 pm13 cd13 ct13 oc14 kV14 dc14 pm14 cd14 ct14 oc15 kV15 dc15 pm15 cd15 ct15 oc16 kV16 dc16 pm16 cd16 ct16 oc17 kV17 dc17 pm17 cd17 ct17 oc18 kV18 dc18 pm18 cd18 ct18 oc19 kV19 dc19 pm19 cd19 ct19 oc20 kV20 dc20 pm20 cd20 ct20 oc21 kV21 dc21 pm21 cd21 ct21 oc22 kV22 dc22 pm22 cd22 ct22 oc23 kV23 dc23 pm23 cd23 ct23 oc24 kV24 dc24 pm24 cd24 ct24 oc25 kV25 dc25 pm25 cd25 ct25 oc26 kV26 dc26 pm26 cd26 ct26 oc27 kV27 dc27 pm27 cd27 ct27 oc28 kV28 dc28 pm28 cd28 ct28 oc29 kV29 dc29 pm29 cd29 ct29 oc30 kV30 dc30 pm30 cd30 ct30 oc31 kV31 dc31 pm31 cd31 ct31 oc32 kV32 dc32 pm32 cd32 ct32 oc33 kV33 dc33 pm33 cd33 ct33 oc34 kV34 dc34 pm34 cd34 ct34 oc35 kV35 dc35 pm35 cd35 ct35 oc36 kV36 dc36 pm36 cd36 ct36 oc37 kV37 dc37 pm37 cd37 ct37 oc38 kV38 dc38 pm38 cd38 ct38 oc39 kV39 dc39 pm39 cd39 ct39 oc40 kV40 dc40 pm40 cd40 ct40 oc41 kV41 dc41 pm41 cd41 ct41 oc42 kV42 dc42 pm42 cd42 ct42 oc43 kV43 dc43 pm43 cd43 ct43 oc44 kV44 dc44 pm44 cd44 ct44 oc45 kV45 dc45 pm45 cd45 ct45 oc46 kV46 dc46 pm46 cd46 ct46 oc47 kV47 dc47 pm47 cd47 ct47 oc48 kV48 dc48 pm48 cd48 ct48 oc49 kV49 dc49 pm49 cd49 ct49 oc50 kV50 dc50 pm50 cd50 ct50 oc51 kV51 dc51 pm51 cd51 ct51 oc52 kV52 dc52 pm52 cd52 ct52 : Value} {its : Array Value} {nW : Nat} {tk1 tk2 tk3 tk4 tk5 : Tok}
    (aW : PySem.W.nsIn K mainGlobals "KEPT_WORDS" = some (some (.ref kw))) (lW : K.lookup kw = some ⟨.type "tuple", odw, .seq its nW, slw⟩) (vW : strsOf its.toList = zj)
    (a1 : PySem.W.nsIn K mainGlobals "is_whole" = some (some (.ref f1))) (l1 : K.lookup f1 = some ⟨oc1, od1, .func (PySem.W.fnOf "is_whole" "is_whole" (aF cU) (aA cU) (aa cU) .none kV1 dc1 pm1 an1 cd1 ct1), sl1⟩) (c1 : PySem.W.codeIn K cd1 "is_whole" = true) (k1 : PySem.W.keepIn K (.ref f1) = true)
    (a2 : PySem.W.nsIn K mainGlobals "is_hour" = some (some (.ref f2))) (l2 : K.lookup f2 = some ⟨oc2, od2, .func (PySem.W.fnOf "is_hour" "is_hour" (aF d9) (aA d9) (aa d9) .none kV2 dc2 pm2 an2 cd2 ct2), sl2⟩) (c2 : PySem.W.codeIn K cd2 "is_hour" = true) (k2 : PySem.W.keepIn K (.ref f2) = true)
    (a3 : PySem.W.nsIn K mainGlobals "is_name" = some (some (.ref f3))) (l3 : K.lookup f3 = some ⟨oc3, od3, .func (PySem.W.fnOf "is_name" "is_name" (aF dF) (aA dF) (aa dF) .none kV3 dc3 pm3 an3 cd3 ct3), sl3⟩) (c3 : PySem.W.codeIn K cd3 "is_name" = true) (k3 : PySem.W.keepIn K (.ref f3) = true)
    (a4 : PySem.W.nsIn K mainGlobals "is_list_up_to" = some (some (.ref f4))) (l4 : K.lookup f4 = some ⟨oc4, od4, .func (PySem.W.fnOf "is_list_up_to" "is_list_up_to" (aF bJ) (aA bJ) (aa bJ) .none kV4 dc4 pm4 an4 cd4 ct4), sl4⟩) (c4 : PySem.W.codeIn K cd4 "is_list_up_to" = true) (k4 : PySem.W.keepIn K (.ref f4) = true)
    (a5 : PySem.W.nsIn K mainGlobals "is_tuple_of" = some (some (.ref f5))) (l5 : K.lookup f5 = some ⟨oc5, od5, .func (PySem.W.fnOf "is_tuple_of" "is_tuple_of" (aF cm) (aA cm) (aa cm) .none kV5 dc5 pm5 an5 cd5 ct5), sl5⟩) (c5 : PySem.W.codeIn K cd5 "is_tuple_of" = true) (k5 : PySem.W.keepIn K (.ref f5) = true)
    (a6 : PySem.W.nsIn K mainGlobals "is_person" = some (some (.ref f6))) (l6 : K.lookup f6 = some ⟨oc6, od6, .func (PySem.W.fnOf "is_person" "is_person" (aF cW) (aA cW) (aa cW) .none kV6 dc6 pm6 an6 cd6 ct6), sl6⟩) (c6 : PySem.W.codeIn K cd6 "is_person" = true) (k6 : PySem.W.keepIn K (.ref f6) = true)
    (a7 : PySem.W.nsIn K mainGlobals "are_unlike_persons" = some (some (.ref f7))) (l7 : K.lookup f7 = some ⟨oc7, od7, .func (PySem.W.fnOf "are_unlike_persons" "are_unlike_persons" (aF aZ) (aA aZ) (aa aZ) .none kV7 dc7 pm7 an7 cd7 ct7), sl7⟩) (c7 : PySem.W.codeIn K cd7 "are_unlike_persons" = true) (k7 : PySem.W.keepIn K (.ref f7) = true)
    (a8 : PySem.W.nsIn K mainGlobals "is_tale" = some (some (.ref f8))) (l8 : K.lookup f8 = some ⟨oc8, od8, .func (PySem.W.fnOf "is_tale" "is_tale" (aF dO) (aA dO) (aa dO) .none kV8 dc8 pm8 an8 cd8 ct8), sl8⟩) (c8 : PySem.W.codeIn K cd8 "is_tale" = true) (k8 : PySem.W.keepIn K (.ref f8) = true)
    (a9 : PySem.W.nsIn K mainGlobals "is_sight" = some (some (.ref f9))) (l9 : K.lookup f9 = some ⟨oc9, od9, .func (PySem.W.fnOf "is_sight" "is_sight" (aF dy) (aA dy) (aa dy) .none kV9 dc9 pm9 an9 cd9 ct9), sl9⟩) (c9 : PySem.W.codeIn K cd9 "is_sight" = true) (k9 : PySem.W.keepIn K (.ref f9) = true)
    (a10 : PySem.W.nsIn K mainGlobals "is_way" = some (some (.ref f10))) (l10 : K.lookup f10 = some ⟨oc10, od10, .func (PySem.W.fnOf "is_way" "is_way" (aF eS) (aA eS) (aa eS) .none kV10 dc10 pm10 an10 cd10 ct10), sl10⟩) (c10 : PySem.W.codeIn K cd10 "is_way" = true) (k10 : PySem.W.keepIn K (.ref f10) = true)
    (a11 : PySem.W.nsIn K mainGlobals "is_talk" = some (some (.ref f11))) (l11 : K.lookup f11 = some ⟨oc11, od11, .func (PySem.W.fnOf "is_talk" "is_talk" (aF d4) (aA d4) (aa d4) .none kV11 dc11 pm11 an11 cd11 ct11), sl11⟩) (c11 : PySem.W.codeIn K cd11 "is_talk" = true) (k11 : PySem.W.keepIn K (.ref f11) = true)
    (a12 : PySem.W.nsIn K mainGlobals "is_span" = some (some (.ref f12))) (l12 : K.lookup f12 = some ⟨oc12, od12, .func (PySem.W.fnOf "is_span" "is_span" (aF ef) (aA ef) (aa ef) .none kV12 dc12 pm12 an12 cd12 ct12), sl12⟩) (c12 : PySem.W.codeIn K cd12 "is_span" = true) (k12 : PySem.W.keepIn K (.ref f12) = true)
    (a13 : PySem.W.nsIn K mainGlobals "is_short_saying" = some (some (.ref f13))) (l13 : K.lookup f13 = some ⟨oc13, od13, .func (PySem.W.fnOf "is_short_saying" "is_short_saying" (aF br) (aA br) (aa br) .none kV13 dc13 pm13 an13 cd13 ct13), sl13⟩) (c13 : PySem.W.codeIn K cd13 "is_short_saying" = true) (k13 : PySem.W.keepIn K (.ref f13) = true)
    (a14 : PySem.W.nsIn K mainGlobals "is_saying" = some (some (.ref f14))) (l14 : K.lookup f14 = some ⟨oc14, od14, .func (PySem.W.fnOf "is_saying" "is_saying" (aF cL) (aA cL) (aa cL) .none kV14 dc14 pm14 an14 cd14 ct14), sl14⟩) (c14 : PySem.W.codeIn K cd14 "is_saying" = true) (k14 : PySem.W.keepIn K (.ref f14) = true)
    (a15 : PySem.W.nsIn K mainGlobals "are_persons" = some (some (.ref f15))) (l15 : K.lookup f15 = some ⟨oc15, od15, .func (PySem.W.fnOf "are_persons" "are_persons" (aF bQ) (aA bQ) (aa bQ) .none kV15 dc15 pm15 an15 cd15 ct15), sl15⟩) (c15 : PySem.W.codeIn K cd15 "are_persons" = true) (k15 : PySem.W.keepIn K (.ref f15) = true)
    (a16 : PySem.W.nsIn K mainGlobals "are_sights" = some (some (.ref f16))) (l16 : K.lookup f16 = some ⟨oc16, od16, .func (PySem.W.fnOf "are_sights" "are_sights" (aF bZ) (aA bZ) (aa bZ) .none kV16 dc16 pm16 an16 cd16 ct16), sl16⟩) (c16 : PySem.W.codeIn K cd16 "are_sights" = true) (k16 : PySem.W.keepIn K (.ref f16) = true)
    (a17 : PySem.W.nsIn K mainGlobals "are_talks" = some (some (.ref f17))) (l17 : K.lookup f17 = some ⟨oc17, od17, .func (PySem.W.fnOf "are_talks" "are_talks" (aF cu) (aA cu) (aa cu) .none kV17 dc17 pm17 an17 cd17 ct17), sl17⟩) (c17 : PySem.W.codeIn K cd17 "are_talks" = true) (k17 : PySem.W.keepIn K (.ref f17) = true)
    (a18 : PySem.W.nsIn K mainGlobals "are_sayings" = some (some (.ref f18))) (l18 : K.lookup f18 = some ⟨oc18, od18, .func (PySem.W.fnOf "are_sayings" "are_sayings" (aF bP) (aA bP) (aa bP) .none kV18 dc18 pm18 an18 cd18 ct18), sl18⟩) (c18 : PySem.W.codeIn K cd18 "are_sayings" = true) (k18 : PySem.W.keepIn K (.ref f18) = true)
    (a19 : PySem.W.nsIn K mainGlobals "floor_of" = some (some (.ref f19))) (l19 : K.lookup f19 = some ⟨oc19, od19, .func (PySem.W.fnOf "floor_of" "floor_of" (aF dz) (aA dz) (aa dz) .none kV19 dc19 pm19 an19 cd19 ct19), sl19⟩) (c19 : PySem.W.codeIn K cd19 "floor_of" = true) (k19 : PySem.W.keepIn K (.ref f19) = true)
    (a20 : PySem.W.nsIn K mainGlobals "floors_of_all" = some (some (.ref f20))) (l20 : K.lookup f20 = some ⟨oc20, od20, .func (PySem.W.fnOf "floors_of_all" "floors_of_all" (aF bH) (aA bH) (aa bH) .none kV20 dc20 pm20 an20 cd20 ct20), sl20⟩) (c20 : PySem.W.codeIn K cd20 "floors_of_all" = true) (k20 : PySem.W.keepIn K (.ref f20) = true)
    (a21 : PySem.W.nsIn K mainGlobals "is_above" = some (some (.ref f21))) (l21 : K.lookup f21 = some ⟨oc21, od21, .func (PySem.W.fnOf "is_above" "is_above" (aF dw) (aA dw) (aa dw) .none kV21 dc21 pm21 an21 cd21 ct21), sl21⟩) (c21 : PySem.W.codeIn K cd21 "is_above" = true) (k21 : PySem.W.keepIn K (.ref f21) = true)
    (a22 : PySem.W.nsIn K mainGlobals "is_silent" = some (some (.ref f22))) (l22 : K.lookup f22 = some ⟨oc22, od22, .func (PySem.W.fnOf "is_silent" "is_silent" (aF cb) (aA cb) (aa cb) .none kV22 dc22 pm22 an22 cd22 ct22), sl22⟩) (c22 : PySem.W.codeIn K cd22 "is_silent" = true) (k22 : PySem.W.keepIn K (.ref f22) = true)
    (a23 : PySem.W.nsIn K mainGlobals "is_barred" = some (some (.ref f23))) (l23 : K.lookup f23 = some ⟨oc23, od23, .func (PySem.W.fnOf "is_barred" "is_barred" (aF cM) (aA cM) (aa cM) .none kV23 dc23 pm23 an23 cd23 ct23), sl23⟩) (c23 : PySem.W.codeIn K cd23 "is_barred" = true) (k23 : PySem.W.keepIn K (.ref f23) = true)
    (a24 : PySem.W.nsIn K mainGlobals "open_sights" = some (some (.ref f24))) (l24 : K.lookup f24 = some ⟨oc24, od24, .func (PySem.W.fnOf "open_sights" "open_sights" (aF bM) (aA bM) (aa bM) .none kV24 dc24 pm24 an24 cd24 ct24), sl24⟩) (c24 : PySem.W.codeIn K cd24 "open_sights" = true) (k24 : PySem.W.keepIn K (.ref f24) = true)
    (a25 : PySem.W.nsIn K mainGlobals "open_tellings" = some (some (.ref f25))) (l25 : K.lookup f25 = some ⟨oc25, od25, .func (PySem.W.fnOf "open_tellings" "open_tellings" (aF bI) (aA bI) (aa bI) .none kV25 dc25 pm25 an25 cd25 ct25), sl25⟩) (c25 : PySem.W.codeIn K cd25 "open_tellings" = true) (k25 : PySem.W.keepIn K (.ref f25) = true)
    (a26 : PySem.W.nsIn K mainGlobals "open_entries" = some (some (.ref f26))) (l26 : K.lookup f26 = some ⟨oc26, od26, .func (PySem.W.fnOf "open_entries" "open_entries" (aF bF) (aA bF) (aa bF) .none kV26 dc26 pm26 an26 cd26 ct26), sl26⟩) (c26 : PySem.W.codeIn K cd26 "open_entries" = true) (k26 : PySem.W.keepIn K (.ref f26) = true)
    (a27 : PySem.W.nsIn K mainGlobals "hour_of" = some (some (.ref f27))) (l27 : K.lookup f27 = some ⟨oc27, od27, .func (PySem.W.fnOf "hour_of" "hour_of" (aF d6) (aA d6) (aa d6) .none kV27 dc27 pm27 an27 cd27 ct27), sl27⟩) (c27 : PySem.W.codeIn K cd27 "hour_of" = true) (k27 : PySem.W.keepIn K (.ref f27) = true)
    (a28 : PySem.W.nsIn K mainGlobals "can_follow" = some (some (.ref f28))) (l28 : K.lookup f28 = some ⟨oc28, od28, .func (PySem.W.fnOf "can_follow" "can_follow" (aF cw) (aA cw) (aa cw) .none kV28 dc28 pm28 an28 cd28 ct28), sl28⟩) (c28 : PySem.W.codeIn K cd28 "can_follow" = true) (k28 : PySem.W.keepIn K (.ref f28) = true)
    (a29 : PySem.W.nsIn K mainGlobals "first_entries" = some (some (.ref f29))) (l29 : K.lookup f29 = some ⟨oc29, od29, .func (PySem.W.fnOf "first_entries" "first_entries" (aF bG) (aA bG) (aa bG) .none kV29 dc29 pm29 an29 cd29 ct29), sl29⟩) (c29 : PySem.W.codeIn K cd29 "first_entries" = true) (k29 : PySem.W.keepIn K (.ref f29) = true)
    (a30 : PySem.W.nsIn K mainGlobals "earliest" = some (some (.ref f30))) (l30 : K.lookup f30 = some ⟨oc30, od30, .func (PySem.W.fnOf "earliest" "earliest" (aF cJ) (aA cJ) (aa cJ) .none kV30 dc30 pm30 an30 cd30 ct30), sl30⟩) (c30 : PySem.W.codeIn K cd30 "earliest" = true) (k30 : PySem.W.keepIn K (.ref f30) = true)
    (a31 : PySem.W.nsIn K mainGlobals "_law_mix" = some (some (.ref f31))) (l31 : K.lookup f31 = some ⟨oc31, od31, .func (PySem.W.fnOf "_law_mix" "_law_mix" (aF gd) (aA gd) (aa gd) .none kV31 dc31 pm31 an31 cd31 ct31), sl31⟩) (c31 : PySem.W.codeIn K cd31 "_law_mix" = true) (k31 : PySem.W.keepIn K (.ref f31) = true)
    (a32 : PySem.W.nsIn K mainGlobals "_law_names" = some (some (.ref f32))) (l32 : K.lookup f32 = some ⟨oc32, od32, .func (PySem.W.fnOf "_law_names" "_law_names" (aF d8) (aA d8) (aa d8) .none kV32 dc32 pm32 an32 cd32 ct32), sl32⟩) (c32 : PySem.W.codeIn K cd32 "_law_names" = true) (k32 : PySem.W.keepIn K (.ref f32) = true)
    (a33 : PySem.W.nsIn K mainGlobals "_law_clock" = some (some (.ref f33))) (l33 : K.lookup f33 = some ⟨oc33, od33, .func (PySem.W.fnOf "_law_clock" "_law_clock" (aF dM) (aA dM) (aa dM) .none kV33 dc33 pm33 an33 cd33 ct33), sl33⟩) (c33 : PySem.W.codeIn K cd33 "_law_clock" = true) (k33 : PySem.W.keepIn K (.ref f33) = true)
    (a34 : PySem.W.nsIn K mainGlobals "_law_saying" = some (some (.ref f34))) (l34 : K.lookup f34 = some ⟨oc34, od34, .func (PySem.W.fnOf "_law_saying" "_law_saying" (aF dB) (aA dB) (aa dB) .none kV34 dc34 pm34 an34 cd34 ct34), sl34⟩) (c34 : PySem.W.codeIn K cd34 "_law_saying" = true) (k34 : PySem.W.keepIn K (.ref f34) = true)
    (a35 : PySem.W.nsIn K mainGlobals "_law_spot" = some (some (.ref f35))) (l35 : K.lookup f35 = some ⟨oc35, od35, .func (PySem.W.fnOf "_law_spot" "_law_spot" (aF eT) (aA eT) (aa eT) .none kV35 dc35 pm35 an35 cd35 ct35), sl35⟩) (c35 : PySem.W.codeIn K cd35 "_law_spot" = true) (k35 : PySem.W.keepIn K (.ref f35) = true)
    (a36 : PySem.W.nsIn K mainGlobals "_law_things" = some (some (.ref f36))) (l36 : K.lookup f36 = some ⟨oc36, od36, .func (PySem.W.fnOf "_law_things" "_law_things" (aF dD) (aA dD) (aa dD) .none kV36 dc36 pm36 an36 cd36 ct36), sl36⟩) (c36 : PySem.W.codeIn K cd36 "_law_things" = true) (k36 : PySem.W.keepIn K (.ref f36) = true)
    (a37 : PySem.W.nsIn K mainGlobals "_law_free" = some (some (.ref f37))) (l37 : K.lookup f37 = some ⟨oc37, od37, .func (PySem.W.fnOf "_law_free" "_law_free" (aF eR) (aA eR) (aa eR) .none kV37 dc37 pm37 an37 cd37 ct37), sl37⟩) (c37 : PySem.W.codeIn K cd37 "_law_free" = true) (k37 : PySem.W.keepIn K (.ref f37) = true)
    (a38 : PySem.W.nsIn K mainGlobals "_law_tellings" = some (some (.ref f38))) (l38 : K.lookup f38 = some ⟨oc38, od38, .func (PySem.W.fnOf "_law_tellings" "_law_tellings" (aF cv) (aA cv) (aa cv) .none kV38 dc38 pm38 an38 cd38 ct38), sl38⟩) (c38 : PySem.W.codeIn K cd38 "_law_tellings" = true) (k38 : PySem.W.keepIn K (.ref f38) = true)
    (a39 : PySem.W.nsIn K mainGlobals "_law_is_open" = some (some (.ref f39))) (l39 : K.lookup f39 = some ⟨oc39, od39, .func (PySem.W.fnOf "_law_is_open" "_law_is_open" (aF cQ) (aA cQ) (aa cQ) .none kV39 dc39 pm39 an39 cd39 ct39), sl39⟩) (c39 : PySem.W.codeIn K cd39 "_law_is_open" = true) (k39 : PySem.W.keepIn K (.ref f39) = true)
    (a40 : PySem.W.nsIn K mainGlobals "_law_open" = some (some (.ref f40))) (l40 : K.lookup f40 = some ⟨oc40, od40, .func (PySem.W.fnOf "_law_open" "_law_open" (aF dU) (aA dU) (aa dU) .none kV40 dc40 pm40 an40 cd40 ct40), sl40⟩) (c40 : PySem.W.codeIn K cd40 "_law_open" = true) (k40 : PySem.W.keepIn K (.ref f40) = true)
    (a41 : PySem.W.nsIn K mainGlobals "_law_hours" = some (some (.ref f41))) (l41 : K.lookup f41 = some ⟨oc41, od41, .func (PySem.W.fnOf "_law_hours" "_law_hours" (aF d3) (aA d3) (aa d3) .none kV41 dc41 pm41 an41 cd41 ct41), sl41⟩) (c41 : PySem.W.codeIn K cd41 "_law_hours" = true) (k41 : PySem.W.keepIn K (.ref f41) = true)
    (a42 : PySem.W.nsIn K mainGlobals "_law_knew_so" = some (some (.ref f42))) (l42 : K.lookup f42 = some ⟨oc42, od42, .func (PySem.W.fnOf "_law_knew_so" "_law_knew_so" (aF cO) (aA cO) (aa cO) .none kV42 dc42 pm42 an42 cd42 ct42), sl42⟩) (c42 : PySem.W.codeIn K cd42 "_law_knew_so" = true) (k42 : PySem.W.keepIn K (.ref f42) = true)
    (a43 : PySem.W.nsIn K mainGlobals "_law_drawn" = some (some (.ref f43))) (l43 : K.lookup f43 = some ⟨oc43, od43, .func (PySem.W.fnOf "_law_drawn" "_law_drawn" (aF dP) (aA dP) (aa dP) .none kV43 dc43 pm43 an43 cd43 ct43), sl43⟩) (c43 : PySem.W.codeIn K cd43 "_law_drawn" = true) (k43 : PySem.W.keepIn K (.ref f43) = true)
    (a44 : PySem.W.nsIn K mainGlobals "_law_book" = some (some (.ref f44))) (l44 : K.lookup f44 = some ⟨oc44, od44, .func (PySem.W.fnOf "_law_book" "_law_book" (aF fb) (aA fb) (aa fb) .none kV44 dc44 pm44 an44 cd44 ct44), sl44⟩) (c44 : PySem.W.codeIn K cd44 "_law_book" = true) (k44 : PySem.W.keepIn K (.ref f44) = true)
    (a45 : PySem.W.nsIn K mainGlobals "_law_whole" = some (some (.ref f45))) (l45 : K.lookup f45 = some ⟨oc45, od45, .func (PySem.W.fnOf "_law_whole" "_law_whole" (aF ee) (aA ee) (aa ee) .none kV45 dc45 pm45 an45 cd45 ct45), sl45⟩) (c45 : PySem.W.codeIn K cd45 "_law_whole" = true) (k45 : PySem.W.keepIn K (.ref f45) = true)
    (a46 : PySem.W.nsIn K mainGlobals "law" = some (some (.ref f46))) (l46 : K.lookup f46 = some ⟨oc46, od46, .func (PySem.W.fnOf "law" "law" (aF gE) (aA gE) (aa gE) .none kV46 dc46 pm46 an46 cd46 ct46), sl46⟩) (c46 : PySem.W.codeIn K cd46 "law" = true) (k46 : PySem.W.keepIn K (.ref f46) = true)
    (aC : PySem.W.nsIn K mainGlobals "Book" = some (some (.ref C))) (pg : PySem.W.plainGet K C Str.empty = true) (hd : PySem.W.hasDictIn K C = true) (po : PySem.W.plainOver K C = true) (sa : PySem.W.findIn K (.ref C) "__setattr__" = some (some (.builtin "object.__setattr__"))) (mk : PySem.W.makesIn K C = true) (kc : PySem.W.keepIn K (.ref C) = true)
    (nP : PySem.W.findIn K (.ref C) "kept_persons" = some none) (nS : PySem.W.findIn K (.ref C) "kept_sights" = some none) (nT : PySem.W.findIn K (.ref C) "kept_talks" = some none) (nY : PySem.W.findIn K (.ref C) "kept_sayings" = some none)
    (a47 : PySem.W.findIn K (.ref C) "__init__" = some (some (.ref f47))) (i47 : PySem.W.isFn K (.ref f47) = true) (l47 : K.lookup f47 = some ⟨oc47, od47, .func (PySem.W.fnOf "__init__" "Book.__init__" (aF fG) (aA fG) (aa fG) .none kV47 dc47 pm47 an47 cd47 ct47), sl47⟩) (c47 : PySem.W.codeIn K cd47 "Book.__init__" = true) (k47 : PySem.W.keepIn K (.ref f47) = true)
    (a48 : PySem.W.findIn K (.ref C) "persons" = some (some (.ref f48))) (i48 : PySem.W.isFn K (.ref f48) = true) (l48 : K.lookup f48 = some ⟨oc48, od48, .func (PySem.W.fnOf "persons" "Book.persons" (aF dI) (aA dI) (aa dI) .none kV48 dc48 pm48 an48 cd48 ct48), sl48⟩) (c48 : PySem.W.codeIn K cd48 "Book.persons" = true) (k48 : PySem.W.keepIn K (.ref f48) = true)
    (a49 : PySem.W.findIn K (.ref C) "sights" = some (some (.ref f49))) (i49 : PySem.W.isFn K (.ref f49) = true) (l49 : K.lookup f49 = some ⟨oc49, od49, .func (PySem.W.fnOf "sights" "Book.sights" (aF eh) (aA eh) (aa eh) .none kV49 dc49 pm49 an49 cd49 ct49), sl49⟩) (c49 : PySem.W.codeIn K cd49 "Book.sights" = true) (k49 : PySem.W.keepIn K (.ref f49) = true)
    (a50 : PySem.W.findIn K (.ref C) "talks" = some (some (.ref f50))) (i50 : PySem.W.isFn K (.ref f50) = true) (l50 : K.lookup f50 = some ⟨oc50, od50, .func (PySem.W.fnOf "talks" "Book.talks" (aF eP) (aA eP) (aa eP) .none kV50 dc50 pm50 an50 cd50 ct50), sl50⟩) (c50 : PySem.W.codeIn K cd50 "Book.talks" = true) (k50 : PySem.W.keepIn K (.ref f50) = true)
    (a51 : PySem.W.findIn K (.ref C) "sayings" = some (some (.ref f51))) (i51 : PySem.W.isFn K (.ref f51) = true) (l51 : K.lookup f51 = some ⟨oc51, od51, .func (PySem.W.fnOf "sayings" "Book.sayings" (aF dJ) (aA dJ) (aa dJ) .none kV51 dc51 pm51 an51 cd51 ct51), sl51⟩) (c51 : PySem.W.codeIn K cd51 "Book.sayings" = true) (k51 : PySem.W.keepIn K (.ref f51) = true)
    (a52 : PySem.W.findIn K (.ref C) "tellings" = some (some (.ref f52))) (i52 : PySem.W.isFn K (.ref f52) = true) (l52 : K.lookup f52 = some ⟨oc52, od52, .func (PySem.W.fnOf "tellings" "Book.tellings" (aF cZ) (aA cZ) (aa cZ) .none kV52 dc52 pm52 an52 cd52 ct52), sl52⟩) (c52 : PySem.W.codeIn K cd52 "Book.tellings" = true) (k52 : PySem.W.keepIn K (.ref f52) = true)
    (z1 : PySem.W.nsIn K mainGlobals "isinstance" = some none) (z2 : PySem.W.nsIn K mainGlobals "int" = some none) (z3 : PySem.W.nsIn K mainGlobals "bool" = some none) (z4 : PySem.W.nsIn K mainGlobals "str" = some none) (z5 : PySem.W.nsIn K mainGlobals "len" = some none) (z6 : PySem.W.nsIn K mainGlobals "all" = some none) (z7 : PySem.W.nsIn K mainGlobals "range" = some none) (z8 : PySem.W.nsIn K mainGlobals "list" = some none) (z9 : PySem.W.nsIn K mainGlobals "tuple" = some none) (z10 : PySem.W.nsIn K mainGlobals "set" = some none) (z11 : PySem.W.nsIn K mainGlobals "zip" = some none) (z12 : PySem.W.nsIn K mainGlobals "enumerate" = some none) (z13 : PySem.W.nsIn K mainGlobals "min" = some none) (z14 : PySem.W.nsIn K mainGlobals "max" = some none) (z15 : PySem.W.nsIn K mainGlobals "any" = some none) (z16 : PySem.W.nsIn K mainGlobals "sorted" = some none) (z17 : PySem.W.nsIn K mainGlobals "dict" = some none) (z18 : PySem.W.nsIn K mainGlobals "sum" = some none) (z19 : PySem.W.nsIn K mainGlobals "reversed" = some none)
    (g1 : PySem.W.nsIn K mainGlobals "MOST_PERSONS" = some (some (.int 24 tk1))) (g2 : PySem.W.nsIn K mainGlobals "MOST_SIGHTS" = some (some (.int 24 tk2))) (g3 : PySem.W.nsIn K mainGlobals "MOST_TALKS" = some (some (.int 120 tk3))) (g4 : PySem.W.nsIn K mainGlobals "MOST_SAYINGS" = some (some (.int 60 tk4))) (g5 : PySem.W.nsIn K mainGlobals "MOST_WORDS" = some (some (.int 6 tk5))) : Facts K
open PySem.W in
def vw : Program := view PySem.Challenge.rw_knewby_k21_earliest_hours.row.toRowW.prog [0, 2, 3, 4, 5, 6, 7, 8, 10, 11, 12, 13, 14, 16, 17, 19, 20, 21, 22, 24, 25, 26, 27, 28, 29, 30, 31, 32, 33, 34, 35, 36, 37, 38, 39, 40, 41, 42, 43, 44, 46, 47, 48, 49, 50, 51, 52, 53, 54, 55, 56, 57, 58, 59, 60, 61]
end K21
open PySem PySem.W PyProof.Rows
local macro_rules
  | `(tactic| o_head $H) => `(tactic| (
    refine holds_open (N := 20000) (q := K21.vw) (loose := [])
      (Xt := fun s => xlAt K21.vw [] s && recOk (RowW.records (OpenRow.toRowW PySem.Challenge.rw_knewby_k21_earliest_hours.row)) s)
      (XP := XL K21.vw []) (YP := Hook.says $H) (Ya := Hook.val $H) (Yf := Hook.obs $H)
      ?hl (Hook.of $H) (Hook.keeps $H)
      (fun s e => xl_of s (Bool.and_eq_true_iff.mp e).1) XL.keeps
      (by rfl) (by rfl) (by rfl)
      (fun s e => recFacts_of (Bool.and_eq_true_iff.mp e).2)
      (by rfl) (by first | assumption | decide +kernel) (by decide +kernel)
      ⟨rfl, rfl, rfl, rfl, rfl, by decide +kernel⟩ ?hw ?hc
    (case hl => (refine TR.left fun w => ?_; delta PySem.W.fencedOpening; rw [PySem.W.Fast.te10274390034422433532, PySem.W.Fast.te4187177175401517315, PySem.W.Fast.te1435165496053646825, PySem.W.Fast.te14289696077712309145, PySem.W.Fast.te11892475500146522536, PySem.W.Fast.te10156331382660048174, PySem.W.Fast.te6613529449190102663, PySem.W.Fast.te14364793385576792824, PySem.W.Fast.te5923862056798008813]; kernel_rfl))))
set_option maxRecDepth 100000 in
set_option maxHeartbeats 0 in
theorem K21.closing (HW : ∀ {q : Program} {loose : List Str} {XP : (Str → Option Value) → Heap → Prop} {YP : World → Heap → Prop} {d : DefRec} {K : Params → PySem.W.Frag}, d.name = "law" → d.params.defaults = [] → (∀ (w : World) (h : Heap), YP w h → (K w.params).In h) →
    (∀ (w : World) (mg : Str → Option Value) (fa : Addr) (h : Heap), (K w.params).In h → h.Ns mainGlobals mg → mg d.name = some (.ref fa) → K21.Facts (K w.params)) → PySem.W.WalkO q loose XP YP PySem.Challenge.rw_knewby_k21_earliest_hours.row.toRowW d [] (fun f vs => PySem.call f vs)) : PySem.Challenge.rw_knewby_k21_earliest_hours.Holds := by
  w_on; o_law; k_head; (case hw => w_witness2)
  k_fill
  refine HW rfl rfl (fun w h Y => PySem.W.kIn_of Y) ?F
  case F =>
    intro w mg fa h KX G hmg
    refine' K21.Facts.mk ?aW ?lW ?vW ?a1 ?l1 ?c1 ?k1 ?a2 ?l2 ?c2 ?k2 ?a3 ?l3 ?c3 ?k3 ?a4 ?l4 ?c4 ?k4 ?a5 ?l5 ?c5 ?k5 ?a6 ?l6 ?c6 ?k6 ?a7 ?l7 ?c7 ?k7 ?a8 ?l8 ?c8 ?k8 ?a9 ?l9 ?c9 ?k9 ?a10 ?l10 ?c10 ?k10 ?a11 ?l11 ?c11 ?k11 ?a12 ?l12 ?c12 ?k12 ?a13 ?l13 ?c13 ?k13 ?a14 ?l14 ?c14 ?k14 ?a15 ?l15 ?c15 ?k15 ?a16 ?l16 ?c16 ?k16 ?a17 ?l17 ?c17 ?k17 ?a18 ?l18 ?c18 ?k18 ?a19 ?l19 ?c19 ?k19 ?a20 ?l20 ?c20 ?k20 ?a21 ?l21 ?c21 ?k21 ?a22 ?l22 ?c22 ?k22 ?a23 ?l23 ?c23 ?k23 ?a24 ?l24 ?c24 ?k24 ?a25 ?l25 ?c25 ?k25 ?a26 ?l26 ?c26 ?k26 ?a27 ?l27 ?c27 ?k27 ?a28 ?l28 ?c28 ?k28 ?a29 ?l29 ?c29 ?k29 ?a30 ?l30 ?c30 ?k30 ?a31 ?l31 ?c31 ?k31 ?a32 ?l32 ?c32 ?k32 ?a33 ?l33 ?c33 ?k33 ?a34 ?l34 ?c34 ?k34 ?a35 ?l35 ?c35 ?k35 ?a36 ?l36 ?c36 ?k36 ?a37 ?l37 ?c37 ?k37 ?a38 ?l38 ?c38 ?k38 ?a39 ?l39 ?c39 ?k39 ?a40 ?l40 ?c40 ?k40 ?a41 ?l41 ?c41 ?k41 ?a42 ?l42 ?c42 ?k42 ?a43 ?l43 ?c43 ?k43 ?a44 ?l44 ?c44 ?k44 ?a45 ?l45 ?c45 ?k45 ?a46 ?l46 ?c46 ?k46 ?aC ?pg ?hd ?po ?sa ?mk ?kc ?nP ?nS ?nT ?nY ?a47 ?i47 ?l47 ?c47 ?k47 ?a48 ?i48 ?l48 ?c48 ?k48 ?a49 ?i49 ?l49 ?c49 ?k49 ?a50 ?i50 ?l50 ?c50 ?k50 ?a51 ?i51 ?l51 ?c51 ?k51 ?a52 ?i52 ?l52 ?c52 ?k52 ?z1 ?z2 ?z3 ?z4 ?z5 ?z6 ?z7 ?z8 ?z9 ?z10 ?z11 ?z12 ?z13 ?z14 ?z15 ?z16 ?z17 ?z18 ?z19 ?g1 ?g2 ?g3 ?g4 ?g5
    (case aW => k_is)
    (case lW => k_is)
    (case a1 => k_is)
    (case l1 => k_is)
    (case c1 => k_is)
    (case k1 => k_is)
    (case a2 => k_is)
    (case l2 => k_is)
    (case c2 => k_is)
    (case k2 => k_is)
    (case a3 => k_is)
    (case l3 => k_is)
    (case c3 => k_is)
    (case k3 => k_is)
    (case a4 => k_is)
    (case l4 => k_is)
    (case c4 => k_is)
    (case k4 => k_is)
    (case a5 => k_is)
    (case l5 => k_is)
    (case c5 => k_is)
    (case k5 => k_is)
    (case a6 => k_is)
    (case l6 => k_is)
    (case c6 => k_is)
    (case k6 => k_is)
    (case a7 => k_is)
    (case l7 => k_is)
    (case c7 => k_is)
    (case k7 => k_is)
    (case a8 => k_is)
    (case l8 => k_is)
    (case c8 => k_is)
    (case k8 => k_is)
    (case a9 => k_is)
    (case l9 => k_is)
    (case c9 => k_is)
    (case k9 => k_is)
    (case a10 => k_is)
    (case l10 => k_is)
    (case c10 => k_is)
    (case k10 => k_is)
    (case a11 => k_is)
    (case l11 => k_is)
    (case c11 => k_is)
    (case k11 => k_is)
    (case a12 => k_is)
    (case l12 => k_is)
    (case c12 => k_is)
    (case k12 => k_is)
    (case a13 => k_is)
    (case l13 => k_is)
    (case c13 => k_is)
    (case k13 => k_is)
    (case a14 => k_is)
    (case l14 => k_is)
    (case c14 => k_is)
    (case k14 => k_is)
    (case a15 => k_is)
    (case l15 => k_is)
    (case c15 => k_is)
    (case k15 => k_is)
    (case a16 => k_is)
    (case l16 => k_is)
    (case c16 => k_is)
    (case k16 => k_is)
    (case a17 => k_is)
    (case l17 => k_is)
    (case c17 => k_is)
    (case k17 => k_is)
    (case a18 => k_is)
    (case l18 => k_is)
    (case c18 => k_is)
    (case k18 => k_is)
    (case a19 => k_is)
    (case l19 => k_is)
    (case c19 => k_is)
    (case k19 => k_is)
    (case a20 => k_is)
    (case l20 => k_is)
    (case c20 => k_is)
    (case k20 => k_is)
    (case a21 => k_is)
    (case l21 => k_is)
    (case c21 => k_is)
    (case k21 => k_is)
    (case a22 => k_is)
    (case l22 => k_is)
    (case c22 => k_is)
    (case k22 => k_is)
    (case a23 => k_is)
    (case l23 => k_is)
    (case c23 => k_is)
    (case k23 => k_is)
    (case a24 => k_is)
    (case l24 => k_is)
    (case c24 => k_is)
    (case k24 => k_is)
    (case a25 => k_is)
    (case l25 => k_is)
    (case c25 => k_is)
    (case k25 => k_is)
    (case a26 => k_is)
    (case l26 => k_is)
    (case c26 => k_is)
    (case k26 => k_is)
    (case a27 => k_is)
    (case l27 => k_is)
    (case c27 => k_is)
    (case k27 => k_is)
    (case a28 => k_is)
    (case l28 => k_is)
    (case c28 => k_is)
    (case k28 => k_is)
    (case a29 => k_is)
    (case l29 => k_is)
    (case c29 => k_is)
    (case k29 => k_is)
    (case a30 => k_is)
    (case l30 => k_is)
    (case c30 => k_is)
    (case k30 => k_is)
    (case a31 => k_is)
    (case l31 => k_is)
    (case c31 => k_is)
    (case k31 => k_is)
    (case a32 => k_is)
    (case l32 => k_is)
    (case c32 => k_is)
    (case k32 => k_is)
    (case a33 => k_is)
    (case l33 => k_is)
    (case c33 => k_is)
    (case k33 => k_is)
    (case a34 => k_is)
    (case l34 => k_is)
    (case c34 => k_is)
    (case k34 => k_is)
    (case a35 => k_is)
    (case l35 => k_is)
    (case c35 => k_is)
    (case k35 => k_is)
    (case a36 => k_is)
    (case l36 => k_is)
    (case c36 => k_is)
    (case k36 => k_is)
    (case a37 => k_is)
    (case l37 => k_is)
    (case c37 => k_is)
    (case k37 => k_is)
    (case a38 => k_is)
    (case l38 => k_is)
    (case c38 => k_is)
    (case k38 => k_is)
    (case a39 => k_is)
    (case l39 => k_is)
    (case c39 => k_is)
    (case k39 => k_is)
    (case a40 => k_is)
    (case l40 => k_is)
    (case c40 => k_is)
    (case k40 => k_is)
    (case a41 => k_is)
    (case l41 => k_is)
    (case c41 => k_is)
    (case k41 => k_is)
    (case a42 => k_is)
    (case l42 => k_is)
    (case c42 => k_is)
    (case k42 => k_is)
    (case a43 => k_is)
    (case l43 => k_is)
    (case c43 => k_is)
    (case k43 => k_is)
    (case a44 => k_is)
    (case l44 => k_is)
    (case c44 => k_is)
    (case k44 => k_is)
    (case a45 => k_is)
    (case l45 => k_is)
    (case c45 => k_is)
    (case k45 => k_is)
    (case a46 => k_is)
    (case l46 => k_is)
    (case c46 => k_is)
    (case k46 => k_is)
    (case aC => k_is)
    (case pg => k_is)
    (case hd => k_is)
    (case po => k_is)
    (case sa => k_is)
    (case mk => k_is)
    (case kc => k_is)
    (case nP => k_is)
    (case nS => k_is)
    (case nT => k_is)
    (case nY => k_is)
    (case a47 => k_is)
    (case i47 => k_is)
    (case l47 => k_is)
    (case c47 => k_is)
    (case k47 => k_is)
    (case a48 => k_is)
    (case i48 => k_is)
    (case l48 => k_is)
    (case c48 => k_is)
    (case k48 => k_is)
    (case a49 => k_is)
    (case i49 => k_is)
    (case l49 => k_is)
    (case c49 => k_is)
    (case k49 => k_is)
    (case a50 => k_is)
    (case i50 => k_is)
    (case l50 => k_is)
    (case c50 => k_is)
    (case k50 => k_is)
    (case a51 => k_is)
    (case i51 => k_is)
    (case l51 => k_is)
    (case c51 => k_is)
    (case k51 => k_is)
    (case a52 => k_is)
    (case i52 => k_is)
    (case l52 => k_is)
    (case c52 => k_is)
    (case k52 => k_is)
    (case z1 => k_is)
    (case z2 => k_is)
    (case z3 => k_is)
    (case z4 => k_is)
    (case z5 => k_is)
    (case z6 => k_is)
    (case z7 => k_is)
    (case z8 => k_is)
    (case z9 => k_is)
    (case z10 => k_is)
    (case z11 => k_is)
    (case z12 => k_is)
    (case z13 => k_is)
    (case z14 => k_is)
    (case z15 => k_is)
    (case z16 => k_is)
    (case z17 => k_is)
    (case z18 => k_is)
    (case z19 => k_is)
    (case g1 => k_is)
    (case g2 => k_is)
    (case g3 => k_is)
    (case g4 => k_is)
    (case g5 => k_is)
    (case vW => rfl)
end
namespace L2
open PySem PySem.Spec PyProof.Rows
abbrev Key := Sum Int Str
def iF : Key → Value → Bool
  | .inl k, v => Value.isInt k v
  | .inr x, v => Value.isStrOf x v
def De (w : World) : Key → Int
  | .inl k => hashInt k
  | .inr x => hashStr w x
theorem bX : ∀ {k : Key} {v : Value}, iF k v = true → (∃ i t, k = Sum.inl i ∧ v = Value.int i t) ∨ (∃ x t, k = Sum.inr x ∧ v = Value.str x t)
  | .inl i, v, h => by
    obtain ⟨t, e⟩ := Value.isInt_shape (k := i) (v := v) h
    exact .inl ⟨i, t, rfl, e⟩
  | .inr x, v, h => by
    obtain ⟨t, e⟩ := Value.isStrOf_shape (x := x) (v := v) h
    exact .inr ⟨x, t, rfl, e⟩
theorem tU (i : Int) (t : Tok) : iF (.inl i) (.int i t) = true := by simp [iF, Value.isInt]
theorem mR (x : Str) (t : Tok) : iF (.inr x) (.str x t) = true := by simp [iF, Value.isStrOf]
theorem zD (a b : Int) : decide ((Sum.inl a : Key) = Sum.inl b) = (a == b) := by
  by_cases e : a = b
  · subst e; simp
  · have h : ¬ (Sum.inl a : Key) = Sum.inl b := fun q => e (Sum.inl.inj q)
    rw [decide_eq_false h]
    exact (beq_eq_false_iff_ne.mpr e).symm
theorem zI (a b : Str) : decide ((Sum.inr a : Key) = Sum.inr b) = decide (a = b) := by
  by_cases e : a = b
  · subst e; simp
  · have h : ¬ (Sum.inr a : Key) = Sum.inr b := fun q => e (Sum.inr.inj q)
    rw [decide_eq_false h, decide_eq_false e]
theorem zJ (a : Int) (b : Str) : decide ((Sum.inl a : Key) = Sum.inr b) = false := decide_eq_false (fun q => nomatch q)
theorem zR (a : Str) (b : Int) : decide ((Sum.inr a : Key) = Sum.inl b) = false := decide_eq_false (fun q => nomatch q)
def aR (prog : Program) (w : World) : PySem.KeyKind prog w Key where
  is := iF
  hash := De w
  inj := fun v a b ha hb => by
    rcases bX ha with ⟨i, t, rfl, rfl⟩ | ⟨x, t, rfl, rfl⟩
    · rcases bX hb with ⟨j, u, rfl, e⟩ | ⟨y, u, rfl, e⟩
      · injection e with e1 _; rw [e1]
      · exact nomatch e
    · rcases bX hb with ⟨j, u, rfl, e⟩ | ⟨y, u, rfl, e⟩
      · exact nomatch e
      · injection e with e1 _; rw [e1]
  byValue := fun k v h => by
    rcases bX h with ⟨i, t, rfl, rfl⟩ | ⟨x, t, rfl, rfl⟩ <;> rfl
  pyHash := fun hv h => by
    rcases bX hv with ⟨i, t, rfl, rfl⟩ | ⟨x, t, rfl, rfl⟩
    · exact wpAny_pyHash_int h
    · exact wpAny_pyHash_str h
  eqBool := fun hu hv h => by
    rcases bX hu with ⟨i, t, rfl, rfl⟩ | ⟨x, t, rfl, rfl⟩
    · rcases bX hv with ⟨j, u, rfl, rfl⟩ | ⟨y, u, rfl, rfl⟩
      · rw [zD] at h; exact wpAny_eqBool_int h
      · rw [zJ] at h; exact SeqAt.EqAt.int_str i t y u _ _ _ _ h
    · rcases bX hv with ⟨j, u, rfl, rfl⟩ | ⟨y, u, rfl, rfl⟩
      · rw [zR] at h; exact SeqAt.EqAt.str_int x t j u _ _ _ _ h
      · rw [zI] at h; exact wpAny_eqBool_str h
  «strs» := fun k x t v h => by
    rcases bX h with ⟨i, u, rfl, e⟩ | ⟨y, u, rfl, e⟩
    · exact nomatch e
    · injection e with e1 _
      subst e1
      cases v <;> rfl
theorem pI (prog : Program) (w : World) (i : Int) (t : Tok) : (aR prog w).is (.inl i) (.int i t) = true := tU i t
theorem pA (prog : Program) (w : World) (x : Str) (t : Tok) : (aR prog w).is (.inr x) (.str x t) = true := mR x t
end L2
namespace L2
open PySem PySem.Spec PyProof.Rows
inductive V where
  | non | bl (b : Bool) | int (i : Int) | str (x : Str) | byt (b : Array UInt8) | flt (b : UInt64) | ref (a : Addr) | ty (n : String)
  deriving DecidableEq
def RelV : V → Value → Prop
  | .non, u => u = Value.none
  | .bl b, u => u = Value.bool b
  | .int i, u => ∃ t, u = Value.int i t
  | .str x, u => ∃ t, u = Value.str x t
  | .byt b, u => ∃ t, u = Value.bytes b t
  | .flt b, u => ∃ t, u = Value.float b t
  | .ref a, u => u = Value.ref a
  | .ty n, u => u = Value.type n
abbrev Vals : List V → List Value → Prop := Paired RelV
theorem Vals.length {xs : List V} {us : List Value} (r : Vals xs us) : xs.length = us.length := Paired.length r
theorem Vals.get : ∀ {xs : List V} {us : List Value} {i : Nat} {x : V}, Vals xs us → xs[i]? = some x → ∃ u, us[i]? = some u ∧ RelV x u
  | _, _, _, _, .nil, e => by simp at e
  | _, _, 0, _, .cons r _, e => by simp at e; subst e; exact ⟨_, rfl, r⟩
  | _, _, i + 1, x, .cons _ t, e => by
    obtain ⟨u, h1, h2⟩ := Vals.get (i := i) (x := x) t (by simpa using e)
    exact ⟨u, by simpa using h1, h2⟩
theorem Vals.append : ∀ {xs ys : List V} {us ws : List Value}, Vals xs us → Vals ys ws → Vals (xs ++ ys) (us ++ ws)
  | _, _, _, _, .nil, s => s
  | _, _, _, _, .cons r t, s => .cons r (Vals.append t s)
theorem Vals.take : ∀ {xs : List V} {us : List Value} (n : Nat), Vals xs us → Vals (xs.take n) (us.take n)
  | _, _, 0, _ => .nil
  | _, _, _ + 1, .nil => .nil
  | _, _, n + 1, .cons r t => .cons r (Vals.take n t)
theorem Vals.drop : ∀ {xs : List V} {us : List Value} (n : Nat), Vals xs us → Vals (xs.drop n) (us.drop n)
  | _, _, 0, r => r
  | _, _, _ + 1, .nil => .nil
  | _, _, n + 1, .cons _ t => Vals.drop n t
def gv : Option V → Option Value → Prop
  | some v, some u => RelV v u
  | none, none => True
  | _, _ => False
def KV {κ : Type} : List (κ × V) → List (κ × Value) → Prop := Paired fun (p : κ × V) (q : κ × Value) => p.1 = q.1 ∧ RelV p.2 q.2
def kV : Key → V
  | .inl i => .int i
  | .inr x => .str x
inductive HO where
  | lst (xs : List V)
  | tup (xs : List V)
  | dK (kvs : List (Key × V)) | dT (kvs : List (List Key × V))
  | set (S : Int → Bool) (n : Nat)
  | ins (C dx : Addr) (fs : List (Str × V))
  | own (x : Addr)
  | xd (fs : List (Str × V))
  | met (f x : Addr)
  | rng (lo hi : Int)
  | frz (o : Obj) (u : HO)
  | tbl (ps : Array Value)
  | ext (φ : Heap → Prop)
abbrev Hp := Addr → Option HO
def upd (H : Hp) (a : Addr) (o : HO) : Hp := fun b => if b = a then some o else H b
theorem af {H : Hp} {a : Addr} {o : HO} : upd H a o a = some o := by unfold upd; rw [if_pos rfl]
theorem ao {H : Hp} {a b : Addr} {o : HO} (h : b ≠ a) : upd H a o b = H b := by unfold upd; rw [if_neg h]
theorem yp {H : Hp} {a : Addr} {o u : HO} : upd (upd H a o) a u = upd H a u := by
  funext b; unfold upd; split <;> rfl
theorem lE {H : Hp} {a b : Addr} {o u : HO} (h : H a = some o) (h' : H b = some u) (d : o ≠ u) : a ≠ b := by
  intro e; subst e; rw [h] at h'; exact d (Option.some.inj h')
theorem aj {H : Hp} {a b : Addr} {o : HO} (h : H a = some o) (h' : H b = none) : a ≠ b := by
  intro e; subst e; rw [h] at h'; cases h'
section
variable (P : Program) (w : World)
def bW (H : Hp) (h : Heap) (a : Addr) : HO → Prop
  | .lst xs => xs.length ≤ sizeLine ∧ ∃ (its : List Value) (n : Nat), Vals xs its ∧ h.get? a = some { cls := .type "list", data := .seq its.toArray n }
  | .tup xs => xs.length ≤ sizeLine ∧ ∃ its : List Value, Vals xs its ∧ IsTup h a its.toArray
  | .dK kvs => kvs.length ≤ sizeLine ∧ (a == sysModules) = false ∧ ∃ vs, KV kvs vs ∧ h.DictOf (aR P w) a vs
  | .dT kvs => kvs.length ≤ sizeLine ∧ (a == sysModules) = false ∧ ∃ xs : List (List Key × Addr × Value),
      Paired (fun (p : List Key × V) (q : List Key × Addr × Value) => p.1 = q.1 ∧ H q.2.1 = some (.tup (p.1.map kV)) ∧ RelV p.2 q.2.2) kvs xs ∧
      ∃ o es ep, h.get? a = some o ∧ o.ExactDict ∧ o.data = .dict es ep ∧ es.toList = xs.map (entryOfKey (tupleKind (aR P w))) ∧ (xs.map (·.1)).Nodup
  | .set S n => h.SetOf (intKind P w) a S n
  | .ins C dx fs => H dx = some (.own a) ∧ fs.length ≤ 1000 ∧ dx ≠ a ∧ h.get? a = some (PySem.W.instObj C dx) ∧
      ∃ mA, h.Ns1 dx mA ∧ (∀ f, gv (fs.lookup f) (mA f)) ∧ PySem.Within mA (fs.map (·.1))
  | .own _ => ∃ o, h.get? a = some o
  | .xd fs => ∃ mA, h.Ns1 a mA ∧ ∀ f, gv (fs.lookup f) (mA f)
  | .rng lo hi => ∃ t u v, h.get? a = some { cls := .type "range", data := .fields #[.int lo t, .int hi u, .int 1 v] }
  | .frz o u => h.get? a = some o ∧ bW H h a u
  | .tbl ps => h.get? a = some { cls := .none, data := .fields ps }
  | .met f x => h.get? a = some (PySem.W.methodObj (.ref f) (.ref x))
  | .ext φ => φ h ∧ (∃ o, h.get? a = some o) ∧ ∀ h1 h2 : Heap, φ h1 → (∀ o, h1.get? a = some o → h2.get? a = some o) → φ h2
def fP (H : Hp) (h : Heap) : Prop := ∀ a o, H a = some o → bW P w H h a o
end
section
variable {P : Program} {w : World} {H H' : Hp} {h h' : Heap} {a : Addr} {o : HO}
theorem bW.lt (x : bW P w H h a o) : a < h.objs.size := by
  cases o with
  | lst xs => obtain ⟨_, _, _, _, e⟩ := x; exact Heap.lt_size e
  | tup xs => obtain ⟨_, _, _, p⟩ := x; exact p.lt
  | dK kvs => obtain ⟨_, _, _, _, o, _, _, e, _⟩ := x; exact Heap.lt_size e
  | dT kvs => obtain ⟨_, _, _, _, o, _, _, e, _⟩ := x; exact Heap.lt_size e
  | set S n => obtain ⟨o, _, _, _, e, _⟩ := x; exact Heap.lt_size e
  | ins C dx fs => obtain ⟨_, _, _, e, _⟩ := x; exact Heap.lt_size e
  | own y => obtain ⟨_, e⟩ := x; exact Heap.lt_size e
  | xd fs => obtain ⟨_, ⟨_, _, _, e, _⟩, _⟩ := x; exact Heap.lt_size e
  | rng lo hi => obtain ⟨_, _, _, e⟩ := x; exact Heap.lt_size e
  | frz ob u => obtain ⟨e, _⟩ := x; exact Heap.lt_size e
  | tbl ps => exact Heap.lt_size (show h.get? a = some _ from x)
  | met f y => exact Heap.lt_size (show h.get? a = some _ from x)
  | ext φ => obtain ⟨_, ⟨_, e⟩, _⟩ := x; exact Heap.lt_size e
theorem Paired.Ad {α β : Type} {F G : α → β → Prop} : ∀ {l₁ : List α} {l₂ : List β}, Paired F l₁ l₂ → (∀ a b, F a b → G a b) → Paired G l₁ l₂
  | _, _, .nil, _ => .nil
  | _, _, .cons r t, f => .cons (f _ _ r) (Paired.Ad t f)
theorem bW.fw (x : bW P w H h a o) (k : ∀ b u, (b = a ∨ H b = some (.own a)) → h.get? b = some u → h'.get? b = some u)
    (ho : ∀ b, H b = some (.own a) → H' b = some (.own a)) (ht : ∀ b xs, H b = some (.tup xs) → H' b = some (.tup xs)) : bW P w H' h' a o := by
  induction o with
  | lst xs => obtain ⟨z, its, n, r, e⟩ := x; exact ⟨z, its, n, r, k _ _ (.inl rfl) e⟩
  | tup xs => obtain ⟨z, its, r, ob, e, c⟩ := x; exact ⟨z, its, r, ob, k _ _ (.inl rfl) e, c⟩
  | dK kvs => obtain ⟨z, y, vs, r, ob, es, ep, e, c⟩ := x; exact ⟨z, y, vs, r, ob, es, ep, k _ _ (.inl rfl) e, c⟩
  | dT kvs =>
    obtain ⟨z, y, xs, r, ob, es, ep, e, c⟩ := x
    exact ⟨z, y, xs, Paired.Ad r fun p q z => ⟨z.1, ht _ _ z.2.1, z.2.2⟩, ob, es, ep, k _ _ (.inl rfl) e, c⟩
  | set S n => obtain ⟨ob, es, ep, t, e, c⟩ := x; exact ⟨ob, es, ep, t, k _ _ (.inl rfl) e, c⟩
  | ins C dx fs =>
    obtain ⟨d, z, ne, e, mA, ⟨od, es, ep, e2, c⟩, r⟩ := x
    exact ⟨ho _ d, z, ne, k _ _ (.inl rfl) e, mA, ⟨od, es, ep, k _ _ (.inr d) e2, c⟩, r⟩
  | own y => obtain ⟨ob, e⟩ := x; exact ⟨ob, k _ _ (.inl rfl) e⟩
  | xd fs => obtain ⟨mA, ⟨od, es, ep, e, c⟩, r⟩ := x; exact ⟨mA, ⟨od, es, ep, k _ _ (.inl rfl) e, c⟩, r⟩
  | rng lo hi => obtain ⟨t, u, v, e⟩ := x; exact ⟨t, u, v, k _ _ (.inl rfl) e⟩
  | frz ob u ih => obtain ⟨e, q⟩ := x; exact ⟨k _ _ (.inl rfl) e, ih q⟩
  | tbl ps =>
    have e : h.get? a = some { cls := .none, data := .fields ps } := x
    show h'.get? a = some { cls := .none, data := .fields ps }
    exact k a _ (.inl rfl) e
  | met f y =>
    have e : h.get? a = some (PySem.W.methodObj (.ref f) (.ref y)) := x
    show h'.get? a = some (PySem.W.methodObj (.ref f) (.ref y))
    exact k a _ (.inl rfl) e
  | ext φ => obtain ⟨p, ⟨o, e⟩, st⟩ := x; exact ⟨st _ _ p fun o q => k _ _ (.inl rfl) q, ⟨o, k _ _ (.inl rfl) e⟩, st⟩
theorem fP.lt (x : fP P w H h) (e : H a = some o) : a < h.objs.size := (x a o e).lt
theorem fP.fresh (x : fP P w H h) (e : h.objs.size ≤ a) : H a = none := by
  cases q : H a with
  | none => rfl
  | some u => exact absurd (Nat.lt_of_lt_of_le (x.lt q) e) (Nat.lt_irrefl _)
theorem fP.kept (x : fP P w H h) (k : ∀ b u, h.get? b = some u → h'.get? b = some u) : fP P w H h' := fun a o e =>
  (x a o e).fw (fun b u _ q => k b u q) (fun _ q => q) fun _ _ q => q
theorem fP.laid (x : fP P w H h) (k : ∀ b u, h.get? b = some u → h'.get? b = some u) (hp : h.objs.size ≤ a) (new : bW P w (upd H a o) h' a o) : fP P w (upd H a o) h' := fun b u e => by
  have hn := x.fresh hp
  by_cases hb : b = a
  · subst hb; rw [af] at e; cases e; exact new
  · rw [ao hb] at e
    exact (x b u e).fw (fun c v _ q => k c v q) (fun c q => by rw [ao (aj q hn)]; exact q) fun c xs q => by rw [ao (aj q hn)]; exact q
end
def Rd (H : Hp) (a : Addr) (u : HO) : Prop := H a = some u ∨ ∃ o, H a = some (.frz o u)
theorem Rd.ok {P : Program} {w : World} {H : Hp} {h : Heap} {a : Addr} {u : HO} (r : Rd H a u) (x : fP P w H h) : bW P w H h a u := by
  rcases r with r | ⟨o, r⟩
  · exact x a u r
  · obtain ⟨_, q⟩ := x a _ r
    exact q
def BV : Option HO → Prop
  | some (.lst _) => True
  | some (.dK _) => True
  | some (.dT _) => True
  | some (.set _ _) => True
  | some (.ins _ _ _) => True
  | some (.ext _) => True
  | _ => False
section
variable {P : Program} {w : World} {H : Hp} {h h' : Heap} {x e : Addr} {o' : HO}
theorem fP.write (ok : fP P w H h) (mu : BV (H x)) (he : e = x ∨ H e = some (.own x)) (k : ∀ b u, b ≠ e → h.get? b = some u → h'.get? b = some u) (heo : ∃ u, h'.get? e = some u)
    (new : bW P w (upd H x o') h' x o') : fP P w (upd H x o') h' := fun b u q => by
  have nown : ∀ c y, H c = some (.own y) → c ≠ x := fun c y r z => by subst z; rw [r] at mu; exact mu
  have ntup : ∀ c xs, H c = some (.tup xs) → c ≠ x := fun c xs r z => by subst z; rw [r] at mu; exact mu
  by_cases hb : b = x
  · subst hb; rw [af] at q; cases q; exact new
  · rw [ao hb] at q
    by_cases hbe : b = e
    · have q' : H b = some (.own x) := by
        rcases he with z | z
        · exact absurd (hbe.trans z) hb
        · rw [hbe]; exact z
      rw [q] at q'; cases q'
      obtain ⟨v, hv⟩ := heo
      exact ⟨v, by rw [hbe]; exact hv⟩
    · refine (ok b u q).fw (fun c v hc r => k c v ?_ r) (fun c r => by rw [ao (nown c b r)]; exact r) fun c xs r => by rw [ao (ntup c xs r)]; exact r
      rcases hc with rfl | hc
      · exact hbe
      · rintro rfl
        rcases he with z | z
        · exact nown c b hc z
        · rw [hc] at z; cases z; exact hb rfl
end
structure Un (fs ex : List Addr) (H H' : Hp) (h h' : Heap) : Prop where
  keep : ∀ b o, h.get? b = some o → H b = none → b ∉ fs → b ∉ ex → h'.get? b = some o
  slot : ∀ b o, h.get? b = some o → H b = none → b ∈ fs → b ∉ ex → ∃ sl, h'.get? b = some { o with slots := sl }
  free : ∀ b o, h.get? b = some o → H b = none → b ∉ ex → H' b = none
  there : ∀ b o, h.get? b = some o → b ∉ ex → ∃ o', h'.get? b = some o'
  tups : ∀ b xs, H b = some (.tup xs) → H' b = some (.tup xs)
  frzs : ∀ b o u, H b = some (.frz o u) → H' b = some (.frz o u)
  tbls : ∀ b ps, H b = some (.tbl ps) → ∃ more, H' b = some (.tbl (ps ++ more))
section
variable {fs fs' ex ex' : List Addr} {H H1 H2 : Hp} {h h1 h2 h' : Heap} {a x e : Addr} {o : HO}
theorem Un.any (u : Un fs ex H H1 h h1) {b : Addr} {ob : Obj} (q : h.get? b = some ob) (n : H b = none) (hx : b ∉ ex) : ∃ sl, h1.get? b = some { ob with slots := sl } := by
  by_cases hb : b ∈ fs
  · exact u.slot b ob q n hb hx
  · exact ⟨ob.slots, u.keep b ob q n hb hx⟩
theorem Un.trans (a : Un fs ex H H1 h h1) (b : Un fs ex H1 H2 h1 h2) : Un fs ex H H2 h h2 where
  keep := fun c ob q n hc hx => b.keep c ob (a.keep c ob q n hc hx) (a.free c ob q n hx) hc hx
  slot := fun c ob q n hc hx => by
    obtain ⟨sl, e1⟩ := a.slot c ob q n hc hx
    obtain ⟨sl', e2⟩ := b.slot c _ e1 (a.free c ob q n hx) hc hx
    exact ⟨sl', e2⟩
  free := fun c ob q n hx => by
    obtain ⟨o', e1⟩ := a.there c ob q hx
    exact b.free c o' e1 (a.free c ob q n hx) hx
  there := fun c ob q hx => by
    obtain ⟨o', e1⟩ := a.there c ob q hx
    exact b.there c o' e1 hx
  tups := fun c xs q => b.tups c xs (a.tups c xs q)
  frzs := fun c ob xs q => b.frzs c ob xs (a.frzs c ob xs q)
  tbls := fun c ps q => by
    obtain ⟨m1, e1⟩ := a.tbls c ps q
    obtain ⟨m2, e2⟩ := b.tbls c _ e1
    exact ⟨m1 ++ m2, by rw [e2, Array.append_assoc]⟩
theorem Un.kept (k : ∀ b u, h.get? b = some u → h'.get? b = some u) : Un fs ex H H h h' :=
  ⟨fun b ob q _ _ _ => k b ob q, fun b ob q _ _ _ => ⟨ob.slots, k b ob q⟩, fun _ _ _ n _ => n, fun b ob q _ => ⟨ob, k b ob q⟩, fun _ _ q => q, fun _ _ _ q => q, fun _ ps q => ⟨#[], by rw [q]; simp⟩⟩
theorem Un.refl : Un fs ex H H h h := Un.kept fun _ _ q => q
theorem Un.laid (k : ∀ b u, h.get? b = some u → h'.get? b = some u) (hp : h.objs.size ≤ a) (hn : H a = none) : Un fs ex H (upd H a o) h h' where
  keep := fun b u q _ _ _ => k b u q
  slot := fun b u q _ _ _ => ⟨u.slots, k b u q⟩
  free := fun b u q n _ => by rw [ao (Nat.ne_of_lt (Nat.lt_of_lt_of_le (Heap.lt_size q) hp))]; exact n
  there := fun b u q _ => ⟨u, k b u q⟩
  tups := fun b xs q => by rw [ao (aj q hn)]; exact q
  frzs := fun b u xs q => by rw [ao (aj q hn)]; exact q
  tbls := fun b ps q => ⟨#[], by rw [ao (aj q hn), q]; simp⟩
theorem Un.write (mu : BV (H x)) (he : e = x ∨ H e = some (.own x)) (k : ∀ b u, b ≠ e → h.get? b = some u → h'.get? b = some u) (heo : ∃ u, h'.get? e = some u) : Un fs ex H (upd H x o) h h' := by
  have hx : ∀ b, H b = none → b ≠ x := fun b n z => by subst z; rw [n] at mu; exact mu
  have hb : ∀ b, H b = none → b ≠ e := fun b n z => by
    subst z
    rcases he with r | r
    · exact hx b n r
    · rw [n] at r; cases r
  have hm : ∀ b u, H b = some u → ¬ BV (some u) → b ≠ x := fun b u q nm z => by subst z; rw [q] at mu; exact nm mu
  refine ⟨fun b u q n _ _ => k b u (hb b n) q, fun b u q n _ _ => ⟨u.slots, k b u (hb b n) q⟩, fun b u q n _ => by rw [ao (hx b n)]; exact n, fun b u q _ => ?_,
    fun b xs q => by rw [ao (hm b _ q fun z => z)]; exact q, fun b u xs q => by rw [ao (hm b _ q fun z => z)]; exact q, fun b ps q => ⟨#[], by rw [ao (hm b _ q fun z => z), q]; simp⟩⟩
  by_cases hbe : b = e
  · subst hbe; exact heo
  · exact ⟨u, k b u hbe q⟩
end
def wK (h : Heap) (H : Hp) : List Addr := (List.range h.objs.size).filter fun a => (H a).isSome
def nh (h : Heap) (H : Hp) : Heap := PySem.W.hideAll h (wK h H)
theorem sO (h : Heap) (H : Hp) : (nh h H).objs.size = h.objs.size := PySem.W.hideAll_size _ _
theorem vy {h : Heap} {H : Hp} {b : Addr} {o : Obj} (e : h.get? b = some o) (n : H b = none) : (nh h H).get? b = some o :=
  PySem.W.hideAll_get _ e fun hm => by
    have q : (H b).isSome = true := (List.mem_filter.mp hm).2
    rw [n] at q; simp at q
theorem xI {h : Heap} {H : Hp} {b : Addr} {o : Obj} (e : (nh h H).get? b = some o) : h.get? b = some o ∧ H b = none := by
  have e' : h.get? b = some o := PySem.W.of_hideAll (wK h H) e
  refine ⟨e', ?_⟩
  cases q : H b with
  | none => rfl
  | some x =>
    have hm : b ∈ wK h H := List.mem_filter.mpr ⟨List.mem_range.mpr (Heap.lt_size e'), by simp [q]⟩
    have z : (nh h H).get? b = none := PySem.W.hideAll_none (wK h H) hm
    rw [z] at e; cases e
def xZ (g h : Heap) (L : Addr) : List (Addr × Obj) := (List.range h.objs.size).filterMap fun a => if a = L ∨ (g.get? a).isSome = true then none else (h.get? a).map fun o => (a, o)
def rest (g h : Heap) (L d : Addr) : List (Addr × Obj) := (xZ g h L).filter fun p => decide (p.1 ≠ d)
end L2
namespace L2
open PySem PySem.Spec PyProof.Rows
structure Mod (K : PySem.W.Frag) (mg : Str → Option Value) (base : Heap) : Prop where
  kin : K.In base
  glob : base.Ns mainGlobals mg
  blt : ∃ mb, base.Ns builtinsNs mb ∧ ∀ x : Str, x ≠ "__name__" → mb x = bootBuiltins x
  nolimit : base.NoLimit
structure Cx where
  prog : Program
  w : World
  K : PySem.W.Frag
  mg : Str → Option Value
  base : Heap
  A : Around
  N : List Str
  s₀ : Shared
  H₀ : Hp
  env : Env
  outer : List Env
  stack : List Env
  ex : List Addr
  fn : Str → Bool
  calm : Bool
  pn : List (Addr × Obj)
  xe : Value → Shared → Prop
def uw (l : List Env) : List Addr := l.filterMap (·.frame)
abbrev Cx.fs (X : Cx) : List Addr := uw X.outer
def CN (sc : Scope) (x : Str) : Prop := sc.names.lookup x = some .local ∨ sc.names.lookup x = some .cell ∨ sc.names.lookup x = some .free
def Loc (sc : Scope) (x : Str) : Prop := sc.names.lookup x = some .local ∨ sc.names.lookup x = some .cell
def Look (env : Env) (h : Heap) (m : Str → Option Value) (x : Str) (u : Value) : Prop :=
  (env.kindOf x = some .local ∧ m x = some u) ∨ ((env.kindOf x = some .cell ∨ env.kindOf x = some .free) ∧ ∃ c, env.cells.lookup x = some c ∧ h.IsCell c (some u))
structure Cx.Ok (X : Cx) : Prop where
  mod : Mod X.K X.mg X.base
  kind : X.env.scope.kind = .function
  glob : X.env.globals = mainGlobals
  blt : X.env.builtins = builtinsNs
  above : X.s₀.heap.objs.size ≤ X.env.locals
  inj : ∀ x y c, X.env.cells.lookup x = some c → X.env.cells.lookup y = some c → x = y
  has : ∀ x, (X.env.kindOf x = some .cell ∨ X.env.kindOf x = some .free) → ∃ c, X.env.cells.lookup x = some c
  cab : ∀ x c, X.fn x = true → X.env.cells.lookup x = some c → X.s₀.heap.objs.size ≤ c
  hd : X.calm = true → X.A.handled = none
  frames : X.A.frames = some X.stack
  stk : X.stack = X.outer ∨ (X.stack = X.env :: X.outer ∧ X.env.frame = some X.env.locals)
  exf : ∀ b ∈ X.ex, b ≠ X.env.locals ∧ ∀ x c, X.env.cells.lookup x = some c → c ≠ b
  bs : ∀ b o, X.base.get? b = some o → X.s₀.heap.get? b = some o ∧ X.H₀ b = none
  bsz : X.base.objs.size ≤ X.s₀.heap.objs.size
  noex : ∀ b o, X.base.get? b = some o → b ∉ X.ex
  exfs : ∀ b ∈ X.ex, b ∉ X.fs
  jx : X.s₀.heap.FunFrames X.base X.outer
  frf : ∀ b ∈ X.fs, X.H₀ b = none
structure Inv (X : Cx) (pins : List (Addr × Obj)) (σ : List (Option V)) (H : Hp) (s : Shared) : Prop where
  ok : X.Ok
  os : s.os = X.s₀.os
  bare : AllBare s.gens
  base : Un X.fs X.ex X.H₀ H X.s₀.heap s.heap
  loc : ∃ m, s.heap.Ns X.env.locals m ∧ ∀ (i : Nat) (x : Str) (v : V), X.N[i]? = some x → σ[i]? = some (some v) → CN X.env.scope x → ∃ u, RelV v u ∧ Look X.env s.heap m x u
  cell : ∀ x c, X.env.cells.lookup x = some c → ∃ v, s.heap.IsCell c v
  free : H X.env.locals = none
  freeC : ∀ x c, X.env.cells.lookup x = some c → H c = none
  pin : ∀ p ∈ X.pn ++ pins, s.heap.get? p.1 = some p.2 ∧ H p.1 = none ∧ p.1 ≠ X.env.locals ∧ p.1 ∉ X.fs ∧ ∀ v, p.2.data ≠ .cell v
  hok : fP X.prog X.w H s.heap
  len : σ.length = X.N.length
section
variable {X : Cx} {pins : List (Addr × Obj)} {σ : List (Option V)} {H H' : Hp} {s : Shared} {h' : Heap}
theorem Cx.Ok.CW (ok : X.Ok) {b : Addr} {o : Obj} (e : X.base.get? b = some o) : b ∉ X.fs := fun hb => by
  have := (ok.jx.mem hb).1
  rw [e] at this; cases this
theorem Inv.bs (I : Inv X pins σ H s) : ∀ b o, X.base.get? b = some o → s.heap.get? b = some o ∧ H b = none := fun b o e =>
  ⟨I.base.keep b o (I.ok.bs b o e).1 (I.ok.bs b o e).2 (I.ok.CW e) (I.ok.noex b o e), I.base.free b o (I.ok.bs b o e).1 (I.ok.bs b o e).2 (I.ok.noex b o e)⟩
theorem Inv.bk (I : Inv X pins σ H s) : ∀ b o, X.base.get? b = some o → s.heap.get? b = some o := fun b o e => (I.bs b o e).1
theorem Inv.mod (I : Inv X pins σ H s) : Mod X.K X.mg X.base := I.ok.mod
theorem Inv.jU (I : Inv X pins σ H s) : X.K.In s.heap := I.ok.mod.kin.keeps I.bk
theorem Inv.lt (I : Inv X pins σ H s) : X.env.locals < s.heap.objs.size := let ⟨_, hn, _⟩ := I.loc; hn.lt
theorem Inv.sz (I : Inv X pins σ H s) : X.s₀.heap.objs.size ≤ s.heap.objs.size := Nat.le_trans I.ok.above (Nat.le_of_lt I.lt)
theorem Inv.Dc (I : Inv X pins σ H s) {a : Addr} (h : s.heap.objs.size ≤ a) : a ∉ X.fs := fun hb => by
  obtain ⟨_, o, ho, _⟩ := I.ok.jx.mem hb
  exact absurd (Nat.lt_of_lt_of_le (Heap.lt_size ho) (Nat.le_trans I.sz h)) (Nat.lt_irrefl _)
theorem Inv.zB (I : Inv X pins σ H s) : ∀ x c, X.env.cells.lookup x = some c → c ≠ X.env.locals := fun x c e z => by
  obtain ⟨v, o, ho, hd⟩ := I.cell x c e
  obtain ⟨m, ⟨o', es, ep, ho', hd', _⟩, _⟩ := I.loc
  rw [z, ho'] at ho; cases ho; rw [hd'] at hd; cases hd
theorem Inv.jx (I : Inv X pins σ H s) : s.heap.FunFrames X.base X.outer := by
  have all : ∀ (l : List Env), (∀ b ∈ uw l, b ∈ X.fs) → X.s₀.heap.FunFrames X.base l → s.heap.FunFrames X.base l := by
    intro l
    induction l with
    | nil => intro _ _; trivial
    | cons env r ih =>
      intro hs hl
      obtain ⟨hk, ⟨L, o, hf, hn, ho, hd⟩, hr⟩ := hl
      have hL : L ∈ X.fs := hs L (by unfold uw; rw [List.filterMap_cons, hf]; exact List.mem_cons_self)
      obtain ⟨sl, e⟩ := I.base.slot L o ho (I.ok.frf L hL) hL fun z => I.ok.exfs L z hL
      exact ⟨hk, ⟨L, _, hf, hn, e, hd⟩, ih (fun b hb => hs b (by unfold uw; rw [List.filterMap_cons, hf]; exact List.mem_cons_of_mem _ hb)) hr⟩
  exact all X.outer (fun _ hb => hb) I.ok.jx
theorem Inv.stack (I : Inv X pins σ H s) : s.heap.FunFrames X.base X.stack := by
  rcases I.ok.stk with e | ⟨e, hf⟩
  · rw [e]; exact I.jx
  · rw [e]
    obtain ⟨m, hn, _⟩ := I.loc
    refine .cons (by rw [I.ok.kind]; decide) hf hn ?_ I.jx
    exact Heap.get?_none_of_le (Nat.le_trans I.ok.bsz I.ok.above)
theorem Inv.qt (I : Inv X pins σ H s) : ∀ b ∈ uw X.stack, b ∈ X.env.locals :: X.fs := fun b hb => by
  rcases I.ok.stk with e | ⟨e, hf⟩
  · rw [e] at hb; exact List.mem_cons_of_mem _ hb
  · rw [e] at hb
    unfold uw at hb
    rw [List.filterMap_cons, hf] at hb
    exact hb
theorem Inv.rQ (I : Inv X pins σ H s) : ∀ b ∈ uw X.stack, H b = none := fun b hb => by
  rcases List.mem_cons.mp (I.qt b hb) with e | hb
  · rw [e]; exact I.free
  · obtain ⟨_, o, ho, _⟩ := I.ok.jx.mem hb
    exact I.base.free b o ho (I.ok.frf b hb) fun z => I.ok.exfs b z hb
theorem Inv.step {g' : Array GenState} {t' : Nat} {d' : Drawn} {ch : List Addr} (I : Inv X pins σ H s)
    (hch : ∀ b ∈ ch, (b ∈ X.ex ∨ X.s₀.heap.objs.size ≤ b) ∧ b ≠ X.env.locals ∧ (∀ x c, X.env.cells.lookup x = some c → c ≠ b) ∧ ∀ p ∈ X.pn ++ pins, p.1 ≠ b)
    (keep : ∀ b o, b ≠ X.env.locals → b ∉ X.fs → b ∉ ch → s.heap.get? b = some o → H b = none → h'.get? b = some o)
    (slot : ∀ b o, b ≠ X.env.locals → b ∈ X.fs → b ∉ ch → s.heap.get? b = some o → H b = none → ∃ sl, h'.get? b = some { o with slots := sl }) (free : ∀ b o, b ∉ ch → s.heap.get? b = some o → H b = none → H' b = none)
    (there : ∀ b o, b ∉ ch → s.heap.get? b = some o → ∃ o', h'.get? b = some o')
    (tups : ∀ b xs, H b = some (.tup xs) → H' b = some (.tup xs)) (frzs : ∀ b o u, H b = some (.frz o u) → H' b = some (.frz o u)) (tbls : ∀ b ps, H b = some (.tbl ps) → ∃ more, H' b = some (.tbl (ps ++ more)))
    (ns : ∀ m, s.heap.Ns X.env.locals m → h'.Ns X.env.locals m) (hok : fP X.prog X.w H' h') (hg : AllBare g') :
    Inv X pins σ H' { s with heap := h', gens := g', drawn := d', toks := t' } := by
  have neL : ∀ b o, X.s₀.heap.get? b = some o → b ≠ X.env.locals := fun b o e => Nat.ne_of_lt (Nat.lt_of_lt_of_le (Heap.lt_size e) I.ok.above)
  have neC : ∀ b o, X.s₀.heap.get? b = some o → b ∉ X.ex → b ∉ ch := fun b o e hx hb => by
    rcases (hch b hb).1 with z | z
    · exact hx z
    · exact absurd (Nat.lt_of_lt_of_le (Heap.lt_size e) z) (Nat.lt_irrefl _)
  have cellK : ∀ x c, X.env.cells.lookup x = some c → ∀ v, s.heap.IsCell c v → h'.IsCell c v := fun x c e v ⟨o, ho, hd⟩ => by
    have nch : c ∉ ch := fun z => (hch c z).2.2.1 x c e rfl
    by_cases hc : c ∈ X.fs
    · obtain ⟨sl, q⟩ := slot c o (I.zB x c e) hc nch ho (I.freeC x c e)
      exact ⟨_, q, hd⟩
    · exact ⟨o, keep c o (I.zB x c e) hc nch ho (I.freeC x c e), hd⟩
  refine ⟨I.ok, I.os, hg, ⟨fun b o e n hb hx => ?_, fun b o e n hb hx => ?_, fun b o e n hx => ?_, fun b o e hx => ?_, fun b xs e => tups b xs (I.base.tups b xs e), fun b o xs e => frzs b o xs (I.base.frzs b o xs e), fun b ps e => ?_⟩, ?_, fun x c e => ?_, ?_, fun x c e => ?_, fun p hp => ?_, hok, I.len⟩
  · exact keep b o (neL b o e) hb (neC b o e hx) (I.base.keep b o e n hb hx) (I.base.free b o e n hx)
  · obtain ⟨sl, e1⟩ := I.base.slot b o e n hb hx
    obtain ⟨sl', e2⟩ := slot b _ (neL b o e) hb (neC b o e hx) e1 (I.base.free b o e n hx)
    exact ⟨sl', e2⟩
  · obtain ⟨o', e1⟩ := I.base.there b o e hx
    exact free b o' (neC b o e hx) e1 (I.base.free b o e n hx)
  · obtain ⟨o', e1⟩ := I.base.there b o e hx
    exact there b o' (neC b o e hx) e1
  · obtain ⟨m1, e1⟩ := I.base.tbls b ps e
    obtain ⟨m2, e2⟩ := tbls b _ e1
    exact ⟨m1 ++ m2, by rw [e2, Array.append_assoc]⟩
  · obtain ⟨m, hn, hl⟩ := I.loc
    refine ⟨m, ns m hn, fun i x v e1 e2 e3 => ?_⟩
    obtain ⟨u, r, l⟩ := hl i x v e1 e2 e3
    refine ⟨u, r, ?_⟩
    rcases l with l | ⟨k, c, e, z⟩
    · exact .inl l
    · exact .inr ⟨k, c, e, cellK x c e _ z⟩
  · obtain ⟨v, z⟩ := I.cell x c e
    exact ⟨v, cellK x c e v z⟩
  · obtain ⟨m, ⟨o, _, _, ho, _⟩, _⟩ := I.loc
    exact free _ o (fun z => (hch _ z).2.1 rfl) ho I.free
  · obtain ⟨v, o, ho, hd⟩ := I.cell x c e
    exact free c o (fun z => (hch c z).2.2.1 x c e rfl) ho (I.freeC x c e)
  · obtain ⟨e, n, ne, nf, d⟩ := I.pin p hp
    have nch : p.1 ∉ ch := fun z => (hch p.1 z).2.2.2 p hp rfl
    exact ⟨keep p.1 p.2 ne nf nch e n, free p.1 p.2 nch e n, ne, nf, d⟩
theorem Inv.un {t' : Nat} (I : Inv X pins σ H s) (u : Un X.fs [] H H' s.heap h') (hok : fP X.prog X.w H' h') : Inv X pins σ H' { s with heap := h', toks := t' } := by
  obtain ⟨m, ⟨o, es, ep, ho, r⟩, _⟩ := id I.loc
  obtain ⟨sl, hL⟩ := u.any ho I.free (by simp)
  exact I.step (g' := s.gens) (d' := s.drawn) (ch := []) (fun _ z => nomatch z) (fun b o _ hb _ e n => u.keep b o e n hb (by simp)) (fun b o _ hb _ e n => u.slot b o e n hb (by simp)) (fun b o _ e n => u.free b o e n (by simp)) (fun b o _ e => u.there b o e (by simp)) u.tups u.frzs u.tbls (fun m' hm => by
    obtain ⟨o', es', ep', ho', r'⟩ := hm
    rw [ho] at ho'; cases ho'
    exact ⟨_, es', ep', hL, r'⟩) hok I.bare
theorem Inv.call {g' : Array GenState} {t' : Nat} {d' : Drawn} {ch : List Addr} (I : Inv X pins σ H s) (u : Un (uw X.stack) ch H H' s.heap h') (hok : fP X.prog X.w H' h') (hg : AllBare g')
    (hch : ∀ b ∈ ch, (b ∈ X.ex ∨ X.s₀.heap.objs.size ≤ b) ∧ b ≠ X.env.locals ∧ (∀ x c, X.env.cells.lookup x = some c → c ≠ b) ∧ ∀ p ∈ X.pn ++ pins, p.1 ≠ b) :
    Inv X pins σ H' { s with heap := h', gens := g', drawn := d', toks := t' } := by
  obtain ⟨m, ⟨o, es, ep, ho, r⟩, _⟩ := id I.loc
  obtain ⟨sl, hL⟩ := u.any ho I.free fun z => (hch _ z).2.1 rfl
  exact I.step (ch := ch) hch (fun b o hL hb hc e n => u.keep b o e n (fun z => (List.mem_cons.mp (I.qt b z)).elim hL hb) hc) (fun b o _ _ hc e n => u.any e n hc) (fun b o hc e n => u.free b o e n hc) (fun b o hc e => u.there b o e hc) u.tups u.frzs u.tbls (fun m' hm => by
    obtain ⟨o', es', ep', ho', r'⟩ := hm
    rw [ho] at ho'; cases ho'
    exact ⟨_, es', ep', hL, r'⟩) hok hg
theorem Inv.turned {t' : Nat} {it : Addr} (I : Inv X pins σ H s) (k : ∀ b o, b ≠ it → s.heap.get? b = some o → h'.get? b = some o) (hn : H it = none) (hL : it ≠ X.env.locals)
    (h1 : it ∈ X.ex ∨ X.s₀.heap.objs.size ≤ it) (h2 : ∀ x c, X.env.cells.lookup x = some c → c ≠ it) (h3 : ∀ p ∈ X.pn ++ pins, p.1 ≠ it) : Inv X pins σ H { s with heap := h', toks := t' } := by
  have nit : ∀ b u, H b = some u → b ≠ it := fun b u e z => by rw [z, hn] at e; cases e
  refine I.step (g' := s.gens) (d' := s.drawn) (ch := [it]) (fun b hb => ?_) (fun b o _ _ hc e _ => k b o (fun z => hc (by simp [z])) e) (fun b o _ _ hc e _ => ⟨o.slots, k b o (fun z => hc (by simp [z])) e⟩) (fun _ _ _ _ n => n)
    (fun b o hc e => ⟨o, k b o (fun z => hc (by simp [z])) e⟩) (fun _ _ e => e) (fun _ _ _ e => e) (fun b ps e => ⟨#[], by rw [e]; simp⟩) (fun m hm => ?_) (fun b u e => ?_) I.bare
  · have e : b = it := by simpa using hb
    subst e
    exact ⟨h1, hL, h2, h3⟩
  · obtain ⟨o, es, ep, ho, r⟩ := hm
    exact ⟨o, es, ep, k _ o (Ne.symm hL) ho, r⟩
  · refine (I.hok b u e).fw (fun c v hc q => k c v ?_ q) (fun _ q => q) fun _ _ q => q
    rcases hc with z | z
    · rw [z]; exact nit b u e
    · exact nit c _ z
theorem Inv.tok (I : Inv X pins σ H s) (t : Nat) : Inv X pins σ H { s with toks := t } := I.un (h' := s.heap) (t' := t) Un.refl I.hok
theorem Inv.kept {t' : Nat} (I : Inv X pins σ H s) (k : ∀ b u, s.heap.get? b = some u → h'.get? b = some u) : Inv X pins σ H { s with heap := h', toks := t' } := I.un (Un.kept k) (I.hok.kept k)
theorem Inv.laid {a : Addr} {o : HO} {t' : Nat} (I : Inv X pins σ H s) (k : ∀ b u, s.heap.get? b = some u → h'.get? b = some u) (hp : s.heap.objs.size ≤ a) (new : bW X.prog X.w (upd H a o) h' a o) :
    Inv X pins σ (upd H a o) { s with heap := h', toks := t' } := I.un (Un.laid k hp (I.hok.fresh hp)) (I.hok.laid k hp new)
theorem Inv.write {x e : Addr} {o : HO} {t' : Nat} (I : Inv X pins σ H s) (mu : BV (H x)) (he : e = x ∨ H e = some (.own x)) (k : ∀ b u, b ≠ e → s.heap.get? b = some u → h'.get? b = some u) (heo : ∃ u, h'.get? e = some u)
    (new : bW X.prog X.w (upd H x o) h' x o) : Inv X pins σ (upd H x o) { s with heap := h', toks := t' } := I.un (Un.write mu he k heo) (I.hok.write mu he k heo new)
theorem Inv.rK {pins' : List (Addr × Obj)} (I : Inv X pins σ H s) (h : ∀ p ∈ pins', s.heap.get? p.1 = some p.2 ∧ H p.1 = none ∧ p.1 ≠ X.env.locals ∧ p.1 ∉ X.fs ∧ ∀ v, p.2.data ≠ .cell v) : Inv X pins' σ H s :=
  ⟨I.ok, I.os, I.bare, I.base, I.loc, I.cell, I.free, I.freeC, fun p hp => (List.mem_append.mp hp).elim (fun z => I.pin p (List.mem_append_left _ z)) (h p), I.hok, I.len⟩
theorem oE {N : List Str} (hN : N.Nodup) {i j : Nat} {x : Str} (a : N[i]? = some x) (b : N[j]? = some x) : i = j := by
  obtain ⟨h1, e1⟩ := List.getElem?_eq_some_iff.mp a
  obtain ⟨h2, e2⟩ := List.getElem?_eq_some_iff.mp b
  exact (List.getElem_inj hN).mp (e1.trans e2.symm)
theorem uq {M : Model} {A : Around} {E : Value → Shared → Prop} {i : Nat} {x : Str} {v : V} {u : Value} {Q : Unit → Shared → Prop} (I : Inv X pins σ H s) (hN : X.N.Nodup) (hi : X.N[i]? = some x) (hx : Loc X.env.scope x) (r : RelV v u)
    (h : ∀ s', Inv X pins (σ.set i (some v)) H s' → (∃ a, Heap.SameBut a s.heap s'.heap ∧ (a = X.env.locals ∨ X.env.cells.lookup x = some a)) → Q () s') (hf : X.fn x = true ∨ X.env.scope.names.lookup x = some .local := by first | exact .inl rfl | exact .inr rfl | assumption) : wpAny M A (storeName X.env x u) Q E s := by
  obtain ⟨m, hn, hl⟩ := id I.loc
  have hcls : (X.env.scope.kind == .class || (X.env.scope.kind == .module && X.env.locals != X.env.globals)) = false := by rw [I.ok.kind]; rfl
  have hiσ : i < σ.length := by rw [I.len]; exact (List.getElem?_eq_some_iff.mp hi).1
  have zB := I.zB
  have tracked : ∀ {a : Addr} {h' : Heap}, (∃ o, s.heap.get? a = some o ∧ H a = none) → Heap.SameBut a s.heap h' → fP X.prog X.w H h' := fun {a h'} ha hs b ob e => by
    obtain ⟨_, _, hfree⟩ := ha
    refine (I.hok b ob e).fw (fun c w' hc q => (hs.2 c ?_).trans q) (fun _ q => q) fun _ _ q => q
    rintro rfl
    rcases hc with rfl | hc
    · rw [hfree] at e; cases e
    · rw [hfree] at hc; cases hc
  rcases hx with hk | hk
  · refine wpAny_storeName_local hk hn (fun h' hn' hs => ?_) hcls
    obtain ⟨oL, _, _, hoL, _⟩ := id hn
    refine h _ ⟨I.ok, I.os, I.bare, ⟨fun b o e n hb hx => ?_, fun b o e n hb hx => ?_, I.base.free, fun b o e hx => ?_, I.base.tups, I.base.frzs, I.base.tbls⟩, ⟨_, hn', fun j y v' e1 e2 e3 => ?_⟩, fun y c e => ?_, I.free, I.freeC, fun p hp => ?_, tracked ⟨oL, hoL, I.free⟩ hs, by simpa using I.len⟩ ⟨_, hs, .inl rfl⟩
    · exact (hs.2 b (Nat.ne_of_lt (Nat.lt_of_lt_of_le (Heap.lt_size e) I.ok.above))).trans (I.base.keep b o e n hb hx)
    · obtain ⟨sl, e1⟩ := I.base.slot b o e n hb hx
      exact ⟨sl, (hs.2 b (Nat.ne_of_lt (Nat.lt_of_lt_of_le (Heap.lt_size e) I.ok.above))).trans e1⟩
    · obtain ⟨o', e1⟩ := I.base.there b o e hx
      exact ⟨o', (hs.2 b (Nat.ne_of_lt (Nat.lt_of_lt_of_le (Heap.lt_size e) I.ok.above))).trans e1⟩
    · by_cases hj : j = i
      · subst hj
        rw [hi] at e1; cases e1
        rw [List.getElem?_set_self hiσ] at e2
        cases e2
        exact ⟨u, r, .inl ⟨hk, by simp⟩⟩
      · rw [List.getElem?_set_ne (Ne.symm hj)] at e2
        obtain ⟨u', r', q⟩ := hl j y v' e1 e2 e3
        refine ⟨u', r', ?_⟩
        rcases q with ⟨k, e⟩ | ⟨k, c, e, z⟩
        · refine .inl ⟨k, ?_⟩
          have : y ≠ x := fun e => hj (oE hN e1 (e ▸ hi))
          simp [this, e]
        · exact .inr ⟨k, c, e, z.sameBut hs (zB y c e)⟩
    · obtain ⟨w', z⟩ := I.cell y c e
      exact ⟨w', z.sameBut hs (zB y c e)⟩
    · obtain ⟨e, n, ne, nf, d⟩ := I.pin p hp
      exact ⟨(hs.2 p.1 ne).trans e, n, ne, nf, d⟩
  · have hfn : X.fn x = true := by
      rcases hf with z | z
      · exact z
      · rw [z] at hk; cases hk
    obtain ⟨c, hc⟩ := I.ok.has x (.inl hk)
    obtain ⟨w', z⟩ := I.cell x c hc
    refine wpAny_storeName_cell I.ok.kind hk hc z (fun h' hc' hs => ?_)
    obtain ⟨oc, hoc, hocd⟩ := id z
    refine h { s with heap := h' } ⟨I.ok, I.os, I.bare, ⟨fun b o e n hb hx => ?_, fun b o e n hb hx => ?_, I.base.free, fun b o e hx => ?_, I.base.tups, I.base.frzs, I.base.tbls⟩, ⟨m, hn.sameBut hs (Ne.symm (zB x c hc)), fun j y v' e1 e2 e3 => ?_⟩, fun y c' e => ?_, I.free, I.freeC, fun p hp => ?_, tracked ⟨oc, hoc, I.freeC x c hc⟩ hs, by simpa using I.len⟩ ⟨c, hs, .inr hc⟩
    · exact (hs.2 b (Nat.ne_of_lt (Nat.lt_of_lt_of_le (Heap.lt_size e) (I.ok.cab x c hfn hc)))).trans (I.base.keep b o e n hb hx)
    · obtain ⟨sl, e1⟩ := I.base.slot b o e n hb hx
      exact ⟨sl, (hs.2 b (Nat.ne_of_lt (Nat.lt_of_lt_of_le (Heap.lt_size e) (I.ok.cab x c hfn hc)))).trans e1⟩
    · obtain ⟨o', e1⟩ := I.base.there b o e hx
      exact ⟨o', (hs.2 b (Nat.ne_of_lt (Nat.lt_of_lt_of_le (Heap.lt_size e) (I.ok.cab x c hfn hc)))).trans e1⟩
    · by_cases hj : j = i
      · subst hj
        rw [hi] at e1; cases e1
        rw [List.getElem?_set_self hiσ] at e2
        cases e2
        exact ⟨u, r, .inr ⟨.inl hk, c, hc, hc'⟩⟩
      · rw [List.getElem?_set_ne (Ne.symm hj)] at e2
        obtain ⟨u', r', q⟩ := hl j y v' e1 e2 e3
        refine ⟨u', r', ?_⟩
        rcases q with q | ⟨k, c', e, z'⟩
        · exact .inl q
        · refine .inr ⟨k, c', e, z'.sameBut hs ?_⟩
          rintro rfl
          exact hj (oE hN e1 (I.ok.inj _ _ _ e hc ▸ hi))
    · by_cases hcc : c' = c
      · subst hcc; exact ⟨_, hc'⟩
      · obtain ⟨w2, z2⟩ := I.cell y c' e
        exact ⟨w2, z2.sameBut hs hcc⟩
    · obtain ⟨e, n, ne, nf, d⟩ := I.pin p hp
      refine ⟨(hs.2 p.1 ?_).trans e, n, ne, nf, d⟩
      intro q
      rw [q, hoc] at e
      have q' : oc = p.2 := Option.some.inj e
      exact d w' (by rw [← q']; exact hocd)
theorem pL {M : Model} {A : Around} {E : Value → Shared → Prop} {i : Nat} {x : Str} {v : V} {u : Value} {Q : Unit → Shared → Prop} (I : Inv X pins σ H s) (hN : X.N.Nodup) (hi : X.N[i]? = some x) (hx : Loc X.env.scope x) (r : RelV v u)
    (h : ∀ s', Inv X pins (σ.set i (some v)) H s' → Q () s') (hf : X.fn x = true ∨ X.env.scope.names.lookup x = some .local := by first | exact .inl rfl | exact .inr rfl | assumption) : wpAny M A (storeName X.env x u) Q E s :=
  uq I hN hi hx r (fun s' I' _ => h s' I') hf
theorem Inv.vD {s' : Shared} {ch : List Addr} (I : Inv X pins σ H s) (ho : s'.os = s.os) (u : Un (uw X.stack) ch H H' s.heap s'.heap) (hok : fP X.prog X.w H' s'.heap) (hg : AllBare s'.gens)
    (hch : ∀ b ∈ ch, (b ∈ X.ex ∨ X.s₀.heap.objs.size ≤ b) ∧ b ≠ X.env.locals ∧ (∀ x c, X.env.cells.lookup x = some c → c ≠ b) ∧ ∀ p ∈ X.pn ++ pins, p.1 ≠ b) : Inv X pins σ H' s' := by
  obtain ⟨h', g', d', t', o'⟩ := s'
  have e : o' = s.os := ho
  subst e
  exact I.call (g' := g') (t' := t') (d' := d') u hok hg hch
end
abbrev XK := Value → Option Addr → Hp → Prop
abbrev St := List (Option V)
abbrev VK := V → Hp → Prop
abbrev TE := St → Hp → VK → Prop
abbrev TT := St → Hp → (Bool → Hp → Prop) → Prop
abbrev TA := St → Hp → (List V → Hp → Prop) → Prop
structure Ends where
  nx : St → Hp → Prop
  rt : VK
  bk : St → Hp → Prop := fun _ _ => False
  ct : St → Hp → Prop := fun _ _ => False
abbrev TS := Ends → St → Hp → Prop
inductive EP (X : Cx) (pins : List (Addr × Obj)) (σ : St) (Q : VK) (u : Value) (s' : Shared) : Prop
  | mk (v : V) (H' : Hp) (I : Inv X pins σ H' s') (r : RelV v u) (q : Q v H')
inductive TP (X : Cx) (pins : List (Addr × Obj)) (σ : St) (Q : Bool → Hp → Prop) (b : Bool) (s' : Shared) : Prop
  | mk (H' : Hp) (I : Inv X pins σ H' s') (q : Q b H')
inductive AP (X : Cx) (pins : List (Addr × Obj)) (σ : St) (Q : List V → Hp → Prop) (us : List Value) (s' : Shared) : Prop
  | mk (vs : List V) (H' : Hp) (I : Inv X pins σ H' s') (r : Vals vs us) (q : Q vs H')
inductive SN (X : Cx) (pins : List (Addr × Obj)) (k : St → Hp → Prop) (s' : Shared) : Prop
  | mk (σ' : St) (H' : Hp) (I : Inv X pins σ' H' s') (q : k σ' H')
def SP (X : Cx) (pins : List (Addr × Obj)) (D : Ends) (f : Flow) (s' : Shared) : Prop :=
  match f with
  | .next => SN X pins D.nx s'
  | .brk => SN X pins D.bk s'
  | .cont => SN X pins D.ct s'
  | .ret u => ∃ v σ' H', Inv X pins σ' H' s' ∧ RelV v u ∧ D.rt v H'
def PE (X : Cx) (e : Expr) (t : TE) : Prop :=
  ∀ (pins : List (Addr × Obj)) (s : Shared) (σ : St) (H : Hp) (Q : VK), Inv X pins σ H s → t σ H Q → wpAny (model X.prog X.w) X.A (eval e X.env) (EP X pins σ Q) X.xe s
def PT (X : Cx) (e : Expr) (t : TT) : Prop :=
  ∀ (pins : List (Addr × Obj)) (s : Shared) (σ : St) (H : Hp) (Q : Bool → Hp → Prop), Inv X pins σ H s → t σ H Q → wpAny (model X.prog X.w) X.A (isTrue e X.env (eval e X.env)) (TP X pins σ Q) X.xe s
def PW (X : Cx) (e : Expr) (t : TT) : Prop :=
  ∀ (whole : Sem Value) (pins : List (Addr × Obj)) (s : Shared) (σ : St) (H : Hp) (Q : Bool → Hp → Prop), Inv X pins σ H s → t σ H Q → wpAny (model X.prog X.w) X.A (isTrue e X.env whole) (TP X pins σ Q) X.xe s
theorem PW.pt {X : Cx} {e : Expr} {t : TT} (h : PW X e t) : PT X e t := h _
def PA (X : Cx) (es : List Expr) (t : TA) : Prop :=
  ∀ (pos : Pos) (pins : List (Addr × Obj)) (s : Shared) (σ : St) (H : Hp) (Q : List V → Hp → Prop), Inv X pins σ H s → t σ H Q → wpAny (model X.prog X.w) X.A (spliced (backTo pos (starEach es X.env))) (AP X pins σ Q) X.xe s
def PS (X : Cx) (st : Stmt) (t : TS) : Prop :=
  ∀ (pins : List (Addr × Obj)) (s : Shared) (σ : St) (H : Hp) (D : Ends), Inv X pins σ H s → t D σ H → wpAny (model X.prog X.w) X.A (exec st X.env) (SP X pins D) X.xe s
def pV (X : Cx) (st : List Stmt) (t : TS) : Prop :=
  ∀ (pins : List (Addr × Obj)) (s : Shared) (σ : St) (H : Hp) (D : Ends), Inv X pins σ H s → t D σ H → wpAny (model X.prog X.w) X.A (execs st X.env) (SP X pins D) X.xe s
theorem bU {α : Type} {t : Sem α} {Q Q' : α → Shared → Prop} {M : Model} {A : Around} {E : Value → Shared → Prop} {s : Shared} (h : wpAny M A t Q E s) (hQ : ∀ a s, Q a s → Q' a s) : wpAny M A t Q' E s := wpAny_mono h hQ fun _ _ x => x
end L2
namespace L2
open PySem PySem.Spec PyProof.Rows
section
variable {X : Cx}
inductive CB (i : Nat) (σ : St) (H : Hp) (Q : VK) : Prop
  | mk (v : V) (h : σ[i]? = some (some v)) (q : Q v H)
def iW (i : Nat) : TE := fun σ H Q => CB i σ H Q
inductive BU (x : V) (H : Hp) (Q : Bool → Hp → Prop) : Prop
  | mk (c : Bool) (h : x = .bl c) (q : Q c H)
def tC (v : V) : TE := fun _ H Q => Q v H
theorem ji {i : Nat} {x : Str} {pos : Pos} (hN : X.N[i]? = some x) (hv : CN X.env.scope x) (hd : (x == ("__debug__" : Str)) = false := by decide) (hcd : (x == ("__classdict__" : Str)) = false := by decide) : PE X (.Name x pos) (iW i) := by
  intro pins s σ H Q I h
  obtain ⟨v, e, h⟩ := h
  obtain ⟨m, hn, hl⟩ := I.loc
  obtain ⟨u, r, l⟩ := hl i x v hN e hv
  have fin : EP X pins σ Q u s := ⟨v, H, I, r, h⟩
  rcases l with ⟨hk, hm⟩ | ⟨hk, c, hc, hcell⟩
  · exact wpAny_Name (wpAny_loadName_local I.ok.kind hk hn hm fin) hd
  · rcases hk with hk | hk
    · exact wpAny_Name (wpAny_loadName_cell I.ok.kind hk hc hcell fin) hd
    · exact wpAny_Name (wpAny_loadName_free I.ok.kind hk hc hcell fin hcd) hd
theorem ag {i j pos} : PE X (.Constant (.int i) j pos) (tC (.int i)) := fun _ _ _ H _ I h => wpAny_Constant_int ⟨.int i, H, I.tok _, ⟨_, rfl⟩, h⟩
theorem dk {b j pos} : PE X (.Constant (.bool b) j pos) (tC (.bl b)) := fun _ _ _ H _ I h => Constant_bool ⟨.bl b, H, I, rfl, h⟩
theorem fu {j pos} : PE X (.Constant .none j pos) (tC .non) := fun _ _ _ H _ I h => Constant_none ⟨.non, H, I, rfl, h⟩
theorem ba {x j pos} : PE X (.Constant (.str x) j pos) (tC (.str x)) := fun _ _ _ H _ I h => Calls.Constant_str ⟨.str x, H, I.tok _, ⟨_, rfl⟩, h⟩
def Gl (X : Cx) (x : Str) : Prop := X.env.kindOf x = some .globalImplicit
theorem kj {E : Value → Shared → Prop} {pins : List (Addr × Obj)} {s : Shared} {σ : St} {H : Hp} {x : Str} {u : Value} {pos : Pos} {Q : Value → Shared → Prop} (I : Inv X pins σ H s) (hg : Gl X x) (hm : X.mg x = some u) (h : Q u s)
    (hd : (x == ("__debug__" : Str)) = false := by decide) : wpAny (model X.prog X.w) X.A (eval (.Name x pos) X.env) Q E s :=
  Calls.Name_function_global I.ok.kind hg (Calls.loadGlobal_global (by rw [I.ok.glob]; exact I.mod.glob.keeps I.bk) hm h) hd
theorem jc {E : Value → Shared → Prop} {pins : List (Addr × Obj)} {s : Shared} {σ : St} {H : Hp} {x : Str} {u : Value} {pos : Pos} {Q : Value → Shared → Prop} (I : Inv X pins σ H s) (hg : Gl X x) (hm : X.mg x = none) (hv : bootBuiltins x = some u) (h : Q u s)
    (hn : x ≠ "__name__" := by decide) (hd : (x == ("__debug__" : Str)) = false := by decide) : wpAny (model X.prog X.w) X.A (eval (.Name x pos) X.env) Q E s := by
  obtain ⟨mb, h1, h2⟩ := I.mod.blt
  exact Calls.Name_function_global I.ok.kind hg (Calls.loadGlobal_builtin (by rw [I.ok.glob]; exact I.mod.glob.keeps I.bk) hm (by rw [I.ok.blt]; exact h1.keeps I.bk) ((h2 x hn).trans hv) h) hd
theorem jX {x : Str} {v : V} {u : Value} {pos : Pos} (hg : Gl X x) (hm : X.mg x = some u) (r : RelV v u) (hd : (x == ("__debug__" : Str)) = false := by decide) : PE X (.Name x pos) (tC v) :=
  fun _ _ _ H _ I h => kj I hg hm ⟨v, H, I, r, h⟩ hd
theorem ki {x : Str} {v : V} {u : Value} {pos : Pos} (hg : Gl X x) (hm : X.mg x = none) (hv : bootBuiltins x = some u) (r : RelV v u) (hn : x ≠ "__name__" := by decide) (hd : (x == ("__debug__" : Str)) = false := by decide) : PE X (.Name x pos) (tC v) :=
  fun _ _ _ H _ I h => jc I hg hm hv ⟨v, H, I, r, h⟩ hn hd
def Ci (ta tb : TE) (k : Int → Int → Hp → Prop) : St → Hp → Prop := fun σ H => ta σ H fun x H1 => tb σ H1 fun y H2 => ∃ i j, x = .int i ∧ y = .int j ∧ k i j H2
def D3 (ta tb : TE) : TE := fun σ H Q => Ci ta tb (fun i j H2 => Q (.int (i + j)) H2) σ H
def Ek (ta tb : TE) : TE := fun σ H Q => Ci ta tb (fun i j H2 => Q (.int (i - j)) H2) σ H
def D0 (ta tb : TE) : TE := fun σ H Q => Ci ta tb (fun i j H2 => (-(2 ^ 64) < i ∧ i < 2 ^ 64) ∧ Q (.int (i * j)) H2) σ H
variable {a b : Expr} {ta tb : TE} {pos : Pos}
def PC (X : Cx) (op : CmpOp) (a b : Expr) (t : TE) : Prop :=
  ∀ (pins : List (Addr × Obj)) (s : Shared) (σ : St) (H : Hp) (Q : VK), Inv X pins σ H s → t σ H Q →
    wpAny (model X.prog X.w) X.A (eval a X.env) (fun v s₁ => wpAny (model X.prog X.w) X.A (eval b X.env) (fun u s₂ => wpAny (model X.prog X.w) X.A (compareOp op v u) (EP X pins σ Q) X.xe s₂) X.xe s₁) X.xe s
def tN (p : Int → Int → Bool) (ta tb : TE) : TE := fun σ H Q => Ci ta tb (fun i j H2 => Q (.bl (p i j)) H2) σ H
abbrev ER : TE → TE → TE := tN fun i j => decide (i < j)
abbrev EI : TE → TE → TE := tN fun i j => decide (i ≤ j)
abbrev EO : TE → TE → TE := tN fun i j => decide (j < i)
abbrev EK : TE → TE → TE := tN fun i j => decide (j ≤ i)
abbrev D6 : TE → TE → TE := tN fun i j => decide (i = j)
abbrev D7 : TE → TE → TE := tN fun i j => !decide (i = j)
def EG (ta : TE) : TE := fun σ H Q => ta σ H fun x H1 => Q (.bl (decide (x = .non))) H1
def DT (ta : TE) : TE := fun σ H Q => ta σ H fun x H1 => Q (.bl (!decide (x = .non))) H1
def tB (t : TE) : TT := fun σ H Q => t σ H fun x H1 => BU x H1 Q
theorem Af {op : CmpOp} {t : TE} (h : PC X op a b t) (h1 : behindInMarks op b = false := by first | exact nobehind _ (by decide) (by decide) | rfl) : PE X (.Compare a [op] [b] pos) t := fun pins s σ H Q I hw => wpAny_Compare1 (h pins s σ H Q I hw) h1
theorem vY {op : CmpOp} {t : TE} (h : PC X op a b t) (h1 : behindInMarks op b = false := by first | exact nobehind _ (by decide) (by decide) | rfl) : PT X (.Compare a [op] [b] pos) (tB t) := by
  intro pins s σ H Q I hw
  refine wpAny_isTrue_Compare1 (bU (h pins s σ H _ I hw) fun v s1 h1 => bU h1 fun u s2 h2 => bU h2 fun c s3 hpat => ?_) h1
  obtain ⟨x, H1, I1, r1, q1⟩ := hpat
  obtain ⟨d, rfl, q⟩ := q1
  cases r1
  exact wpAny_truthy_bool ⟨H1, I1, q⟩
theorem qW {e : Expr} {t : TE} (h : PE X e t) (he : ∀ whole, isTrue e X.env whole = (do let v ← whole; standAt e.pos; holding [v] (truthy v)) := by intro _; rfl) : PT X e (tB t) := by
  intro pins s σ H Q I hw
  refine isTrue_plain (bU (h pins s σ H _ I hw) fun v s1 hpat => ?_) (he _)
  obtain ⟨x, H1, I1, r1, q1⟩ := hpat
  obtain ⟨d, rfl, q⟩ := q1
  cases r1
  exact wpAny_truthy_bool ⟨H1, I1, q⟩
variable {tA tB' : TT} {rest : List Expr}
def BN (t u : TT) : TT := fun σ H Q => t σ H fun c H1 => if c = true then u σ H1 Q else Q false H1
def DK (t u : TT) : TT := fun σ H Q => t σ H fun c H1 => if c = true then Q true H1 else u σ H1 Q
def AJ (t : TT) : TT := fun σ H Q => t σ H fun c H1 => Q (!c) H1
theorem dv (ha : PT X a tA) : PW X (.BoolOp .And [a] pos) tA := by
  intro wh pins s σ H Q I h
  refine isTrue_and (bU (ha pins s σ H Q I h) fun c s1 e => ?_)
  cases c with
  | true => exact isTrue_and_nil e
  | false => exact e
theorem d7 (ha : PT X a tA) : PW X (.BoolOp .Or [a] pos) tA := by
  intro wh pins s σ H Q I h
  refine isTrue_or (bU (ha pins s σ H Q I h) fun c s1 e => ?_)
  cases c with
  | false => exact isTrue_or_nil e
  | true => exact e
theorem di (ha : PT X a tA) (hb : PW X (.BoolOp .And (b :: rest) pos) tB') : PW X (.BoolOp .And (a :: b :: rest) pos) (BN tA tB') := by
  intro wh pins s σ H Q I h
  refine isTrue_and (bU (ha pins s σ H _ I h) fun c s1 ⟨H1, I1, q1⟩ => ?_)
  cases c with
  | true => exact hb wh pins s1 σ H1 Q I1 q1
  | false => exact ⟨H1, I1, q1⟩
theorem fq (ha : PT X a tA) (hb : PW X (.BoolOp .Or (b :: rest) pos) tB') : PW X (.BoolOp .Or (a :: b :: rest) pos) (DK tA tB') := by
  intro wh pins s σ H Q I h
  refine isTrue_or (bU (ha pins s σ H _ I h) fun c s1 ⟨H1, I1, q1⟩ => ?_)
  cases c with
  | true => exact ⟨H1, I1, q1⟩
  | false => exact hb wh pins s1 σ H1 Q I1 q1
theorem cq (ha : PT X a tA) : PT X (.UnaryOp .Not a pos) (AJ tA) := by
  intro pins s σ H Q I h
  exact isTrue_not (bU (ha pins s σ H (fun c H1 => Q (!c) H1) I h) fun c s1 q => q.casesOn fun H1 I1 q1 => ⟨H1, I1, q1⟩)
def yI (ta tb : TE) : TE := fun σ H Q => ta σ H fun x H1 => BU x H1 fun c H2 => if c = true then tb σ H2 Q else Q (.bl false) H2
def xR (ta tb : TE) : TE := fun σ H Q => ta σ H fun x H1 => BU x H1 fun c H2 => if c = true then Q (.bl true) H2 else tb σ H2 Q
def yE (ta : TE) : TE := fun σ H Q => ta σ H fun x H1 => BU x H1 fun c H2 => Q (.bl (!c)) H2
theorem bD {op} {t : TE} (h : PE X a t) : PE X (.BoolOp op [a] pos) t := fun pins s σ H Q I hw => BoolOp_one (h pins s σ H Q I hw)
theorem bz (ha : PE X a ta) (hb : PE X (.BoolOp .And (b :: rest) pos) tb) : PE X (.BoolOp .And (a :: b :: rest) pos) (yI ta tb) := by
  intro pins s σ H Q I h
  refine BoolOp_and (bU (ha pins s σ H _ I h) fun v s1 hpat => ?_)
  obtain ⟨x, H1, I1, r1, q1⟩ := hpat
  obtain ⟨c, rfl, q1⟩ := q1
  cases r1
  refine wpAny_truthy_bool ?_
  cases c with
  | true => exact hb pins s1 σ H1 Q I1 q1
  | false => exact ⟨.bl false, H1, I1, rfl, q1⟩
theorem pf (ha : PE X a ta) (hb : PE X (.BoolOp .Or (b :: rest) pos) tb) : PE X (.BoolOp .Or (a :: b :: rest) pos) (xR ta tb) := by
  intro pins s σ H Q I h
  refine BoolOp_or (bU (ha pins s σ H _ I h) fun v s1 hpat => ?_)
  obtain ⟨x, H1, I1, r1, q1⟩ := hpat
  obtain ⟨c, rfl, q1⟩ := q1
  cases r1
  refine wpAny_truthy_bool ?_
  cases c with
  | false => exact hb pins s1 σ H1 Q I1 q1
  | true => exact ⟨.bl true, H1, I1, rfl, q1⟩
theorem oh (ha : PE X a ta) : PE X (.UnaryOp .Not a pos) (yE ta) := by
  intro pins s σ H Q I h
  refine UnaryOp_ (bU (ha pins s σ H _ I h) fun v s1 hpat => ?_)
  obtain ⟨x, H1, I1, r1, q1⟩ := hpat
  obtain ⟨c, rfl, q1⟩ := q1
  cases r1
  exact not_of (wpAny_truthy_bool ⟨.bl (!c), H1, I1, rfl, q1⟩)
def DL (t : TT) (ta tb : TE) : TE := fun σ H Q => t σ H fun c H1 => if c = true then ta σ H1 Q else tb σ H1 Q
theorem v9 {c : Expr} (hc : PT X c tA) (ha : PE X a ta) (hb : PE X b tb) : PE X (.IfExp c a b pos) (DL tA ta tb) := by
  intro pins s σ H Q I h
  refine wpAny_IfExp (bU (hc pins s σ H _ I h) fun d s1 ⟨H1, I1, q1⟩ => ?_)
  cases d with
  | true => exact ha pins s1 σ H1 Q I1 q1
  | false => exact hb pins s1 σ H1 Q I1 q1
end
end L2
namespace L2
open PySem PySem.Spec PyProof.Rows
def aJ (K : PySem.W.Frag) (H : Hp) (a : Addr) (xs : List V) : Prop :=
  Rd H a (.lst xs) ∨
    ∃ (o : Obj) (its : Array Value) (n : Nat), K.lookup a = some o ∧ o.cls = .type "list" ∧ o.dict = none ∧ o.data = .seq its n ∧ its.size ≤ sizeLine ∧ Vals xs its.toList
def aL (K : PySem.W.Frag) (H : Hp) (a : Addr) (xs : List V) : Prop :=
  Rd H a (.tup xs) ∨
    ∃ (o : Obj) (its : Array Value) (n : Nat), K.lookup a = some o ∧ o.cls = .type "tuple" ∧ o.data = .seq its n ∧ its.size ≤ sizeLine ∧ Vals xs its.toList
def Cq : Value → Option V
  | .none => some .non
  | .bool b => some (.bl b)
  | .int i _ => some (.int i)
  | .str x _ => some (.str x)
  | .bytes b _ => some (.byt b)
  | .float b _ => some (.flt b)
  | .ref a => some (.ref a)
  | .type n => some (.ty n)
  | _ => none
theorem RelV.abs {x : V} {u : Value} (r : RelV x u) : Cq u = some x := by
  cases x with
  | non => cases r; rfl
  | bl _ => cases r; rfl
  | int _ => obtain ⟨t, rfl⟩ := r; rfl
  | str _ => obtain ⟨t, rfl⟩ := r; rfl
  | byt _ => obtain ⟨t, rfl⟩ := r; rfl
  | flt _ => obtain ⟨t, rfl⟩ := r; rfl
  | ref _ => cases r; rfl
  | ty _ => cases r; rfl
theorem RelV.inj {x y : V} {u : Value} (r : RelV x u) (q : RelV y u) : x = y := Option.some.inj (r.abs.symm.trans q.abs)
theorem Vals.inj : ∀ {xs ys : List V} {us : List Value}, Vals xs us → Vals ys us → xs = ys
  | _, _, _, .nil, .nil => rfl
  | _, _, _, .cons r t, .cons r' t' => by rw [r.inj r', Vals.inj t t']
section
variable {X : Cx} {pins : List (Addr × Obj)} {σ : St} {H : Hp} {s : Shared} {a : Addr} {xs ys : List V}
theorem aJ.of {K : PySem.W.Frag} (h : H a = some (.lst xs)) : aJ K H a xs := .inl (.inl h)
theorem aL.of {K : PySem.W.Frag} (h : H a = some (.tup xs)) : aL K H a xs := .inl (.inl h)
theorem Inv.list (I : Inv X pins σ H s) (h : aJ X.K H a xs) : ∃ its : List Value, Vals xs its ∧ PlainL s.heap a its.toArray ∧ xs.length ≤ sizeLine := by
  rcases h with h | ⟨o, its, n, hk, hc, hd, hs, hz, r⟩
  · obtain ⟨z, its, n, r, e⟩ := h.ok I.hok
    exact ⟨its, r, ⟨_, n, e, rfl, rfl, rfl⟩, z⟩
  · refine ⟨its.toList, r, ⟨o, n, I.jU a o hk, hc, hd, by simpa using hs⟩, ?_⟩
    have e := r.length
    simp only [Array.length_toList] at e
    omega
theorem Inv.tuple (I : Inv X pins σ H s) (h : aL X.K H a xs) : ∃ its : List Value, Vals xs its ∧ IsTup s.heap a its.toArray ∧ xs.length ≤ sizeLine := by
  rcases h with h | ⟨o, its, n, hk, hc, hs, hz, r⟩
  · obtain ⟨z, its, r, p⟩ := h.ok I.hok
    exact ⟨its, r, p, z⟩
  · refine ⟨its.toList, r, ⟨o, I.jU a o hk, hc, n, by simpa using hs⟩, ?_⟩
    have e := r.length
    simp only [Array.length_toList] at e
    omega
theorem Inv.o3 (I : Inv X pins σ H s) (h : aJ X.K H a xs) (h' : aJ X.K H a ys) : xs = ys := by
  obtain ⟨its, r, ⟨o, n, e, _, _, d⟩, _⟩ := I.list h
  obtain ⟨its', r', ⟨o', n', e', _, _, d'⟩, _⟩ := I.list h'
  rw [e] at e'; cases e'
  rw [d] at d'
  injection d' with d1 _
  have : its = its' := by simpa using congrArg Array.toList d1
  subst this
  exact r.inj r'
theorem Inv.uD (I : Inv X pins σ H s) (h : aL X.K H a xs) (h' : aL X.K H a ys) : xs = ys := by
  obtain ⟨its, r, ⟨o, e, _, n, d⟩, _⟩ := I.tuple h
  obtain ⟨its', r', ⟨o', e', _, n', d'⟩, _⟩ := I.tuple h'
  rw [e] at e'; cases e'
  rw [d] at d'
  injection d' with d1 _
  have : its = its' := by simpa using congrArg Array.toList d1
  subst this
  exact r.inj r'
end
abbrev Cx.lS (X : Cx) (E : Value → Shared → Prop) : Cx := { X with xe := E }
abbrev Cx.AL (X : Cx) : Cx := X.lS fun _ _ => False
theorem Cx.Ok.lS {X : Cx} (ok : X.Ok) (E : Value → Shared → Prop) : (X.lS E).Ok :=
  ⟨ok.mod, ok.kind, ok.glob, ok.blt, ok.above, ok.inj, ok.has, ok.cab, ok.hd, ok.frames, ok.stk, ok.exf, ok.bs, ok.bsz, ok.noex, ok.exfs, ok.jx, ok.frf⟩
theorem Cx.Ok.gK {X : Cx} {E : Value → Shared → Prop} (ok : (X.lS E).Ok) : X.Ok :=
  ⟨ok.mod, ok.kind, ok.glob, ok.blt, ok.above, ok.inj, ok.has, ok.cab, ok.hd, ok.frames, ok.stk, ok.exf, ok.bs, ok.bsz, ok.noex, ok.exfs, ok.jx, ok.frf⟩
section
variable {X : Cx} {pins : List (Addr × Obj)} {σ : St} {H : Hp} {s : Shared} {E : Value → Shared → Prop}
theorem Inv.lS (I : Inv X pins σ H s) (E : Value → Shared → Prop) : Inv (X.lS E) pins σ H s := ⟨I.ok.lS E, I.os, I.bare, I.base, I.loc, I.cell, I.free, I.freeC, I.pin, I.hok, I.len⟩
theorem Inv.gK (I : Inv (X.lS E) pins σ H s) : Inv X pins σ H s := ⟨I.ok.gK, I.os, I.bare, I.base, I.loc, I.cell, I.free, I.freeC, I.pin, I.hok, I.len⟩
theorem SP.gK {D : Ends} {f : Flow} {s' : Shared} (h : SP (X.lS E) pins D f s') : SP X pins D f s' := by
  cases f with
  | next => obtain ⟨σ', H', I, q⟩ := h; exact ⟨σ', H', I.gK, q⟩
  | brk => obtain ⟨σ', H', I, q⟩ := h; exact ⟨σ', H', I.gK, q⟩
  | cont => obtain ⟨σ', H', I, q⟩ := h; exact ⟨σ', H', I.gK, q⟩
  | ret u => obtain ⟨v, σ', H', I, r, q⟩ := h; exact ⟨v, σ', H', I.gK, r, q⟩
theorem pV.AL {st : List Stmt} {t : TS} (h : pV X.AL st t) : pV X st t := fun pins s σ H D I hw =>
  wpAny_mono (h pins s σ H D (I.lS _) hw) (fun _ _ q => q.gK) fun _ _ z => False.elim z
end
section
variable {X : Cx} {st : Stmt} {rest : List Stmt} {t u : TS} {e : Expr} {te : TE} {pos : Pos}
def pH : TS := fun D σ H => D.nx σ H
def uz (t u : TS) : TS := fun D σ H => t { D with nx := u D } σ H
theorem aM : pV X [] pH := fun _ _ σ H _ I h => wpAny_execs_nil ⟨σ, H, I, h⟩
theorem ah (h1 : PS X st t) (h2 : pV X rest u) : pV X (st :: rest) (uz t u) := by
  intro pins s σ H D I h
  refine wpAny_execs_cons (bU (h1 pins s σ H { D with nx := u D } I h) fun f s1 q => ?_)
  cases f with
  | next =>
    obtain ⟨σ', H', I', q⟩ := q
    exact h2 pins s1 σ' H' D I' q
  | ret v => exact q
  | brk => exact q
  | cont => exact q
theorem ak (h1 : PS X st t) : pV X [st] t := by
  intro pins s σ H D I h
  refine wpAny_execs_cons (bU (h1 pins s σ H D I h) fun f s1 q => ?_)
  cases f with
  | next => exact wpAny_execs_nil q
  | ret v => exact q
  | brk => exact q
  | cont => exact q
def CO : TS := fun D σ H => D.bk σ H
def DI : TS := fun D σ H => D.ct σ H
theorem Inv.quiet {pins : List (Addr × Obj)} {σ : St} {H : Hp} {s : Shared} (I : Inv X pins σ H s) : interactive X.env = false := by simp [interactive, I.ok.kind]
def vv (te : TE) : TS := fun D σ H => te σ H fun _ H1 => D.nx σ H1
theorem wU (he : PE X e te) (hs : swapsWith e none pos.line X.env = pure false := by rfl) : PS X (.Expr e pos) (vv te) := by
  intro pins s σ H D I h
  exact wpAny_Expr_any (bU (he pins s σ H _ I h) fun v s1 ⟨x, H1, I1, r1, q1⟩ => ⟨σ, H1, I1, q1⟩) I.quiet hs
def Bw (te : TE) : TS := fun D σ H => te σ H D.rt
theorem aE (he : PE X e te) : PS X (.Return (some e) pos) (Bw te) := by
  intro pins s σ H D I h
  exact wpAny_Return_some (bU (he pins s σ H _ I h) fun v s1 ⟨x, H1, I1, r1, q1⟩ => ⟨x, σ, H1, I1, r1, q1⟩)
def DO : TS := fun D _ H => D.rt .non H
def uP (c : TT) (t u : TS) : TS := fun D σ H => c σ H fun b H1 => if b = true then t D σ H1 else u D σ H1
theorem bp {c : Expr} {a b : List Stmt} {tc : TT} (hc : PT X c tc) (ha : pV X a t) (hb : pV X b u) : PS X (.If c a b pos) (uP tc t u) := by
  intro pins s σ H D I h
  refine wpAny_If (bU (hc pins s σ H _ I h) fun d s1 ⟨H1, I1, q1⟩ => ?_)
  cases d with
  | true => exact ha pins s1 σ H1 D I1 q1
  | false => exact hb pins s1 σ H1 D I1 q1
def uS : TS := fun _ _ _ => False
theorem eO {sts : List Stmt} : pV X sts uS := fun _ _ _ _ _ _ h => h.elim
end
abbrev TG := V → St → Hp → (St → Hp → Prop) → Prop
abbrev mQ := List V → St → Hp → (St → Hp → Prop) → Prop
def PG (X : Cx) (target : Expr) (t : TG) : Prop :=
  ∀ (pins : List (Addr × Obj)) (s : Shared) (σ : St) (H : Hp) (v : V) (u : Value) (Q : St → Hp → Prop), Inv X pins σ H s → RelV v u → t v σ H Q →
    wpAny (model X.prog X.w) X.A (assign target X.env u) (fun _ s' => ∃ σ' H', Inv X pins σ' H' s' ∧ Q σ' H') X.xe s
def BP (X : Cx) (ts : List Expr) (t : mQ) : Prop :=
  ∀ (pins : List (Addr × Obj)) (s : Shared) (σ : St) (H : Hp) (vs : List V) (us : List Value) (Q : St → Hp → Prop), Inv X pins σ H s → Vals vs us → t vs σ H Q →
    wpAny (model X.prog X.w) X.A (assignInOrder ((assignEach ts X.env).map (·.2)) us) (fun _ s' => ∃ σ' H', Inv X pins σ' H' s' ∧ Q σ' H') X.xe s
abbrev zc := V → V → V → Hp → (Hp → Prop) → Prop
def Es (X : Cx) (t : zc) : Prop :=
  ∀ (pins : List (Addr × Obj)) (s : Shared) (σ : St) (H : Hp) (o i v : V) (ov iv u : Value) (Q : Hp → Prop), Inv X pins σ H s → RelV o ov → RelV i iv → RelV v u → t o i v H Q →
    wpAny (model X.prog X.w) X.A (setItem ov iv u) (fun _ s' => ∃ H', Inv X pins σ H' s' ∧ Q H') X.xe s
abbrev Ce := V → V → Hp → VK → Prop
def EM (X : Cx) (op : Operator) (t : Ce) : Prop :=
  ∀ (pins : List (Addr × Obj)) (s : Shared) (σ : St) (H : Hp) (x y : V) (v u : Value) (Q : VK), Inv X pins σ H s → RelV x v → RelV y u → t x y H Q →
    wpAny (model X.prog X.w) X.A (inplaceOp op v u) (EP X pins σ Q) X.xe s
section
variable {X : Cx} {pos : Pos}
def dZ (i : Nat) : TG := fun v σ H Q => Q (σ.set i (some v)) H
theorem kq {i : Nat} {x : Str} (hN : X.N.Nodup) (hi : X.N[i]? = some x) (hx : Loc X.env.scope x) (hf : X.fn x = true ∨ X.env.scope.names.lookup x = some .local := by first | exact .inl rfl | exact .inr rfl | assumption) : PG X (.Name x pos) (dZ i) := by
  intro pins s σ H v u Q I r h
  exact wpAny_assign_Name (pL I hN hi hx r (fun s' I' => ⟨_, H, I', h⟩) hf)
def Bu : mQ := fun vs σ H Q => vs = [] ∧ Q σ H
inductive Bc (t : TG) (u : mQ) (vs : List V) (σ : St) (H : Hp) (Q : St → Hp → Prop) : Prop
  | mk (v : V) (r : List V) (e : vs = v :: r) (q : t v σ H fun σ' H' => u r σ' H' Q)
def yU (t : TG) (u : mQ) : mQ := fun vs σ H Q => Bc t u vs σ H Q
theorem cD : BP X [] Bu := by
  intro pins s σ H vs us Q I r h
  obtain ⟨e, h⟩ := h
  subst e
  cases r
  exact assignInOrder_nil ⟨σ, H, I, h⟩
theorem vZ {e : Expr} {es : List Expr} {t : TG} {u : mQ} (h1 : PG X e t) (h2 : BP X es u)
    (hs : (assignEach (e :: es) X.env).map (·.2) = assign e X.env :: (assignEach es X.env).map (·.2) := by rfl) : BP X (e :: es) (yU t u) := by
  intro pins s σ H vs us Q I r h
  obtain ⟨v, vr, e1, h⟩ := h
  subst e1
  cases r with
  | cons r rr =>
    rw [hs]
    refine assignInOrder_cons (bU (h1 pins s σ H _ _ _ I r h) fun _ s1 hpat => ?_)
    obtain ⟨σ1, H1, I1, q1⟩ := hpat
    exact h2 pins s1 σ1 H1 _ _ Q I1 rr q1
inductive C2 (K : PySem.W.Frag) (n : Nat) (t : mQ) (v : V) (σ : St) (H : Hp) (Q : St → Hp → Prop) : Prop
  | mk (a : Addr) (xs : List V) (hv : v = .ref a) (s : aL K H a xs) (e : xs.length = n) (q : t xs σ H Q)
def zU (K : PySem.W.Frag) (n : Nat) (t : mQ) : TG := fun v σ H Q => C2 K n t v σ H Q
theorem dX {es : List Expr} {k : Nat} {t : mQ} {n : Nat} (hc : X.calm = true) (h : BP X es t)
    (hn : (assignEach es X.env).length = n := by rfl) (hst : (assignEach es X.env).findIdx? (·.1) = none := by rfl) : PG X (.Tuple es k pos) (zU X.K n t) := by
  intro pins s σ H v u Q I r hw
  obtain ⟨a, xs, e1, hq, hl, hw⟩ := hw
  subst e1
  cases r
  obtain ⟨its, rv, ht, hz⟩ := I.tuple hq
  refine assign_Tuple_tuple (I.ok.hd hc) ht (by simp [hn, ← hl, rv.length]) hst fun h' hx => ?_
  have I1 : Inv X pins σ H { s with heap := h' } := I.kept (t' := s.toks) fun b o e => hx b o (Nat.ne_of_lt (Heap.lt_size e)) e
  exact h pins _ σ H xs _ Q I1 (by simpa using rv) hw
def DX (to ti : TE) (t : zc) : TG := fun v σ H Q => to σ H fun o H1 => ti σ H1 fun i H2 => t o i v H2 fun H3 => Q σ H3
def oy (te : TE) (g : TG) : TS := fun D σ H => te σ H fun x H1 => g x σ H1 D.nx
theorem Ah {tg e : Expr} {te : TE} {g : TG} (he : PE X e te) (hg : PG X tg g) (hs : swapsWithSole [tg] e pos.line X.env = pure false := by rfl) (hw : swappedStores [tg] e X.env = pure none := by rfl)
    (h1 : (assignEach [tg] X.env).map (·.2) = [assign tg X.env] := by rfl) : PS X (.Assign [tg] e pos) (oy te g) := by
  intro pins s σ H D I h
  refine wpAny_Assign_stores (bU (he pins s σ H _ I h) fun v s1 hpat => ?_) hs hw
  obtain ⟨x, H1, I1, r1, q1⟩ := hpat
  rw [h1]
  exact bU (hg pins s1 σ H1 x v _ I1 r1 q1) fun _ s2 ⟨a, b, c, d⟩ => ⟨a, b, c, d⟩
theorem Au {i : Nat} {x : Str} {e : Expr} {te : TE} {pos' : Pos} (hN : X.N.Nodup) (hi : X.N[i]? = some x) (hx : Loc X.env.scope x) (he : PE X e te) (hs : swapsWith e (some (.Name x pos')) pos.line X.env = pure false := by rfl) (hf : X.fn x = true ∨ X.env.scope.names.lookup x = some .local := by first | exact .inl rfl | exact .inr rfl | assumption) :
    PS X (.Assign [.Name x pos'] e pos) (oy te (dZ i)) := by
  intro pins s σ H D I h
  refine wpAny_Assign_Name (bU (he pins s σ H _ I h) fun v s1 hpat => ?_) hs
  obtain ⟨y, H1, I1, r1, q1⟩ := hpat
  exact pL I1 hN hi hx r1 (fun s2 I2 => ⟨_, H1, I2, q1⟩) hf
def Ez (i j : Nat) (ta : TA) : TS := fun D σ H => ta σ H fun vs H1 => ∃ v w, vs = [v, w] ∧ D.nx ((σ.set i (some v)).set j (some w)) H1
def Ej (i : Nat) (te : TE) (ti : Ce) : TS := fun D σ H => ∃ x, σ[i]? = some (some x) ∧ te σ H fun y H1 => ti x y H1 fun z H2 => D.nx (σ.set i (some z)) H2
def DN (to ti te : TE) (tget : V → V → Hp → VK → Prop) (tip : Ce) (tset : zc) : TS := fun D σ H => to σ H fun o H1 => ti σ H1 fun i H2 => tget o i H2 fun x H3 => te σ H3 fun y H4 => tip x y H4 fun z H5 => tset o i z H5 fun H6 => D.nx σ H6
def DZ (X : Cx) (t : V → V → Hp → VK → Prop) : Prop :=
  ∀ (pins : List (Addr × Obj)) (s : Shared) (σ : St) (H : Hp) (o i : V) (ov iv : Value) (Q : VK), Inv X pins σ H s → RelV o ov → RelV i iv → t o i H Q →
    wpAny (model X.prog X.w) X.A (getItem ov iv) (EP X pins σ Q) X.xe s
def EH (f : Int → Int → Int) : Ce := fun x y H Q => ∃ i j, x = .int i ∧ y = .int j ∧ Q (.int (f i j)) H
end
section
variable {X : Cx} {pos : Pos}
def uW (c : TT) (tb : TS) : TS := fun D σ H => ∃ W : Nat → St → Hp → Prop, (∃ m, W m σ H) ∧ ∀ m σ H, W m σ H →
  c σ H fun b H1 => if b = true then ∃ N : St → Hp → Prop, (∀ σ' H', N σ' H' → ∃ m', m' < m ∧ W m' σ' H') ∧ tb { D with nx := N, ct := N, bk := D.nx } σ H1 else D.nx σ H1
theorem wk {c : Expr} {body : List Stmt} {tc : TT} {tb : TS} (hp : PassesOwn (model X.prog X.w) X.A X.env X.xe) (hc : PT X c tc) (hb : pV X body tb) : PS X (.While c body [] pos) (uW tc tb) := by
  intro pins s σ H D I h
  obtain ⟨W, ⟨m0, w0⟩, turn⟩ := h
  refine wpAny_While (codeAny_whileLoop (fun n s' => ∃ σ' H', Inv X pins σ' H' s' ∧ W n σ' H') ?_ m0 ⟨σ, H, I, w0⟩)
  rintro n s1 ⟨σ1, H1, I1, w1⟩
  refine wpAny_passesOwn hp (bU (hc pins s1 σ1 H1 _ I1 (turn n σ1 H1 w1)) fun b s2 ⟨H2, I2, q2⟩ => ?_)
  cases b with
  | true =>
    obtain ⟨N, hN, q2⟩ := q2
    rw [if_pos rfl]
    refine wpAny_passesOwn hp (bU (hb pins s2 σ1 H2 _ I2 q2) fun f s3 q3 => ?_)
    cases f with
    | next =>
      obtain ⟨σ3, H3, I3, n3⟩ := q3
      obtain ⟨m', hm, w3⟩ := hN σ3 H3 n3
      exact ⟨m', hm, σ3, H3, I3, w3⟩
    | cont =>
      obtain ⟨σ3, H3, I3, n3⟩ := q3
      obtain ⟨m', hm, w3⟩ := hN σ3 H3 n3
      exact ⟨m', hm, σ3, H3, I3, w3⟩
    | brk => exact q3
    | ret v => exact q3
  | false =>
    rw [if_neg Bool.false_ne_true]
    exact wpAny_execs_nil ⟨σ1, H2, I2, q2⟩
end
structure It where
  go : Nat → Hp → Prop
  yld : Nat → Hp → V → Hp → Prop
  stop : Nat → Hp → Prop
def jO (X : Cx) (pins : List (Addr × Obj)) (H : Hp) (b : Addr) : Prop :=
  H b = none ∧ b ≠ X.env.locals ∧ b ∉ X.fs ∧ (b ∈ X.ex ∨ X.s₀.heap.objs.size ≤ b) ∧ (∀ x c, X.env.cells.lookup x = some c → c ≠ b) ∧ ∀ p ∈ X.pn ++ pins, p.1 ≠ b
theorem Inv.sQ {X : Cx} {pins : List (Addr × Obj)} {σ : St} {H H' : Hp} {s : Shared} {b : Addr} (I : Inv X pins σ H s) (hb : s.heap.objs.size ≤ b) (hn : H' b = none) : jO X pins H' b := by
  refine ⟨hn, Nat.ne_of_gt (Nat.lt_of_lt_of_le I.lt hb), I.Dc hb, .inr (Nat.le_trans I.sz hb), fun x c e z => ?_, fun p hp z => ?_⟩
  · obtain ⟨v, q⟩ := I.cell x c e
    exact absurd (Nat.lt_of_lt_of_le q.lt (by rw [z]; exact hb)) (Nat.lt_irrefl _)
  · exact absurd (Nat.lt_of_lt_of_le (Heap.lt_size (I.pin p hp).1) (by rw [z]; exact hb)) (Nat.lt_irrefl _)
structure Turn (P : Program) (w : World) (K : PySem.W.Frag) (tg : Expr) (J : It) (fp : List Addr) (it : Addr) (tn : Nat → Heap → Prop) : Prop where
  mem : it ∈ fp
  obj : ∀ i h, tn i h → ∀ b ∈ fp, ∃ o, h.get? b = some o ∧ ∀ v, o.data ≠ .cell v
  keep : ∀ i h h', tn i h → (∀ b ∈ fp, ∀ o, h.get? b = some o → h'.get? b = some o) → tn i h'
  item : ∀ (X : Cx), X.prog = P → X.w = w → X.K = K → X.calm = true → ∀ (i : Nat) (pins : List (Addr × Obj)) (s : Shared) (σ : St) (H : Hp) (E : Value → Shared → Prop), Inv X pins σ H s → (∀ b ∈ fp, jO X pins H b) → tn i s.heap → J.go i H →
    wpAny (model P w) X.A (pyNext (.ref it)) (fun r s1 => ∃ u, r = some u ∧
      wpAny (model P w) X.A (letOwnedTupleGo tg (.ref it) u) (fun _ s2 => ∃ x H', Inv X pins σ H' s2 ∧ RelV x u ∧ J.yld i H x H' ∧ tn (i + 1) s2.heap ∧ ∀ b ∈ fp, H' b = none) E s1) E s
  done : ∀ (X : Cx), X.prog = P → X.w = w → X.K = K → X.calm = true → ∀ (i : Nat) (pins : List (Addr × Obj)) (s : Shared) (σ : St) (H : Hp) (E : Value → Shared → Prop), Inv X pins σ H s → (∀ b ∈ fp, jO X pins H b) → tn i s.heap → J.stop i H →
    wpAny (model P w) X.A (pyNext (.ref it)) (fun r s1 => r = none ∧ Inv X pins σ H s1) E s
  self : ∀ (A : Around) (i : Nat) (s : Shared) (Q : Value → Shared → Prop) (E : Value → Shared → Prop), tn i s.heap → Q (.ref it) s → wpAny (model P w) A (pyIter (.ref it)) Q E s
abbrev TI := St → Hp → (It → Hp → Prop) → Prop
def Cs (X : Cx) (pins : List (Addr × Obj)) (σ : St) (tg : Expr) (R : It → Hp → Prop) (itv : Value) (s2 : Shared) : Prop :=
  ∃ (it : Addr) (fp : List Addr) (tn : Nat → Heap → Prop) (J : It) (H' : Hp), itv = .ref it ∧ Inv X pins σ H' s2 ∧ Turn X.prog X.w X.K tg J fp it tn ∧ tn 0 s2.heap ∧ (∀ b ∈ fp, jO X pins H' b) ∧ R J H'
def PI (X : Cx) (tg iter : Expr) (wi : TI) : Prop :=
  ∀ (pins : List (Addr × Obj)) (s : Shared) (σ : St) (H : Hp) (R : It → Hp → Prop), Inv X pins σ H s → wi σ H R →
    wpAny (model X.prog X.w) X.A (eval iter X.env) (fun v s1 => wpAny (model X.prog X.w) X.A (pyIter v) (Cs X pins σ tg R) X.xe s1) X.xe s
theorem rD {M : Model} {A : Around} {E : Value → Shared → Prop} {s : Shared} {tg : Expr} {it : Addr} {u : Value} {o : Obj} {n : String} {vs : Array Value} {Q : Unit → Shared → Prop} (ho : s.heap.get? it = some o) (hc : o.cls = .type n) (hd : o.data = .fields vs)
    (hn : ["enumerate", "zip", "dict_itemiterator", "dict_reverseitemiterator", "odict_iterator", "itertools.zip_longest", "itertools.pairwise"].contains n = false) (hQ : Q () s) : wpAny M A (letOwnedTupleGo tg (.ref it) u) Q E s := by
  unfold letOwnedTupleGo
  cases tg <;> first
    | exact wpAny_pure hQ
    | (cases u <;> first
        | exact wpAny_pure hQ
        | (refine wpAny_bind (wpAny_load ho ?_)
           rw [hc, hd]
           show wpAny M A (if (["enumerate", "zip", "dict_itemiterator", "dict_reverseitemiterator", "odict_iterator", "itertools.zip_longest", "itertools.pairwise"].contains n && vs[0]? == some (rawInt _)) = true then _ else _) Q E s
           rw [if_neg (by intro h; rw [hn, Bool.false_and] at h; cases h)]
           exact wpAny_pure hQ))
def xF (K : PySem.W.Frag) (a : Addr) : It :=
  ⟨fun i H => ∃ xs x, aJ K H a xs ∧ xs[i]? = some x, fun i H x H' => H' = H ∧ ∀ xs, aJ K H a xs → xs[i]? = some x, fun i H => ∃ xs, aJ K H a xs ∧ xs.length ≤ i⟩
def CF (K : PySem.W.Frag) (a : Addr) : It :=
  ⟨fun i H => ∃ xs x, aL K H a xs ∧ xs[i]? = some x, fun i H x H' => H' = H ∧ ∀ xs, aL K H a xs → xs[i]? = some x, fun i H => ∃ xs, aL K H a xs ∧ xs.length ≤ i⟩
def wZ (lo : Int) (n : Nat) : It := ⟨fun i _ => i < n, fun i H x H' => H' = H ∧ x = .int (lo + i), fun i _ => n ≤ i⟩
theorem sX {P : Program} {w : World} {K : PySem.W.Frag} {tg : Expr} (a it : Addr) : Turn P w K tg (xF K a) [it] it (fun i h => h.IsListIter it a i) where
  mem := by simp
  obj := fun i h st b hb => by
    have e : b = it := by simpa using hb
    subst e
    obtain ⟨o, e, c, d⟩ := st
    exact ⟨o, e, fun v z => by rw [d] at z; cases z⟩
  keep := fun i h h' st k => st.at fun o e => k it (by simp) o e
  item := by
    intro X hP hw hK hc i pins s σ H E I hf st hg
    subst hP hw hK
    obtain ⟨xs, x, hq, hx⟩ := hg
    obtain ⟨its, rv, p, hz⟩ := I.list hq
    obtain ⟨u, hu, ru⟩ := rv.get hx
    obtain ⟨f0, f1, f2, f3, f4, f5⟩ := hf it (by simp)
    refine wpAny_pyNext_list_item st p.isList (x := u) (by simpa using hu) fun h' st' sb => ?_
    have I1 : Inv X pins σ H { s with heap := h' } := I.turned (t' := s.toks) (fun b o hb e => (sb.2 b hb).trans e) f0 f1 f3 f4 f5
    obtain ⟨o, e, c, d⟩ := id st'
    exact ⟨u, rfl, rD (s := { s with heap := h' }) e c d (by decide) ⟨x, H, I1, ru, ⟨rfl, fun ys hy => by rw [I.o3 hy hq]; exact hx⟩, st', fun b hb => (hf b hb).1⟩⟩
  done := by
    intro X hP hw hK hc i pins s σ H E I hf st hg
    subst hP hw hK
    obtain ⟨xs, hq, hx⟩ := hg
    obtain ⟨its, rv, p, hz⟩ := I.list hq
    obtain ⟨f0, f1, f2, f3, f4, f5⟩ := hf it (by simp)
    have hl := rv.length
    exact wpAny_pyNext_list_end (I.ok.hd hc) st p.isList (by simp; omega) fun h' eb => ⟨rfl, I.turned (t' := s.toks) (fun b o hb e => eb b o hb e) f0 f1 f3 f4 f5⟩
  self := fun _ _ _ _ _ st h => wpAny_pyIter_listiter st h
theorem qZ {P : Program} {w : World} {K : PySem.W.Frag} {tg : Expr} (a it : Addr) : Turn P w K tg (CF K a) [it] it (fun i h => h.IsTupleIter it a i) where
  mem := by simp
  obj := fun i h st b hb => by
    have e : b = it := by simpa using hb
    subst e
    obtain ⟨o, e, c, d⟩ := st
    exact ⟨o, e, fun v z => by rw [d] at z; cases z⟩
  keep := fun i h h' st k => st.at fun o e => k it (by simp) o e
  item := by
    intro X hP hw hK hc i pins s σ H E I hf st hg
    subst hP hw hK
    obtain ⟨xs, x, hq, hx⟩ := hg
    obtain ⟨its, rv, p, hz⟩ := I.tuple hq
    obtain ⟨u, hu, ru⟩ := rv.get hx
    obtain ⟨f0, f1, f2, f3, f4, f5⟩ := hf it (by simp)
    refine wpAny_pyNext_tuple_item st (show s.heap.IsTuple a its.toArray from p) (x := u) (by simpa using hu) fun h' st' sb => ?_
    have I1 : Inv X pins σ H { s with heap := h' } := I.turned (t' := s.toks) (fun b o hb e => (sb.2 b hb).trans e) f0 f1 f3 f4 f5
    obtain ⟨o, e, c, d⟩ := id st'
    exact ⟨u, rfl, rD (s := { s with heap := h' }) e c d (by decide) ⟨x, H, I1, ru, ⟨rfl, fun ys hy => by rw [I.uD hy hq]; exact hx⟩, st', fun b hb => (hf b hb).1⟩⟩
  done := by
    intro X hP hw hK hc i pins s σ H E I hf st hg
    subst hP hw hK
    obtain ⟨xs, hq, hx⟩ := hg
    obtain ⟨its, rv, p, hz⟩ := I.tuple hq
    obtain ⟨f0, f1, f2, f3, f4, f5⟩ := hf it (by simp)
    have hl := rv.length
    exact wpAny_pyNext_tuple_end (I.ok.hd hc) st (show s.heap.IsTuple a its.toArray from p) (by simp; omega) fun h' eb => ⟨rfl, I.turned (t' := s.toks) (fun b o hb e => eb b o hb e) f0 f1 f3 f4 f5⟩
  self := fun _ _ _ _ _ st h => wpAny_pyIter_tupleiter st h
theorem qz {P : Program} {w : World} {K : PySem.W.Frag} {tg : Expr} (it : Addr) (lo : Int) (n : Nat) : Turn P w K tg (wZ lo n) [it] it (fun i h => IsRangeIter h it (lo + (i : Nat) * 1) ((n : Int) - (i : Nat)) 1) where
  mem := by simp
  obj := fun i h st b hb => by
    have e : b = it := by simpa using hb
    subst e
    exact ⟨_, st, fun v z => by
      have z' : Data.fields _ = Data.cell v := z
      cases z'⟩
  keep := fun i h h' st k => k it (by simp) _ st
  item := by
    intro X hP hw hK hc i pins s σ H E I hf st hg
    subst hP hw hK
    obtain ⟨f0, f1, f2, f3, f4, f5⟩ := hf it (by simp)
    have W := Walks.range (prog := X.prog) (w := X.w) (I.ok.hd hc) it lo 1 n
    refine W.item i s _ _ hg st fun v h' tk hv st' kk => ?_
    obtain ⟨t, rfl⟩ := hv
    have I1 : Inv X pins σ H { s with heap := h', toks := tk } := I.turned (fun b o hb e => kk b o (by simpa using hb) e) f0 f1 f3 f4 f5
    refine ⟨_, rfl, rD (s := { s with heap := h', toks := tk }) (n := "range_iterator") st' rfl rfl (by decide) ⟨.int (lo + i), H, I1, ⟨t, ?_⟩, ⟨rfl, rfl⟩, st', fun b hb => (hf b hb).1⟩⟩
    rw [Int.mul_one]
  done := by
    intro X hP hw hK hc i pins s σ H E I hf st hg
    subst hP hw hK
    obtain ⟨f0, f1, f2, f3, f4, f5⟩ := hf it (by simp)
    exact wpAny_pyNext_range_end (I.ok.hd hc) st (by have : n ≤ i := hg; omega) fun h' eb => ⟨rfl, I.turned (t' := s.toks) (fun b o hb e => eb b o hb e) f0 f1 f3 f4 f5⟩
  self := fun _ _ _ _ _ st h => wpAny_pyIter_rangeiter st h
end L2
namespace L2
open PySem PySem.Spec PyProof.Rows
section
variable {X : Cx} {tg : Expr}
inductive Ao (K : PySem.W.Frag) (x : V) (H : Hp) (R : It → Hp → Prop) : Prop
  | mk (a : Addr) (e : x = .ref a) (s : ∃ xs, aJ K H a xs) (q : R (xF K a) H)
def yD (K : PySem.W.Frag) (tl : TE) : TI := fun σ H R => tl σ H fun x H1 => Ao K x H1 R
def AG (K : PySem.W.Frag) (tl : TE) : TI := fun σ H R => tl σ H fun x H1 => ∃ a, x = .ref a ∧ (∃ xs, aL K H1 a xs) ∧ R (CF K a) H1
theorem bh {l : Expr} {tl : TE} (hl : PE X l tl) : PI X tg l (yD X.K tl) := by
  intro pins s σ H R I h
  refine bU (hl pins s σ H _ I h) fun v s1 hpat => ?_
  obtain ⟨x, H1, I1, r1, q1⟩ := hpat
  obtain ⟨a, e, ⟨xs, hq⟩, q⟩ := q1
  subst e
  cases r1
  obtain ⟨its, rv, p, hz⟩ := I1.list hq
  refine wpAny_pyIter_list p.isList ?_
  refine ⟨s1.heap.objs.size, [s1.heap.objs.size], _, _, H1, rfl, I1.kept (t' := s1.toks) fun b o e => Heap.get?_push_of_some _ e, sX a _, ⟨_, Heap.get?_push_size _ rfl, rfl, rfl⟩, fun b hb => ?_, q⟩
  have e : b = s1.heap.objs.size := by simpa using hb
  subst e
  exact I1.sQ (Nat.le_refl _) (I1.hok.fresh (Nat.le_refl _))
theorem qm {l : Expr} {tl : TE} (hl : PE X l tl) : PI X tg l (AG X.K tl) := by
  intro pins s σ H R I h
  refine bU (hl pins s σ H _ I h) fun v s1 hpat => ?_
  obtain ⟨x, H1, I1, r1, q1⟩ := hpat
  obtain ⟨a, e, ⟨xs, hq⟩, q⟩ := q1
  subst e
  cases r1
  obtain ⟨its, rv, p, hz⟩ := I1.tuple hq
  refine wpAny_pyIter_tuple (show s1.heap.IsTuple a its.toArray from p) ?_
  refine ⟨s1.heap.objs.size, [s1.heap.objs.size], _, _, H1, rfl, I1.kept (t' := s1.toks) fun b o e => Heap.get?_push_of_some _ e, qZ a _, ⟨_, Heap.get?_push_size _ rfl, rfl, rfl⟩, fun b hb => ?_, q⟩
  have e : b = s1.heap.objs.size := by simpa using hb
  subst e
  exact I1.sQ (Nat.le_refl _) (I1.hok.fresh (Nat.le_refl _))
theorem vB {pins : List (Addr × Obj)} {σ : St} {H : Hp} {s : Shared} {R : It → Hp → Prop} {E : Value → Shared → Prop} {lo hi : Int} {t u v : Tok} {tk : Nat} (I : Inv X pins σ H s) (h1 : -(2 ^ 62) ≤ lo) (h2 : lo < 2 ^ 62) (h3 : -(2 ^ 62) ≤ hi) (h4 : hi < 2 ^ 62)
    (q : R (wZ lo (hi - lo).toNat) H) : wpAny (model X.prog X.w) X.A (pyIter (.ref s.heap.objs.size)) (Cs X pins σ tg R) E { s with heap := s.heap.push { cls := .type "range", data := .fields #[.int lo t, .int hi u, .int 1 v] }, toks := tk } := by
  refine wpAny_pyIter_range (IsRange.new ..) (small_one h1 h2 h3 h4) ?_
  have I1 : Inv X pins σ H { s with heap := s.heap.push { cls := .type "range", data := .fields #[.int lo t, .int hi u, .int 1 v] }, toks := tk } := I.kept fun b o e => Heap.get?_push_of_some _ e
  refine ⟨(s.heap.push { cls := .type "range", data := .fields #[.int lo t, .int hi u, .int 1 v] }).objs.size, [(s.heap.push { cls := .type "range", data := .fields #[.int lo t, .int hi u, .int 1 v] }).objs.size], _, _, H, rfl,
    I1.kept (t' := tk) fun b o e => Heap.get?_push_of_some _ e, qz _ lo (hi - lo).toNat, ?_, fun b hb => ?_, q⟩
  · have e1 : lo + ((0 : Nat) : Int) * 1 = lo := by simp
    have e2 : (((hi - lo).toNat : Nat) : Int) - ((0 : Nat) : Int) = Builtin.Range.rangeSize lo hi 1 := by rw [rangeSize_one]; split <;> omega
    show IsRangeIter _ _ (lo + ((0 : Nat) : Int) * 1) ((((hi - lo).toNat : Nat) : Int) - ((0 : Nat) : Int)) 1
    rw [e1, e2]
    exact Heap.get?_push_size _ rfl
  · have e : b = (s.heap.push { cls := .type "range", data := .fields #[.int lo t, .int hi u, .int 1 v] }).objs.size := by simpa using hb
    subst e
    exact I1.sQ (Nat.le_refl _) (I1.hok.fresh (Nat.le_refl _))
def yC (ta : TA) : TI := fun σ H R => ta σ H fun vs H1 => ∃ j : Int, vs = [.int j] ∧ -(2 ^ 62) ≤ j ∧ j < 2 ^ 62 ∧ R (wZ 0 j.toNat) H1
def Dx (ta : TA) : TI := fun σ H R => ta σ H fun vs H1 => ∃ i j : Int, vs = [.int i, .int j] ∧ (-(2 ^ 62) ≤ i ∧ i < 2 ^ 62 ∧ -(2 ^ 62) ≤ j ∧ j < 2 ^ 62) ∧ R (wZ i (j - i).toNat) H1
theorem dG {a : Expr} {ta : TA} {p pos : Pos} (hg : Gl X "range") (hm : X.mg "range" = none) (ha : PA X [a] ta) (hs : starEach [a] X.env = [(false, eval a X.env)] := by rfl) : PI X tg (.Call (.Name "range" p) [a] [] pos) (yC ta) := by
  intro pins s σ H R I h
  refine Call_ (jc I hg hm boot_range (PyProof.Rows.callWith_type1 (bU (ha pos pins s σ H _ I h) fun us s1 hpat => ?_) hs rfl))
  obtain ⟨vs, H1, I1, r1, q1⟩ := hpat
  obtain ⟨j, e, q1, q2, q⟩ := q1
  subst e
  cases r1 with
  | cons r rr =>
    cases rr
    obtain ⟨t, rfl⟩ := r
    exact call_range_1 (vB I1 (by omega) (by omega) q1 q2 (by simpa using q))
def Bm (wi : TI) (g : TG) (tb : TS) : TS := fun D σ H => wi σ H fun J H1 => ∃ W : Nat → Nat → St → Hp → Prop, (∃ m, W 0 m σ H1) ∧ ∀ i m σ H, W i m σ H →
  (J.stop i H ∧ D.nx σ H) ∨ (J.go i H ∧ ∃ N : St → Hp → Prop, (∀ σ' H', N σ' H' → ∃ m', m' < m ∧ W (i + 1) m' σ' H') ∧ ∀ x H', J.yld i H x H' → g x σ H' fun σ2 H2 => tb { D with nx := N, ct := N, bk := D.nx } σ2 H2)
def mT (fp : List Addr) (h : Heap) : List (Addr × Obj) := fp.filterMap fun b => (h.get? b).map fun o => (b, o)
theorem dA {fp : List Addr} {h : Heap} {b : Addr} {o : Obj} (hb : b ∈ fp) (e : h.get? b = some o) : (b, o) ∈ mT fp h := List.mem_filterMap.mpr ⟨b, hb, by rw [e]; rfl⟩
theorem tG {fp : List Addr} {h : Heap} {p : Addr × Obj} (hp : p ∈ mT fp h) : p.1 ∈ fp ∧ h.get? p.1 = some p.2 := by
  obtain ⟨b, hb, e⟩ := List.mem_filterMap.mp hp
  cases q : h.get? b with
  | none => rw [q] at e; cases e
  | some o =>
    rw [q] at e
    have e' : (b, o) = p := Option.some.inj e
    subst e'
    exact ⟨hb, q⟩
theorem Inv.pinned {pins : List (Addr × Obj)} {σ : St} {H : Hp} {s : Shared} {fp : List Addr} (I : Inv X pins σ H s) (hf : ∀ b ∈ fp, jO X pins H b) (ho : ∀ b ∈ fp, ∃ o, s.heap.get? b = some o ∧ ∀ v, o.data ≠ .cell v) : Inv X (pins ++ mT fp s.heap) σ H s :=
  I.rK fun p hp => (List.mem_append.mp hp).elim (fun z => I.pin p (List.mem_append_right _ z)) fun z => by
    obtain ⟨hb, e⟩ := tG z
    obtain ⟨f0, f1, f2, _⟩ := hf p.1 hb
    obtain ⟨o, e', d⟩ := ho p.1 hb
    rw [e] at e'; cases e'
    exact ⟨e, f0, f1, f2, d⟩
theorem Inv.fI {pins pl : List (Addr × Obj)} {σ : St} {H : Hp} {s : Shared} (I : Inv X (pins ++ pl) σ H s) : Inv X pins σ H s := I.rK fun p hp => I.pin p (List.mem_append_right _ (List.mem_append_left _ hp))
theorem cA {iter : Expr} {body : List Stmt} {wi : TI} {g : TG} {tb : TS} {pos : Pos} (hp : PassesOwn (model X.prog X.w) X.A X.env X.xe) (hc : X.calm = true) (hi : PI X tg iter wi) (hg : PG X tg g) (hb : pV X body tb)
    (hs : ∀ x, foldedSetIterable iter X.env x = pure x := by intro _; rfl) : PS X (.For tg iter body [] pos) (Bm wi g tb) := by
  intro pins s σ H D I h
  refine wpAny_For (bU (hi pins s σ H _ I h) fun v s1 h1 => bU h1 fun itv s2 h2 => ?_) hs
  obtain ⟨it, fp, tn, J, H2, e, I2, T, st2, f2, W, ⟨m0, w0⟩, turn⟩ := h2
  subst e
  have stat : ∀ {H' : Hp}, (∀ b ∈ fp, H' b = none) → ∀ b ∈ fp, jO X pins H' b := fun hn b hb => ⟨hn b hb, (f2 b hb).2⟩
  refine codeAny_forLoop_any (fun n s' => ∃ i σ' H', Inv X pins σ' H' s' ∧ tn i s'.heap ∧ (∀ b ∈ fp, H' b = none) ∧ W i n σ' H') ?_ m0 ⟨0, σ, H2, I2, st2, fun b hb => (f2 b hb).1, w0⟩
  rintro n s3 ⟨i, σ3, H3, I3, st3, fr3, w3⟩
  rcases turn i n σ3 H3 w3 with ⟨stop, qn⟩ | ⟨go, N, hN, step⟩
  · refine wpAny_passesOwn hp (bU (T.done X rfl rfl rfl hc i pins s3 σ3 H3 X.xe I3 (stat fr3) st3 stop) fun r s4 ⟨hr, I4⟩ => ?_)
    subst hr
    exact wpAny_execs_nil ⟨σ3, H3, I4, qn⟩
  · refine wpAny_passesOwn hp (bU (T.item X rfl rfl rfl hc i pins s3 σ3 H3 X.xe I3 (stat fr3) st3 go) fun r s4 ⟨u, hr, h4⟩ => ?_)
    subst hr
    refine wpAny_passesOwn hp (bU h4 fun _ s5 hpat => ?_)
    obtain ⟨x, H5, I5, r5, y5, st5, fr5⟩ := hpat
    have I5' := I5.pinned (stat fr5) (T.obj _ _ st5)
    refine wpAny_passesOwn hp (bU (hg _ s5 σ3 H5 x u _ I5' r5 (step x H5 y5)) fun _ s6 hpat => ?_)
    obtain ⟨σ6, H6, I6, q6⟩ := hpat
    refine wpAny_passesOwn hp (bU (hb _ s6 σ6 H6 _ I6 q6) fun f s7 q7 => ?_)
    have again : ∀ {σ7 : St} {H7 : Hp}, Inv X (pins ++ mT fp s5.heap) σ7 H7 s7 → N σ7 H7 → ∃ m, m < n ∧ ∃ i σ' H', Inv X pins σ' H' s7 ∧ tn i s7.heap ∧ (∀ b ∈ fp, H' b = none) ∧ W i m σ' H' := fun {σ7 H7} I7 n7 => by
      obtain ⟨m', hm, w7⟩ := hN σ7 H7 n7
      refine ⟨m', hm, i + 1, σ7, H7, I7.fI, T.keep _ _ _ st5 fun b hb o e => (I7.pin (b, o) (List.mem_append_right _ (List.mem_append_right _ (dA hb e)))).1, fun b hb => ?_, w7⟩
      obtain ⟨o, e, d⟩ := T.obj _ _ st5 b hb
      exact (I7.pin (b, o) (List.mem_append_right _ (List.mem_append_right _ (dA hb e)))).2.1
    cases f with
    | next => obtain ⟨σ7, H7, I7, n7⟩ := q7; exact again I7 n7
    | cont => obtain ⟨σ7, H7, I7, n7⟩ := q7; exact again I7 n7
    | brk => obtain ⟨σ7, H7, I7, q7⟩ := q7; exact ⟨σ7, H7, I7.fI, q7⟩
    | ret v => obtain ⟨x7, σ7, H7, I7, r7, q7⟩ := q7; exact ⟨x7, σ7, H7, I7.fI, r7, q7⟩
end
theorem cS {K : PySem.W.Frag} {a : Addr} {xs : List V} {g : TG} {tb : TS} {D : Ends} {σ : St} {H : Hp} (Pv : Nat → St → Hp → Prop) (h0 : Pv 0 σ H) (hl : ∀ i σ H, i ≤ xs.length → Pv i σ H → aJ K H a xs)
    (hs : ∀ i x σ H, xs[i]? = some x → Pv i σ H → g x σ H fun σ2 H2 => tb { D with nx := Pv (i + 1), ct := Pv (i + 1), bk := D.nx } σ2 H2) (hd : ∀ σ H, Pv xs.length σ H → D.nx σ H) :
    ∃ W : Nat → Nat → St → Hp → Prop, (∃ m, W 0 m σ H) ∧ ∀ i m σ H, W i m σ H →
      ((xF K a).stop i H ∧ D.nx σ H) ∨ ((xF K a).go i H ∧ ∃ N : St → Hp → Prop, (∀ σ' H', N σ' H' → ∃ m', m' < m ∧ W (i + 1) m' σ' H') ∧ ∀ x H', (xF K a).yld i H x H' → g x σ H' fun σ2 H2 => tb { D with nx := N, ct := N, bk := D.nx } σ2 H2) := by
  refine ⟨fun i m σ H => m = xs.length - i ∧ i ≤ xs.length ∧ Pv i σ H, ⟨xs.length, by simp, Nat.zero_le _, h0⟩, ?_⟩
  rintro i m σ H ⟨rfl, hi, p⟩
  have q := hl i σ H hi p
  by_cases hlt : i < xs.length
  · refine .inr ⟨⟨xs, xs[i], q, by simp [hlt]⟩, Pv (i + 1), fun σ' H' p' => ⟨xs.length - (i + 1), by omega, rfl, hlt, p'⟩, fun x H' y => ?_⟩
    obtain ⟨e, y⟩ := y
    subst e
    exact hs i x σ _ (y xs q) p
  · have e : i = xs.length := by omega
    subst e
    exact .inl ⟨⟨xs, q, Nat.le_refl _⟩, hd σ H p⟩
theorem gR {lo : Int} {n : Nat} {g : TG} {tb : TS} {D : Ends} {σ : St} {H : Hp} (Pv : Nat → St → Hp → Prop) (h0 : Pv 0 σ H)
    (hs : ∀ i σ H, i < n → Pv i σ H → g (.int (lo + i)) σ H fun σ2 H2 => tb { D with nx := Pv (i + 1), ct := Pv (i + 1), bk := D.nx } σ2 H2) (hd : ∀ σ H, Pv n σ H → D.nx σ H) :
    ∃ W : Nat → Nat → St → Hp → Prop, (∃ m, W 0 m σ H) ∧ ∀ i m σ H, W i m σ H →
      ((wZ lo n).stop i H ∧ D.nx σ H) ∨ ((wZ lo n).go i H ∧ ∃ N : St → Hp → Prop, (∀ σ' H', N σ' H' → ∃ m', m' < m ∧ W (i + 1) m' σ' H') ∧ ∀ x H', (wZ lo n).yld i H x H' → g x σ H' fun σ2 H2 => tb { D with nx := N, ct := N, bk := D.nx } σ2 H2) := by
  refine ⟨fun i m σ H => m = n - i ∧ i ≤ n ∧ Pv i σ H, ⟨n, by simp, Nat.zero_le _, h0⟩, ?_⟩
  rintro i m σ H ⟨rfl, hi, p⟩
  by_cases hlt : i < n
  · refine .inr ⟨hlt, Pv (i + 1), fun σ' H' p' => ⟨n - (i + 1), by omega, rfl, hlt, p'⟩, fun x H' y => ?_⟩
    obtain ⟨e, y⟩ := y
    subst e y
    exact hs i σ _ hlt p
  · have e : i = n := by omega
    subst e
    exact .inl ⟨Nat.le_refl _, hd σ H p⟩
end L2
namespace L2
open PySem PySem.Spec PyProof.Rows
abbrev R2 := V → V → Hp → VK → Prop
def gQ (X : Cx) (f : Value → Value → Sem Value) (r : R2) : Prop :=
  ∀ (pins : List (Addr × Obj)) (s : Shared) (σ : St) (H : Hp) (x y : V) (v u : Value) (Q : VK), Inv X pins σ H s → RelV x v → RelV y u → r x y H Q →
    wpAny (model X.prog X.w) X.A (f v u) (EP X pins σ Q) X.xe s
def B9 (X : Cx) (f : Value → Sem Value) (r : V → Hp → VK → Prop) : Prop :=
  ∀ (pins : List (Addr × Obj)) (s : Shared) (σ : St) (H : Hp) (x : V) (v : Value) (Q : VK), Inv X pins σ H s → RelV x v → r x H Q →
    wpAny (model X.prog X.w) X.A (f v) (EP X pins σ Q) X.xe s
def dY (X : Cx) (f : Value) (r : List V → Hp → VK → Prop) : Prop :=
  ∀ (pins : List (Addr × Obj)) (s : Shared) (σ : St) (H : Hp) (xs : List V) (us : List Value) (Q : VK), Inv X pins σ H s → Vals xs us → r xs H Q →
    wpAny (model X.prog X.w) X.A (call f us) (EP X pins σ Q) X.xe s
def D8 (X : Cx) (r : V → Hp → (Bool → Hp → Prop) → Prop) : Prop :=
  ∀ (pins : List (Addr × Obj)) (s : Shared) (σ : St) (H : Hp) (x : V) (v : Value) (Q : Bool → Hp → Prop), Inv X pins σ H s → RelV x v → r x H Q →
    wpAny (model X.prog X.w) X.A (truthy v) (TP X pins σ Q) X.xe s
def yO (r : R2) (ta tb : TE) : TE := fun σ H Q => ta σ H fun x H1 => tb σ H1 fun y H2 => r x y H2 Q
def DF (r : V → Hp → VK → Prop) (ta : TE) : TE := fun σ H Q => ta σ H fun x H1 => r x H1 Q
inductive Dl (C : Int → Int → Prop) (g : Int → Int → V) (x y : V) (H : Hp) (Q : VK) : Prop
  | mk (i j : Int) (hx : x = .int i) (hy : y = .int j) (c : C i j) (q : Q (g i j) H)
inductive BG (g : Int → Int → V) (x y : V) (H : Hp) (Q : VK) : Prop
  | mk (i j : Int) (hx : x = .int i) (hy : y = .int j) (q : Q (g i j) H)
def rI (C : Int → Int → Prop) (g : Int → Int → V) : R2 := fun x y H Q => Dl C g x y H Q
def uG (g : Int → Int → V) : R2 := fun x y H Q => BG g x y H Q
def rU (g : Int → V) : V → Hp → VK → Prop := fun x H Q => ∃ i, x = .int i ∧ Q (g i) H
section
variable {X : Cx} {a b c : Expr} {ta tb tc : TE} {pos : Pos}
theorem y4 (ha : PE X a ta) (hb : PE X b tb) {pins : List (Addr × Obj)} {s : Shared} {σ : St} {H : Hp} {R : V → V → Hp → Prop} (I : Inv X pins σ H s)
    (h : ta σ H fun x H1 => tb σ H1 fun y H2 => R x y H2) {Q : Value → Shared → Prop} {f : Value → Value → Sem Value}
    (hf : ∀ v u s2 x y H2, Inv X pins σ H2 s2 → RelV x v → RelV y u → R x y H2 → wpAny (model X.prog X.w) X.A (f v u) Q X.xe s2) :
    wpAny (model X.prog X.w) X.A (eval a X.env) (fun v s₁ => wpAny (model X.prog X.w) X.A (eval b X.env) (fun u s₂ => wpAny (model X.prog X.w) X.A (f v u) Q X.xe s₂) X.xe s₁) X.xe s := by
  refine bU (ha pins s σ H _ I h) fun v s1 hpat => ?_
  obtain ⟨x, H1, I1, r1, q1⟩ := hpat
  refine bU (hb pins s1 σ H1 _ I1 q1) fun u s2 hpat => ?_
  obtain ⟨y, H2, I2, r2, q2⟩ := hpat
  exact hf v u s2 x y H2 I2 r1 r2 q2
theorem aG {op : Operator} {r : R2} (ho : gQ X (binaryOp op) r) (ha : PE X a ta) (hb : PE X b tb) : PE X (.BinOp a op b pos) (yO r ta tb) := by
  intro pins s σ H Q I h
  exact wpAny_BinOp (y4 ha hb I h fun v u s2 x y H2 I2 rx ry q => ho pins s2 σ H2 x y v u Q I2 rx ry q)
theorem vK {op : UnaryOp} {r : V → Hp → VK → Prop} (ho : B9 X (unaryOp op) r) (ha : PE X a ta) : PE X (.UnaryOp op a pos) (DF r ta) := by
  intro pins s σ H Q I h
  exact UnaryOp_ (bU (ha pins s σ H _ I h) fun v s1 ⟨x, H1, I1, r1, q1⟩ => ho pins s1 σ H1 x v Q I1 r1 q1)
theorem Cf {f : Value → Value → Sem Value} {C : Int → Int → Prop} {g : Int → Int → Int}
    (rule : ∀ (i j : Int) (t u : Tok) (s : Shared) (Q : Value → Shared → Prop) (E : Value → Shared → Prop), C i j → Q (.int (g i j) s.toks) { s with toks := s.toks + 1 } → wpAny (model X.prog X.w) X.A (f (.int i t) (.int j u)) Q E s) :
    gQ X f (rI C fun i j => .int (g i j)) := by
  intro pins s σ H x y v u Q I rx ry h
  obtain ⟨i, j, rfl, rfl, hc, q⟩ := h
  obtain ⟨t, rfl⟩ := rx
  obtain ⟨t', rfl⟩ := ry
  exact rule i j t t' s _ _ hc ⟨.int (g i j), H, I.tok _, ⟨_, rfl⟩, q⟩
theorem Ba {f : Value → Value → Sem Value} {g : Int → Int → Int}
    (rule : ∀ (i j : Int) (t u : Tok) (s : Shared) (Q : Value → Shared → Prop) (E : Value → Shared → Prop), Q (.int (g i j) s.toks) { s with toks := s.toks + 1 } → wpAny (model X.prog X.w) X.A (f (.int i t) (.int j u)) Q E s) :
    gQ X f (uG fun i j => .int (g i j)) := by
  intro pins s σ H x y v u Q I rx ry h
  obtain ⟨i, j, rfl, rfl, q⟩ := h
  obtain ⟨t, rfl⟩ := rx
  obtain ⟨t', rfl⟩ := ry
  exact rule i j t t' s _ _ ⟨.int (g i j), H, I.tok _, ⟨_, rfl⟩, q⟩
theorem zA {f : Value → Value → Sem Value} {g : Int → Int → Bool}
    (rule : ∀ (i j : Int) (t u : Tok) (s : Shared) (Q : Value → Shared → Prop) (E : Value → Shared → Prop), Q (.bool (g i j)) s → wpAny (model X.prog X.w) X.A (f (.int i t) (.int j u)) Q E s) :
    gQ X f (uG fun i j => .bl (g i j)) := by
  intro pins s σ H x y v u Q I rx ry h
  obtain ⟨i, j, rfl, rfl, q⟩ := h
  obtain ⟨t, rfl⟩ := rx
  obtain ⟨t', rfl⟩ := ry
  exact rule i j t t' s _ _ ⟨.bl (g i j), H, I, rfl, q⟩
def By (i j : Int) : Prop := 0 < j ∧ j < 1073741824
def DU (i j : Int) : Prop := j ≠ 0 ∧ j.natAbs < 1073741824
def BB (i j : Int) : Prop := 0 ≤ j ∧ j ≤ 1000000 ∧ i.natAbs < 2 ^ 64
def x4 (i j : Int) : Prop := (-(2 ^ 64) < i ∧ i < 2 ^ 64) ∨ (-(2 ^ 64) < j ∧ j < 2 ^ 64)
theorem x4.ok {i j : Int} (h : x4 i j) : IntMulOk i j := by
  rcases h with ⟨h1, h2⟩ | ⟨h1, h2⟩
  · exact .of_left (intBits_le_64 h1 h2)
  · exact .of_right (intBits_le_64 h1 h2)
theorem cV : gQ X (binaryOp .Add) (uG fun i j => .int (i + j)) := Ba fun _ _ _ _ _ _ _ q => add_int q
theorem lq : gQ X (binaryOp .Sub) (uG fun i j => .int (i - j)) := Ba fun _ _ _ _ _ _ _ q => sub_int q
theorem eI : gQ X (binaryOp .Mult) (rI x4 fun i j => .int (i * j)) := Cf fun _ _ _ _ _ _ _ hc q => mul_int q hc.ok
theorem bw : gQ X (binaryOp .FloorDiv) (rI By fun i j => .int (i / j)) := Cf fun i j _ _ _ _ _ hc q => by
  have h1 : (0 : Int) < j := hc.1
  have h2 : j < 1073741824 := hc.2
  exact floordiv_int (by omega) (by rw [Int.fdiv_eq_ediv_of_nonneg i (by omega)]; exact q) (.inl (PyProof.noPylong_small (by omega)))
theorem bA : gQ X (binaryOp .Mod) (rI (fun _ j => 0 < j) fun i j => .int (i % j)) := Cf fun i j _ _ _ _ _ hc q => by
  have h1 : (0 : Int) < j := hc
  exact mod_int' (by omega) (by rw [Int.fmod_eq_emod_of_nonneg i (by omega)]; exact q)
theorem ju : gQ X (binaryOp .Pow) (rI BB fun i j => .int (i ^ j.toNat)) := Cf fun _ _ _ _ _ _ _ hc q => pow_int_small hc.1 hc.2.1 hc.2.2 q
theorem DV {f : Value → Sem Value} {g : Int → Int}
    (rule : ∀ (i : Int) (t : Tok) (s : Shared) (Q : Value → Shared → Prop) (E : Value → Shared → Prop), Q (.int (g i) s.toks) { s with toks := s.toks + 1 } → wpAny (model X.prog X.w) X.A (f (.int i t)) Q E s) :
    B9 X f (rU fun i => .int (g i)) := by
  intro pins s σ H x v Q I rx h
  obtain ⟨i, rfl, q⟩ := h
  obtain ⟨t, rfl⟩ := rx
  exact rule i t s _ _ ⟨.int (g i), H, I.tok _, ⟨_, rfl⟩, q⟩
theorem qV : B9 X (unaryOp .USub) (rU fun i => .int (-i)) := DV fun _ _ _ _ _ q => neg_int q
end
def y9 : V → V → Bool
  | .non, .non => true | .non, .int _ => true | .int _, .non => true | .non, .bl _ => true | .bl _, .non => true | .non, .str _ => true | .str _, .non => true
  | .int _, .int _ => true | .bl _, .bl _ => true | .str _, .str _ => true | .byt _, .byt _ => true
  | .int _, .str _ => true | .str _, .int _ => true | .bl _, .str _ => true | .str _, .bl _ => true
  | _, _ => false
def DP : R2 := fun x y H Q => y9 x y = true ∧ Q (.bl (decide (x = y))) H
def DJ : R2 := fun x y H Q => y9 x y = true ∧ Q (.bl (!decide (x = y))) H
theorem rN {i j : Int} : decide (V.int i = V.int j) = (i == j) := by
  rw [Bool.eq_iff_iff]
  simp
theorem u9 {i j : Bool} : decide (V.bl i = V.bl j) = (i == j) := by
  rw [Bool.eq_iff_iff]
  simp
theorem rV {i j : Str} : decide (V.str i = V.str j) = (i == j) := by
  rw [Bool.eq_iff_iff]
  simp
theorem rJ {i j : Array UInt8} : decide (V.byt i = V.byt j) = (i.toList == j.toList) := by
  rw [Bool.eq_iff_iff]
  cases i
  cases j
  simp
section
variable {X : Cx} {a b c : Expr} {ta tb tc : TE} {pos : Pos}
theorem bg {pins : List (Addr × Obj)} {σ : St} {H : Hp} {s : Shared} {Q : VK} {k k' : Bool} (I : Inv X pins σ H s) (q : Q (.bl k) H) (e : k = k') : EP X pins σ Q (.bool k') s := by
  subst e
  exact ⟨.bl k, H, I, rfl, q⟩
theorem bN : gQ X (compareOp .Eq) DP := by
  intro pins s σ H x y v u Q I rx ry h
  obtain ⟨hs, q⟩ := h
  cases x with
  | non =>
    cases rx
    cases y with
    | non => cases ry; exact PySem.EqNone.eq_none_none (bg I q (by simp))
    | bl j => cases ry; exact PySem.EqNone.eq_none_bool (bg I q (by simp))
    | int j => obtain ⟨t', rfl⟩ := ry; exact PySem.EqNone.eq_none_int (bg I q (by simp))
    | str j => obtain ⟨t', rfl⟩ := ry; exact PySem.EqNone.eq_none_str (bg I q (by simp))
    | _ => exact absurd (show false = true from hs) Bool.false_ne_true
  | bl i =>
    cases rx
    cases y with
    | non => cases ry; exact PySem.EqNone.eq_bool_none (bg I q (by simp))
    | bl j => cases ry; exact eq_bool (bg I q u9)
    | str j => obtain ⟨t', rfl⟩ := ry; exact PySem.EqMixed.eq_bool_str (bg I q (by simp))
    | _ => exact absurd (show false = true from hs) Bool.false_ne_true
  | int i =>
    obtain ⟨t, rfl⟩ := rx
    cases y with
    | non => cases ry; exact PySem.EqNone.eq_int_none (bg I q (by simp))
    | int j => obtain ⟨t', rfl⟩ := ry; exact eq_int (bg I q rN)
    | str j => obtain ⟨t', rfl⟩ := ry; exact PySem.EqMixed.eq_int_str (bg I q (by simp))
    | _ => exact absurd (show false = true from hs) Bool.false_ne_true
  | str i =>
    obtain ⟨t, rfl⟩ := rx
    cases y with
    | non => cases ry; exact PySem.EqNone.eq_str_none (bg I q (by simp))
    | bl j => cases ry; exact PySem.EqMixed.eq_str_bool (bg I q (by simp))
    | int j => obtain ⟨t', rfl⟩ := ry; exact PySem.EqMixed.eq_str_int (bg I q (by simp))
    | str j => obtain ⟨t', rfl⟩ := ry; exact eq_str (bg I q rV)
    | _ => exact absurd (show false = true from hs) Bool.false_ne_true
  | byt i =>
    obtain ⟨t, rfl⟩ := rx
    cases y with
    | byt j => obtain ⟨t', rfl⟩ := ry; exact PySem.W.eq_bytes (bg I q rJ)
    | _ => exact absurd (show false = true from hs) Bool.false_ne_true
  | _ => cases y <;> exact absurd (show false = true from hs) Bool.false_ne_true
theorem mz : gQ X (compareOp .NotEq) DJ := by
  intro pins s σ H x y v u Q I rx ry h
  obtain ⟨hs, q⟩ := h
  cases x with
  | non =>
    cases rx
    cases y with
    | non => cases ry; exact PySem.EqNone.ne_none_none (bg I q (by simp))
    | bl j => cases ry; exact PySem.EqNone.ne_none_bool (bg I q (by simp))
    | int j => obtain ⟨t', rfl⟩ := ry; exact PySem.EqNone.ne_none_int (bg I q (by simp))
    | str j => obtain ⟨t', rfl⟩ := ry; exact PySem.EqNone.ne_none_str (bg I q (by simp))
    | _ => exact absurd (show false = true from hs) Bool.false_ne_true
  | bl i =>
    cases rx
    cases y with
    | non => cases ry; exact PySem.EqNone.ne_bool_none (bg I q (by simp))
    | bl j => cases ry; exact ne_bool (bg I q (congrArg not u9))
    | str j => obtain ⟨t', rfl⟩ := ry; exact PySem.EqMixed.ne_bool_str (bg I q (by simp))
    | _ => exact absurd (show false = true from hs) Bool.false_ne_true
  | int i =>
    obtain ⟨t, rfl⟩ := rx
    cases y with
    | non => cases ry; exact PySem.EqNone.ne_int_none (bg I q (by simp))
    | int j => obtain ⟨t', rfl⟩ := ry; exact ne_int (bg I q (congrArg not rN))
    | str j => obtain ⟨t', rfl⟩ := ry; exact PySem.EqMixed.ne_int_str (bg I q (by simp))
    | _ => exact absurd (show false = true from hs) Bool.false_ne_true
  | str i =>
    obtain ⟨t, rfl⟩ := rx
    cases y with
    | non => cases ry; exact PySem.EqNone.ne_str_none (bg I q (by simp))
    | bl j => cases ry; exact PySem.EqMixed.ne_str_bool (bg I q (by simp))
    | int j => obtain ⟨t', rfl⟩ := ry; exact PySem.EqMixed.ne_str_int (bg I q (by simp))
    | str j => obtain ⟨t', rfl⟩ := ry; exact ne_str (bg I q (congrArg not rV))
    | _ => exact absurd (show false = true from hs) Bool.false_ne_true
  | byt i =>
    obtain ⟨t, rfl⟩ := rx
    cases y with
    | byt j => obtain ⟨t', rfl⟩ := ry; exact PySem.W.ne_bytes (bg I q (congrArg not rJ))
    | _ => exact absurd (show false = true from hs) Bool.false_ne_true
  | _ => cases y <;> exact absurd (show false = true from hs) Bool.false_ne_true
theorem iU : gQ X (compareOp .Lt) (uG fun i j => .bl (decide (i < j))) := zA fun _ _ _ _ _ _ _ q => lt_int q
theorem eY : gQ X (compareOp .LtE) (uG fun i j => .bl (decide (i ≤ j))) := zA fun _ _ _ _ _ _ _ q => le_int q
theorem lB : gQ X (compareOp .Gt) (uG fun i j => .bl (decide (j < i))) := zA fun _ _ _ _ _ _ _ q => gt_int q
theorem jB : gQ X (compareOp .Is) (fun x y H Q => y = .non ∧ Q (.bl (decide (x = .non))) H) := by
  intro pins s σ H x y v u Q I rx ry h
  obtain ⟨rfl, q⟩ := h
  cases ry
  refine is_none_gen (bg I q ?_)
  cases x <;> first
    | (cases rx; rfl)
    | (obtain ⟨t, rfl⟩ := rx; rfl)
theorem mY : gQ X (compareOp .IsNot) (fun x y H Q => y = .non ∧ Q (.bl (!decide (x = .non))) H) := by
  intro pins s σ H x y v u Q I rx ry h
  obtain ⟨rfl, q⟩ := h
  cases ry
  refine isnot_none_gen (bg I q ?_)
  cases x <;> first
    | (cases rx; rfl)
    | (obtain ⟨t, rfl⟩ := rx; rfl)
def isObj : HO → Bool
  | .lst _ => true
  | .ins _ _ _ => true
  | _ => false
theorem aH (b : Expr) {op : CmpOp} (h : op ≠ .In := by decide) (h2 : op ≠ .NotIn := by decide) : behindInMarks op b = false := by
  have e1 : (op == CmpOp.In) = false := by cases op <;> first | rfl | exact absurd rfl h
  have e2 : (op == CmpOp.NotIn) = false := by cases op <;> first | rfl | exact absurd rfl h2
  cases b <;> simp [behindInMarks, e1, e2]
theorem bu {op : CmpOp} {r : R2} (ho : gQ X (compareOp op) r) (ha : PE X a ta) (hb : PE X b tb) (hm : behindInMarks op b = false) : PE X (.Compare a [op] [b] pos) (yO r ta tb) := by
  intro pins s σ H Q I h
  exact wpAny_Compare1 (y4 ha hb I h fun v u s2 x y H2 I2 rx ry q => ho pins s2 σ H2 x y v u Q I2 rx ry q) hm
def rB (t : TE) : TT := fun σ H Q => t σ H fun x H' => BU x H' Q
theorem aI {op : CmpOp} {r : R2} (ho : gQ X (compareOp op) r) (ha : PE X a ta) (hb : PE X b tb) (hm : behindInMarks op b = false) : PT X (.Compare a [op] [b] pos) (rB (yO r ta tb)) := by
  intro pins s σ H Q I h
  refine wpAny_isTrue_Compare1 (bU (ha pins s σ H _ I h) fun v s1 ⟨x, H1, I1, r1, q1⟩ => bU (hb pins s1 σ H1 _ I1 q1) fun u s2 ⟨y, H2, I2, r2, q2⟩ =>
    bU (ho pins s2 σ H2 x y v u _ I2 r1 r2 q2) fun c s3 ⟨z, H3, I3, r3, k, e, q3⟩ => ?_) hm
  subst e
  cases r3
  exact wpAny_truthy_bool ⟨H3, I3, q3⟩
def m8 (r r' : R2) (ta tb tc : TE) : TE := fun σ H Q => ta σ H fun x H1 => tb σ H1 fun y H2 => r x y H2 fun z H3 => ∃ k, z = .bl k ∧
  (if k = true then tc σ H3 fun w' H4 => r' y w' H4 Q else Q (.bl false) H3)
theorem gB {op op' : CmpOp} {r r' : R2} (ho : gQ X (compareOp op) r) (ho' : gQ X (compareOp op') r') (ha : PE X a ta) (hb : PE X b tb) (hc : PE X c tc)
    (hm : lastMarks [op, op'] [b, c] = false := by with_unfolding_all rfl) : PE X (.Compare a [op, op'] [b, c] pos) (m8 r r' ta tb tc) := by
  intro pins s σ H Q I h
  refine Compare_chain (bU (ha pins s σ H _ I h) fun v s1 ⟨x, H1, I1, r1, q1⟩ => chain_link (bU (hb pins s1 σ H1 _ I1 q1) fun u s2 ⟨y, H2, I2, r2, q2⟩ =>
    bU (ho pins s2 σ H2 x y v u _ I2 r1 r2 q2) fun d s3 ⟨z, H3, I3, r3, k, e, q3⟩ => ?_)) hm
  subst e
  cases r3
  refine wpAny_truthy_bool ?_
  cases k with
  | false => exact ite_ff ⟨.bl false, H3, I3, rfl, q3⟩
  | true => exact ite_tt (chain_last (bU (hc pins s3 σ H3 _ I3 q3) fun w' s4 ⟨z', H4, I4, r4, q4⟩ => ho' pins s4 σ H4 y z' u w' Q I4 r2 r4 q4))
theorem iX {op op' : CmpOp} {r r' : R2} (ho : gQ X (compareOp op) r) (ho' : gQ X (compareOp op') r') (ha : PE X a ta) (hb : PE X b tb) (hc : PE X c tc)
    (hm : lastMarks [op, op'] [b, c] = false := by with_unfolding_all rfl) : PT X (.Compare a [op, op'] [b, c] pos) (rB (m8 r r' ta tb tc)) := by
  intro pins s σ H Q I h
  refine isTrue_chain (bU (ha pins s σ H _ I h) fun v s1 ⟨x, H1, I1, r1, q1⟩ => test_link (bU (hb pins s1 σ H1 _ I1 q1) fun u s2 ⟨y, H2, I2, r2, q2⟩ =>
    bU (ho pins s2 σ H2 x y v u _ I2 r1 r2 q2) fun d s3 ⟨z, H3, I3, r3, k, e, q3⟩ => ?_)) hm
  subst e
  cases r3
  refine wpAny_truthy_bool ?_
  cases k with
  | false =>
    obtain ⟨k', e', q'⟩ := q3
    cases e'
    exact ite_ff ⟨H3, I3, q'⟩
  | true =>
    refine ite_tt (test_last (bU (hc pins s3 σ H3 _ I3 q3) fun w' s4 ⟨z', H4, I4, r4, q4⟩ => bU (ho' pins s4 σ H4 y z' u w' _ I4 r2 r4 q4) fun d' s5 hpat => ?_))
    obtain ⟨z2, H5, I5, r5, k2, e2, q5⟩ := hpat
    subst e2
    cases r5
    exact wpAny_truthy_bool ⟨H5, I5, q5⟩
def D1 (K : PySem.W.Frag) (x : V) (H : Hp) (k : Bool) : Prop :=
  match x with
  | .non => k = false
  | .bl b => k = b
  | .int i => k = (i != 0)
  | .str y => y.length ≤ sizeLine ∧ k = ((y.length : Int) != 0)
  | .byt y => y.size ≤ sizeLine ∧ k = ((y.size : Int) != 0)
  | .ref p => (∃ xs, aJ K H p xs ∧ k = !xs.isEmpty) ∨ (∃ xs, aL K H p xs ∧ k = !xs.isEmpty) ∨ ∃ kvs, H p = some (.dK kvs) ∧ k = !kvs.isEmpty
  | _ => False
theorem kC : (sizeLine : Nat) < 2 ^ 63 := by rw [sizeLine_eq]; decide
theorem fZ : gQ X (binaryOp .Add) (fun x y H Q => ∃ i j, x = .str i ∧ y = .str j ∧ i.length + j.length ≤ sizeLine ∧ Q (.str (i ++ j)) H) := by
  intro pins s σ H x y v u Q I rx ry h
  obtain ⟨i, j, rfl, rfl, hz, q⟩ := h
  obtain ⟨t, rfl⟩ := rx
  obtain ⟨t', rfl⟩ := ry
  exact add_str (fun t' tk => ⟨.str (i ++ j), H, I.tok _, ⟨_, rfl⟩, q⟩) hz
def BZ (b : Expr) : Prop := ∀ o i, subscripted b false o i = operate [o, i] (getItem o i)
theorem vals1 {x : V} {us : List Value} (r : Vals [x] us) : ∃ u, us = [u] ∧ RelV x u := by
  cases r with
  | cons r1 r2 => cases r2; exact ⟨_, rfl, r1⟩
theorem vals2 {x y : V} {us : List Value} (r : Vals [x, y] us) : ∃ u w', us = [u, w'] ∧ RelV x u ∧ RelV y w' := by
  cases r with
  | cons r1 r2 =>
    cases r2 with
    | cons r3 r4 => cases r4; exact ⟨_, _, rfl, r1, r3⟩
theorem fJ (hc : X.calm = true) : dY X (.builtin "max") (fun xs H Q => ∃ i j, xs = [.int i, .int j] ∧ Q (.int (if j > i then j else i)) H) := by
  intro pins s σ H xs us Q I r h
  obtain ⟨i, j, rfl, q⟩ := h
  obtain ⟨u, w', rfl, ⟨t, rfl⟩, ⟨t', rfl⟩⟩ := vals2 r
  refine max_two_ints (I.ok.hd hc) fun h' tk k => ⟨_, H, I.kept k, ?_, q⟩
  by_cases hj : j > i
  · rw [if_pos hj, if_pos hj]; exact ⟨_, rfl⟩
  · rw [if_neg hj, if_neg hj]; exact ⟨_, rfl⟩
theorem eN (hc : X.calm = true) : dY X (.builtin "min") (fun xs H Q => ∃ i j, xs = [.int i, .int j] ∧ Q (.int (if j < i then j else i)) H) := by
  intro pins s σ H xs us Q I r h
  obtain ⟨i, j, rfl, q⟩ := h
  obtain ⟨u, w', rfl, ⟨t, rfl⟩, ⟨t', rfl⟩⟩ := vals2 r
  refine min_two_ints (I.ok.hd hc) fun h' tk k => ⟨_, H, I.kept k, ?_, q⟩
  by_cases hj : j < i
  · rw [if_pos hj, if_pos hj]; exact ⟨_, rfl⟩
  · rw [if_neg hj, if_neg hj]; exact ⟨_, rfl⟩
theorem gP : dY X (.type "int") (fun xs H Q => (∃ i, xs = [.int i] ∧ Q (.int i) H) ∨ ∃ k, xs = [.bl k] ∧ Q (.int (if k then 1 else 0)) H) := by
  intro pins s σ H xs us Q I r h
  rcases h with ⟨i, rfl, q⟩ | ⟨k, rfl, q⟩
  · obtain ⟨u, rfl, t, rfl⟩ := vals1 r
    exact call_int_int ⟨.int i, H, I, ⟨_, rfl⟩, q⟩
  · obtain ⟨u, rfl, r1⟩ := vals1 r
    cases r1
    exact call_int_bool ⟨.int (if k then 1 else 0), H, I.tok _, ⟨_, rfl⟩, q⟩
def EB (K : PySem.W.Frag) (x : V) (H : Hp) (n : Nat) : Prop :=
  match x with
  | .str y => y.length ≤ sizeLine ∧ n = y.length
  | .byt y => y.size ≤ sizeLine ∧ n = y.size
  | .ref p => (∃ xs, aJ K H p xs ∧ n = xs.length) ∨ ∃ xs, aL K H p xs ∧ n = xs.length
  | _ => False
end
end L2
namespace L2
open PySem PySem.Spec PyProof.Rows
structure qP (h : Heap) (x dx C : Addr) (mA : Str → Option Value) : Prop where
  obj : h.get? x = some (PySem.W.instObj C dx)
  ns : h.Ns1 dx mA
  ne : dx ≠ x
theorem tY {h : Heap} {dx : Addr} {mA : Str → Option Value} (n : h.Ns1 dx mA) : ∃ od, h.get? dx = some od ∧ ∀ name, PySem.W.lookIn name od = some (mA name) := by
  obtain ⟨o, es, ep, ho, hd, hk, _, hm⟩ := n
  refine ⟨o, ho, fun name => ?_⟩
  have e := hm name
  unfold nsFind findBy at e
  rw [← Array.find?_toList] at e
  unfold PySem.W.lookIn
  rw [hd]
  dsimp only
  split
  · rename_i y q
    rw [q] at e
    exact congrArg some e
  · rename_i q
    rw [q] at e
    have a : es.toList.any (·.refKey) = false := by
      rw [List.any_eq_false]
      intro y hy
      obtain ⟨z, t, hkey⟩ := hk y (Array.mem_toList_iff.mp hy)
      simp [DictEntry.refKey, hkey]
    have a' : ¬ es.toList.any (·.refKey) = true := by rw [a]; exact Bool.false_ne_true
    rw [if_neg a']
    exact congrArg some e
theorem qP.look {h : Heap} {x dx C : Addr} {mA : Str → Option Value} (I : qP h x dx C mA) : ∃ od, PySem.W.InstAt h x (PySem.W.instObj C dx) C (some od) ∧ ∀ name, PySem.W.lookIn name od = some (mA name) :=
  let ⟨od, ho, hl⟩ := tY I.ns
  ⟨od, ⟨I.obj, rfl, rfl, ho⟩, hl⟩
section
variable {prog : Program} {w : World} {A : Around} {E : Value → Shared → Prop} {s : Shared} {K : PySem.W.Frag} {x dx C f : Addr} {mA : Str → Option Value} {name : Str} {v : Value}
theorem get_map {expr : Bool} {Q : Value → Shared → Prop} (X : K.In s.heap) (I : qP s.heap x dx C mA) (hg : PySem.W.plainGet K C name = true) (hh : PySem.W.hasDictIn K C = true)
    (ha : PySem.W.findIn K (.ref C) name = some none) (hv : mA name = some v) (hv' : PySem.W.handedIn v = true) (h : Q v { s with toks := s.toks + 1 }) :
    wpAny (model prog w) A (getAttr (.ref x) name expr) Q E s := by
  obtain ⟨od, J, hl⟩ := I.look
  exact PySem.W.get_value X J (PySem.W.plainGet_of hg).1 (PySem.W.findObj_own hh ha rfl (by rw [hl, hv])) hv' h
theorem uH {pl : Sem Bool} {Q : Value × List Value → Shared → Prop} (X : K.In s.heap) (I : qP s.heap x dx C mA) (hg : PySem.W.plainGet K C name = true)
    (hf : PySem.W.findIn K (.ref C) name = some (some (.ref f))) (ht : PySem.W.isFn K (.ref f) = true) (hv : mA name = none) (h : Q (.ref f, [.ref x]) s) :
    wpAny (model prog w) A (getMethod (.ref x) name pl) Q E s := by
  obtain ⟨od, J, hl⟩ := I.look
  exact PySem.W.method_fn X J (PySem.W.plainGet_of hg).1 (PySem.W.plainGet_of hg).2 hf (beq_iff_eq.mp ht) (by show (PySem.W.lookIn name od).map (·.isSome) = some false; rw [hl, hv]; rfl) h
theorem xU {ns : List Str} {Q : Unit → Shared → Prop} (X : K.In s.heap) (I : qP s.heap x dx C mA)
    (hs : PySem.W.findIn K (.ref C) "__setattr__" = some (some (.builtin "object.__setattr__"))) (hp : PySem.W.plainOver K C = true) (ht : PySem.W.takerIn K C name = some none) (hh : PySem.W.hasDictIn K C = true)
    (hw : PySem.Within mA ns) (hsz : ns.length ≤ sizeLine)
    (h : ∀ h', qP h' x dx C (fun y => if y = name then some v else mA y) → Heap.SameBut dx s.heap h' → Q () { s with heap := h', toks := s.toks + 2 }) :
    wpAny (model prog w) A (setAttr (.ref x) name v) Q E s := by
  obtain ⟨od, J, hl⟩ := I.look
  refine PySem.W.set_plain X J hs (PySem.W.osa_open (s := { s with toks := s.toks + 1 }) (r := none) X J hp ht fun b => ?_)
  obtain ⟨cd, hc, hd'⟩ := PySem.W.any_some hh
  have hx : s.heap.get? x = some ⟨.ref C, some dx, .plain, #[]⟩ := I.obj
  refine wpAny_bind (wpAny_pure (wpAny_bind (wpAny_bind (wpAny_loadPart hx (wpAny_bind (PySem.W.Looks.here (s := { s with toks := s.toks + 1 }) (PySem.W.looks_clsIn X hc) ?_))))))
  rw [hd']
  refine wpAny_pure (a := some dx) (wpAny_bind (wpAny_pure (wpAny_bind ?_)))
  refine wpAny_nsSet1 (s := { s with toks := s.toks + 1 }) I.ns fun h' hn2 hs2 => ?_
  obtain ⟨oD, esD, epD, hoD, hdD, hcD⟩ := hn2.count (PySem.Within.cons name v hw)
  refine wpAny_bind (wpAny_lookBehind hoD (by rw [hdD]; exact pastItsLine_dict (Nat.le_trans hcD (by rw [List.length_cons]; omega))) ?_)
  exact wpAny_pure (h _ ⟨(hs2.2 _ (Ne.symm I.ne)).trans I.obj, hn2, I.ne⟩ hs2)
theorem v8 {R : Result → Shared → Prop} {vs : List Value} {kw : List (Str × Value)} (X : K.In s.heap) (hm : PySem.W.makesIn K C = true)
    (hi : PySem.W.findIn K (.ref C) "__init__" = some (some (.ref f))) (hf : PySem.W.typeIn K (.ref f) = some (.type "function"))
    (h : codeAny (model prog w) (A.under (.builtin "type.__call__" ⟨.ref C :: vs, kw⟩)) (.call (.ref f) ⟨.ref (s.heap.objs.size + 1) :: vs, kw⟩) (PySem.W.InitBack (s.heap.objs.size + 1) R)
      { s with heap := (s.heap.push PySem.W.emptyDict).push (PySem.W.instObj C s.heap.objs.size) }) :
    codeAny (model prog w) A (.call (.ref C) ⟨vs, kw⟩) R s := by
  obtain ⟨hh, g, d, t, os⟩ := s
  exact PySem.W.make_core (PySem.W.makes_of X hm) (PySem.W.looks_findIn X hi) (fun self => PySem.W.bind_fn X self hf) (.inl rfl) h
end
def eG (f : Str) (v : V) : List (Str × V) → List (Str × V)
  | [] => [(f, v)]
  | (g, x) :: r => if g = f then (g, v) :: r else (g, x) :: eG f v r
theorem aU (f g : Str) (v : V) : ∀ fs : List (Str × V), (eG f v fs).lookup g = if g = f then some v else fs.lookup g
  | [] => by
    show List.lookup g [(f, v)] = _
    by_cases h : g = f
    · have hb : (g == f) = true := beq_iff_eq.mpr h
      simp only [List.lookup, hb, if_pos h]
    · have hb : (g == f) = false := beq_eq_false_iff_ne.mpr h
      simp only [List.lookup, hb, if_neg h]
  | (k, x) :: r => by
    have ih := aU f g v r
    rw [show eG f v ((k, x) :: r) = (if k = f then (k, v) :: r else (k, x) :: eG f v r) from rfl]
    by_cases hk : k = f
    · rw [if_pos hk]
      by_cases h : g = k
      · have hb : (g == k) = true := beq_iff_eq.mpr h
        simp only [List.lookup, hb, if_pos (h.trans hk)]
      · have hb : (g == k) = false := beq_eq_false_iff_ne.mpr h
        simp only [List.lookup, hb, if_neg (fun e : g = f => h (e.trans hk.symm))]
    · rw [if_neg hk]
      by_cases h : g = k
      · have hb : (g == k) = true := beq_iff_eq.mpr h
        simp only [List.lookup, hb, if_neg (fun e : g = f => hk (h.symm.trans e))]
      · have hb : (g == k) = false := beq_eq_false_iff_ne.mpr h
        simp only [List.lookup, hb]
        exact ih
theorem jt (f : Str) (v : V) : ∀ fs : List (Str × V), f ∈ (eG f v fs).map (·.1) ∧ ∀ g, g ∈ fs.map (·.1) → g ∈ (eG f v fs).map (·.1)
  | [] => ⟨by simp [eG], fun g h => by simp at h⟩
  | (k, x) :: r => by
    obtain ⟨i1, i2⟩ := jt f v r
    rw [show eG f v ((k, x) :: r) = (if k = f then (k, v) :: r else (k, x) :: eG f v r) from rfl]
    by_cases hk : k = f
    · rw [if_pos hk]
      subst hk
      exact ⟨by simp, fun g h => by simpa using h⟩
    · rw [if_neg hk]
      refine ⟨?_, fun g h => ?_⟩
      · rw [List.map_cons]
        exact List.mem_cons_of_mem _ i1
      · rw [List.map_cons] at h ⊢
        rcases List.mem_cons.mp h with e | e
        · exact List.mem_cons.mpr (.inl e)
        · exact List.mem_cons_of_mem _ (i2 g e)
theorem jK (f : Str) (v : V) : ∀ fs : List (Str × V), (eG f v fs).length ≤ fs.length + 1
  | [] => by simp [eG]
  | (k, x) :: r => by
    have ih := jK f v r
    rw [show eG f v ((k, x) :: r) = (if k = f then (k, v) :: r else (k, x) :: eG f v r) from rfl]
    by_cases hk : k = f
    · rw [if_pos hk, List.length_cons, List.length_cons]; omega
    · rw [if_neg hk, List.length_cons, List.length_cons]; omega
theorem gv.some_of {v : V} {o : Option Value} (r : gv (some v) o) : ∃ u, o = some u ∧ RelV v u := by
  cases o with
  | none => exact (show False from r).elim
  | some u => exact ⟨u, rfl, r⟩
theorem gv.none_of {o : Option Value} (r : gv none o) : o = none := by
  cases o with
  | none => rfl
  | some u => exact (show False from r).elim
theorem sJ {v : V} {u : Value} (r : RelV v u) : PySem.W.handedIn u = true := by
  cases v with
  | non => cases (show u = Value.none from r); rfl
  | bl b => cases (show u = Value.bool b from r); rfl
  | int i => obtain ⟨t, e⟩ := (show ∃ t, u = Value.int i t from r); cases e; rfl
  | str x => obtain ⟨t, e⟩ := (show ∃ t, u = Value.str x t from r); cases e; rfl
  | byt b => obtain ⟨t, e⟩ := (show ∃ t, u = Value.bytes b t from r); cases e; rfl
  | flt b => obtain ⟨t, e⟩ := (show ∃ t, u = Value.float b t from r); cases e; rfl
  | ref a => cases (show u = Value.ref a from r); rfl
  | ty n => cases (show u = Value.type n from r); rfl
section
variable {P : Program} {w : World} {H H' : Hp} {h h' : Heap} {a C dx : Addr} {fs fs' : List (Str × V)}
theorem kh (hok : fP P w H h) (e : H a = some (.ins C dx fs)) : ∃ mA, qP h a dx C mA ∧ (∀ f, gv (fs.lookup f) (mA f)) ∧ PySem.Within mA (fs.map (·.1)) ∧ fs.length ≤ 1000 ∧ H dx = some (.own a) := by
  obtain ⟨d, z, ne, ob, mA, n, r, q⟩ := (show bW P w H h a (.ins C dx fs) from hok a _ e)
  exact ⟨mA, ⟨ob, n, ne⟩, r, q, z, d⟩
end
structure pR (K : PySem.W.Frag) (C : Addr) : Prop where
  pg : PySem.W.plainGet K C Str.empty = true
  hd : PySem.W.hasDictIn K C = true
  po : PySem.W.plainOver K C = true
  sa : PySem.W.findIn K (.ref C) "__setattr__" = some (some (.builtin "object.__setattr__"))
theorem pR.get {K : PySem.W.Frag} {C : Addr} (c : pR K C) (f : Str) : PySem.W.plainGet K C f = true := c.pg
def eZ (K : PySem.W.Frag) (C : Addr) (f : Str) : Prop := PySem.W.findIn K (.ref C) f = some none
theorem eZ.BS {K : PySem.W.Frag} {C : Addr} {f : Str} (n : eZ K C f) : PySem.W.takerIn K C f = some none := by
  unfold PySem.W.takerIn
  rw [show PySem.W.findIn K (.ref C) f = some none from n]
  rfl
structure El (K : PySem.W.Frag) (C : Addr) (f : Str) (v : V) (u : Value) : Prop where
  at_ : PySem.W.findIn K (.ref C) f = some (some u)
  rel : RelV v u
  get : PySem.W.specialIn K u "__get__" = some none
  cp : PySem.W.copiedNames.contains f = false
structure Meth (K : PySem.W.Frag) (C : Addr) (m : Str) (f : Addr) : Prop where
  at_ : PySem.W.findIn K (.ref C) m = some (some (.ref f))
  fn : PySem.W.isFn K (.ref f) = true
  kp : PySem.W.keepIn K (.ref f) = true
section
variable {X : Cx} {pins : List (Addr × Obj)} {σ : St} {H : Hp} {s : Shared} {a C dx : Addr} {fs : List (Str × V)} {f : Str} {v : V} {A : Around} {E : Value → Shared → Prop}
theorem pW {b : Bool} {Q : Value → Shared → Prop} (I : Inv X pins σ H s) (e : H a = some (.ins C dx fs)) (c : pR X.K C) (n : eZ X.K C f) (l : fs.lookup f = some v)
    (h : ∀ u s', Inv X pins σ H s' → RelV v u → Q u s') : wpAny (model X.prog X.w) A (getAttr (.ref a) f b) Q E s := by
  obtain ⟨mA, O, r, _, _, _⟩ := kh I.hok e
  obtain ⟨u, hu, ru⟩ := gv.some_of (v := v) (o := mA f) (by rw [← l]; exact r f)
  exact get_map I.jU O (c.get f) c.hd n hu (sJ ru) (h u _ (I.tok _) ru)
theorem p7 {m : Str} {g : Addr} {pl : Sem Bool} {Q : Value × List Value → Shared → Prop} (I : Inv X pins σ H s) (e : H a = some (.ins C dx fs)) (c : pR X.K C) (k : Meth X.K C m g) (l : fs.lookup m = none)
    (h : Q (.ref g, [.ref a]) s) : wpAny (model X.prog X.w) A (getMethod (.ref a) m pl) Q E s := by
  obtain ⟨mA, O, r, _, _, _⟩ := kh I.hok e
  have hn : mA m = none := gv.none_of (by rw [← l]; exact r m)
  exact uH I.jU O (c.get m) k.at_ k.fn hn h
theorem qT {y : V} {u : Value} {Q : Unit → Shared → Prop} (I : Inv X pins σ H s) (e : H a = some (.ins C dx fs)) (c : pR X.K C) (n : eZ X.K C f) (hl : fs.length < 1000) (ry : RelV y u)
    (h : ∀ s', Inv X pins σ (upd H a (.ins C dx (eG f y fs))) s' → Q () s') : wpAny (model X.prog X.w) A (setAttr (.ref a) f u) Q E s := by
  obtain ⟨mA, O, r, wi, _, ho⟩ := kh I.hok e
  have hz : (fs.map (·.1)).length ≤ sizeLine := by rw [List.length_map, sizeLine_eq]; omega
  refine xU I.jU O c.sa c.po n.BS c.hd wi hz fun h' O' sb => h _ ?_
  have hd : ∃ o, h'.get? dx = some o := let ⟨o, _, _, e', _⟩ := O'.ns; ⟨o, e'⟩
  refine I.write (x := a) (e := dx) (by rw [e]; exact True.intro) (.inr ho) (fun b q hb z => (sb.2 b hb).trans z) hd ?_
  refine ⟨by rw [ao O.ne]; exact ho, ?_, O.ne, O'.obj, _, O'.ns, fun g => ?_, fun g hg => ?_⟩
  · have := jK f y fs; omega
  · show gv ((eG f y fs).lookup g) (if g = f then some u else mA g)
    rw [aU]
    by_cases q : g = f
    · rw [if_pos q, if_pos q]; exact ry
    · rw [if_neg q, if_neg q]; exact r g
  · by_cases q : g = f
    · rw [q]; exact (jt f y fs).1
    · refine (jt f y fs).2 g (wi g fun z => hg ?_)
      show (if g = f then some u else mA g) = none
      rw [if_neg q]; exact z
theorem Inv.made (I : Inv X pins σ H s) : Inv X pins σ (upd (upd H s.heap.objs.size (.own (s.heap.objs.size + 1))) (s.heap.objs.size + 1) (.ins C s.heap.objs.size []))
    { s with heap := (s.heap.push PySem.W.emptyDict).push (PySem.W.instObj C s.heap.objs.size) } := by
  have e1 : (s.heap.push PySem.W.emptyDict).get? s.heap.objs.size = some PySem.W.emptyDict := Heap.get?_push_size s.heap rfl
  have e2 : ((s.heap.push PySem.W.emptyDict).push (PySem.W.instObj C s.heap.objs.size)).get? (s.heap.objs.size + 1) = some (PySem.W.instObj C s.heap.objs.size) := by
    have := Heap.get?_push_size (s.heap.push PySem.W.emptyDict) (o := PySem.W.instObj C s.heap.objs.size) rfl
    rwa [Heap.size_push] at this
  have e3 : (s.heap.push PySem.W.emptyDict).Ns s.heap.objs.size (fun _ => none) := ⟨PySem.W.emptyDict, #[], _, e1, rfl, (fun e he => absurd he (by simp)), fun _ => rfl⟩
  have I1 := I.laid (a := s.heap.objs.size) (o := .own (s.heap.objs.size + 1)) (h' := s.heap.push PySem.W.emptyDict) (t' := s.toks) (fun b u q => Heap.get?_push_of_some _ q) (Nat.le_refl _) ⟨_, e1⟩
  refine I1.laid (a := s.heap.objs.size + 1) (o := .ins C s.heap.objs.size []) (t' := s.toks) (fun b u q => Heap.get?_push_of_some _ q) (Nat.le_of_eq (Heap.size_push _ _)) ?_
  have ne : s.heap.objs.size ≠ s.heap.objs.size + 1 := Nat.ne_of_lt (Nat.lt_succ_self _)
  refine ⟨by rw [ao ne, af], Nat.zero_le _, ne, e2, fun _ => none, (Heap.Ns1.of_empty e3).at fun o q => Heap.get?_push_of_some _ q, fun _ => True.intro, fun y hy => absurd rfl hy⟩
theorem xO {prog : Program} {w : World} {env : Env} {e : Expr} {f : Str} {pos : Pos} {s : Shared} {Q : Value → Shared → Prop} (hb : attributeBase e f env (eval e env) = eval e env)
    (h : wpAny (model prog w) A (eval e env) (fun o s₁ => wpAny (model prog w) A (getAttr o f true) Q E s₁) E s) : wpAny (model prog w) A (eval (.Attribute e f pos) env) Q E s :=
  Attribute_any_ h (by rw [arm_eval_Attribute, hb])
end
inductive CA (K : PySem.W.Frag) (f : Str) (x : V) (H : Hp) (Q : VK) : Prop
  | mk (a C dx : Addr) (fs : List (Str × V)) (v : V) (hx : x = .ref a) (h : H a = some (.ins C dx fs)) (c : pR K C) (n : eZ K C f) (l : fs.lookup f = some v) (q : Q v H)
def BM (K : PySem.W.Frag) (ta : TE) (f : Str) : TE := fun σ H Q => ta σ H fun x H1 => CA K f x H1 Q
def D4 (K : PySem.W.Frag) (ta : TE) (f : Str) : TE := fun σ H Q => ta σ H fun x H1 => ∃ a C dx fs v u, x = .ref a ∧ H1 a = some (.ins C dx fs) ∧ pR K C ∧ El K C f v u ∧ fs.lookup f = none ∧ Q v H1
def B0 (K : PySem.W.Frag) (ta tv : TE) (f : Str) : TS := fun D σ H => tv σ H fun y H1 => ta σ H1 fun x H2 => ∃ a C dx fs, x = .ref a ∧ H2 a = some (.ins C dx fs) ∧ pR K C ∧ eZ K C f ∧ fs.length < 1000 ∧
  D.nx σ (upd H2 a (.ins C dx (eG f y fs)))
def Ei (X : Cx) (op : Operator) (rd : V → V → Hp → VK → Prop) : Prop :=
  ∀ (pins : List (Addr × Obj)) (s : Shared) (σ : St) (H : Hp) (x y : V) (u v : Value) (Q : VK), Inv X pins σ H s → RelV x u → RelV y v → rd x y H Q → wpAny (model X.prog X.w) X.A (inplaceOp op u v) (EP X pins σ Q) X.xe s
def B8 (K : PySem.W.Frag) (ta tv : TE) (rd : V → V → Hp → VK → Prop) (f : Str) : TS := fun D σ H => ta σ H fun x H1 => ∃ a C dx fs v, x = .ref a ∧ H1 a = some (.ins C dx fs) ∧ pR K C ∧ eZ K C f ∧ fs.lookup f = some v ∧
  tv σ H1 fun y H2 => rd v y H2 fun z H3 => ∃ dx' fs', H3 a = some (.ins C dx' fs') ∧ fs'.length < 1000 ∧ D.nx σ (upd H3 a (.ins C dx' (eG f z fs')))
section
variable {X : Cx} {o e value : Expr} {f : Str} {pos pos' tpos : Pos} {ta tv : TE}
theorem zK (he : PE X e ta) (hb : attributeBase e f X.env (eval e X.env) = eval e X.env) : PE X (.Attribute e f pos) (BM X.K ta f) := by
  intro pins s σ H Q I h
  refine xO hb (bU (he pins s σ H _ I h) fun u s1 hpat => ?_)
  obtain ⟨x, H1, I1, rx, a, C, dx, fs, v, ex, ea, c, n, l, q⟩ := hpat
  subst ex
  obtain rfl : u = Value.ref a := rx
  exact pW I1 ea c n l fun u' s2 I2 ru => ⟨v, H1, I2, ru, q⟩
theorem je (ha : PE X o ta) (hv : PE X value tv) (hs : swapsWith value (some (.Attribute o f pos')) pos.line X.env = pure false) : PS X (.Assign [.Attribute o f pos'] value pos) (B0 X.K ta tv f) := by
  intro pins s σ H D I h
  refine plainObj_wpAny_Assign_Attribute (bU (hv pins s σ H _ I h) fun u s1 ⟨y, H1, I1, ry, q⟩ => bU (ha pins s1 σ H1 _ I1 q) fun ov s2 hpat => ?_) hs
  obtain ⟨x, H2, I2, rx, a, C, dx, fs, ex, ea, c, n, l, q2⟩ := hpat
  subst ex
  obtain rfl : ov = Value.ref a := rx
  exact qT I2 ea c n l ry fun s3 I3 => ⟨σ, _, I3, q2⟩
def EE : V → V → Hp → VK → Prop := fun x y H Q => ∃ i j, x = .int i ∧ y = .int j ∧ Q (.int (i + j)) H
def EF : V → V → Hp → VK → Prop := fun x y H Q => ∃ i j, x = .int i ∧ y = .int j ∧ Q (.int (i - j)) H
end
section
variable {X : Cx} {pins : List (Addr × Obj)} {σ : St} {H : Hp} {s : Shared} {A : Around} {E : Value → Shared → Prop} {Q : Value → Shared → Prop} {c : Value} {b : Bool}
inductive eC (K : PySem.W.Frag) (H : Hp) : V → Value → Prop where
  | non : eC K H .non (.type "NoneType")
  | bl (x : Bool) : eC K H (.bl x) (.type "bool")
  | int (i : Int) : eC K H (.int i) (.type "int")
  | str (x : Str) : eC K H (.str x) (.type "str")
  | flt (x : UInt64) : eC K H (.flt x) (.type "float")
  | lst {a : Addr} {xs : List V} (e : H a = some (.lst xs)) : eC K H (.ref a) (.type "list")
  | frz {a : Addr} {o : Obj} {xs : List V} (e : H a = some (.frz o (.lst xs))) : eC K H (.ref a) (.type "list")
  | tup {a : Addr} {xs : List V} (e : H a = some (.tup xs)) : eC K H (.ref a) (.type "tuple")
  | dK {a : Addr} {kvs : List (Key × V)} (e : H a = some (.dK kvs)) : eC K H (.ref a) (.type "dict")
  | dT {a : Addr} {kvs : List (List Key × V)} (e : H a = some (.dT kvs)) : eC K H (.ref a) (.type "dict")
  | ins {a C dx : Addr} {fs : List (Str × V)} (e : H a = some (.ins C dx fs)) (cl : pR K C) (ha : PySem.W.findIn K (.ref C) "__class__" = some (some (.builtin "object.__class__")))
      (hn : PySem.W.specialIn K (.builtin "object.__class__") "__get__" = some (some (.builtin "getset_descriptor.__get__"))) (htk : PySem.W.takesIn K (.builtin "object.__class__") = some true)
      (hm : PySem.W.mroIn K C (.type "object") = some true) : eC K H (.ref a) (.ref C)
theorem tw {x : V} {u t : Value} (I : Inv X pins σ H s) (rx : RelV x u) (ty : eC X.K H x t) (e : PySem.W.kitOne X.K t c = some b) (h : ∀ tk, Q (.bool b) { s with toks := tk }) :
    wpAny (model X.prog X.w) A (call (.builtin "isinstance") [u, c]) Q E s := by
  cases ty with
  | non => cases (show u = Value.none from rx); exact PySem.W.kia_one PySem.W.kitx_none I.jU True.intro e (fun z => nomatch z) h
  | bl y => cases (show u = Value.bool y from rx); exact PySem.W.kia_one PySem.W.kitx_bool I.jU True.intro e (fun z => nomatch z) h
  | int i => obtain ⟨t, q⟩ := (show ∃ t, u = Value.int i t from rx); cases q; exact PySem.W.kia_one PySem.W.kitx_int I.jU True.intro e (fun z => nomatch z) h
  | str y => obtain ⟨t, q⟩ := (show ∃ t, u = Value.str y t from rx); cases q; exact PySem.W.kia_one PySem.W.kitx_str I.jU True.intro e (fun z => nomatch z) h
  | flt y => obtain ⟨t, q⟩ := (show ∃ t, u = Value.float y t from rx); cases q; exact PySem.W.kia_one PySem.W.kitx_float I.jU True.intro e (fun z => nomatch z) h
  | @lst a xs ea =>
    cases (show u = Value.ref a from rx)
    obtain ⟨_, _, n, _, h1⟩ := (show bW X.prog X.w H s.heap a (.lst xs) from I.hok a _ ea)
    exact PySem.W.kia_one PySem.W.kitx_list I.jU ⟨_, h1, rfl⟩ e (fun z => nomatch z) h
  | @frz a ob xs ea =>
    cases (show u = Value.ref a from rx)
    obtain ⟨_, _, _, n, _, h1⟩ := (show bW X.prog X.w H s.heap a (.frz ob (.lst xs)) from I.hok a _ ea)
    exact PySem.W.kia_one PySem.W.kitx_list I.jU ⟨_, h1, rfl⟩ e (fun z => nomatch z) h
  | @tup a xs ea =>
    cases (show u = Value.ref a from rx)
    obtain ⟨_, _, _, p⟩ := (show bW X.prog X.w H s.heap a (.tup xs) from I.hok a _ ea)
    obtain ⟨o, h1, h2, _⟩ := p
    exact PySem.W.kia_one PySem.W.kitx_tuple I.jU ⟨o, h1, h2⟩ e (fun z => nomatch z) h
  | @dK a kvs ea =>
    cases (show u = Value.ref a from rx)
    obtain ⟨_, _, vs, _, p⟩ := (show bW X.prog X.w H s.heap a (.dK kvs) from I.hok a _ ea)
    obtain ⟨o, es, ep, h1, h2, _⟩ := p
    exact PySem.W.kia_one PySem.W.kitx_dict I.jU ⟨o, h1, h2.1⟩ e (fun z => nomatch z) h
  | @dT a kvs ea =>
    cases (show u = Value.ref a from rx)
    obtain ⟨_, _, xs, _, o, es, ep, h1, h2, _⟩ := (show bW X.prog X.w H s.heap a (.dT kvs) from I.hok a _ ea)
    exact PySem.W.kia_one PySem.W.kitx_dict I.jU ⟨o, h1, h2.1⟩ e (fun z => nomatch z) h
  | @ins a C dx fs ea cl ha hn htk hm =>
    cases (show u = Value.ref a from rx)
    obtain ⟨mA, O, _⟩ := kh I.hok ea
    obtain ⟨od, J, _⟩ := O.look
    exact PySem.W.kia_one (PySem.W.kitx_own (cl.get _) cl.hd ha hn htk hm) I.jU J e (fun z => nomatch z) h
end
end L2
namespace L2
open PySem PySem.Spec PyProof.Rows
structure cy (k : Nat) (A : Around) : Prop where
  hd : A.handled = none
  dp : A.depth + 3 * k + 5 < recursionLimit
  un : A.units + 16 * k + 200 < cLine
theorem cy.mono {j k : Nat} {A : Around} (r : cy k A) (h : j ≤ k) : cy j A := ⟨r.hd, by have := r.dp; omega, by have := r.un; omega⟩
theorem cy.deeper {k : Nat} {A : Around} (r : cy (k + 1) A) (env : Env) : cy k (A.deeper env) :=
  ⟨r.hd, by have := r.dp; show A.depth + 1 + 3 * k + 5 < _; omega, by have := r.un; show A.units + 3 + 16 * k + 200 < _; omega⟩
theorem cy.in1 {k : Nat} {A : Around} (r : cy (k + 1) A) : cy k A.in1 :=
  ⟨r.hd, by have := r.dp; show A.depth + 3 * k + 5 < _; omega, by have := r.un; show A.units + 1 + 16 * k + 200 < _; omega⟩
theorem p8 {A : Around} {C : Addr} {us : List Value} {kw : List (Str × Value)} : (A.under (.builtin "type.__call__" ⟨.ref C :: us, kw⟩)).depth = A.depth + 1 := by
  first | rfl | simp [Around.under, Code.weight, Code.isCreation, Code.isGuard, Code.isCaller, Code.frames, Code.isFrame, guardIds]
theorem qS {A : Around} {C : Addr} {us : List Value} {kw : List (Str × Value)} : (A.under (.builtin "type.__call__" ⟨.ref C :: us, kw⟩)).units = A.units + 1 := by
  first | rfl | simp [Around.under, Code.cUnits, Code.frames, Code.isFrame]
theorem cy.make {k : Nat} {A : Around} (r : cy (k + 1) A) (C : Addr) (us : List Value) (kw : List (Str × Value)) : cy k (A.under (.builtin "type.__call__" ⟨.ref C :: us, kw⟩)) :=
  ⟨r.hd, by have := r.dp; rw [p8]; omega, by have := r.un; rw [qS]; omega⟩
theorem cy.depth {k : Nat} {A : Around} (r : cy k A) : A.depth < recursionLimit := by have := r.dp; omega
theorem cy.units {k : Nat} {A : Around} (r : cy k A) : A.units + 64 < cLine := by have := r.un; omega
def tT : TA := fun _ H Q => Q [] H
def iB (ta : TE) (tr : TA) : TA := fun σ H Q => ta σ H fun x H1 => tr σ H1 fun xs H2 => Q (x :: xs) H2
section
variable {X : Cx} {e : Expr} {es : List Expr} {te : TE} {t : TA} {pos : Pos}
theorem ae : PA X [] tT := fun _ _ _ _ H Q I h => Calls.spliced_nil ⟨[], H, I, .nil, h⟩
theorem eA (ha : PE X e te) (hr : PA X es t) (hs : starEach (e :: es) X.env = (false, eval e X.env) :: starEach es X.env := by rfl) : PA X (e :: es) (iB te t) := by
  intro pos pins s σ H Q I h
  rw [hs]
  show wpAny _ _ (spliced ((false, eval e X.env) :: backTo pos (starEach es X.env))) _ _ s
  refine Calls.spliced_cons (bU (ha pins s σ H _ I h) fun u s1 hpat => ?_)
  obtain ⟨x, H1, I1, r1, q1⟩ := hpat
  exact bU (hr pos pins s1 σ H1 _ I1 q1) fun us s2 ⟨xs, H2, I2, r2, q2⟩ => ⟨x :: xs, H2, I2, .cons r1 r2, q2⟩
def AY (t : TA) : TE := fun σ H Q => t σ H fun xs H1 => xs.length ≤ sizeLine ∧ ∀ p, H1 p = none → Q (.ref p) (upd H1 p (.tup xs))
def Bv (t : TA) : TE := fun σ H Q => t σ H fun xs H1 => xs.length ≤ sizeLine ∧ ∀ p, H1 p = none → Q (.ref p) (upd H1 p (.lst xs))
theorem bj {x1} (h : PA X es t) : PE X (.Tuple es x1 pos) (AY t) := by
  intro pins s σ H Q I hq
  refine wpAny_Tuple_spliced (bU (h pos pins s σ H _ I hq) fun us s1 ⟨xs, H1, I1, r, z, q⟩ => ⟨by rw [← r.length]; exact z, ?_⟩)
  have hf : H1 s1.heap.objs.size = none := I1.hok.fresh (Nat.le_refl _)
  refine ⟨.ref s1.heap.objs.size, upd H1 s1.heap.objs.size (.tup xs), I1.laid (t' := s1.toks) (fun b u e => Heap.get?_push_of_some _ e) (Nat.le_refl _) ?_, rfl, q _ hf⟩
  exact ⟨z, us, r, ⟨_, Heap.get?_push_size _ rfl, rfl, _, rfl⟩⟩
theorem dS (h : PA X es t) : PE X (.List es pos) (Bv t) := by
  intro pins s σ H Q I hq
  refine wpAny_List_spliced (bU (h pos pins s σ H _ I hq) fun us s1 ⟨xs, H1, I1, r, z, q⟩ => ⟨by rw [← r.length]; exact z, ?_⟩)
  have hf : H1 s1.heap.objs.size = none := I1.hok.fresh (Nat.le_refl _)
  refine ⟨.ref s1.heap.objs.size, upd H1 s1.heap.objs.size (.lst xs), I1.laid (t' := s1.toks) (fun b u e => Heap.get?_push_of_some _ e) (Nat.le_refl _) ?_, rfl, q _ hf⟩
  exact ⟨z, us, 0, r, Heap.get?_push_size _ rfl⟩
end
abbrev Sp := List V → Hp → VK → XK → Prop
abbrev uI := List Env → Hp → Shared → XK → Value → Shared → Prop
structure mf (P : Program) (w : World) (K : PySem.W.Frag) (mg : Str → Option Value) (base : Heap) (A : Around) (outer : List Env) (s : Shared) (H : Hp) : Prop where
  frames : A.frames = some outer
  mod : Mod K mg base
  bs : ∀ b o, base.get? b = some o → s.heap.get? b = some o ∧ H b = none
  bsz : base.objs.size ≤ s.heap.objs.size
  jx : s.heap.FunFrames base outer
  frf : ∀ b ∈ uw outer, H b = none
  hok : fP P w H s.heap
  bare : AllBare s.gens
def CE (outer : List Env) (P : Program) (w : World) (H : Hp) (s : Shared) (Q : VK) (u : Value) (s' : Shared) : Prop :=
  ∃ v H', s'.os = s.os ∧ AllBare s'.gens ∧ Un (uw outer) [] H H' s.heap s'.heap ∧ fP P w H' s'.heap ∧ RelV v u ∧ Q v H'
def CR (CX : uI) (outer : List Env) (P : Program) (w : World) (H : Hp) (s : Shared) (Q : VK) (E : XK) (r : Result) (s' : Shared) : Prop :=
  match r with
  | .ok (.ret u) => CE outer P w H s Q u s'
  | .ok _ => False
  | .error e => CX outer H s E e s'
structure dW (P : Program) (w : World) (K : PySem.W.Frag) (mg : Str → Option Value) (base : Heap) (CX : uI) (k : Nat) (f : Addr) (fd : FuncData) (ps : List Str) (sp : Sp) : Prop where
  len : ∀ vs H Q E, sp vs H Q E → vs.length = ps.length
  run : ∀ (A : Around) (outer : List Env) (s : Shared) (H : Hp) (args : Args) (us : List Value) (vs : List V) (Q : VK) (E : XK), cy k A → mf P w K mg base A outer s H → BindsTo s fd args (ps.zip us) → Vals vs us → sp vs H Q E →
    codeAny (model P w) A (.call (.ref f) args) (CR CX outer P w H s Q E) s
theorem mf.make {P : Program} {w : World} {K : PySem.W.Frag} {mg : Str → Option Value} {base : Heap} {A : Around} {outer : List Env} {s : Shared} {H : Hp} (e : mf P w K mg base A outer s H) (C : Addr) (us : List Value) (kw : List (Str × Value)) :
    mf P w K mg base (A.under (.builtin "type.__call__" ⟨.ref C :: us, kw⟩)) outer s H := ⟨by first | exact e.frames | (simpa [Around.under, Code.envs, Code.isFrame, pushEnvs] using e.frames), e.mod, e.bs, e.bsz, e.jx, e.frf, e.hok, e.bare⟩
theorem mf.in1 {P : Program} {w : World} {K : PySem.W.Frag} {mg : Str → Option Value} {base : Heap} {A : Around} {outer : List Env} {s : Shared} {H : Hp} (e : mf P w K mg base A outer s H) :
    mf P w K mg base A.in1 outer s H := ⟨e.frames, e.mod, e.bs, e.bsz, e.jx, e.frf, e.hok, e.bare⟩
section
variable {X : Cx} {pins : List (Addr × Obj)} {σ : St} {H : Hp} {s s' : Shared}
theorem Inv.Ac (I : Inv X pins σ H s) : mf X.prog X.w X.K X.mg X.base X.A X.stack s H :=
  ⟨I.ok.frames, I.ok.mod, I.bs, Nat.le_trans I.ok.bsz I.sz, I.stack, I.rQ, I.hok, I.bare⟩
theorem Inv.after {Q : VK} {u : Value} (I : Inv X pins σ H s) (h : CE X.stack X.prog X.w H s Q u s') : EP X pins σ Q u s' := by
  obtain ⟨v, H', os, bare, un, hok, r, q⟩ := h
  obtain ⟨hh, g, d, t, os'⟩ := s'
  obtain rfl : os' = s.os := os
  exact ⟨v, H', I.call (h' := hh) (g' := g) (d' := d) (t' := t) (ch := []) un hok bare (fun b z => absurd z (by simp)), r, q⟩
end
def oR (sp : Sp) (dvs : List V) (E : XK) (t : TA) : TE := fun σ H Q => t σ H fun vs H1 => sp (vs ++ dvs) H1 Q E
inductive MethP (C : Addr) (m : Str) (x : V) (H : Hp) (G : Prop) : Prop
  | mk (a dx : Addr) (fs : List (Str × V)) (hx : x = .ref a) (h : H a = some (.ins C dx fs)) (l : fs.lookup m = none) (q : G)
def yX (C : Addr) (m : Str) (sp : Sp) (dvs : List V) (E : XK) (ta : TE) (t : TA) : TE := fun σ H Q => ta σ H fun x H1 => MethP C m x H1 (t σ H1 fun vs H2 => sp (x :: (vs ++ dvs)) H2 Q E)
def yL (C : Addr) (sp : Sp) (dvs : List V) (E : XK) (t : TA) : TE := fun σ H Q => t σ H fun vs H1 => ∀ x dx, H1 x = none → H1 dx = none → dx ≠ x →
  sp (.ref x :: (vs ++ dvs)) (upd (upd H1 dx (.own x)) x (.ins C dx [])) (fun v H2 => v = .non ∧ Q (.ref x) H2) E
def Binds (K : PySem.W.Frag) (fd : FuncData) (ps : List Str) (ds : List Value) : Prop :=
  ∀ (s : Shared) (us : List Value), K.In s.heap → (us ++ ds).length = ps.length → BindsTo s fd ⟨us, []⟩ (ps.zip (us ++ ds))
theorem Binds.all {K : PySem.W.Frag} {fd : FuncData} {ps : List Str} (h : ∀ us : List Value, us.length = ps.length → bindArgs fd ⟨us, []⟩ = pure (ps.zip us)) : Binds K fd ps [] := fun s us _ hl => by
  rw [List.append_nil] at hl ⊢
  exact .of_eq (h us hl)
def Passes (CX : uI) (X : Cx) (E : XK) : Prop := ∀ (pins : List (Addr × Obj)) (σ : St) (H : Hp) (s : Shared) (e : Value) (s' : Shared), Inv X pins σ H s → CX X.stack H s E e s' → X.xe e s'
section
variable {X : Cx} {CX : uI} {k : Nat} {f C : Addr} {fd : FuncData} {ps : List Str} {sp : Sp} {dvs : List V} {ds : List Value} {E : XK} {x m : Str} {p pos apos : Pos} {e o : Expr} {es : List Expr} {ta : TE} {t : TA}
theorem vm {pins : List (Addr × Obj)} {σ : St} {H : Hp} {s : Shared} {Q : VK} {us : List Value} {vs : List V} (F : dW X.prog X.w X.K X.mg X.base CX k f fd ps sp) (hr : cy k X.A) (hb : Binds X.K fd ps ds) (hd : Vals dvs ds) (hx : Passes CX X E)
    (I : Inv X pins σ H s) (r : Vals vs us) (h : sp (vs ++ dvs) H Q E) : wpAny (model X.prog X.w) X.A (call (.ref f) us) (EP X pins σ Q) X.xe s := by
  have r2 : Vals (vs ++ dvs) (us ++ ds) := r.append hd
  have hl : (us ++ ds).length = ps.length := by rw [← r2.length]; exact F.len _ _ _ _ h
  refine wpAny_call (codeAny_mono (F.run X.A X.stack s H ⟨us, []⟩ (us ++ ds) (vs ++ dvs) Q E hr I.Ac (hb s us I.jU hl) r2 h) fun r s' hq => ?_)
  cases r with
  | error e => exact hx pins σ H s e s' I hq
  | ok fl =>
    cases fl with
    | ret u => exact I.after hq
    | next => exact False.elim hq
    | brk => exact False.elim hq
    | cont => exact False.elim hq
theorem sh (F : dW X.prog X.w X.K X.mg X.base CX k f fd ps sp) (hr : cy k X.A) (hg : Gl X x) (hm : X.mg x = some (.ref f)) (hk : PySem.W.keepIn X.K (.ref f) = true) (hb : Binds X.K fd ps ds) (hd : Vals dvs ds) (hx : Passes CX X E)
    (ha : PA X (e :: es) t) (hdb : (x == ("__debug__" : Str)) = false := by decide) (he : starEach (e :: es) X.env = (false, eval e X.env) :: starEach es X.env := by rfl) (hpl : (backTo pos (starEach es X.env)).any (·.1) = false := by rfl) :
    PE X (.Call (.Name x p) (e :: es) [] pos) (oR sp dvs E t) := by
  intro pins s σ H Q I h
  refine wpAny_Call_Name_kw (kj I hg hm ?_ hdb)
  refine PySem.W.callWith_K (h₀ := X.base) I.ok.mod.kin hk (bU (ha pos pins s σ H _ I h) fun us s1 ⟨vs, H1, I1, r, q⟩ => ⟨I1.jU, ?_⟩) he hpl
  exact vm F hr hb hd hx I1 r q
theorem vQ {pl : Sem Bool} (he : PE X o ta) (c : pR X.K C) (hm : Meth X.K C m f) (F : dW X.prog X.w X.K X.mg X.base CX k f fd ps sp) (hr : cy k X.A) (hb : Binds X.K fd ps ds) (hd : Vals dvs ds) (hx : Passes CX X E)
    (ht : eval (.Call (.Attribute o m apos) [] [] pos) X.env = (do
      let ov ← eval o X.env
      standAt apos.atName
      let (f, first) ← holding [ov] (getMethod ov m pl)
      callWith pos f first (backTo pos (starEach [] X.env)) (backToKw pos (keywordEach [] X.env))) := by rfl) :
    PE X (.Call (.Attribute o m apos) [] [] pos) (yX C m sp dvs E ta tT) := by
  intro pins s σ H Q I h
  refine PySem.W.methodCall_KW (pl := pl) (bU (he pins s σ H _ I h) fun u s1 hpat => ?_) ht
  obtain ⟨x, H1, I1, rx, a, dx, fs, ex, ea, l, q⟩ := hpat
  subst ex
  obtain rfl : u = Value.ref a := rx
  refine p7 I1 ea c hm l ?_
  exact PySem.W.callWith_K0 (first := [.ref a]) I1.jU hm.kp (vm (us := [.ref a]) (vs := [.ref a]) F hr hb hd hx I1 (.cons rfl .nil) q)
structure Mk (K : PySem.W.Frag) (C f : Addr) : Prop where
  makes : PySem.W.makesIn K C = true
  init : PySem.W.findIn K (.ref C) "__init__" = some (some (.ref f))
  fn : PySem.W.isFn K (.ref f) = true
  kp : PySem.W.keepIn K (.ref C) = true
theorem uL {pins : List (Addr × Obj)} {σ : St} {H : Hp} {s : Shared} {Q : VK} {us : List Value} {vs : List V} (M : Mk X.K C f) (F : dW X.prog X.w X.K X.mg X.base CX k f fd ps sp) (hr : cy (k + 1) X.A) (hb : Binds X.K fd ps ds) (hd : Vals dvs ds)
    (hx : Passes CX X E) (I : Inv X pins σ H s) (r : Vals vs us)
    (h : ∀ x dx, H x = none → H dx = none → dx ≠ x → sp (.ref x :: (vs ++ dvs)) (upd (upd H dx (.own x)) x (.ins C dx [])) (fun v H2 => v = .non ∧ Q (.ref x) H2) E) :
    wpAny (model X.prog X.w) X.A (call (.ref C) us) (EP X pins σ Q) X.xe s := by
  have hq := h (s.heap.objs.size + 1) s.heap.objs.size (I.hok.fresh (Nat.le_succ _)) (I.hok.fresh (Nat.le_refl _)) (Nat.ne_of_lt (Nat.lt_succ_self _))
  have I2 := Inv.made (C := C) I
  have r2 : Vals (V.ref (s.heap.objs.size + 1) :: (vs ++ dvs)) (Value.ref (s.heap.objs.size + 1) :: (us ++ ds)) := .cons rfl (r.append hd)
  have hl : (Value.ref (s.heap.objs.size + 1) :: us ++ ds).length = ps.length := by
    have e := r2.length
    rw [F.len _ _ _ _ hq] at e
    exact e.symm
  refine wpAny_call (v8 (f := f) I.jU M.makes M.init (beq_iff_eq.mp M.fn) (codeAny_mono (F.run _ X.stack _ _ ⟨Value.ref (s.heap.objs.size + 1) :: us, []⟩ (Value.ref (s.heap.objs.size + 1) :: (us ++ ds)) _ _ E (hr.make C us [])
    (I2.Ac.make C us []) (hb _ (Value.ref (s.heap.objs.size + 1) :: us) I2.jU hl) r2 hq) fun r s' hq' => ?_))
  cases r with
  | error e => exact hx pins σ _ _ e s' I2 hq'
  | ok fl =>
    cases fl with
    | ret u =>
      obtain ⟨v, H', I3, rv, ev, q3⟩ := I2.after hq'
      subst ev
      exact ⟨rv, ⟨V.ref (s.heap.objs.size + 1), H', I3, rfl, q3⟩⟩
    | next => exact False.elim hq'
    | brk => exact False.elim hq'
    | cont => exact False.elim hq'
theorem ye (M : Mk X.K C f) (F : dW X.prog X.w X.K X.mg X.base CX k f fd ps sp) (hr : cy (k + 1) X.A) (hg : Gl X x) (hm : X.mg x = some (.ref C)) (hb : Binds X.K fd ps ds) (hd : Vals dvs ds) (hx : Passes CX X E)
    (ha : PA X (e :: es) t) (hdb : (x == ("__debug__" : Str)) = false := by decide) (he : starEach (e :: es) X.env = (false, eval e X.env) :: starEach es X.env := by rfl) (hpl : (backTo pos (starEach es X.env)).any (·.1) = false := by rfl) :
    PE X (.Call (.Name x p) (e :: es) [] pos) (yL C sp dvs E t) := by
  intro pins s σ H Q I h
  refine wpAny_Call_Name_kw (kj I hg hm ?_ hdb)
  refine PySem.W.callWith_K (h₀ := X.base) I.ok.mod.kin M.kp (bU (ha pos pins s σ H _ I h) fun us s1 ⟨vs, H1, I1, r, q⟩ => ⟨I1.jU, ?_⟩) he hpl
  exact uL M F hr hb hd hx I1 r q
end
def PK (X : Cx) (kws : List Keyword) (t : TA) : Prop :=
  ∀ (pos : Pos) (pins : List (Addr × Obj)) (s : Shared) (σ : St) (H : Hp) (Q : List V → Hp → Prop), Inv X pins σ H s → t σ H Q → wpAny (model X.prog X.w) X.A (evalAll ((backToKw pos (keywordEach kws X.env)).map (·.2))) (AP X pins σ Q) X.xe s
section
variable {X : Cx} {CX : uI} {k : Nat} {f C : Addr} {fd : FuncData} {ps ks : List Str} {sp : Sp} {E : XK} {x m : Str} {p pos apos kpos : Pos} {e o : Expr} {es : List Expr} {kws : List Keyword} {te ta : TE} {t tk : TA} {nm : Option Str}
structure Cr (K : PySem.W.Frag) (fd : FuncData) (ps ks : List Str) (g : List Value → List Value → List Value) (gV : List V → List V → List V) : Prop where
  to : ∀ (s : Shared) (us ws : List Value), K.In s.heap → (g us ws).length = ps.length → BindsTo s fd ⟨us, ks.zip ws⟩ (ps.zip (g us ws))
  rel : ∀ {vs : List V} {us : List Value} {zs : List V} {ws : List Value}, Vals vs us → Vals zs ws → Vals (gV vs zs) (g us ws)
def CC (sp : Sp) (gV : List V → List V → List V) (E : XK) (t tk : TA) : TE := fun σ H Q => t σ H fun vs H1 => tk σ H1 fun zs H2 => sp (gV vs zs) H2 Q E
variable {g : List Value → List Value → List Value} {gV : List V → List V → List V}
end
structure aB (N P : List Str) (sc : Scope) : Prop where
  kind : sc.kind = .function := by rfl
  co : sc.isCoroutine = false := by rfl
  gen : sc.isGenerator = false := by rfl
  nd : N.Nodup := by decide +kernel
  pre : N.take P.length = P := by rfl
  par : ∀ x ∈ P, sc.names.lookup x = some .local ∨ sc.names.lookup x = some .cell := by decide +kernel
  nofree : ∀ y ∈ sc.names, y.2 ≠ .free := by decide +kernel
theorem mH {kindOf : Str → Option NameKind} {x : Str} : ∀ {binds : List (Str × Value)} {m : Str → Option Value}, (∀ v, (x, v) ∉ binds) → bindL kindOf binds m x = m x
  | [], _, _ => rfl
  | (n, v) :: r, m, h => by
    unfold bindL
    rw [mH fun w hw => h w (List.mem_cons_of_mem _ hw)]
    split
    · have : x ≠ n := by rintro rfl; exact h v List.mem_cons_self
      simp [this]
    · rfl
theorem mw {kindOf : Str → Option NameKind} {x : Str} : ∀ {binds : List (Str × Value)} {m : Str → Option Value}, (∀ v, (x, v) ∉ binds) → bindC kindOf binds m x = m x
  | [], _, _ => rfl
  | (n, v) :: r, m, h => by
    unfold bindC
    rw [mw fun w hw => h w (List.mem_cons_of_mem _ hw)]
    split
    · rfl
    · have : x ≠ n := by rintro rfl; exact h v List.mem_cons_self
      simp [this]
theorem mL {kindOf : Str → Option NameKind} {x : Str} {v : Value} : ∀ {P : List Str} {vs : List Value} {i : Nat} {m : Str → Option Value}, P.Nodup → P[i]? = some x → vs[i]? = some v → kindOf x = some .local →
    bindL kindOf (P.zip vs) m x = some v
  | [], _, _, _, _, h, _, _ => by simp at h
  | _ :: _, [], _, _, _, _, h, _ => by simp at h
  | p :: P, w :: vs, 0, m, nd, h1, h2, hk => by
    simp at h1 h2; subst h1; subst h2
    show bindL kindOf ((p, w) :: P.zip vs) m p = _
    unfold bindL
    rw [mH fun v hv => (List.nodup_cons.mp nd).1 (List.of_mem_zip hv).1, if_pos hk]
    simp
  | p :: P, w :: vs, i + 1, m, nd, h1, h2, hk => by
    show bindL kindOf ((p, w) :: P.zip vs) m x = _
    unfold bindL
    exact mL (i := i) (List.nodup_cons.mp nd).2 (by simpa using h1) (by simpa using h2) hk
theorem mM {kindOf : Str → Option NameKind} {x : Str} {v : Value} : ∀ {P : List Str} {vs : List Value} {i : Nat} {m : Str → Option Value}, P.Nodup → P[i]? = some x → vs[i]? = some v → kindOf x ≠ some .local →
    bindC kindOf (P.zip vs) m x = some v
  | [], _, _, _, _, h, _, _ => by simp at h
  | _ :: _, [], _, _, _, _, h, _ => by simp at h
  | p :: P, w :: vs, 0, m, nd, h1, h2, hk => by
    simp at h1 h2; subst h1; subst h2
    show bindC kindOf ((p, w) :: P.zip vs) m p = _
    unfold bindC
    rw [mw fun v hv => (List.nodup_cons.mp nd).1 (List.of_mem_zip hv).1, if_neg hk]
    simp
  | p :: P, w :: vs, i + 1, m, nd, h1, h2, hk => by
    show bindC kindOf ((p, w) :: P.zip vs) m x = _
    unfold bindC
    exact mM (i := i) (List.nodup_cons.mp nd).2 (by simpa using h1) (by simpa using h2) hk
def start (N : List Str) (vs : List V) : St := vs.map some ++ List.replicate (N.length - vs.length) none
def p9 (CX : uI) (P : Program) (w : World) (K : PySem.W.Frag) (mg : Str → Option Value) (base : Heap) (N : List Str) (qual : Str) (scope : Scope) (f : Addr) (cd : Value) (A : Around) (outer : List Env) (s : Shared) (H : Hp) (E : XK) : Cx where
  prog := P
  w := w
  K := K
  mg := mg
  base := base
  A := A.deeper (envOfC qual scope s.heap.objs.size f cd)
  N := N
  s₀ := s
  H₀ := H
  env := envOfC qual scope s.heap.objs.size f cd
  outer := outer
  stack := envOfC qual scope s.heap.objs.size f cd :: outer
  ex := []
  calm := true
  fn := fun _ => true
  pn := []
  xe := fun e s' => wpAny (model P w) (A.deeper (envOfC qual scope s.heap.objs.size f cd)) (leaving (envOfC qual scope s.heap.objs.size f cd) e) (fun _ s'' => CX outer H s E e s'') (fun e' s'' => CX outer H s E e' s'') s'
theorem pJ {sc : Scope} {n : Nat} {x : Str} (h : sc.names.lookup x = some .cell) : ∃ c, (cellsFrom n sc.names []).lookup x = some c := by
  have q := PySem.W.cellsFrom_some sc.names n [] (.inl h)
  exact Option.isSome_iff_exists.mp q
theorem uC {CX : uI} {P : Program} {w : World} {K : PySem.W.Frag} {mg : Str → Option Value} {base : Heap} {N ps : List Str} {qual : Str} {scope : Scope} {f : Addr} {cd : Value} {A : Around} {outer : List Env} {s s1 : Shared} {H : Hp} {E : XK} {us : List Value} {vs : List V}
    (S : aB N ps scope) (hd : A.handled = none) (e0 : mf P w K mg base A outer s H) (hl : vs.length = ps.length) (r : Vals vs us)
    (x : InCallC s s.heap.objs.size (bindL (envOfC qual scope s.heap.objs.size f cd).kindOf (ps.zip us) fun _ => none) (cellsFrom (s.heap.objs.size + 1) scope.names []) (bindC (envOfC qual scope s.heap.objs.size f cd).kindOf (ps.zip us) fun _ => none) s1) :
    Inv (p9 CX P w K mg base N qual scope f cd A outer s H E) [] (start N vs) H s1 := by
  have hpl : ps.length ≤ N.length := by have := congrArg List.length S.pre; rw [List.length_take] at this; omega
  obtain ⟨h1, tk, rfl, hk⟩ := x.done
  have noA : ∀ b : Addr, b ∉ (p9 CX P w K mg base N qual scope f cd A outer s H E).ex := fun b z => absurd (show b ∈ ([] : List Addr) from z) (by simp)
  refine ⟨⟨e0.mod, S.kind, rfl, rfl, Nat.le_refl _, fun y z c h1 h2 => ?_, fun y hy => ?_, fun y c _ h => ?_, fun _ => hd, Around.frames_deeper e0.frames, .inr ⟨rfl, rfl⟩, fun b z => absurd z (noA b), e0.bs, e0.bsz, fun b _ _ => noA b, fun b z => absurd z (noA b), e0.jx, e0.frf⟩,
    rfl, e0.bare, Un.kept hk, ⟨_, x.toInCall.ns, fun i y v h1 h2 h3 => ?_⟩, fun y c h => ⟨_, x.cell y c h⟩, e0.hok.fresh (Nat.le_refl _), fun y c h => ?_, fun p hp => absurd (show p ∈ ([] : List (Addr × Obj)) from hp) (by simp), e0.hok.kept hk, ?_⟩
  · exact name_of_addr x.apart (PySem.mem_of_lookup h1) (PySem.mem_of_lookup h2)
  · have hy : scope.names.lookup y = some .cell ∨ scope.names.lookup y = some .free := hy
    rcases hy with hy | hy
    · exact pJ hy
    · exact absurd rfl (S.nofree _ (PySem.mem_of_lookup hy))
  · exact Nat.le_of_lt (x.above y c (PySem.mem_of_lookup h))
  · have hi : i < vs.length := by
      unfold start at h2
      by_cases hi : i < vs.length
      · exact hi
      · rw [List.getElem?_append_right (by simpa using hi)] at h2
        rw [List.getElem?_replicate] at h2
        split at h2 <;> cases h2
    have ha : vs[i]? = some v := by
      unfold start at h2
      rw [List.getElem?_append_left (by simpa using hi), List.getElem?_map] at h2
      cases e : vs[i]? with
      | none => rw [e] at h2; cases h2
      | some a => rw [e] at h2; cases h2; rfl
    obtain ⟨u, hu, rv⟩ := r.get ha
    have hp : ps[i]? = some y := by
      rw [← S.pre, List.getElem?_take_of_lt (by omega)]; exact h1
    have ndP : ps.Nodup := by rw [← S.pre]; exact S.nd.sublist (List.take_sublist _ _)
    refine ⟨u, rv, ?_⟩
    rcases S.par y (List.mem_of_getElem? hp) with k | k
    · exact .inl ⟨k, mL ndP hp hu k⟩
    · obtain ⟨c, e⟩ := pJ (n := s.heap.objs.size + 1) k
      refine .inr ⟨.inl k, c, e, ?_⟩
      have q := x.cell y c e
      rw [mM ndP hp hu (by show scope.names.lookup y ≠ _; rw [k]; decide)] at q
      exact q
  · exact e0.hok.fresh (Nat.le_of_lt (x.above y c (PySem.mem_of_lookup h)))
  · unfold start
    show _ = N.length
    rw [List.length_append, List.length_map, List.length_replicate]
    omega
theorem Be {CX : uI} {P : Program} {w : World} {K : PySem.W.Frag} {mg : Str → Option Value} {base : Heap} {k : Nat} {f : Addr} {name qual : Str} {params : Arguments} {body : List Stmt} {scope : Scope} {dV kV doc pm cdv ct oc : Value} {an od : Option Addr}
    {osl : Array (Option Value)} {N ps : List Str} {sp : Sp} (lk : K.lookup f = some ⟨oc, od, .func (PySem.W.fnOf name qual params body scope dV kV doc pm an cdv ct), osl⟩) (hcd : PySem.W.codeIn K cdv qual = true) (S : aB N ps scope)
    (len : ∀ vs H Q E, sp vs H Q E → vs.length = ps.length)
    (hbody : ∀ (A : Around) (outer : List Env) (s : Shared) (H : Hp) (vs : List V) (Q : VK) (E : XK), cy k (A.deeper (envOfC qual scope s.heap.objs.size f cdv)) → sp vs H Q E →
      ∃ t, pV (p9 CX P w K mg base N qual scope f cdv A outer s H E) body t ∧ t { nx := fun _ H' => Q .non H', rt := Q } (start N vs) H) :
    dW P w K mg base CX (k + 1) f (PySem.W.fnOf name qual params body scope dV kV doc pm an cdv ct) ps sp := by
  refine ⟨len, fun A outer s H args us vs Q E hr e0 hb r hsp => ?_⟩
  have hl := len _ _ _ _ hsp
  have KX : K.In s.heap := e0.mod.kin.keeps fun b o e => (e0.bs b o e).1
  have lim : s.heap.NoLimit := e0.mod.nolimit.keeps fun b o e => (e0.bs b o e).1
  have hkind : ∀ y ∈ ps.zip us, scope.names.lookup y.1 = some .local ∨ (scope.names.lookup y.1 = some .cell ∧ ((cellsFrom (s.heap.objs.size + 1) scope.names []).lookup y.1).isSome = true) := fun ⟨n, v⟩ hy => by
    rcases S.par n (List.of_mem_zip hy).1 with q | q
    · exact .inl q
    · exact .inr ⟨q, PySem.W.cellsFrom_some _ _ _ (.inl q)⟩
  refine codeAny_call_function hr.depth (KX _ _ lk) rfl S.co S.gen rfl (PySem.W.codeRec_of KX hcd) (hb _ _ _ _ ?_)
  refine wpAny_newFunctionEnv_cells S.kind hkind fun env he s1 x => ?_
  subst he
  refine ⟨lim.keeps x.toInCall.keep, codeAny_func ?_⟩
  obtain ⟨t, ht, hq⟩ := hbody A outer s H vs Q E (hr.deeper _) hsp
  have I : Inv (p9 CX P w K mg base N qual scope f cdv A outer s H E) [] (start N vs) H s1 := uC S hr.hd e0 hl r x
  refine wpAny_mono (ht [] s1 (start N vs) H _ I hq) (fun fl s' hs => ?_) fun e s' hs => hs
  have fin : ∀ {σ' : St} {H' : Hp} {v : V} {u : Value}, Inv (p9 CX P w K mg base N qual scope f cdv A outer s H E) [] σ' H' s' → RelV v u → Q v H' → CE outer P w H s Q u s' :=
    fun {σ' H' v u} J rv q => ⟨v, H', J.os, J.bare, J.base, J.hok, rv, q⟩
  cases fl with
  | ret u =>
    obtain ⟨v, σ', H', J, rv, q⟩ := hs
    exact fin J rv q
  | next =>
    obtain ⟨σ', H', J, q⟩ := hs
    exact fin (v := V.non) (u := Value.none) J rfl q
  | brk =>
    obtain ⟨_, _, _, q⟩ := hs
    exact False.elim q
  | cont =>
    obtain ⟨_, _, _, q⟩ := hs
    exact False.elim q
end L2
namespace L2
open PySem PySem.Spec PyProof.Rows
section
variable {X : Cx} {x : Str} {p pos : Pos} {e : Expr} {es : List Expr} {t : TA} {id T : String} {r : List V → Hp → VK → Prop}
def Az (r : List V → Hp → VK → Prop) (t : TA) : TE := fun σ H Q => t σ H fun vs H1 => r vs H1 Q
theorem fN (hc : dY X (.builtin id) r) (hg : Gl X x) (hm : X.mg x = none) (hv : bootBuiltins x = some (.builtin id)) (ha : PA X (e :: es) t) (hn : x ≠ "__name__" := by decide) (hdb : (x == ("__debug__" : Str)) = false := by decide)
    (he : starEach (e :: es) X.env = (false, eval e X.env) :: starEach es X.env := by rfl) (hpl : (backTo pos (starEach es X.env)).any (·.1) = false := by rfl) : PE X (.Call (.Name x p) (e :: es) [] pos) (Az r t) := by
  intro pins s σ H Q I h
  refine wpAny_Call_Name_kw (jc I hg hm hv ?_ hn hdb)
  exact PyProof.Rows.callWith_builtin1 (bU (ha pos pins s σ H _ I h) fun us s1 ⟨vs, H1, I1, r1, q1⟩ => hc pins s1 σ H1 vs us Q I1 r1 q1) he hpl
theorem uj (hc : dY X (.type T) r) (hg : Gl X x) (hm : X.mg x = none) (hv : bootBuiltins x = some (.type T)) (ha : PA X (e :: es) t) (hn : x ≠ "__name__" := by decide) (hdb : (x == ("__debug__" : Str)) = false := by decide)
    (he : starEach (e :: es) X.env = (false, eval e X.env) :: starEach es X.env := by rfl) (hpl : (backTo pos (starEach es X.env)).any (·.1) = false := by rfl) : PE X (.Call (.Name x p) (e :: es) [] pos) (Az r t) := by
  intro pins s σ H Q I h
  refine wpAny_Call_Name_kw (jc I hg hm hv ?_ hn hdb)
  exact PyProof.Rows.callWith_type1 (bU (ha pos pins s σ H _ I h) fun us s1 ⟨vs, H1, I1, r1, q1⟩ => hc pins s1 σ H1 vs us Q I1 r1 q1) he hpl
end
end L2
namespace HT
open PySem PyProof.Rows
def lexLt : List Int → List Int → Bool
  | [], [] => false
  | [], _ :: _ => true
  | _ :: _, [] => false
  | x :: xs, y :: ys => if x = y then lexLt xs ys else decide (x < y)
section
open PySem.SeqAt
open PySem.AutoSeq1 (wpAny_loadPart')
open PySem.MeetsSeq PySem.MeetsSeq2 PySem.MeetsSeq3
end
section
variable {prog : Program} {w : World} {A : Around} {E : Value → Shared → Prop} {s : Shared}
def jY (n d : Nat) : Option Int → Nat
  | none => d
  | some v => if v < 0 then (v + (n : Int)).toNat else min v.toNat n
theorem vR (n d : Nat) : jY n d none = d := rfl
theorem yt (a b : Nat) : ((min a b : Nat) : Int) = min (a : Int) (b : Int) := by omega
end
end HT
namespace L2
open PySem PySem.Spec PyProof.Rows
abbrev TO := St → Hp → (Option Int → Hp → Prop) → Prop
def PO (X : Cx) (e : Option Expr) (t : TO) : Prop :=
  ∀ (pins : List (Addr × Obj)) (s : Shared) (σ : St) (H : Hp) (Q : Option Int → Hp → Prop), Inv X pins σ H s → t σ H Q →
    wpAny (model X.prog X.w) X.A (evalPart e X.env) (fun u s' => ∃ o H', Inv X pins σ H' s' ∧ IsPart u o ∧ Q o H') X.xe s
def rF : TO := fun _ H Q => Q none H
inductive Dd (x : V) (H : Hp) (Q : Option Int → Hp → Prop) : Prop
  | mk (i : Int) (h : x = .int i) (q : Q (some i) H)
def yV (t : TE) : TO := fun σ H Q => t σ H fun x H1 => Dd x H1 Q
theorem intsAre_of {ns : List Int} : ∀ {us : List Value}, Vals (ns.map V.int) us → IntsAre us ns := by
  induction ns with
  | nil => intro us r; rw [List.map_nil] at r; cases r; exact .nil
  | cons n ns ih =>
    intro us r
    rw [List.map_cons] at r
    cases r with
    | cons r1 r2 =>
      obtain ⟨t, e⟩ := r1
      subst e
      exact .cons n t (ih r2)
section
variable {X : Cx} {e : Expr} {te : TE} {lo hi : Option Expr} {tl th : TO} {pos p2 : Pos}
theorem i9 : PO X none rF := by
  intro pins s σ H Q I h
  rw [evalPart_none]
  exact wpAny_pure ⟨none, H, I, .none, h⟩
theorem iG (h : PE X e te) : PO X (some e) (yV te) := by
  intro pins s σ H Q I hw
  rw [evalPart_some]
  refine bU (h pins s σ H _ I hw) fun u s1 hpat => ?_
  obtain ⟨x, H1, I1, r1, q1⟩ := hpat
  obtain ⟨i, rfl, q⟩ := q1
  obtain ⟨t, rfl⟩ := r1
  exact ⟨some i, H1, I1, .int i t, q⟩
def CZ (X : Cx) (r : V → Option Int → Option Int → Hp → VK → Prop) : Prop :=
  ∀ (pins : List (Addr × Obj)) (s : Shared) (σ : St) (H : Hp) (x : V) (v vl vu : Value) (lo hi : Option Int) (sl : Addr) (Q : VK), Inv X pins σ H s → RelV x v → s.heap.IsSliceOf sl vl vu .none → IsPart vl lo → IsPart vu hi → r x lo hi H Q →
    ∃ T id, typeLookup (.type T) "__getitem__" = pure (some (.builtin id)) ∧ s.TypeIs v T ∧ wpAny (model X.prog X.w) X.A (getItem v (.ref sl)) (EP X pins σ Q) X.xe s
def DM (r : V → Option Int → Option Int → Hp → VK → Prop) (te : TE) (tl th : TO) : TE := fun σ H Q => te σ H fun x H1 => tl σ H1 fun l H2 => th σ H2 fun u H3 => r x l u H3 Q
theorem gJ {r : V → Option Int → Option Int → Hp → VK → Prop} (hr : CZ X r) (he : PE X e te) (hl : PO X lo tl) (hu : PO X hi th) : PE X (.Subscript e (.Slice lo hi none p2) pos) (DM r te tl th) := by
  intro pins s σ H Q I h
  refine Subscript_ (bU (he pins s σ H _ I h) fun v s1 hpat => ?_)
  obtain ⟨x, H1, I1, r1, q1⟩ := hpat
  refine wpAny_Slice (bU (hl pins s1 σ H1 _ I1 q1) fun vl s2 ⟨l, H2, I2, pl, q2⟩ => bU (hu pins s2 σ H2 _ I2 q2) fun vu s3 hpat => ?_)
  obtain ⟨u, H3, I3, pu, q3⟩ := hpat
  rw [evalPart_none]
  refine wpAny_pure ?_
  have I4 : Inv X pins σ H3 { s3 with heap := s3.heap.push { cls := .type "slice", data := .fields #[vl, vu, .none] } } := I3.kept (t' := s3.toks) fun b ob q => Heap.get?_push_of_some _ q
  obtain ⟨T, id, hT, ht, hg⟩ := hr pins { s3 with heap := s3.heap.push { cls := .type "slice", data := .fields #[vl, vu, .none] } } σ H3 x v vl vu l u s3.heap.objs.size Q I4 r1 (Heap.IsSliceOf.new ..) pl pu q3
  show wpAny (model X.prog X.w) X.A (subscriptTail e (.Slice lo hi none p2) v (.ref s3.heap.objs.size)) (EP X pins σ Q) X.xe { s3 with heap := s3.heap.push { cls := .type "slice", data := .fields #[vl, vu, .none] } }
  exact tail_any (ops := [.ref s3.heap.objs.size, v]) ht hT hg (by with_unfolding_all rfl)
def gZ (xs : List V) (lo hi : Option Int) : List V := (xs.drop (HT.jY xs.length 0 lo)).take (HT.jY xs.length xs.length hi - HT.jY xs.length 0 lo)
theorem oO (xs : List V) (lo hi : Option Int) : (gZ xs lo hi).length ≤ xs.length := by
  unfold gZ
  rw [List.length_take, List.length_drop]
  exact Nat.le_trans (Nat.min_le_right _ _) (Nat.sub_le _ _)
def D5 (K : PySem.W.Frag) : V → Option Int → Option Int → Hp → VK → Prop := fun x lo hi H Q => ∃ a xs, x = .ref a ∧ aL K H a xs ∧
  ¬ (HT.jY xs.length 0 lo = 0 ∧ HT.jY xs.length xs.length hi = xs.length) ∧ ∀ p, H p = none → Q (.ref p) (upd H p (.tup (gZ xs lo hi)))
def Eo (K : PySem.W.Frag) : R2 := fun x y H Q => ∃ a b ns ms, x = .ref a ∧ y = .ref b ∧ aL K H a (ns.map V.int) ∧ aL K H b (ms.map V.int) ∧ Q (.bl (HT.lexLt ns ms)) H
def Dq (K : PySem.W.Frag) : R2 := fun x y H Q => ∃ a b xs ys, x = .ref a ∧ y = .ref b ∧ aL K H a xs ∧ aL K H b ys ∧ xs ≠ [] ∧ xs.length + ys.length ≤ sizeLine ∧
  (ys = [] → Q (.ref a) H) ∧ (ys ≠ [] → ∀ p, H p = none → Q (.ref p) (upd H p (.tup (xs ++ ys))))
end
end L2
namespace L2
open PySem PySem.Spec PyProof.Rows
def zY (n : Nat) (i : Int) : Option Nat := if 0 ≤ i then (if i < n then some i.toNat else none) else if -(n : Int) ≤ i then some (i + n).toNat else none
def mZ {α : Type} (xs : List α) (i : Int) : Option α := (zY xs.length i).bind fun j => xs[j]?
theorem wX {n : Nat} {i : Int} {j : Nat} (h : zY n i = some j) : seqIndex? i n = some j ∧ j < n ∧ -(n : Int) ≤ i ∧ i < n := by
  unfold zY at h
  by_cases h0 : 0 ≤ i
  · rw [if_pos h0] at h
    by_cases h1 : i < n
    · rw [if_pos h1] at h
      have e : i.toNat = j := Option.some.inj h
      exact ⟨by rw [seqIndex_of h0 h1, e], by omega, by omega, h1⟩
    · rw [if_neg h1] at h; cases h
  · rw [if_neg h0] at h
    by_cases h1 : -(n : Int) ≤ i
    · rw [if_pos h1] at h
      have e : (i + n).toNat = j := Option.some.inj h
      exact ⟨by rw [seqIndex_neg (by omega) h1, e], by omega, h1, by omega⟩
    · rw [if_neg h1] at h; cases h
theorem mV {α : Type} {xs : List α} {i : Int} {v : α} (h : mZ xs i = some v) : ∃ j, seqIndex? i xs.length = some j ∧ xs[j]? = some v ∧ j < xs.length ∧ -(xs.length : Int) ≤ i ∧ i < xs.length := by
  unfold mZ at h
  cases e : zY xs.length i with
  | none => rw [e] at h; cases h
  | some j =>
    rw [e] at h
    obtain ⟨h1, h2, h3, h4⟩ := wX e
    exact ⟨j, h1, h, h2, h3, h4⟩
theorem bE {α : Type} {xs : List α} {j : Nat} {v : α} (h : xs[j]? = some v) : mZ xs (j : Int) = some v := by
  have hj : j < xs.length := (List.getElem?_eq_some_iff.mp h).1
  have e : zY xs.length (j : Int) = some j := by
    unfold zY
    rw [if_pos (by omega), if_pos (by omega)]; simp
  unfold mZ; rw [e]; exact h
def cX (b : Expr) : Prop := ∀ o i, subscripted b false o i = operate [o, i] (getItem o i)
def BC (X : Cx) (r : R2) : Prop :=
  ∀ (value slice : Expr) (pins : List (Addr × Obj)) (s : Shared) (σ : St) (H : Hp) (x y : V) (v u : Value) (Q : VK), Inv X pins σ H s → RelV x v → RelV y u → r x y H Q →
    subscripted slice false v u = operate [v, u] (getItem v u) → wpAny (model X.prog X.w) X.A (subscriptTail value slice v u) (EP X pins σ Q) X.xe s
def Ca (X : Cx) (id : String) (r : V → List V → Hp → VK → Prop) : Prop :=
  ∀ (pins : List (Addr × Obj)) (s : Shared) (σ : St) (H : Hp) (x : V) (xs : List V) (v : Value) (us : List Value) (Q : VK), Inv X pins σ H s → RelV x v → Vals xs us → r x xs H Q →
    wpAny (model X.prog X.w) X.A (call (.builtin id) (v :: us)) (EP X pins σ Q) X.xe s
section
variable {X : Cx} {a b : Expr} {ta tb : TE} {pos : Pos}
theorem aw {r : R2} (hr : BC X r) (ha : PE X a ta) (hb : PE X b tb) (hs : cX b) : PE X (.Subscript a b pos) (yO r ta tb) := by
  intro pins s σ H Q I h
  exact Subscript_ (y4 ha hb I h fun v u s2 x y H2 I2 rx ry q => hr a b pins s2 σ H2 x y v u Q I2 rx ry q (hs _ _))
inductive DR (S : Addr → List V → Prop) (x y : V) (H : Hp) (Q : VK) : Prop
  | mk (p : Addr) (xs : List V) (i : Int) (v : V) (hx : x = .ref p) (hy : y = .int i) (s : S p xs) (e : mZ xs i = some v) (q : Q v H)
inductive C1 (x y : V) (H : Hp) (Q : VK) : Prop
  | mk (z : Str) (i : Int) (c : Nat) (hx : x = .str z) (hy : y = .int i) (s : z.length ≤ sizeLine) (e : mZ z.cps.toList i = some c) (q : Q (.str ⟨#[c]⟩) H)
def xP (K : PySem.W.Frag) : R2 := fun x y H Q => DR (aJ K H) x y H Q
def xX (K : PySem.W.Frag) : R2 := fun x y H Q => DR (aL K H) x y H Q
def zv : R2 := fun x y H Q => C1 x y H Q
theorem aX : BC X (xP X.K) := by
  intro value slice pins s σ H x y v u Q I rx ry h hs
  obtain ⟨p, xs, i, z, rfl, rfl, hq, he, q⟩ := h
  cases rx
  obtain ⟨t, rfl⟩ := ry
  obtain ⟨its, r, pl, hz⟩ := I.list hq
  obtain ⟨j, h1, h2, h3, h4, h5⟩ := mV he
  obtain ⟨w, ew, rw'⟩ := r.get h2
  have hl := r.length
  have hn := kC
  have fin : EP X pins σ Q w s := ⟨z, H, I, rw', q⟩
  by_cases h0 : 0 ≤ i
  · have hj : i.toNat = j := by
      rw [seqIndex_of h0 h5] at h1
      exact Option.some.inj h1
    exact item_listR pl.isList h0 (by omega) (by rw [hj]; simpa using ew) fin hs
  · have hj : (i + (its.toArray.size : Int)).toNat = j := by
      rw [seqIndex_neg (by omega) h4] at h1
      rw [List.size_toArray, ← hl]
      exact Option.some.inj h1
    exact subscriptTail_builtinR (x := w) pl.isList.typeIs slot_list_getitem.lookup
      (wpAny_getItem_list_neg (Q := fun r s' => r = w ∧ EP X pins σ Q r s') pl.isList (by omega) (by rw [List.size_toArray] <;> omega) (by omega) (by rw [hj]; simpa using ew) ⟨rfl, fin⟩) hs
theorem aD : BC X (xX X.K) := by
  intro value slice pins s σ H x y v u Q I rx ry h hs
  obtain ⟨p, xs, i, z, rfl, rfl, hq, he, q⟩ := h
  cases rx
  obtain ⟨t, rfl⟩ := ry
  obtain ⟨its, r, pl, hz⟩ := I.tuple hq
  obtain ⟨j, h1, h2, h3, h4, h5⟩ := mV he
  obtain ⟨w, ew, rw'⟩ := r.get h2
  have hl := r.length
  have hn := kC
  have fin : EP X pins σ Q w s := ⟨z, H, I, rw', q⟩
  exact subscriptTail_builtinR (x := w) pl.typeIs slot_tuple_getitem.lookup
    (getItem_tuple (j := j) (Q := fun r s' => r = w ∧ EP X pins σ Q r s') pl (by omega) (by omega) (by rw [List.size_toArray, ← hl]; exact h1) (by simpa using ew) ⟨rfl, fin⟩) hs
theorem pT : BC X zv := by
  intro value slice pins s σ H x y v u Q I rx ry h hs
  obtain ⟨z, i, c, rfl, rfl, hz, he, q⟩ := h
  obtain ⟨t, rfl⟩ := rx
  obtain ⟨t', rfl⟩ := ry
  obtain ⟨j, h1, h2, h3, h4, h5⟩ := mV he
  have hl : z.cps.toList.length = z.length := by simp [Str.length]
  rw [hl] at h1 h4 h5
  have hn := kC
  exact tail_any (typeIs_str s z t) slot_str_getitem.lookup (getItem_str (c := c) (by
    have e1 : decide (i < -(2 ^ 63 : Int)) = false := decide_eq_false (by omega)
    have e2 : decide (i ≥ 2 ^ 63) = false := decide_eq_false (by omega)
    rw [e1, e2, Bool.or_false]) (by rw [h1]; simpa using h2) ⟨.str ⟨#[c]⟩, H, I.tok _, ⟨_, rfl⟩, q⟩) hs
def EJ (K : PySem.W.Frag) : R2 := fun x y H Q => xP K x y H Q ∨ xX K x y H Q ∨ zv x y H Q
inductive C7 (o i v : V) (H : Hp) (Q : Hp → Prop) : Prop
  | mk (p : Addr) (xs : List V) (k : Int) (j : Nat) (ho : o = .ref p) (hi : i = .int k) (s : H p = some (.lst xs)) (e : zY xs.length k = some j) (q : Q (upd H p (.lst (xs.set j v))))
def Ds : V → V → V → Hp → (Hp → Prop) → Prop := fun o i v H Q => C7 o i v H Q
theorem yN (v : Int) (n d : Nat) : max 0 (min (if v < 0 then v + (n : Int) else v) (n : Int)) = ((HT.jY n d (some v) : Nat) : Int) := by
  show _ = (((if v < 0 then (v + (n : Int)).toNat else min v.toNat n) : Nat) : Int)
  by_cases hv : v < 0
  · rw [if_pos hv, if_pos hv, Int.toNat_eq_max, Int.max_comm, Int.min_eq_left (by omega)]
  · rw [if_neg hv, if_neg hv, HT.yt, Int.toNat_of_nonneg (Int.not_lt.mp hv)]
    exact Int.max_eq_right (Int.le_min.mpr ⟨Int.not_lt.mp hv, Int.natCast_nonneg n⟩)
theorem mW (lo hi : Option Int) (n : Nat) : (sliceBounds lo hi none n).1 = ((HT.jY n 0 lo : Nat) : Int) ∧ (sliceBounds lo hi none n).2.1 = ((HT.jY n n hi : Nat) : Int) ∧ (sliceBounds lo hi none n).2.2 = 1 := by
  refine ⟨?_, ?_, rfl⟩
  · cases lo with
    | none => simp [sliceBounds, HT.jY]
    | some i =>
      simp only [sliceBounds, Option.getD_none, show (1 : Int) > 0 by decide, if_true]
      exact yN i n 0
  · cases hi with
    | none => simp [sliceBounds, HT.jY]
    | some i =>
      simp only [sliceBounds, Option.getD_none, show (1 : Int) > 0 by decide, if_true]
      exact yN i n n
theorem mh (its : List Value) (lo hi : Option Int) : slicePick its.toArray lo hi none = ((its.drop (HT.jY its.length 0 lo)).take (HT.jY its.length its.length hi - HT.jY its.length 0 lo)).toArray := by
  obtain ⟨h1, h2, h3⟩ := mW lo hi its.toArray.size
  unfold slicePick
  rw [h1, h2, h3]
  simp only [sliceRange_one, pick_run, List.size_toArray] <;> rfl
inductive Eh (K : PySem.W.Frag) (x : V) (lo hi : Option Int) (H : Hp) (Q : VK) : Prop
  | mk (a : Addr) (xs : List V) (hx : x = .ref a) (s : aJ K H a xs) (q : ∀ p, H p = none → Q (.ref p) (upd H p (.lst (gZ xs lo hi))))
def BO (K : PySem.W.Frag) : V → Option Int → Option Int → Hp → VK → Prop := fun x lo hi H Q => Eh K x lo hi H Q
theorem iO : CZ X (BO X.K) := by
  intro pins s σ H x v vl vu lo hi sl Q I rx hs pl pu h
  obtain ⟨a, xs, rfl, hx, q⟩ := h
  cases rx
  obtain ⟨its, r, ht, hz⟩ := I.list hx
  have hlen := r.length
  refine ⟨"list", _, slot_list_getitem.lookup, ht.isList.typeIs, ?_⟩
  refine wpAny_getItem_list_slice ht.isList hs pl pu .none (by simp) ?_ (by rw [List.size_toArray] <;> omega)
  rw [mh, ← hlen]
  refine ⟨.ref s.heap.objs.size, _, I.laid (t' := s.toks) (o := .lst (gZ xs lo hi)) (fun b ob q => Heap.get?_push_of_some _ q) (Nat.le_refl _) ?_, rfl, q _ (I.hok.fresh (Nat.le_refl _))⟩
  exact ⟨Nat.le_trans (oO xs lo hi) hz, _, 0, (r.drop (HT.jY xs.length 0 lo)).take (HT.jY xs.length xs.length hi - HT.jY xs.length 0 lo), Heap.get?_push_size _ rfl⟩
def bK : V → Bool
  | .non => true
  | .bl _ => true
  | .int _ => true
  | .str _ => true
  | _ => false
def ou : V → V → Bool
  | .non, .non => true
  | .bl a, .bl b => a == b
  | .bl a, .int b => (if a then 1 else 0) == b
  | .int a, .bl b => a == (if b then 1 else 0)
  | .int a, .int b => a == b
  | .str a, .str b => a == b
  | _, _ => false
theorem nX {A : Around} {s : Shared} {y x : V} {u v : Value} (ry : RelV y u) (rx : RelV x v) (fy : bK y = true) (fx : bK x = true) : SeqAt.EqAt A s u v (ou y x) := by
  cases y with
  | non =>
    cases ry
    cases x with
    | non => cases rx; exact SeqAt.EqAt.same _
    | bl b => cases rx; exact SeqAt.EqAt.none_bool b
    | int b => obtain ⟨t, rfl⟩ := rx; exact SeqAt.EqAt.none_int b t
    | str b => obtain ⟨t, rfl⟩ := rx; exact SeqAt.EqAt.none_str b t
    | _ => exact absurd (show false = true from fx) Bool.false_ne_true
  | bl a =>
    cases ry
    cases x with
    | non => cases rx; exact SeqAt.EqAt.bool_none a
    | bl b => cases rx; exact SeqAt.EqAt.bool_bool a b
    | int b => obtain ⟨t, rfl⟩ := rx; exact SeqAt.EqAt.bool_int a b t
    | str b => obtain ⟨t, rfl⟩ := rx; exact SeqAt.EqAt.bool_str a b t
    | _ => exact absurd (show false = true from fx) Bool.false_ne_true
  | int a =>
    obtain ⟨t', rfl⟩ := ry
    cases x with
    | non => cases rx; exact SeqAt.EqAt.int_none a t'
    | bl b => cases rx; exact SeqAt.EqAt.int_bool a t' b
    | int b => obtain ⟨t, rfl⟩ := rx; exact SeqAt.EqAt.int_int a t' b t
    | str b => obtain ⟨t, rfl⟩ := rx; exact SeqAt.EqAt.int_str a t' b t
    | _ => exact absurd (show false = true from fx) Bool.false_ne_true
  | str a =>
    obtain ⟨t', rfl⟩ := ry
    cases x with
    | non => cases rx; exact SeqAt.EqAt.str_none a t'
    | bl b => cases rx; exact SeqAt.EqAt.str_bool a t' b
    | int b => obtain ⟨t, rfl⟩ := rx; exact SeqAt.EqAt.str_int a t' b t
    | str b => obtain ⟨t, rfl⟩ := rx; exact SeqAt.EqAt.str_str a t' b t
    | _ => exact absurd (show false = true from fx) Bool.false_ne_true
  | _ => exact absurd (show false = true from fy) Bool.false_ne_true
def rb (x : V) (u : Value) : Bool := match u with
  | .none => ou .non x
  | .bool b => ou (.bl b) x
  | .int i _ => ou (.int i) x
  | .str z _ => ou (.str z) x
  | _ => false
theorem vF {x y : V} {u : Value} (r : RelV y u) (f : bK y = true) : rb x u = ou y x := by
  cases y with
  | non => cases r; rfl
  | bl b => cases r; rfl
  | int i => obtain ⟨t, rfl⟩ := r; rfl
  | str z => obtain ⟨t, rfl⟩ := r; rfl
  | _ => exact absurd (show false = true from f) Bool.false_ne_true
theorem iM {x : V} : ∀ {xs : List V} {us : List Value}, Vals xs us → xs.all bK = true → us.any (rb x) = xs.any fun y => ou y x
  | _, _, .nil, _ => rfl
  | y :: xs, u :: us, .cons r t, f => by
    rw [List.all_cons, Bool.and_eq_true] at f
    rw [List.any_cons, List.any_cons, vF r f.1, iM t f.2]
theorem gH {A : Around} {s : Shared} {x : V} {v : Value} (rx : RelV x v) (fx : bK x = true) : ∀ {xs : List V} {us : List Value}, Vals xs us → xs.all bK = true → ∀ u ∈ us, SeqAt.EqAt A s u v (rb x u)
  | _, _, .nil, _ => fun u hu => by cases hu
  | y :: xs, u :: us, .cons r t, f => fun u' hu => by
    rw [List.all_cons, Bool.and_eq_true] at f
    rcases List.mem_cons.mp hu with rfl | hu
    · rw [vF r f.1]; exact nX r rx f.1 fx
    · exact gH rx fx t f.2 u' hu
def yn (x : V) (xs : List V) : Bool := xs.any fun y => ou y x
inductive Et (K : PySem.W.Frag) (neg : Bool) (x y : V) (H : Hp) (Q : VK) : Prop
  | mk (p : Addr) (xs : List V) (hy : y = .ref p) (s : aJ K H p xs ∨ aL K H p xs) (f : bK x = true) (fs : xs.all bK = true) (q : Q (.bl (if neg then !yn x xs else yn x xs)) H)
def Dm (K : PySem.W.Frag) (neg : Bool) : R2 := fun x y H Q => Et K neg x y H Q
theorem gS : gQ X (compareOp .In) (Dm X.K false) := by
  intro pins s σ H x y v u Q I rx ry h
  obtain ⟨p, xs, rfl, hq, fx, fs, q⟩ := h
  cases ry
  rcases hq with hq | hq
  · obtain ⟨its, r, pl, hz⟩ := I.list hq
    refine SeqAt.in_listAt (rb x) pl.isList (fun w hw => gH rx fx r fs w (by simpa using hw)) ⟨.bl _, H, I, rfl, ?_⟩
    rw [show its.toArray.any (rb x) = its.any (rb x) by simp, iM r fs]
    exact q
  · obtain ⟨its, r, pl, hz⟩ := I.tuple hq
    refine SeqAt.in_tupleAt (rb x) pl (fun w hw => gH rx fx r fs w (by simpa using hw)) ⟨.bl _, H, I, rfl, ?_⟩
    rw [show its.toArray.any (rb x) = its.any (rb x) by simp, iM r fs]
    exact q
theorem n5 : gQ X (compareOp .NotIn) (Dm X.K true) := by
  intro pins s σ H x y v u Q I rx ry h
  obtain ⟨p, xs, rfl, hq, fx, fs, q⟩ := h
  cases ry
  rcases hq with hq | hq
  · obtain ⟨its, r, pl, hz⟩ := I.list hq
    refine SeqAt.notIn_listAt (rb x) pl.isList (fun w hw => gH rx fx r fs w (by simpa using hw)) ⟨.bl _, H, I, rfl, ?_⟩
    rw [show its.toArray.any (rb x) = its.any (rb x) by simp, iM r fs]
    exact q
  · obtain ⟨its, r, pl, hz⟩ := I.tuple hq
    refine SeqAt.notIn_tupleAt (rb x) pl (fun w hw => gH rx fx r fs w (by simpa using hw)) ⟨.bl _, H, I, rfl, ?_⟩
    rw [show its.toArray.any (rb x) = its.any (rb x) by simp, iM r fs]
    exact q
inductive Br (K : PySem.W.Frag) (xs : List V) (H : Hp) (Q : VK) : Prop
  | mk (p : Addr) (ys : List V) (e : xs = [.ref p]) (s : aJ K H p ys ∨ aL K H p ys) (q : Q (.int ys.length) H)
theorem aQ : dY X (.builtin "len") (fun xs H Q => L2.Br X.K xs H Q) := by
  intro pins s σ H xs us Q I r h
  obtain ⟨p, ys, rfl, hq, q⟩ := h
  obtain ⟨u, rfl, rx⟩ := vals1 r
  cases rx
  have hn := kC
  rcases hq with hq | hq
  · obtain ⟨its, r', pl, hz⟩ := I.list hq
    have hlen := r'.length
    exact Calls.call_len_list pl.isList (by simp only [List.size_toArray] <;> omega) ⟨.int ys.length, H, I.tok _, ⟨s.toks + 1, by rw [List.size_toArray, hlen]⟩, q⟩
  · obtain ⟨its, r', pl, hz⟩ := I.tuple hq
    have hlen := r'.length
    exact len_tuple pl (by simp only [List.size_toArray] <;> omega) ⟨.int ys.length, H, I.tok _, ⟨s.toks + 1, by rw [List.size_toArray, hlen]⟩, q⟩
theorem oe : dY X (.builtin "len") (fun xs H Q => ∃ z, xs = [.str z] ∧ z.length ≤ sizeLine ∧ Q (.int z.length) H) := by
  intro pins s σ H xs us Q I r h
  obtain ⟨z, rfl, hz, q⟩ := h
  obtain ⟨u, rfl, t, rfl⟩ := vals1 r
  have hn := kC
  exact len_str (by omega) ⟨.int z.length, H, I.tok _, ⟨_, rfl⟩, q⟩
theorem aV : dY X (.type "list") (fun xs H Q => ∃ p ys, xs = [.ref p] ∧ (aJ X.K H p ys ∨ aL X.K H p ys) ∧ ∀ l, H l = none → Q (.ref l) (upd H l (.lst ys))) := by
  intro pins s σ H xs us Q I r h
  obtain ⟨p, ys, rfl, hq, q⟩ := h
  obtain ⟨u, rfl, rx⟩ := vals1 r
  cases rx
  have fin : ∀ (its : List Value), Vals ys its → ys.length ≤ sizeLine → ∀ (h' : Heap) (c' : Nat), (∀ b o', s.heap.get? b = some o' → h'.get? b = some o') →
      h'.get? s.heap.objs.size = some { cls := .type "list", dict := none, data := .seq its.toArray c', slots := #[] } → EP X pins σ Q (.ref s.heap.objs.size) { s with heap := h' } := fun its r' hz h' c' kp e =>
    ⟨.ref s.heap.objs.size, _, I.laid (t' := s.toks) kp (Nat.le_refl _) (show bW X.prog X.w _ h' _ (.lst ys) from ⟨hz, its, c', r', e⟩), rfl, q _ (I.hok.fresh (Nat.le_refl _))⟩
  rcases hq with hq | hq
  · obtain ⟨its, r', pl, hz⟩ := I.list hq
    have hlen := r'.length
    obtain ⟨o, ho, hc, n, hd⟩ := pl.isList
    exact call_list_seq p (.inl rfl) ho hc hd (fun h' c' kp e => fin its r' hz h' c' kp e) (by simp only [List.size_toArray] <;> omega)
  · obtain ⟨its, r', pl, hz⟩ := I.tuple hq
    have hlen := r'.length
    obtain ⟨o, ho, hc, n, hd⟩ := pl
    exact call_list_seq p (.inr rfl) ho hc hd (fun h' c' kp e => fin its r' hz h' c' kp e) (by simp only [List.size_toArray] <;> omega)
def Di (K : PySem.W.Frag) (T : String) (x : V) (H : Hp) : Prop := match x with
  | .str _ => T = "str"
  | .int _ => T = "int"
  | .ref p => (T = "list" ∧ ∃ xs, aJ K H p xs) ∨ (T = "tuple" ∧ ∃ o, K.lookup p = some o ∧ o.cls = .type "tuple" ∧ o.dict = none) ∨
      (T = "dict" ∧ ((∃ kvs, H p = some (.dK kvs)) ∨ ∃ kvs, H p = some (.dT kvs))) ∨ (T = "set" ∧ ∃ S n, H p = some (.set S n))
  | _ => False
theorem u7 {pins : List (Addr × Obj)} {σ : St} {H : Hp} {s : Shared} {T : String} {x : V} {v : Value} (I : Inv X pins σ H s) (r : RelV x v) (ty : Di X.K T x H) :
    s.TypeIs v T ∧ ∀ a, v = .ref a → ∃ ob, s.heap.get? a = some ob ∧ ob.dict = none := by
  cases x with
  | str z =>
    obtain ⟨t, rfl⟩ := r
    cases (show T = "str" from ty)
    exact ⟨typeIs_str s z t, fun _ e => nomatch e⟩
  | int i =>
    obtain ⟨t, rfl⟩ := r
    cases (show T = "int" from ty)
    exact ⟨typeIs_int s i t, fun _ e => nomatch e⟩
  | ref p =>
    cases r
    rcases ty with ⟨rfl, xs, hq⟩ | ⟨rfl, o, hk, hc, hd⟩ | ⟨rfl, hk⟩ | ⟨rfl, S, n, hk⟩
    · obtain ⟨its, _, pl, _⟩ := I.list hq
      refine ⟨pl.isList.typeIs, fun a e => ?_⟩
      cases e
      obtain ⟨o, n, e, c, hd, _⟩ := pl
      exact ⟨o, e, hd⟩
    · refine ⟨⟨o, I.jU p o hk, hc⟩, fun a e => ?_⟩
      cases e
      exact ⟨o, I.jU _ o hk, hd⟩
    · have z : ∃ o, s.heap.get? p = some o ∧ o.ExactDict := by
        rcases hk with ⟨kvs, hk⟩ | ⟨kvs, hk⟩
        · obtain ⟨_, _, _, _, o, _, _, e, ex, _⟩ := I.hok p _ hk
          exact ⟨o, e, ex⟩
        · obtain ⟨_, _, _, _, o, _, _, e, ex, _⟩ := I.hok p _ hk
          exact ⟨o, e, ex⟩
      obtain ⟨o, e, ex⟩ := z
      refine ⟨⟨o, e, ex.1⟩, fun a e2 => ?_⟩
      cases e2
      exact ⟨o, e, ex.2.1⟩
    · obtain ⟨o, _, _, _, e, ex, _⟩ := I.hok p _ hk
      refine ⟨⟨o, e, ex.1⟩, fun a e2 => ?_⟩
      cases e2
      exact ⟨o, e, ex.2.1⟩
  | _ => exact False.elim ty
def Bb (K : PySem.W.Frag) (T : String) (r : V → List V → Hp → VK → Prop) (to : TE) : TE := fun σ H Q => to σ H fun x H1 => Di K T x H1 ∧ r x [] H1 Q
def DG (K : PySem.W.Frag) (T : String) (r : V → List V → Hp → VK → Prop) (to : TE) (t : TA) : TE := fun σ H Q => to σ H fun x H1 => Di K T x H1 ∧ t σ H1 fun xs H2 => r x xs H2 Q
variable {o e : Expr} {es : List Expr} {to : TE} {t : TA} {name : Str} {apos cpos : Pos} {T id : String} {r : V → List V → Hp → VK → Prop}
theorem zX (pa : PlainAttrs T) (slot : Slot T name id) (hty : typeOf (.builtin id) = pure (.type "method_descriptor")) (hm : Ca X id r) (ho : PE X o to)
    (hbase : attributeBase o name X.env (eval o X.env) = eval o X.env := by rfl) (hline : (apos.endLine == cpos.line) = true := by rfl) : PE X (.Call (.Attribute o name apos) [] [] cpos) (Bb X.K T r to) := by
  intro pins s σ H Q I h
  refine wpAny_Call_method0_late hbase hline (bU (ho pins s σ H _ I h) fun v s1 hpat => ?_)
  obtain ⟨x, H1, I1, r1, ty, q1⟩ := hpat
  obtain ⟨h1, h2⟩ := u7 I1 r1 ty
  exact ⟨T, id, pa, slot, hty, h1, h2, Calls.callWith_builtin rfl (PySem.evalArgs_none (hm pins s1 σ H1 x [] v [] Q I1 r1 .nil q1))⟩
theorem BL (pa : PlainAttrs T) (slot : Slot T name id) (hty : typeOf (.builtin id) = pure (.type "method_descriptor")) (hm : Ca X id r) (ho : PE X o to) (ha : PA X (e :: es) t)
    (hbase : attributeBase o name X.env (eval o X.env) = eval o X.env := by rfl)
    (hfew : ((backTo cpos (starEach (e :: es) X.env)).all (fun x => !x.1) && (backToKw cpos (keywordEach [] X.env)).all (fun x => x.1.isSome)
      && decide ((e :: es).length + ([] : List Keyword).length + (if ([] : List Keyword).isEmpty then 0 else 1) < 30)) = true := by rfl)
    (hline : (apos.endLine == cpos.line) = true := by rfl) (hs : starEach (e :: es) X.env = (false, eval e X.env) :: starEach es X.env := by rfl) (hplain : (backTo cpos (starEach es X.env)).any (·.1) = false := by rfl) :
    PE X (.Call (.Attribute o name apos) (e :: es) [] cpos) (DG X.K T r to t) := by
  intro pins s σ H Q I h
  refine wpAny_Call_method_late hbase hfew hline rfl (bU (ho pins s σ H _ I h) fun v s1 hpat => ?_)
  obtain ⟨x, H1, I1, r1, ty, q1⟩ := hpat
  obtain ⟨h1, h2⟩ := u7 I1 r1 ty
  refine ⟨T, id, pa, slot, hty, h1, h2, ?_⟩
  have hA := ha cpos pins s1 σ H1 _ I1 q1
  rw [hs] at hA ⊢
  refine Calls.callWith_builtin (by show (false || (backTo cpos (starEach es X.env)).any (·.1)) = false; rw [hplain] <;> rfl) (Calls.evalArgs_plain ?_)
  exact bU hA fun us s2 ⟨vs, H2, I2, r2, q2⟩ => hm pins s2 σ H2 x vs v us Q I2 r1 r2 q2
end
end L2
namespace L2
open PySem PySem.Spec PyProof.Rows
def CS (X : Cx) (id : String) (r : V → List V → Hp → VK → Prop) : Prop :=
  ∀ (pins : List (Addr × Obj)) (s : Shared) (σ : St) (H : Hp) (x : V) (xs : List V) (v : Value) (us : List Value) (Q : VK), Inv X pins σ H s → RelV x v → Vals xs us → r x xs H Q →
    wpAny (model X.prog X.w) X.A (call (.builtin id) (v :: us)) (EP X pins σ Q) X.xe s
theorem Vals.one : ∀ {x : V} {us : List Value}, Vals [x] us → ∃ u, us = [u] ∧ RelV x u
  | _, _, .cons r .nil => ⟨_, rfl, r⟩
theorem Vals.zero : ∀ {us : List Value}, Vals [] us → us = []
  | _, .nil => rfl
theorem Vals.reverse {xs : List V} {us : List Value} (h : Vals xs us) : Vals xs.reverse us.reverse := by
  induction h with
  | nil => exact .nil
  | cons r t ih => rw [List.reverse_cons, List.reverse_cons]; exact Vals.append ih (.cons r .nil)
section
variable {X : Cx} {pins : List (Addr × Obj)} {σ : St} {H : Hp} {s : Shared} {l b : Addr} {xs ys zs : List V}
theorem Inv.Ag {its its' : List Value} {n : Nat} {f : Array Value → Array Value} {t' : Nat} (I : Inv X pins σ H s) (hH : H l = some (.lst xs))
    (e : s.heap.get? l = some { cls := .type "list", data := .seq its.toArray n }) (hf : f its.toArray = its'.toArray) (hv : Vals ys its') (hz : ys.length ≤ sizeLine) :
    Inv X pins σ (upd H l (.lst ys)) { s with heap := s.heap.update l (Obj.mapSeq f), toks := t' } := by
  have q := PySem.IsL.update e f
  rw [hf] at q
  refine I.write (x := l) (e := l) (by rw [hH]; exact trivial) (.inl rfl) (fun b' u hb hu => (Heap.get?_update_other s.heap (Obj.mapSeq f) (Ne.symm hb)).trans hu) ⟨_, q⟩ ?_
  exact ⟨hz, its', _, hv, q⟩
theorem Inv.zG (I : Inv X pins σ H s) (hH : H l = some (.lst xs)) : xs.length ≤ sizeLine ∧ ∃ (its : List Value) (n : Nat), Vals xs its ∧ xs.length = its.length ∧ s.heap.get? l = some { cls := .type "list", data := .seq its.toArray n } := by
  obtain ⟨z, its, n, r, e⟩ := I.hok l _ hH
  exact ⟨z, its, n, r, r.length, e⟩
end
section
variable {X : Cx}
inductive Cu (x : V) (vs : List V) (H : Hp) (Q : VK) : Prop
  | mk (l : Addr) (xs : List V) (y : V) (hx : x = .ref l) (hv : vs = [y]) (s : H l = some (.lst xs)) (b : xs.length < sizeLine) (q : Q .non (upd H l (.lst (xs ++ [y]))))
def r6 : V → List V → Hp → VK → Prop := fun x vs H Q => Cu x vs H Q
theorem bR : CS X "list.append" r6 := by
  intro pins s σ H x vs v us Q I rx rv h
  obtain ⟨l, xs, y, rfl, rfl, hH, hz, q⟩ := h
  cases rx
  obtain ⟨u, rfl, ru⟩ := rv.one
  obtain ⟨z, its, n, r, hl, e⟩ := I.zG hH
  refine call_meets F.slot_list_append ⟨_, e, rfl⟩ F.entry_list_append (F.args_list_append_2 _ _) (PySem.list_append l its.toArray n u (by rw [List.size_toArray]; omega)) ⟨e, ?_⟩
  refine ⟨.non, _, I.Ag (its' := its ++ [u]) hH e (by simp) (r.append (.cons ru .nil)) ?_, rfl, q⟩
  rw [List.length_append, List.length_singleton]
  omega
def Co : V → List V → Hp → VK → Prop := fun x vs H Q => ∃ l b xs zs, x = .ref l ∧ vs = [.ref b] ∧ H l = some (.lst xs) ∧ H b = some (.lst zs) ∧ xs.length + zs.length ≤ sizeLine ∧ Q .non (upd H l (.lst (xs ++ zs)))
def EA : V → List V → Hp → VK → Prop := fun x vs H Q => ∃ l xs y, x = .ref l ∧ vs = [] ∧ H l = some (.lst xs) ∧ xs[xs.length - 1]? = some y ∧ Q y (upd H l (.lst xs.dropLast))
def CG : V → List V → Hp → VK → Prop := fun x vs H Q => ∃ l xs i k y, x = .ref l ∧ vs = [.int i] ∧ H l = some (.lst xs) ∧ -(2 ^ 63) ≤ i ∧ i < 2 ^ 63 ∧ seqIndex? i xs.length = some k ∧ xs[k]? = some y ∧ Q y (upd H l (.lst (xs.eraseIdx k)))
def o8 : V → List V → Hp → VK → Prop := fun x vs H Q => ∃ l xs, x = .ref l ∧ vs = [] ∧ H l = some (.lst xs) ∧ Q .non (upd H l (.lst xs.reverse))
theorem iw : CS X "list.reverse" o8 := by
  intro pins s σ H x vs v us Q I rx rv h
  obtain ⟨l, xs, rfl, rfl, hH, q⟩ := h
  cases rx
  have hus := rv.zero
  subst hus
  obtain ⟨z, its, n, r, hl, e⟩ := I.zG hH
  refine call_meets F.slot_list_reverse ⟨_, e, rfl⟩ F.entry_list_reverse (F.args_list_reverse_1 _) (AutoSeq1.list_reverse_list_0 l its.toArray n (by rw [List.size_toArray]; omega)) ⟨e, ?_⟩
  refine ⟨.non, _, I.Ag (its' := its.reverse) hH e (by simp) r.reverse ?_, rfl, q⟩
  rw [List.length_reverse]
  omega
def vz : V → List V → Hp → VK → Prop := fun x vs H Q => ∃ l xs, x = .ref l ∧ vs = [] ∧ H l = some (.lst xs) ∧ Q .non (upd H l (.lst []))
theorem kI : CS X "list.clear" vz := by
  intro pins s σ H x vs v us Q I rx rv h
  obtain ⟨l, xs, rfl, rfl, hH, q⟩ := h
  cases rx
  have hus := rv.zero
  subst hus
  obtain ⟨z, its, n, r, hl, e⟩ := I.zG hH
  refine call_meets F.slot_list_clear ⟨_, e, rfl⟩ F.entry_list_clear (F.args_list_clear_1 _) (AutoSeq1.list_clear_list_0 l its.toArray n (by rw [List.size_toArray]; omega)) ⟨e, ?_⟩
  exact ⟨.non, _, I.Ag (its' := []) (ys := []) hH e rfl .nil (Nat.zero_le _), rfl, q⟩
def Ef : R2 := fun x y H Q => ∃ l b xs zs, x = .ref l ∧ y = .ref b ∧ H l = some (.lst xs) ∧ H b = some (.lst zs) ∧ xs.length + zs.length ≤ sizeLine ∧ ∀ p, H p = none → Q (.ref p) (upd H p (.lst (xs ++ zs)))
def Eb : R2 := fun x y H Q => ∃ l k xs, x = .ref l ∧ y = .int k ∧ H l = some (.lst xs) ∧ -(2 ^ 63) ≤ k ∧ k < 2 ^ 63 ∧ xs.length * k.toNat ≤ sizeLine ∧
  ∀ p, H p = none → Q (.ref p) (upd H p (.lst (List.replicate k.toNat xs).flatten))
end
section
variable {prog : Program} {w : World} {A : Around} {E : Value → Shared → Prop} {s : Shared}
set_option maxRecDepth 100000 in
end
section
variable {X : Cx}
end
end L2
namespace Att
open PySem PySem.W PySem.Calls PyProof.Rows
theorem jV {P : Params} {h : Heap} : ∀ (ns : List Int) (vs : List Value), WellAll P h vs (ns.map WData.int) → IntsAre vs ns := by
  intro ns
  induction ns with
  | nil =>
    intro vs w
    rw [List.map_nil] at w
    cases w
    exact .nil
  | cons n ns ih =>
    intro vs w
    rw [List.map_cons] at w
    cases w with
    | cons a b =>
      cases a
      exact .cons _ _ (ih _ b)
theorem sZ {l : OpenLaw} {n : Nat} (hn : l.most = some n) {P : Params} {h : Heap} {args : List WData} {vals : List Value}
    (hpre : l.row.toRowW.claim.pre args = true) (hwl : WellAll P h vals args) :
    ∃ a vs ns, vals = [Value.ref a] ∧ args = [WData.list (ns.map WData.int)] ∧ h.get? a = some { cls := .type "list", data := .seq vs.toArray } ∧ IntsAre vs ns ∧ ns.length ≤ n := by
  have hsh : WShape.hasAll [] args [.list .int] = true := (pre_splitW hpre).1
  have hc : l.pre.holds [] { args := args } = true := (pre_splitW hpre).2
  obtain ⟨d, r, rfl, h1, h2⟩ := hasAllW_cons hsh
  obtain rfl := hasAllW_nil h2
  obtain ⟨xs, rfl, h3⟩ := hasW_list h1
  obtain ⟨ns, rfl⟩ := items_int h3
  have hlen : ns.length ≤ n := by
    unfold OpenLaw.pre at hc
    have h4 : (WTm.not (.lt (.lit (.int (n : Int))) (.len (.arg 0)))).holds [] { args := [.list (ns.map .int)] } = true := by
      have h4 := (holds_andW hc).1
      rw [hn] at h4
      exact h4
    have h5 := condW_of h4 (w_not (w_lt w_lit (w_len_list (w_arg rfl))))
    rw [List.length_map] at h5
    refine Nat.le_of_not_lt fun q => ?_
    have q' : (n : Int) < ((ns.length : Nat) : Int) := by omega
    first
      | (rw [decide_eq_true q'] at h5; exact absurd h5 (by decide))
      | (simp at h5; omega)
  cases hwl with
  | cons w1 w2 =>
    cases w2
    cases w1 with
    | list ho hall => exact ⟨_, _, ns, rfl, rfl, ho, jV ns _ hall, hlen⟩
theorem tW (l : OpenLaw) (args : List WData) : l.row.toRowW.claim.post args (.bool true) args = true :=
  postW_of (r := l.row.toRowW) (X := (true == true))
    (show WShape.has [] (.bool true) .bool = true by first | rfl | decide | simp [WShape.has, WShape.arms, WShape.armsAll])
    (show (WTm.eq .res (.lit (.bool true))).value [] { args := args, res := some (.bool true), after := args } = some (.bool (true == true)) from w_eq_bool (w_res rfl) w_lit) rfl
theorem o6 {l : OpenLaw} {n : Nat} {q : Program} {loose : List Str} {XP : (Str → Option Value) → Heap → Prop} {YP : World → Heap → Prop} {d : DefRec}
    (hn : l.most = some n) (hdf : d.params.defaults = [])
    (call : ∀ (w : World) (s₀ s₁ : Shared) (mg mb : Str → Option Value) (fa : Addr) (o : Obj) (pm cd doc : Value) (a : Addr) (vs : List Value) (ns : List Int),
      Ground q loose [] XP w s₀ mg mb s₁.heap → YP w s₁.heap →
      s₁.heap.get? fa = some o → o.data = .func (docDef d.name d.params d.body d.scope pm cd doc) → s₁.heap.CodeRec cd d.name → mg d.name = some (.ref fa) →
      s₁.heap.get? a = some { cls := .type "list", data := .seq vs.toArray } → IntsAre vs ns → ns.length ≤ n → s₁.gens = #[] →
      codeAny (model l.prog w) callerA (.call (.ref fa) ⟨[.ref a], []⟩) (fun r s' => r = .ok (.ret (.bool true)) ∧ OldK s₁.heap s'.heap ∧ s'.os = s₁.os ∧ AllBare s'.gens) s₁) :
    WalkO q loose XP YP l.row.toRowW d [] (fun f vs => PySem.call f vs) := by
  intro w s₀ s₁ mg mb G Y fa o pm cd doc dV kV ho hd hcd hD hmg hg args vals as hpre hlay hrd hwl hlo
  obtain rfl : dV = .none := Dflts.none hD hdf
  obtain rfl : kV = .none := Dflts.noKw hD
  obtain ⟨a, vs, ns, rfl, rfl, hobj, hints, hlen⟩ := sZ hn hpre hwl
  refine enter_call (codeAny_mono (call w s₀ s₁ mg mb fa o pm cd doc a vs ns G Y ho (fd_plain hd) hcd hmg hobj hints hlen hg) fun r s' hq => ?_)
  obtain ⟨rfl, h2, h3, h4⟩ := hq
  exact ⟨.inl ⟨.bool true, .bool true, [], rfl, fun _ => rfl, .bool true, tW l _, fun _ => ⟨List.Pairwise.nil, fun _ hm => (nomatch hm)⟩⟩, h2, h3, h4⟩
section
variable {prog : Program} {w : World} {A : Around} {E : Value → Shared → Prop} {s : Shared} {K : Frag}
def C5 (h : Heap) : Heap := { h with objs := #[] }
def ledger (h : Heap) (L d : Addr) : List (Addr × Obj) := (List.range h.objs.size).filterMap fun a => if a = L ∨ a = d then none else (h.get? a).map fun o => (a, o)
end
end Att
namespace L2
open PySem PySem.Spec PyProof.Rows
theorem mB : ∀ {vs : List Value} {ns : List Int}, IntsAre vs ns → Vals (ns.map V.int) vs
  | _, _, .nil => .nil
  | _, _, .cons n t h => .cons ⟨t, rfl⟩ (mB h)
def zZ (H : Hp) : Prop := ∀ b, H b = none ∨ ∃ o xs, H b = some (.frz o (.lst xs))
theorem wG {P : Program} {w : World} {K : PySem.W.Frag} {mg mb : Str → Option Value} {CX : uI} {k : Nat} {fa a : Addr} {fd : FuncData} {x : Str} {sp : Sp} {s₁ : Shared} {vs : List Value} {ns : List Int}
    (KX : K.In s₁.heap) (hns : s₁.heap.Ns mainGlobals mg) (hb : s₁.heap.Ns builtinsNs mb) (hbb : ∀ x : Str, x ≠ "__name__" → mb x = bootBuiltins x) (hlim : s₁.heap.NoLimit) (hg : s₁.gens = #[])
    (ha : s₁.heap.get? a = some { cls := .type "list", data := .seq vs.toArray }) (hi : IntsAre vs ns) (hl : ns.length ≤ sizeLine) (hr : cy k callerA)
    (F : ∀ base : Heap, K.In base → base.Ns mainGlobals mg → dW P w K mg base CX k fa fd [x] sp) (hbind : ∀ (s : Shared) (u : Value), BindsTo s fd ⟨[u], []⟩ [(x, u)])
    (hsp : ∀ H : Hp, zZ H → aJ K H a (ns.map V.int) → sp [.ref a] H (fun v _ => v = .bl true) fun _ _ _ => False)
    (hCX : ∀ H e s', CX [] H s₁ (fun _ _ _ => False) e s' → False) :
    codeAny (model P w) callerA (.call (.ref fa) ⟨[.ref a], []⟩) (fun r s' => r = .ok (.ret (.bool true)) ∧ OldK s₁.heap s'.heap ∧ s'.os = s₁.os ∧ AllBare s'.gens) s₁ := by
  have rv := mB hi
  have lenV := hi.length
  have core : ∀ H : Hp, zZ H → aJ K H a (ns.map V.int) → fP P w H s₁.heap → (∀ b, H b ≠ none → b = a) → (H a ≠ none → K.lookup a = none) →
      codeAny (model P w) callerA (.call (.ref fa) ⟨[.ref a], []⟩) (fun r s' => r = .ok (.ret (.bool true)) ∧ OldK s₁.heap s'.heap ∧ s'.os = s₁.os ∧ AllBare s'.gens) s₁ := by
    intro H hO hS hok hA hK
    have base_of : ∀ {b : Addr} {o : Obj}, s₁.heap.get? b = some o → H b = none → (nh s₁.heap H).get? b = some o := fun e n => vy e n
    have noA : ∀ {b : Addr} {o : Obj} {es : Array DictEntry} {ep : Nat}, s₁.heap.get? b = some o → o.data = .dict es ep → H b = none := fun {b o es ep} e d => by
      cases q : H b with
      | none => rfl
      | some u =>
        have e' : b = a := hA b (by rw [q]; simp)
        subst e'
        rw [ha] at e; cases e
        have d' : Data.seq vs.toArray _ = Data.dict es ep := d
        cases d'
    have nsK : ∀ {b : Addr} {m : Str → Option Value}, s₁.heap.Ns b m → (nh s₁.heap H).Ns b m := fun {b m} ⟨o, es, ep, e, d, r⟩ => ⟨o, es, ep, base_of e (noA e d), d, r⟩
    have hKb : K.In (nh s₁.heap H) := fun b o e => base_of (KX b o e) (by
      cases q : H b with
      | none => rfl
      | some u =>
        have e' : b = a := hA b (by rw [q]; simp)
        subst e'
        rw [hK (by rw [q]; simp)] at e; cases e)
    have hM : Mod K mg (nh s₁.heap H) := ⟨hKb, nsK hns, ⟨mb, nsK hb, hbb⟩, let ⟨mc, h1, h2⟩ := hlim; ⟨mc, nsK h1, h2⟩⟩
    have e0 : mf P w K mg (nh s₁.heap H) callerA [] s₁ H := ⟨rfl, hM, fun b o e => xI e, Nat.le_of_eq (sO _ _), trivial, fun b hb => absurd (show b ∈ ([] : List Addr) from hb) (by simp), hok, .of_eq hg⟩
    refine codeAny_mono ((F _ hKb (nsK hns)).run callerA [] s₁ H ⟨[.ref a], []⟩ [.ref a] [.ref a] _ _ hr e0 (hbind s₁ (.ref a)) (.cons rfl .nil) (hsp H hO hS)) fun r s' h => ?_
    cases r with
    | error e => exact (hCX H e s' h).elim
    | ok fl =>
      cases fl with
      | next => exact False.elim h
      | brk => exact False.elim h
      | cont => exact False.elim h
      | ret u =>
        obtain ⟨v, H', os, bare, un, hok', r', q⟩ := h
        have q' : v = .bl true := q
        subst q'
        obtain rfl : u = Value.bool true := r'
        refine ⟨rfl, OldK.of_keep fun b o e => ?_, os, bare⟩
        cases q : H b with
        | none => exact un.keep b o e q (by intro z; exact absurd (show b ∈ ([] : List Addr) from z) (by simp)) (by simp)
        | some u =>
          rcases hO b with z | ⟨ob, xs, z⟩
          · rw [q] at z; cases z
          · have z2 := un.frzs b ob _ z
            obtain ⟨e1, _⟩ := hok b _ z
            obtain ⟨e2, _⟩ := hok' b _ z2
            rw [e] at e1; cases e1
            exact e2
  cases hk : K.lookup a with
  | some o =>
    have e := KX a o hk
    rw [ha] at e
    cases e
    refine core (fun _ => none) (fun _ => .inl rfl) (.inr ⟨_, vs.toArray, _, hk, rfl, rfl, rfl, by rw [List.size_toArray, lenV]; exact hl, by simpa using rv⟩) (fun b u z => by have z' : (none : Option HO) = some u := z; cases z') (fun b z => absurd rfl z) fun z => absurd rfl z
  | none =>
    refine core (fun b => if b = a then some (.frz { cls := .type "list", data := .seq vs.toArray } (.lst (ns.map V.int))) else none) (fun b => ?_) (.inl (.inr ⟨{ cls := .type "list", data := .seq vs.toArray }, if_pos rfl⟩)) (fun b u z => ?_) (fun b z => ?_) fun _ => hk
    · by_cases hb : b = a
      · exact .inr ⟨_, _, if_pos hb⟩
      · exact .inl (if_neg hb)
    · by_cases hb : b = a
      · have z' := (if_pos hb).symm.trans z
        cases z'
        subst hb
        exact ⟨ha, by rw [List.length_map]; exact hl, vs, _, rv, ha⟩
      · have z' := (if_neg hb).symm.trans z
        cases z'
    · by_cases hb : b = a
      · exact hb
      · exact absurd (if_neg hb) z
end L2
namespace L2
open PySem PySem.Spec PyProof.Rows
abbrev ET {K : PySem.W.Frag} {h : Heap} (_ : K.In h) : PySem.W.Frag := K
theorem xE {l : PySem.W.OpenLaw} {n k : Nat} {q : Program} {loose : List Str} {XP : (Str → Option Value) → Heap → Prop} {YP : World → Heap → Prop} {d : DefRec} {K : Params → PySem.W.Frag} {CX : World → uI} {sp : World → Sp} {x : Str}
    (hn : l.most = some n) (hn2 : n ≤ sizeLine) (hdf : d.params.defaults = []) (hr : cy k callerA)
    (hY : ∀ (w : World) (h : Heap), YP w h → (K w.params).In h)
    (F : ∀ (w : World) (mg : Str → Option Value) (fa : Addr) (h : Heap), (K w.params).In h → h.Ns mainGlobals mg → mg d.name = some (.ref fa) →
      ∃ fd : FuncData, (∀ (s : Shared) (u : Value), BindsTo s fd ⟨[u], []⟩ [(x, u)]) ∧
        ∀ base : Heap, (K w.params).In base → base.Ns mainGlobals mg → dW l.prog w (K w.params) mg base (CX w) k fa fd [x] (sp w))
    (hsp : ∀ (w : World) (H : Hp) (a : Addr) (ns : List Int), ns.length ≤ n → zZ H → aJ (K w.params) H a (ns.map V.int) → sp w [.ref a] H (fun v _ => v = .bl true) fun _ _ _ => False)
    (hCX : ∀ (w : World) (H : Hp) (s : Shared) (e : Value) (s' : Shared), CX w [] H s (fun _ _ _ => False) e s' → False) :
    PySem.W.WalkO q loose XP YP l.row.toRowW d [] (fun f vs => PySem.call f vs) := by
  refine Att.o6 hn hdf fun w s₀ s₁ mg mb fa o pm cd doc a vs ns G Y ho hd hcd hmg hobj hints hlen hg => ?_
  have KX := hY w _ Y
  obtain ⟨fd, hb, hF⟩ := F w mg fa _ KX G.T.g hmg
  exact wG KX G.T.g G.T.b G.T.builtins G.T.nolimit hg hobj hints (Nat.le_trans hlen hn2) hr hF hb (fun H hO hS => hsp w H a ns hlen hO hS) fun H e s' => hCX w H s₁ e s'
end L2
namespace L2
open PySem PySem.Spec PyProof.Rows
abbrev jP : uI := fun _ _ _ _ _ _ => False
abbrev E0 : XK := fun _ _ _ => False
theorem r8 {X : Cx} : Passes jP X E0 := fun _ _ _ _ _ _ _ h => h.elim
structure lZ (K : PySem.W.Frag) (x qual : Str) (st : Stmt) (f : Addr) (fd : FuncData) : Prop where
  ex : ∃ (oc : Value) (od : Option Addr) (kV doc pm : Value) (an : Option Addr) (cdv ct : Value) (osl : Array (Option Value)),
    fd = PySem.W.fnOf x qual (aF st) (aA st) (aa st) .none kV doc pm an cdv ct ∧ K.lookup f = some ⟨oc, od, .func fd, osl⟩ ∧ PySem.W.codeIn K cdv qual = true
  kp : PySem.W.keepIn K (.ref f) = true
section
variable {P : Program} {w : World} {K : PySem.W.Frag} {mg : Str → Option Value} {base : Heap}
theorem lZ.ok {x qual : Str} {st : Stmt} {f : Addr} {fd : FuncData} {N ps : List Str} {k : Nat} {sp : Sp} (F : lZ K x qual st f fd) (S : aB N ps (aa st)) (len : ∀ vs H Q E, sp vs H Q E → vs.length = ps.length)
    (hbody : ∀ (cdv : Value) (A : Around) (outer : List Env) (s : Shared) (H : Hp) (vs : List V) (Q : VK) (E : XK), cy k (A.deeper (envOfC qual (aa st) s.heap.objs.size f cdv)) → sp vs H Q E →
      ∃ t, pV (p9 jP P w K mg base N qual (aa st) f cdv A outer s H E).AL (aA st) t ∧ t { nx := fun _ H' => Q .non H', rt := Q } (start N vs) H) : dW P w K mg base jP (k + 1) f fd ps sp := by
  obtain ⟨oc, od, kV, doc, pm, an, cdv, ct, osl, rfl, lk, hcd⟩ := F.ex
  refine Be lk hcd S len fun A outer s H vs Q E hr hsp => ?_
  obtain ⟨t, h, q⟩ := hbody cdv A outer s H vs Q E hr hsp
  exact ⟨t, h.AL, q⟩
theorem lZ.binds {x qual : Str} {st : Stmt} {f : Addr} {fd : FuncData} {ps : List Str} (F : lZ K x qual st f fd)
    (h : ∀ (kV doc pm : Value) (an : Option Addr) (cdv ct : Value) (us : List Value), us.length = ps.length → bindArgs (PySem.W.fnOf x qual (aF st) (aA st) (aa st) .none kV doc pm an cdv ct) ⟨us, []⟩ = pure (ps.zip us)) : Binds K fd ps [] := by
  obtain ⟨oc, od, kV, doc, pm, an, cdv, ct, osl, rfl, lk, hcd⟩ := F.ex
  exact .all (h kV doc pm an cdv ct)
theorem aK {x qual : Str} {st : Stmt} {f : Addr} {oc : Value} {od an : Option Addr} {osl : Array (Option Value)} {kV doc pm cdv ct : Value} (l : K.lookup f = some ⟨oc, od, .func (PySem.W.fnOf x qual (aF st) (aA st) (aa st) .none kV doc pm an cdv ct), osl⟩)
    (c : PySem.W.codeIn K cdv qual = true) (k : PySem.W.keepIn K (.ref f) = true) : lZ K x qual st f (PySem.W.fnOf x qual (aF st) (aA st) (aa st) .none kV doc pm an cdv ct) := ⟨⟨oc, od, kV, doc, pm, an, cdv, ct, osl, rfl, l, c⟩, k⟩
end
theorem gA {A : Around} {k : Nat} (hr : cy k A) : A.units + 1 < cLine := Nat.lt_of_le_of_lt (Nat.add_le_add_left (by decide : 1 ≤ 64) _) hr.units
section
variable {X : Cx}
theorem pv (i : Nat) {x : Str} {pos : Pos} (hN : X.N[i]? = some x := by rfl) (hv : CN X.env.scope x := by first | exact Or.inl rfl | exact Or.inr (Or.inl rfl) | exact Or.inr (Or.inr rfl)) (hd : (x == ("__debug__" : Str)) = false := by decide)
    (hcd : (x == ("__classdict__" : Str)) = false := by decide) : PE X (.Name x pos) (iW i) := ji hN hv hd hcd
end
theorem bY {A B : Prop} (h : B) : if false = true then A else B := by
  rw [if_neg Bool.false_ne_true]
  exact h
theorem cP {A B : Prop} (h : A) : if true = true then A else B := by
  rw [if_pos rfl]
  exact h
theorem cH {c A B : Prop} [Decidable c] (h1 : c → A) (h2 : ¬ c → B) : if c then A else B := by
  by_cases h : c
  · rw [if_pos h]
    exact h1 h
  · rw [if_neg h]
    exact h2 h
def au (H H' : Hp) : Prop := ∀ b o, H b = some o → H' b = some o
theorem au.refl (H : Hp) : au H H := fun _ _ h => h
theorem au.trans {H H1 H2 : Hp} (a : au H H1) (b : au H1 H2) : au H H2 := fun c o h => b c o (a c o h)
theorem au.free {H H' : Hp} (e : au H H') {l : Addr} (h : H' l = Option.none) : H l = Option.none := by
  cases q : H l with
  | none => rfl
  | some o =>
    rw [e l o q] at h
    cases h
theorem au.seq {K : PySem.W.Frag} {H H' : Hp} {a : Addr} {xs : List V} (e : au H H') (h : aJ K H a xs) : aJ K H' a xs := by
  rcases h with (h | ⟨o, h⟩) | h
  · exact .inl (.inl (e _ _ h))
  · exact .inl (.inr ⟨o, e _ _ h⟩)
  · exact .inr h
end L2
namespace L2
open PySem PySem.Builtin.Str
end L2
namespace L2
open PySem PySem.Spec PyProof.Rows
theorem qJ {env : Env} {scope : Scope} (h : ∀ y ∈ scope.names, y.2 = .free → ∃ c, env.cells.lookup y.1 = some c) :
    ∃ cl, closureFor scope env = pure cl ∧ (∀ y c, cl.lookup y = some c → env.cells.lookup y = some c) ∧ (∀ y ∈ scope.names, y.2 = .free → cl.lookup y.1 = env.cells.lookup y.1) := by
  have gen : ∀ (names : List (Str × NameKind)) (acc : List (Str × Addr)), (∀ y ∈ names, y.2 = .free → ∃ c, env.cells.lookup y.1 = some c) → (∀ y c, acc.lookup y = some c → env.cells.lookup y = some c) →
      ∃ cl, (forIn (m := Sem) names acc fun x r => match x with
        | (name, kind) => if (kind == NameKind.free) = true then do
            let a ← cellOf env name
            pure (ForInStep.yield ((name, a) :: r))
          else pure (ForInStep.yield r)) = pure cl ∧ (∀ y c, cl.lookup y = some c → env.cells.lookup y = some c) ∧ (∀ y c, acc.lookup y = some c → cl.lookup y = some c) ∧ (∀ y ∈ names, y.2 = .free → cl.lookup y.1 = env.cells.lookup y.1) := by
    intro names
    induction names with
    | nil => intro acc _ ha; exact ⟨acc, rfl, ha, fun _ _ e => e, fun y hy => nomatch hy⟩
    | cons x r ih =>
      intro acc hn ha
      obtain ⟨n, k⟩ := x
      by_cases hk : k = .free
      · subst hk
        obtain ⟨c, hc⟩ := hn (n, .free) List.mem_cons_self rfl
        have hc' : cellOf env n = pure c := by
          unfold cellOf
          rw [show env.cells.lookup n = some c from hc]
        have ha' : ∀ y d, ((n, c) :: acc).lookup y = some d → env.cells.lookup y = some d := fun y d e => by
          rw [List.lookup_cons] at e
          cases q : y == n with
          | true => rw [q] at e; cases e; rw [eq_of_beq q]; exact hc
          | false => rw [q] at e; exact ha y d e
        obtain ⟨cl, e, h1, h2, h3⟩ := ih ((n, c) :: acc) (fun y hy => hn y (List.mem_cons_of_mem _ hy)) ha'
        refine ⟨cl, ?_, h1, fun y d q => ?_, fun y hy hf => ?_⟩
        · rw [List.forIn_cons]
          simp only [beq_self_eq_true, if_true, hc']
          exact e
        · cases z : y == n with
          | true =>
            have : y = n := eq_of_beq z
            subst this
            have q1 := ha y d q
            rw [hc] at q1; cases q1
            exact h2 y c (by rw [List.lookup_cons, z])
          | false => exact h2 y d (by rw [List.lookup_cons, z]; exact q)
        · rcases List.mem_cons.mp hy with rfl | hy
          · have := h2 n c (by rw [List.lookup_cons, beq_self_eq_true])
            rw [this, hc]
          · exact h3 y hy hf
      · have hb : (k == NameKind.free) = false := by simpa using hk
        obtain ⟨cl, e, h1, h2, h3⟩ := ih acc (fun y hy => hn y (List.mem_cons_of_mem _ hy)) ha
        refine ⟨cl, ?_, h1, h2, fun y hy hf => ?_⟩
        · rw [List.forIn_cons]
          simp only [hb, Bool.false_eq_true, if_false]
          exact e
        · rcases List.mem_cons.mp hy with rfl | hy
          · exact absurd hf hk
          · exact h3 y hy hf
  obtain ⟨cl, e, h1, _, h3⟩ := gen scope.names [] h (fun y c e => by cases e)
  refine ⟨cl, ?_, h1, h3⟩
  simp only [closureFor]
  rw [show (forIn scope.names ([] : List (Str × Addr)) _ : Sem _) = pure cl from e]
  rfl
theorem iN {env : Env} (hk : env.scope.kind = .function) : ∀ {names : List (Str × NameKind)} {x : Str}, names.lookup x = some .free → env.kindOf x = some .cell →
    (names.map fun (n, k) => if (k == NameKind.free && env.scope.kind == .function && env.kindOf n == some .cell) then (n, NameKind.cell) else (n, k)).lookup x = some .cell
  | [], _, h, _ => by simp at h
  | (n, k) :: r, x, h, hc => by
    have ih := @iN env hk r x
    show List.lookup x ((if (k == NameKind.free && env.scope.kind == .function && env.kindOf n == some .cell) = true then (n, NameKind.cell) else (n, k)) :: _) = _
    cases hx : x == n with
    | true =>
      simp only [List.lookup_cons, hx] at h
      cases h
      have e : x = n := eq_of_beq hx
      subst e
      rw [if_pos (by simp [hk, hc])]
      simp [List.lookup_cons]
    | false =>
      simp only [List.lookup_cons, hx] at h
      by_cases hc' : (k == NameKind.free && env.scope.kind == .function && env.kindOf n == some .cell) = true
      · rw [if_pos hc']; simp only [List.lookup_cons, hx]; exact ih h hc
      · rw [if_neg hc']; simp only [List.lookup_cons, hx]; exact ih h hc
theorem iK {env : Env} {scope : Scope} {y : Str} {k' : NameKind} (h : (relabel scope env).names.lookup y = some k') (hk' : k' = .cell ∨ k' = .free) (nocell : ∀ z ∈ scope.names, z.2 ≠ .cell) : (y, NameKind.free) ∈ scope.names := by
  have hm := PySem.mem_of_lookup h
  obtain ⟨⟨n, k⟩, hm', e⟩ := List.mem_map.mp hm
  dsimp only at e
  split at e
  · rename_i c
    cases e
    rw [Bool.and_eq_true, Bool.and_eq_true] at c
    have e2 : k = .free := by simpa using c.1.1
    subst e2
    exact hm'
  · cases e
    rcases hk' with rfl | rfl
    · exact absurd rfl (nocell _ hm')
    · exact hm'
def cz (X : Cx) (N' : List Str) (scope : Scope) (cl : List (Str × Addr)) (fp : List Addr) (s3 : Shared) (H3 : Hp) (C : Addr) : Cx :=
  { X with N := N', s₀ := s3, H₀ := H3, env := compEnvC scope cl C X.env, outer := X.stack, ex := fp, fn := fun _ => false, pn := [], xe := fun _ _ => False }
def dE (is : List Nat) (σ : St) : St := is.map fun i => (σ[i]?).join
def fV (J : It) (is : List Nat) (te : TE) (σ : St) (H1 : Hp) (Q : VK) : Prop := ∀ D, H1 D = none → ∃ W : Nat → Nat → List V → Hp → Prop, (∃ m, W 0 m [] (upd H1 D (.lst []))) ∧
  ∀ i m ys H2, W i m ys H2 → H2 D = some (.lst ys) ∧ ((J.stop i H2 ∧ Q (.ref D) H2) ∨ (J.go i H2 ∧ ∀ v H3, J.yld i H2 v H3 → te (some v :: dE is σ) H3 fun y H4 =>
    H4 D = some (.lst ys) ∧ ys.length < sizeLine ∧ ∃ m', m' < m ∧ W (i + 1) m' (ys ++ [y]) (upd H4 D (.lst (ys ++ [y])))))
def Dy (wi : TI) (is : List Nat) (te : TE) : TE := fun σ H Q => wi σ H fun J H1 => fV J is te σ H1 Q
structure Bd (sc : Scope) (N : List Str) (x : Str) (scope : Scope) (is : List Nat) (ns : List Str) : Prop where
  kind : scope.kind = .function := by rfl
  nocell : ∀ y ∈ scope.names, y.2 ≠ .cell := by decide +kernel
  names : ∀ y ∈ scope.names, y.2 = .local → scope.names.lookup y.1 = some .local := by decide +kernel
  free : ∀ y ∈ scope.names, y.2 = .free → sc.names.lookup y.1 = some .cell := by decide +kernel
  hx : scope.names.lookup x = some .local := by rfl
  cap : ns.map some = is.map fun i => N[i]? := by rfl
  nd : (x :: ns).Nodup := by decide +kernel
  capf : ∀ y ∈ ns, scope.names.lookup y = some .free ∧ sc.names.lookup y = some .cell := by decide +kernel
section
variable {X : Cx} {x : Str} {px pos : Pos} {elt iter : Expr} {scope : Scope} {wi : TI} {te : TE} {is : List Nat} {ns : List Str}
end
end L2
namespace L2
open PySem PySem.Spec PyProof.Rows
section
variable {K : PySem.W.Frag} {is : List Nat} {te : TE} {σ : St} {H : Hp} {Q : VK}
theorem au.upd {H : Hp} {D : Addr} {o : HO} (h : H D = none) : au H (upd H D o) := fun b u e => by
  rw [ao (aj e h)]
  exact e
theorem wz {J : It} {xs : List V} (f : V → V) (hz : xs.length ≤ sizeLine) (hgo : ∀ i H2, au H H2 → i < xs.length → J.go i H2) (hstop : ∀ H2, au H H2 → J.stop xs.length H2)
    (hy : ∀ i H2 v H3, au H H2 → i < xs.length → J.yld i H2 v H3 → H3 = H2 ∧ xs[i]? = some v)
    (he : ∀ v H2 Q', v ∈ xs → au H H2 → Q' (f v) H2 → te (some v :: dE is σ) H2 Q') (q : ∀ D, H D = none → Q (.ref D) (upd H D (.lst (xs.map f)))) : fV J is te σ H Q := by
  intro D hD
  refine ⟨fun i m ys H2 => m = xs.length - i ∧ i ≤ xs.length ∧ ys = (xs.take i).map f ∧ H2 = upd H D (.lst ys), ⟨_, rfl, Nat.zero_le _, by simp, rfl⟩, ?_⟩
  rintro i m ys H2 ⟨rfl, hi, hys, rfl⟩
  have sm : au H (upd H D (.lst ys)) := au.upd hD
  refine ⟨af, ?_⟩
  by_cases hlt : i < xs.length
  · refine .inr ⟨hgo i _ sm hlt, fun v H3 y => ?_⟩
    obtain ⟨rfl, hv⟩ := hy i _ v H3 sm hlt y
    refine he v _ _ (List.mem_of_getElem? hv) sm ⟨af, ?_, xs.length - (i + 1), by omega, rfl, hlt, ?_, yp⟩
    · rw [hys, List.length_map, List.length_take]
      omega
    · rw [hys, List.take_add_one, hv, List.map_append]
      rfl
  · have e : i = xs.length := by omega
    subst e
    refine .inl ⟨hstop _ sm, ?_⟩
    rw [hys, List.take_length]
    exact q D hD
theorem au.Aw {K : PySem.W.Frag} {H H' : Hp} {a : Addr} {xs : List V} (e : au H H') (h : aL K H a xs) : aL K H' a xs := by
  rcases h with (h | ⟨o, h⟩) | h
  · exact .inl (.inl (e _ _ h))
  · exact .inl (.inr ⟨o, e _ _ h⟩)
  · exact .inr h
theorem v3 {lo : Int} {n : Nat} (f : V → V) (hz : n ≤ sizeLine) (he : ∀ (i : Nat) H2 Q', i < n → au H H2 → Q' (f (.int (lo + i))) H2 → te (some (.int (lo + i)) :: dE is σ) H2 Q')
    (q : ∀ D, H D = none → Q (.ref D) (upd H D (.lst ((List.range n).map fun (i : Nat) => f (.int (lo + i)))))) : fV (wZ lo n) is te σ H Q := by
  refine wz (xs := (List.range n).map fun (i : Nat) => V.int (lo + i)) f (by simpa using hz) (fun i H2 _ hi => ?_) (fun H2 _ => ?_) (fun i H2 v H3 _ hi y => ?_) (fun v H2 Q' hv sm q' => ?_) (fun D hD => ?_)
  · show i < n
    simpa using hi
  · show n ≤ _
    simp
  · obtain ⟨rfl, rfl⟩ := y
    have hi' : i < n := by simpa using hi
    exact ⟨rfl, by simp [hi']⟩
  · obtain ⟨i, hi, rfl⟩ := List.mem_map.mp hv
    exact he i H2 Q' (List.mem_range.mp hi) sm q'
  · rw [List.map_map]
    exact q D hD
end
def signs (z : Str) : List V := z.cps.toList.map fun c => V.str ⟨#[c]⟩
theorem signs_length (z : Str) : (signs z).length = z.cps.size := by simp [signs]
def CL (z : Str) : It := ⟨fun i _ => i < z.cps.size, fun i H x H' => H' = H ∧ (signs z)[i]? = some x, fun i _ => i = z.cps.size⟩
theorem uV {P : Program} {w : World} {K : PySem.W.Frag} {tg : Expr} {ty : String} {z : Str} {t : Tok} (it : Addr) (hW : ∀ A : Around, A.handled = none → Walks P w A it [it] [it] z.cps.size (SignAt z) (fun i h => h.IsStrIter it ty z t i))
    (hS : ∀ (A : Around) (i : Nat) (s : Shared) (Q : Value → Shared → Prop) (E : Value → Shared → Prop), s.heap.IsStrIter it ty z t i → Q (.ref it) s → wpAny (model P w) A (pyIter (.ref it)) Q E s)
    (hn : ["enumerate", "zip", "dict_itemiterator", "dict_reverseitemiterator", "odict_iterator", "itertools.zip_longest", "itertools.pairwise"].contains ty = false) : Turn P w K tg (CL z) [it] it (fun i h => h.IsStrIter it ty z t i) where
  mem := by simp
  obj := fun i h st b hb => by
    have e : b = it := by simpa using hb
    subst e
    obtain ⟨o, e, c, d⟩ := st
    exact ⟨o, e, fun v z => by rw [d] at z; cases z⟩
  keep := fun i h h' st k => by
    obtain ⟨o, e, r⟩ := st
    exact ⟨o, k it (by simp) o e, r⟩
  item := by
    intro X hP hw hK hc i pins s σ H E I hf st hg
    subst hP hw hK
    obtain ⟨f0, f1, f2, f3, f4, f5⟩ := hf it (by simp)
    refine (hW X.A (I.ok.hd hc)).item i s _ _ hg st fun v h' tk hv st' kk => ?_
    obtain ⟨c, u, hcp, rfl⟩ := hv
    have I1 : Inv X pins σ H { s with heap := h', toks := tk } := I.turned (fun b o hb e => kk b o (by simpa using hb) e) f0 f1 f3 f4 f5
    obtain ⟨o, e, cc, d⟩ := id st'
    refine ⟨_, rfl, rD (s := { s with heap := h', toks := tk }) e cc d hn ⟨.str ⟨#[c]⟩, H, I1, ⟨u, rfl⟩, ⟨rfl, ?_⟩, st', fun b hb => (hf b hb).1⟩⟩
    unfold signs
    rw [List.getElem?_map, Array.getElem?_toList, hcp]
    rfl
  done := by
    intro X hP hw hK hc i pins s σ H E I hf st hg
    subst hP hw hK
    obtain ⟨f0, f1, f2, f3, f4, f5⟩ := hf it (by simp)
    have hg' : i = z.cps.size := hg
    subst hg'
    exact (hW X.A (I.ok.hd hc)).done s _ _ st fun h' tk kk => ⟨rfl, I.turned (fun b o hb e => kk b o (by simpa using hb) e) f0 f1 f3 f4 f5⟩
  self := hS
section
variable {X : Cx} {tg : Expr}
def Ct (tl : TE) : TI := fun σ H R => tl σ H fun x H1 => ∃ z, x = .str z ∧ R (CL z) H1
theorem zb {l : Expr} {tl : TE} (hl : PE X l tl) : PI X tg l (Ct tl) := by
  intro pins s σ H R I h
  refine bU (hl pins s σ H _ I h) fun v s1 hpat => ?_
  obtain ⟨x, H1, I1, r1, q1⟩ := hpat
  obtain ⟨z, e, q⟩ := q1
  subst e
  obtain ⟨t, rfl⟩ := r1
  have fin : ∀ (ty : String) (hW : ∀ A : Around, A.handled = none → Walks X.prog X.w A s1.heap.objs.size [s1.heap.objs.size] [s1.heap.objs.size] z.cps.size (SignAt z) (fun i h => h.IsStrIter s1.heap.objs.size ty z t i))
      (hS : ∀ (A : Around) (i : Nat) (s : Shared) (Q : Value → Shared → Prop) (E : Value → Shared → Prop), s.heap.IsStrIter s1.heap.objs.size ty z t i → Q (.ref s1.heap.objs.size) s → wpAny (model X.prog X.w) A (pyIter (.ref s1.heap.objs.size)) Q E s)
      (hn : ["enumerate", "zip", "dict_itemiterator", "dict_reverseitemiterator", "odict_iterator", "itertools.zip_longest", "itertools.pairwise"].contains ty = false),
      Cs X pins σ tg R (.ref s1.heap.objs.size) { s1 with heap := s1.heap.push { cls := .type ty, data := .fields #[.str z t, .int 0 0] } } := fun ty hW hS hn => by
    refine ⟨s1.heap.objs.size, [s1.heap.objs.size], _, _, H1, rfl, I1.kept (t' := s1.toks) fun b o e => Heap.get?_push_of_some _ e, uV _ hW hS hn, ⟨_, Heap.get?_push_size _ rfl, rfl, rfl⟩, fun b hb => ?_, q⟩
    have e : b = s1.heap.objs.size := by simpa using hb
    subst e
    exact I1.sQ (Nat.le_refl _) (I1.hok.fresh (Nat.le_refl _))
  cases ha : z.cps.all (· < 128)
  · exact wpAny_pyIter_wide ha (fin "str_iterator" (fun A hA => Walks.strWide hA _ z t) (fun A i s Q E st h => wpAny_pyIter_striter_wide st h) (by decide))
  · exact wpAny_pyIter_ascii ha (fin "str_ascii_iterator" (fun A hA => Walks.strAscii hA _ z t) (fun A i s Q E st h => wpAny_pyIter_striter_ascii st h) (by decide))
theorem zy {z : Str} {is : List Nat} {te : TE} {σ : St} {H : Hp} {Q : VK} (f : V → V) (hz : z.length ≤ sizeLine) (he : ∀ v H2 Q', v ∈ signs z → au H H2 → Q' (f v) H2 → te (some v :: dE is σ) H2 Q')
    (q : ∀ D, H D = none → Q (.ref D) (upd H D (.lst ((signs z).map f)))) : fV (CL z) is te σ H Q :=
  wz f (by rw [signs_length]; exact hz) (fun i H2 _ hi => by rw [signs_length] at hi; exact hi) (fun H2 _ => signs_length z) (fun i H2 v H3 _ hi y => y) he q
theorem pq : ∀ bs : List Bool, ((List.range bs.length).all fun i => bs.getD i false) = bs.all id
  | [] => rfl
  | b :: r => by
    rw [List.length_cons, List.range_succ_eq_map, List.all_cons, List.all_map, List.all_cons, ← pq r]
    rfl
theorem dH (hc : X.calm = true) : dY X (.builtin "all") (fun xs H Q => ∃ (p : Addr) (bs : List Bool), xs = [.ref p] ∧ aJ X.K H p (bs.map V.bl) ∧ Q (.bl (bs.all id)) H) := by
  intro pins s σ H xs us Q I r h
  obtain ⟨p, bs, rfl, hq, q⟩ := h
  obtain ⟨u, rfl, rx⟩ := vals1 r
  cases rx
  obtain ⟨its, rv, pl, hz⟩ := I.list hq
  have hl := rv.length
  rw [List.length_map] at hl
  have hlt : p < s.heap.objs.size := by obtain ⟨o, n, e, _⟩ := pl; exact Heap.lt_size e
  refine call_all_walk (wpAny_pyIter_list pl.isList ?_)
  refine ⟨s.heap.objs.size, [s.heap.objs.size, p], [s.heap.objs.size], its.toArray.size, _, _, fun i => bs.getD i false, rfl, Walks.list (show X.A.in1.handled = none from I.ok.hd hc) s.heap.objs.size p (Nat.ne_of_lt hlt) its.toArray,
    ⟨⟨_, Heap.get?_push_size _ rfl, rfl, rfl⟩, ?_⟩, fun i v s' Q' E' hv hQ => ?_, fun h' tk kk => ?_⟩
  · obtain ⟨o, e, r⟩ := pl.isList
    exact ⟨o, Heap.get?_push_of_some _ e, r⟩
  · have hi : i < bs.length := by
      have : i < its.length := by
        have := (Array.getElem?_eq_some_iff.mp hv).1
        simpa using this
      omega
    have hb : (bs.map V.bl)[i]? = some (V.bl bs[i]) := by simp [hi]
    obtain ⟨u, hu, ru⟩ := rv.get hb
    have hv' : its[i]? = some v := by simpa using hv
    rw [hu] at hv'
    cases hv'
    obtain rfl : v = Value.bool bs[i] := ru
    refine wpAny_truthy_bool ?_
    have e : bs.getD i false = bs[i] := by simp [List.getD, hi]
    rw [← e]
    exact hQ
  · refine ⟨.bl (bs.all id), H, ?_, ?_, q⟩
    · have I1 : Inv X pins σ H { s with heap := s.heap.push { cls := .type "list_iterator", data := .fields #[.ref p, .int 0 0] } } := I.kept (t' := s.toks) fun b o e => Heap.get?_push_of_some _ e
      have I2 : Inv X pins σ H { s with heap := h', toks := tk } := I.kept (t' := tk) fun b o e => kk b o (by
        intro z
        have z' : b = s.heap.objs.size := by simpa using z
        exact absurd (Heap.lt_size e) (by rw [z']; exact Nat.lt_irrefl _)) (Heap.get?_push_of_some _ e)
      exact I2
    · show Value.bool _ = Value.bool _
      congr 1
      rw [List.size_toArray, ← hl]
      exact pq bs
inductive Bh (K : PySem.W.Frag) (xs : List V) (H : Hp) (Q : VK) : Prop
  | mk (x : V) (t : Value) (n : String) (b : Bool) (e : xs = [x, .ty n]) (ty : eC K H x t) (k : PySem.W.kitOne K t (.type n) = some b) (q : Q (.bl b) H)
theorem bS : dY X (.builtin "isinstance") (fun xs H Q => L2.Bh X.K xs H Q) := by
  intro pins s σ H xs us Q I r h
  obtain ⟨x, t, n, b, rfl, ty, e, q⟩ := h
  obtain ⟨u, c, rfl, rx, rc⟩ := vals2 r
  obtain rfl : c = Value.type n := rc
  exact tw I rx ty e fun tk => ⟨.bl b, H, I.tok _, rfl, q⟩
theorem mS : gQ X (compareOp .LtE) (fun x y H Q => ∃ i j, x = .str i ∧ y = .str j ∧ Q (.bl (!decide (j.cps.toList < i.cps.toList))) H) := by
  intro pins s σ H x y v u Q I rx ry h
  obtain ⟨i, j, rfl, rfl, q⟩ := h
  obtain ⟨t, rfl⟩ := rx
  obtain ⟨t', rfl⟩ := ry
  exact PySem.P.le_str ⟨.bl _, H, I, rfl, q⟩
def zu (z : Str) (lo hi : Option Int) : Str := ⟨((z.cps.toList.drop (HT.jY z.length 0 lo)).take (HT.jY z.length z.length hi - HT.jY z.length 0 lo)).toArray⟩
inductive CD (x : V) (lo hi : Option Int) (H : Hp) (Q : VK) : Prop
  | mk (z : Str) (hx : x = .str z) (b : z.length ≤ sizeLine) (q : Q (.str (zu z lo hi)) H)
def D9 : V → Option Int → Option Int → Hp → VK → Prop := fun x lo hi H Q => CD x lo hi H Q
end
end L2
namespace L2
open PySem PySem.Spec PyProof.Rows
theorem Inv.C3 {X : Cx} {pins : List (Addr × Obj)} {σ : St} {H : Hp} {s : Shared} (I : Inv X pins σ H s) : sysModules < s.heap.objs.size := by
  have h : mainGlobals < s.heap.objs.size := (I.mod.glob.keeps I.bk).lt
  exact Nat.lt_trans (by decide) h
theorem yc {P : Program} {w : World} {H : Hp} (h : Heap) (hb : sysModules < h.objs.size) : bW P w H (h.push { cls := .type "dict", data := .dict #[] }) h.objs.size (.dK []) :=
  ⟨Nat.zero_le _, beq_eq_false_iff_ne.mpr (Ne.symm (Nat.ne_of_lt hb)), [], .nil, Heap.DictOf.new h⟩
def yW : TE := fun _ H Q => ∀ p, H p = none → Q (.ref p) (upd H p (.dK []))
theorem iT {X : Cx} {pos : Pos} : PE X (.Dict [] [] pos) yW := fun pins s σ H Q I h =>
  wpAny_Dict_empty ⟨.ref s.heap.objs.size, _, I.laid (a := s.heap.objs.size) (o := .dK []) (t' := s.toks) (fun _ _ q => Heap.get?_push_of_some _ q) (Nat.le_refl _) (yc s.heap I.C3), rfl, h _ (I.hok.fresh (Nat.le_refl _))⟩
structure Df (K : PySem.W.Frag) (mg : Str → Option Value) (x : Str) (st : Stmt) (ps : List Str) (f : Addr) (fd : FuncData) : Prop where
  fn : lZ K x x st f fd
  nm : mg x = some (.ref f)
  bi : Binds K fd ps []
def tys : List String := ["NoneType", "bool", "int", "str", "list", "tuple", "dict"]
def wu (T n : String) : Bool := T == n || (T == "bool" && n == "int")
theorem bL {K : PySem.W.Frag} {T n : String} (hT : T ∈ tys) (hn : n ∈ ["int", "bool", "str", "list", "tuple"]) : PySem.W.kitOne K (.type T) (.type n) = some (wu T n) := by
  simp only [tys, List.mem_cons, List.not_mem_nil, or_false] at hT hn
  rcases hT with rfl | rfl | rfl | rfl | rfl | rfl | rfl <;> rcases hn with rfl | rfl | rfl | rfl | rfl <;> rfl
section
variable {K : PySem.W.Frag} {H : Hp} {x : V} {T : String}
theorem ty_int (ty : eC K H x (.type "int")) : ∃ i, x = .int i := by
  generalize h : Value.type "int" = t at ty
  cases ty <;> first | exact ⟨_, rfl⟩ | (injection h with h'; exact absurd h' (by decide)) | cases h
theorem ty_str (ty : eC K H x (.type "str")) : ∃ z, x = .str z := by
  generalize h : Value.type "str" = t at ty
  cases ty <;> first | exact ⟨_, rfl⟩ | (injection h with h'; exact absurd h' (by decide)) | cases h
theorem tS {i : Int} (ty : eC K H (.int i) (.type T)) : T = "int" := by
  generalize h : Value.type T = t at ty
  cases ty
  injection h
theorem uE {z : Str} (ty : eC K H (.str z) (.type T)) : T = "str" := by
  generalize h : Value.type T = t at ty
  cases ty
  injection h
end
theorem aT : bootBuiltins "isinstance" = some (.builtin "isinstance") := by decide +kernel
theorem mU : bootBuiltins "int" = some (.type "int") := by decide +kernel
theorem sf : bootBuiltins "bool" = some (.type "bool") := by decide +kernel
theorem qy : bootBuiltins "str" = some (.type "str") := by decide +kernel
theorem jf : bootBuiltins "all" = some (.builtin "all") := by decide +kernel
theorem df : bootBuiltins "len" = some (.builtin "len") := by decide +kernel
theorem cE : bootBuiltins "list" = some (.type "list") := by decide +kernel
theorem iY : bootBuiltins "tuple" = some (.type "tuple") := by decide +kernel
end L2
namespace L2
open PySem PySem.Spec PyProof.Rows
def notStar (e : Expr) : Bool := match e with
  | .Starred _ _ => false
  | _ => true
theorem bq {e : Expr} {rest : List Expr} {env : Env} (h : notStar e = true) : starEach (e :: rest) env = (false, eval e env) :: starEach rest env := by
  cases e <;> first | rfl | cases h
theorem eK {env : Env} {pos : Pos} : ∀ {es : List Expr}, es.all notStar = true → (backTo pos (starEach es env)).any (·.1) = false
  | [], _ => rfl
  | e :: es, h => by
    rw [List.all_cons, Bool.and_eq_true] at h
    rw [bq h.1]
    exact eK h.2
theorem ai {X : Cx} {e : Expr} {es : List Expr} {te : TE} {t : TA} (ha : PE X e te) (hr : PA X es t) (h : notStar e = true := by rfl) : PA X (e :: es) (iB te t) := eA ha hr (bq h)
def iq (e : Expr) : Bool := match e with
  | .ListComp .. => true
  | .SetComp .. => true
  | .DictComp .. => true
  | _ => false
theorem iA {e : Expr} {tg : Option Expr} {n : Nat} {env : Env} (h : iq e = false) : swapsWith e tg n env = pure false := by
  cases e <;> first | rfl | cases h
theorem bB {X : Cx} {f : Expr} {as : List Expr} {kw : List Keyword} {p : Pos} {t : TE} (h : PE X (.Call f as kw p) t) : PT X (.Call f as kw p) (tB t) := qW h (fun _ => rfl)
theorem kD {l r : Expr} {op : Operator} {p : Pos} : cX (.BinOp l op r p) := fun _ _ => rfl
theorem bf {x : Str} {p : Pos} : cX (.Name x p) := fun _ _ => rfl
theorem az {c : Const} {k : Nat} {p : Pos} : cX (.Constant c k p) := fun _ _ => rfl
theorem kF {op op' : CmpOp} {b c : Expr} (h : op' ≠ .In := by decide) (h2 : op' ≠ .NotIn := by decide) : lastMarks [op, op'] [b, c] = false := by
  have e : lastMarks [op, op'] [b, c] = behindInMarks op' c := by rfl
  rw [e]
  exact aH c h h2
theorem fh {X : Cx} {e : Expr} {te : TE} {p : Pos} (he : PE X e te) (h : iq e = false := by rfl) : PS X (.Expr e p) (vv te) := wU he (iA h)
structure Slot (X : Cx) (i : Nat) (x : Str) : Prop where
  hN : X.N[i]? = some x
  lc : Loc X.env.scope x
  fn : X.fn x = true ∨ X.env.scope.names.lookup x = some .local
  db : (x == ("__debug__" : Str)) = false
  cd : (x == ("__classdict__" : Str)) = false
structure Bt (X : Cx) (x : Str) : Prop where
  gl : Gl X x
  nm : X.mg x = none
  hn : x ≠ "__name__"
  db : (x == ("__debug__" : Str)) = false
structure zf (X : Cx) (x : Str) (sp : Sp) : Prop where
  ex : ∃ (k : Nat) (f : Addr) (fd : FuncData) (ps : List Str), dW X.prog X.w X.K X.mg X.base jP k f fd ps sp ∧ cy k X.A ∧ X.mg x = some (.ref f) ∧ PySem.W.keepIn X.K (.ref f) = true ∧ Binds X.K fd ps []
  gl : Gl X x
  db : (x == ("__debug__" : Str)) = false
section
variable {X : Cx} {i : Nat} {x : Str} {sp : Sp} {p pos pos' : Pos} {e : Expr} {es : List Expr} {te : TE} {t : TA}
theorem Slot.rd (S : Slot X i x) : PE X (.Name x p) (iW i) := ji S.hN (S.lc.elim .inl fun h => .inr (.inl h)) S.db S.cd
theorem Slot.set (S : Slot X i x) (nd : X.N.Nodup) (he : PE X e te) (h : iq e = false := by rfl) : PS X (.Assign [.Name x pos'] e pos) (oy te (dZ i)) := Au nd S.hN S.lc he (iA h) S.fn
theorem Slot.tg (S : Slot X i x) (nd : X.N.Nodup) : PG X (.Name x p) (dZ i) := kq nd S.hN S.lc S.fn
theorem Bt.call {id : String} {r : List V → Hp → VK → Prop} (B : Bt X x) (hc : dY X (.builtin id) r) (hv : bootBuiltins x = some (.builtin id)) (ha : PA X (e :: es) t) (h1 : notStar e = true := by rfl)
    (h2 : es.all notStar = true := by rfl) : PE X (.Call (.Name x p) (e :: es) [] pos) (Az r t) := fN hc B.gl B.nm hv ha B.hn B.db (bq h1) (eK h2)
theorem Bt.Bz {T : String} {r : List V → Hp → VK → Prop} (B : Bt X x) (hc : dY X (.type T) r) (hv : bootBuiltins x = some (.type T)) (ha : PA X (e :: es) t) (h1 : notStar e = true := by rfl)
    (h2 : es.all notStar = true := by rfl) : PE X (.Call (.Name x p) (e :: es) [] pos) (Az r t) := uj hc B.gl B.nm hv ha B.hn B.db (bq h1) (eK h2)
theorem Bt.ty {n : String} (B : Bt X x) (hv : bootBuiltins x = some (.type n)) : PE X (.Name x p) (tC (.ty n)) := ki (v := .ty n) B.gl B.nm hv rfl B.hn B.db
theorem zf.call (C : zf X x sp) (ha : PA X (e :: es) t) (h1 : notStar e = true := by rfl)
    (h2 : es.all notStar = true := by rfl) : PE X (.Call (.Name x p) (e :: es) [] pos) (oR sp [] E0 t) := by
  obtain ⟨k, f, fd, ps, G, hr, nm, kp, bi⟩ := C.ex
  exact sh G hr C.gl nm kp bi .nil r8 ha C.db (bq h1) (eK h2)
end
end L2
namespace J
open PySem PySem.Spec PyProof.Rows
open L2 (Cx V Hp St VK TE TT TA TS TG mQ TI TO R2 Sp XK E0 jP dW cy Gl Binds RelV Vals aJ aL eC)
structure JE (X : Cx) (e : Expr) (t : TE) : Prop where
  out : L2.PE X e t
structure JT (X : Cx) (e : Expr) (t : TT) : Prop where
  out : L2.PT X e t
structure JW (X : Cx) (e : Expr) (t : TT) : Prop where
  out : L2.PW X e t
structure JA (X : Cx) (es : List Expr) (t : TA) : Prop where
  out : L2.PA X es t
structure JS (X : Cx) (st : Stmt) (t : TS) : Prop where
  out : L2.PS X st t
structure ro (X : Cx) (st : List Stmt) (t : TS) : Prop where
  out : L2.pV X st t
structure JG (X : Cx) (tg : Expr) (g : TG) : Prop where
  out : L2.PG X tg g
structure AX (X : Cx) (ts : List Expr) (g : mQ) : Prop where
  out : L2.BP X ts g
structure JI (X : Cx) (tg it : Expr) (wi : TI) : Prop where
  out : L2.PI X tg it wi
structure JO (X : Cx) (e : Option Expr) (t : TO) : Prop where
  out : L2.PO X e t
structure JB (X : Cx) (op : Operator) (r : R2) : Prop where
  out : L2.gQ X (binaryOp op) r
structure JC (X : Cx) (op : CmpOp) (r : R2) : Prop where
  out : L2.gQ X (compareOp op) r
structure JU (X : Cx) (op : UnaryOp) (r : V → Hp → VK → Prop) : Prop where
  out : L2.B9 X (unaryOp op) r
structure JF (X : Cx) (f : Value) (r : List V → Hp → VK → Prop) : Prop where
  out : L2.dY X f r
structure JX (X : Cx) (r : R2) : Prop where
  out : L2.BC X r
structure JM (X : Cx) (id : String) (r : V → List V → Hp → VK → Prop) : Prop where
  out : L2.Ca X id r
structure JL (X : Cx) (r : V → Option Int → Option Int → Hp → VK → Prop) : Prop where
  out : L2.CZ X r
structure cX (b : Expr) : Prop where
  out : L2.cX b
section
variable {X : Cx} {a b c e : Expr} {es : List Expr} {ta tb tc te : TE} {t : TA} {tA tB' : TT} {pos p2 : Pos} {r r' : R2} {u v : TS} {st : Stmt} {sts : List Stmt} {tg : Expr}
theorem cV : JB X .Add (L2.uG fun i j => .int (i + j)) := ⟨L2.cV⟩
theorem lq : JB X .Sub (L2.uG fun i j => .int (i - j)) := ⟨L2.lq⟩
theorem eI : JB X .Mult (L2.rI L2.x4 fun i j => .int (i * j)) := ⟨L2.eI⟩
theorem bw : JB X .FloorDiv (L2.rI L2.By fun i j => .int (i / j)) := ⟨L2.bw⟩
theorem bA : JB X .Mod (L2.rI (fun _ j => 0 < j) fun i j => .int (i % j)) := ⟨L2.bA⟩
theorem ju : JB X .Pow (L2.rI L2.BB fun i j => .int (i ^ j.toNat)) := ⟨L2.ju⟩
theorem fZ : JB X .Add (fun x y H Q => ∃ i j, x = .str i ∧ y = .str j ∧ i.length + j.length ≤ sizeLine ∧ Q (.str (i ++ j)) H) := ⟨L2.fZ⟩
theorem qV : JU X .USub (L2.rU fun i => .int (-i)) := ⟨L2.qV⟩
theorem bN : JC X .Eq L2.DP := ⟨L2.bN⟩
theorem mz : JC X .NotEq L2.DJ := ⟨L2.mz⟩
theorem iU : JC X .Lt (L2.uG fun i j => .bl (decide (i < j))) := ⟨L2.iU⟩
theorem eY : JC X .LtE (L2.uG fun i j => .bl (decide (i ≤ j))) := ⟨L2.eY⟩
theorem lB : JC X .Gt (L2.uG fun i j => .bl (decide (j < i))) := ⟨L2.lB⟩
theorem jB : JC X .Is (fun x y H Q => y = .non ∧ Q (.bl (decide (x = .non))) H) := ⟨L2.jB⟩
theorem mY : JC X .IsNot (fun x y H Q => y = .non ∧ Q (.bl (!decide (x = .non))) H) := ⟨L2.mY⟩
theorem gS : JC X .In (L2.Dm X.K false) := ⟨L2.gS⟩
theorem aQ : JF X (.builtin "len") (fun xs H Q => L2.Br X.K xs H Q) := ⟨L2.aQ⟩
theorem aV : JF X (.type "list") (fun xs H Q => ∃ p ys, xs = [.ref p] ∧ (aJ X.K H p ys ∨ aL X.K H p ys) ∧ ∀ l, H l = none → Q (.ref l) (L2.upd H l (.lst ys))) := ⟨L2.aV⟩
theorem bS : JF X (.builtin "isinstance") (fun xs H Q => L2.Bh X.K xs H Q) := ⟨L2.bS⟩
theorem dH (hc : X.calm = true) : JF X (.builtin "all") (fun xs H Q => ∃ (p : Addr) (bs : List Bool), xs = [.ref p] ∧ aJ X.K H p (bs.map V.bl) ∧ Q (.bl (bs.all id)) H) := ⟨L2.dH hc⟩
theorem gP : JF X (.type "int") (fun xs H Q => (∃ i, xs = [.int i] ∧ Q (.int i) H) ∨ ∃ k, xs = [.bl k] ∧ Q (.int (if k then 1 else 0)) H) := ⟨L2.gP⟩
theorem fJ (hc : X.calm = true) : JF X (.builtin "max") (fun xs H Q => ∃ i j, xs = [.int i, .int j] ∧ Q (.int (if j > i then j else i)) H) := ⟨L2.fJ hc⟩
theorem eN (hc : X.calm = true) : JF X (.builtin "min") (fun xs H Q => ∃ i j, xs = [.int i, .int j] ∧ Q (.int (if j < i then j else i)) H) := ⟨L2.eN hc⟩
theorem aX : JX X (L2.xP X.K) := ⟨L2.aX⟩
theorem aD : JX X (L2.xX X.K) := ⟨L2.aD⟩
theorem pT : JX X L2.zv := ⟨L2.pT⟩
theorem kD {l r : Expr} {op : Operator} {p : Pos} : cX (.BinOp l op r p) := ⟨L2.kD⟩
theorem bf {x : Str} {p : Pos} : cX (.Name x p) := ⟨L2.bf⟩
theorem az {c : Const} {k : Nat} {p : Pos} : cX (.Constant c k p) := ⟨L2.az⟩
theorem nC {f : Expr} {as : List Expr} {kw : List Keyword} {p : Pos} : cX (.Call f as kw p) := ⟨fun _ _ => rfl⟩
theorem iO : JL X (L2.BO X.K) := ⟨L2.iO⟩
theorem i9 : JO X none L2.rF := ⟨L2.i9⟩
theorem iG (h : JE X e te) : JO X (some e) (L2.yV te) := ⟨L2.iG h.out⟩
theorem ag {i j pos} : JE X (.Constant (.int i) j pos) (L2.tC (.int i)) := ⟨L2.ag⟩
theorem dk {b j pos} : JE X (.Constant (.bool b) j pos) (L2.tC (.bl b)) := ⟨L2.dk⟩
theorem fu {j pos} : JE X (.Constant .none j pos) (L2.tC .non) := ⟨L2.fu⟩
theorem ba {x j pos} : JE X (.Constant (.str x) j pos) (L2.tC (.str x)) := ⟨L2.ba⟩
theorem aG {op : Operator} (ho : JB X op r) (ha : JE X a ta) (hb : JE X b tb) : JE X (.BinOp a op b pos) (L2.yO r ta tb) := ⟨L2.aG ho.out ha.out hb.out⟩
theorem vK {op : UnaryOp} {r : V → Hp → VK → Prop} (ho : JU X op r) (ha : JE X a ta) : JE X (.UnaryOp op a pos) (L2.DF r ta) := ⟨L2.vK ho.out ha.out⟩
theorem aw (hr : JX X r) (ha : JE X a ta) (hb : JE X b tb) (hs : cX b) : JE X (.Subscript a b pos) (L2.yO r ta tb) := ⟨L2.aw hr.out ha.out hb.out hs.out⟩
theorem gJ {r : V → Option Int → Option Int → Hp → VK → Prop} {lo hi : Option Expr} {tl th : TO} (hr : JL X r) (he : JE X e te) (hl : JO X lo tl) (hu : JO X hi th) : JE X (.Subscript e (.Slice lo hi none p2) pos) (L2.DM r te tl th) := ⟨L2.gJ hr.out he.out hl.out hu.out⟩
theorem bu {op : CmpOp} (ho : JC X op r) (ha : JE X a ta) (hb : JE X b tb) (hm : behindInMarks op b = false) : JE X (.Compare a [op] [b] pos) (L2.yO r ta tb) := ⟨L2.bu ho.out ha.out hb.out hm⟩
theorem aI {op : CmpOp} (ho : JC X op r) (ha : JE X a ta) (hb : JE X b tb) (hm : behindInMarks op b = false) : JT X (.Compare a [op] [b] pos) (L2.rB (L2.yO r ta tb)) := ⟨L2.aI ho.out ha.out hb.out hm⟩
theorem gB {op op' : CmpOp} (ho : JC X op r) (ho' : JC X op' r') (ha : JE X a ta) (hb : JE X b tb) (hc : JE X c tc) (hm : lastMarks [op, op'] [b, c] = false) : JE X (.Compare a [op, op'] [b, c] pos) (L2.m8 r r' ta tb tc) := ⟨L2.gB ho.out ho'.out ha.out hb.out hc.out hm⟩
theorem iX {op op' : CmpOp} (ho : JC X op r) (ho' : JC X op' r') (ha : JE X a ta) (hb : JE X b tb) (hc : JE X c tc) (hm : lastMarks [op, op'] [b, c] = false) : JT X (.Compare a [op, op'] [b, c] pos) (L2.rB (L2.m8 r r' ta tb tc)) := ⟨L2.iX ho.out ho'.out ha.out hb.out hc.out hm⟩
theorem jL {op : CmpOp} {x : Str} {p : Pos} : behindInMarks op (.Name x p) = false := rfl
theorem u0 {op : CmpOp} {es : List Expr} {k : Nat} {p : Pos} : behindInMarks op (.Tuple es k p) = false := rfl
theorem bD {op} (h : JE X a te) : JE X (.BoolOp op [a] pos) te := ⟨L2.bD h.out⟩
theorem bz (ha : JE X a ta) (hb : JE X (.BoolOp .And (b :: es) pos) tb) : JE X (.BoolOp .And (a :: b :: es) pos) (L2.yI ta tb) := ⟨L2.bz ha.out hb.out⟩
theorem pf (ha : JE X a ta) (hb : JE X (.BoolOp .Or (b :: es) pos) tb) : JE X (.BoolOp .Or (a :: b :: es) pos) (L2.xR ta tb) := ⟨L2.pf ha.out hb.out⟩
theorem oh (ha : JE X a ta) : JE X (.UnaryOp .Not a pos) (L2.yE ta) := ⟨L2.oh ha.out⟩
theorem dv (ha : JT X a tA) : JW X (.BoolOp .And [a] pos) tA := ⟨L2.dv ha.out⟩
theorem d7 (ha : JT X a tA) : JW X (.BoolOp .Or [a] pos) tA := ⟨L2.d7 ha.out⟩
theorem di (ha : JT X a tA) (hb : JW X (.BoolOp .And (b :: es) pos) tB') : JW X (.BoolOp .And (a :: b :: es) pos) (L2.BN tA tB') := ⟨L2.di ha.out hb.out⟩
theorem fq (ha : JT X a tA) (hb : JW X (.BoolOp .Or (b :: es) pos) tB') : JW X (.BoolOp .Or (a :: b :: es) pos) (L2.DK tA tB') := ⟨L2.fq ha.out hb.out⟩
theorem dN (h : JW X e tA) : JT X e tA := ⟨h.out.pt⟩
theorem cq (ha : JT X a tA) : JT X (.UnaryOp .Not a pos) (L2.AJ tA) := ⟨L2.cq ha.out⟩
theorem bB {f : Expr} {as : List Expr} {kw : List Keyword} {p : Pos} (h : JE X (.Call f as kw p) te) : JT X (.Call f as kw p) (L2.tB te) := ⟨L2.bB h.out⟩
theorem ae : JA X [] L2.tT := ⟨L2.ae⟩
theorem ai (ha : JE X e te) (hr : JA X es t) (h : L2.notStar e = true := by rfl) : JA X (e :: es) (L2.iB te t) := ⟨L2.ai ha.out hr.out h⟩
theorem dS (h : JA X es t) : JE X (.List es pos) (L2.Bv t) := ⟨L2.dS h.out⟩
theorem bj {k} (h : JA X es t) : JE X (.Tuple es k pos) (L2.AY t) := ⟨L2.bj h.out⟩
theorem iT : JE X (.Dict [] [] pos) L2.yW := ⟨L2.iT⟩
theorem jX {x : Str} {v : V} {u : Value} (hg : Gl X x) (hm : X.mg x = some u) (r : RelV v u) (hd : (x == ("__debug__" : Str)) = false) : JE X (.Name x pos) (L2.tC v) := ⟨L2.jX hg hm r hd⟩
theorem bh (h : JE X e te) : JI X tg e (L2.yD X.K te) := ⟨L2.bh h.out⟩
theorem qm (h : JE X e te) : JI X tg e (L2.AG X.K te) := ⟨L2.qm h.out⟩
theorem aM : ro X [] L2.pH := ⟨L2.aM⟩
theorem ah (h1 : JS X st u) (h2 : ro X sts v) : ro X (st :: sts) (L2.uz u v) := ⟨L2.ah h1.out h2.out⟩
theorem ak (h1 : JS X st u) : ro X [st] u := ⟨L2.ak h1.out⟩
theorem eO : ro X sts L2.uS := ⟨L2.eO⟩
theorem aE (h : JE X e te) : JS X (.Return (some e) pos) (L2.Bw te) := ⟨L2.aE h.out⟩
theorem fh (h : JE X e te) (hc : L2.iq e = false := by rfl) : JS X (.Expr e pos) (L2.vv te) := ⟨L2.fh h.out hc⟩
theorem bp {c : Expr} {x y : List Stmt} {tc : TT} (hc : JT X c tc) (ha : ro X x u) (hb : ro X y v) : JS X (.If c x y pos) (L2.uP tc u v) := ⟨L2.bp hc.out ha.out hb.out⟩
theorem cA {it : Expr} {body : List Stmt} {wi : TI} {g : TG} {tb : TS} (hp : PassesOwn (model X.prog X.w) X.A X.env X.xe) (hc : X.calm = true) (hi : JI X tg it wi) (hg : JG X tg g) (hb : ro X body tb)
    (hs : ∀ x, foldedSetIterable it X.env x = pure x := by intro _; rfl) : JS X (.For tg it body [] pos) (L2.Bm wi g tb) := ⟨L2.cA hp hc hi.out hg.out hb.out hs⟩
end
section
variable {X : Cx} {i : Nat} {x : Str} {sp : Sp} {p pos pos' : Pos} {e : Expr} {es : List Expr} {te : TE} {t : TA} {tg : Expr}
theorem rd (S : L2.Slot X i x) : JE X (.Name x p) (L2.iW i) := ⟨S.rd⟩
theorem set (S : L2.Slot X i x) (nd : X.N.Nodup) (he : JE X e te) (h : L2.iq e = false := by rfl) : JS X (.Assign [.Name x pos'] e pos) (L2.oy te (L2.dZ i)) := ⟨S.set nd he.out h⟩
theorem fE (S : L2.Slot X i x) (nd : X.N.Nodup) : JG X (.Name x p) (L2.dZ i) := ⟨S.tg nd⟩
theorem blt {id : String} {r : List V → Hp → VK → Prop} (B : L2.Bt X x) (hc : JF X (.builtin id) r) (hv : bootBuiltins x = some (.builtin id)) (ha : JA X (e :: es) t) (h1 : L2.notStar e = true := by rfl) (h2 : es.all L2.notStar = true := by rfl) :
    JE X (.Call (.Name x p) (e :: es) [] pos) (L2.Az r t) := ⟨B.call hc.out hv ha.out h1 h2⟩
theorem ir {T : String} {r : List V → Hp → VK → Prop} (B : L2.Bt X x) (hc : JF X (.type T) r) (hv : bootBuiltins x = some (.type T)) (ha : JA X (e :: es) t) (h1 : L2.notStar e = true := by rfl) (h2 : es.all L2.notStar = true := by rfl) :
    JE X (.Call (.Name x p) (e :: es) [] pos) (L2.Az r t) := ⟨B.Bz hc.out hv ha.out h1 h2⟩
theorem ty {n : String} (B : L2.Bt X x) (hv : bootBuiltins x = some (.type n)) : JE X (.Name x p) (L2.tC (.ty n)) := ⟨B.ty hv⟩
theorem cF (C : L2.zf X x sp) (ha : JA X (e :: es) t) (h1 : L2.notStar e = true := by rfl) (h2 : es.all L2.notStar = true := by rfl) : JE X (.Call (.Name x p) (e :: es) [] pos) (L2.oR sp [] E0 t) := ⟨C.call ha.out h1 h2⟩
theorem dG (B : L2.Bt X "range") (ha : JA X [e] t) (h : L2.notStar e = true := by rfl) : JI X tg (.Call (.Name "range" p) [e] [] pos) (L2.yC t) := ⟨L2.dG B.gl B.nm ha.out (L2.bq h)⟩
end
theorem AE {P : Program} {w : World} {K : PySem.W.Frag} {mg : Str → Option Value} {base : Heap} {x qual : Str} {st : Stmt} {f : Addr} {fd : FuncData} {N ps : List Str} {k : Nat} {sp : Sp} (F : L2.lZ K x qual st f fd) (S : L2.aB N ps (L2.aa st)) (len : ∀ vs H Q E, sp vs H Q E → vs.length = ps.length)
    (hbody : ∀ (X : Cx) (cdv : Value) (A : Around) (outer : List Env) (s : Shared) (H : Hp) (vs : List V) (Q : VK) (E : XK), X = (L2.p9 jP P w K mg base N qual (L2.aa st) f cdv A outer s H E).AL → cy k X.A → sp vs H Q E →
      ∃ t, ro X (L2.aA st) t ∧ t { nx := fun _ H' => Q .non H', rt := Q } (L2.start N vs) H) : dW P w K mg base jP (k + 1) f fd ps sp := by
  refine F.ok S len (fun cdv A outer s H vs Q E hr h => ?_)
  obtain ⟨t, h1, h2⟩ := hbody _ cdv A outer s H vs Q E rfl hr h
  exact ⟨t, h1.out, h2⟩
end J
namespace Z
open PySem PySem.Spec PyProof.Rows
section
variable {prog : Program} {w : World} {A : Around} {E : Value → Shared → Prop} {s : Shared}
end
structure Ap (z TI TO i1 i2 : Addr) (fp1 fp2 : List Addr) : Prop where
  TIz : TI ≠ z
  TOz : TO ≠ z
  TITO : TI ≠ TO
  TI1 : TI ≠ i1
  TI2 : TI ≠ i2
  z1 : z ∉ fp1
  z2 : z ∉ fp2
  o1 : TO ∉ fp1
  o2 : TO ∉ fp2
  m1 : i1 ∈ fp1
  m2 : i2 ∈ fp2
  x12 : i1 ∉ fp2
  x21 : i2 ∉ fp1
section
variable {prog : Program} {w : World} {A : Around} {E : Value → Shared → Prop} {s : Shared} {z TI TO i1 i2 : Addr} {fp1 fp2 : List Addr} {n1 n2 : Nat} {P1 P2 : Nat → Value → Prop} {S1 S2 : Nat → Heap → Prop}
end
end Z
namespace L2
open PySem PySem.Spec PyProof.Rows
theorem Inv.ug {X : Cx} {pins : List (Addr × Obj)} {σ : St} {H : Hp} {s : Shared} {g : Heap} {t' : Nat} {fp : List Addr} {T : Addr} {o : HO} (I : Inv X pins σ H s) (hf : ∀ b ∈ fp, jO X pins H b)
    (k : ∀ b u, b ∉ fp → s.heap.get? b = some u → g.get? b = some u) (hT : s.heap.objs.size ≤ T) (nf : ∀ b ∈ fp, ∃ u, s.heap.get? b = some u) (new : bW X.prog X.w (upd H T o) g T o) : Inv X pins σ (upd H T o) { s with heap := g, toks := t' } := by
  have hn : H T = none := I.hok.fresh hT
  have wK : ∀ b u, H b = some u → b ∉ fp := fun b u e z => by rw [(hf b z).1] at e; cases e
  refine I.step (g' := s.gens) (d' := s.drawn) (ch := fp) (fun b hb => ⟨(hf b hb).2.2.2.1, (hf b hb).2.1, (hf b hb).2.2.2.2.1, (hf b hb).2.2.2.2.2⟩) (fun b u _ _ hc e _ => k b u hc e) (fun b u _ _ hc e _ => ⟨u.slots, k b u hc e⟩) (fun b u _ e n => ?_)
    (fun b u hc e => ⟨u, k b u hc e⟩) (fun b xs e => ?_) (fun b u xs e => ?_) (fun b ps e => ⟨#[], ?_⟩) (fun m hm => ?_) (fun b u e => ?_) I.bare
  · rw [ao (Nat.ne_of_lt (Nat.lt_of_lt_of_le (Heap.lt_size e) hT))]
    exact n
  · rw [ao (aj e hn)]
    exact e
  · rw [ao (aj e hn)]
    exact e
  · rw [ao (aj e hn), e]
    simp
  · obtain ⟨ob, es, ep, ho, r⟩ := hm
    exact ⟨ob, es, ep, k _ ob (fun z => (hf _ z).2.1 rfl) ho, r⟩
  · by_cases hb : b = T
    · subst hb
      rw [af] at e
      cases e
      exact new
    · rw [ao hb] at e
      refine (I.hok b u e).fw (fun c v hc q => k c v ?_ q) (fun c q => by rw [ao (aj q hn)]; exact q) fun c xs q => by rw [ao (aj q hn)]; exact q
      rcases hc with rfl | hc
      · exact wK c u e
      · exact wK c _ hc
theorem Inv.ja {X : Cx} {pins : List (Addr × Obj)} {σ : St} {H : Hp} {s : Shared} {g : Heap} {t' : Nat} {fp : List Addr} (I : Inv X pins σ H s) (hf : ∀ b ∈ fp, jO X pins H b)
    (k : ∀ b u, b ∉ fp → s.heap.get? b = some u → g.get? b = some u) : Inv X pins σ H { s with heap := g, toks := t' } := by
  have wK : ∀ b u, H b = some u → b ∉ fp := fun b u e z => by rw [(hf b z).1] at e; cases e
  refine I.step (g' := s.gens) (d' := s.drawn) (ch := fp) (fun b hb => ⟨(hf b hb).2.2.2.1, (hf b hb).2.1, (hf b hb).2.2.2.2.1, (hf b hb).2.2.2.2.2⟩) (fun b u _ _ hc e _ => k b u hc e) (fun b u _ _ hc e _ => ⟨u.slots, k b u hc e⟩) (fun _ _ _ _ n => n)
    (fun b u hc e => ⟨u, k b u hc e⟩) (fun _ _ e => e) (fun _ _ _ e => e) (fun b ps e => ⟨#[], by rw [e]; simp⟩) (fun m hm => ?_) (fun b u e => ?_) I.bare
  · obtain ⟨ob, es, ep, ho, r⟩ := hm
    exact ⟨ob, es, ep, k _ ob (fun z => (hf _ z).2.1 rfl) ho, r⟩
  · refine (I.hok b u e).fw (fun c v hc q => k c v ?_ q) (fun _ q => q) fun _ _ q => q
    rcases hc with rfl | hc
    · exact wK c u e
    · exact wK c _ hc
def oz (q : Bool) (K : PySem.W.Frag) (H : Hp) (a : Addr) (xs : List V) : Prop := match q with
  | true => aJ K H a xs
  | false => aL K H a xs
def zg (q : Bool) (h : Heap) (it a : Addr) (i : Nat) : Prop := match q with
  | true => h.IsListIter it a i
  | false => h.IsTupleIter it a i
def isAt (q : Bool) (h : Heap) (a : Addr) (its : Array Value) : Prop := match q with
  | true => h.IsList a its
  | false => h.IsTuple a its
def yY (q : Bool) : String := match q with
  | true => "list_iterator"
  | false => "tuple_iterator"
theorem ox {q : Bool} {h : Heap} {it a : Addr} {i : Nat} (p : zg q h it a i) : ∃ o, h.get? it = some o ∧ ∀ v, o.data ≠ .cell v := by
  cases q with
  | true => obtain ⟨o, e, c, d⟩ := p; exact ⟨o, e, fun v z => by rw [d] at z; cases z⟩
  | false => obtain ⟨o, e, c, d⟩ := p; exact ⟨o, e, fun v z => by rw [d] at z; cases z⟩
theorem sV {q : Bool} {h g : Heap} {it a : Addr} {i : Nat} (p : zg q h it a i) (k : ∀ o, h.get? it = some o → g.get? it = some o) : zg q g it a i := by
  cases q with
  | true => obtain ⟨o, e, r⟩ := p; exact ⟨o, k o e, r⟩
  | false => obtain ⟨o, e, r⟩ := p; exact ⟨o, k o e, r⟩
def DY (K : PySem.W.Frag) (q1 q2 : Bool) (a1 a2 : Addr) : It :=
  ⟨fun i H => ∃ xs ys x y, oz q1 K H a1 xs ∧ oz q2 K H a2 ys ∧ xs[i]? = some x ∧ ys[i]? = some y,
   fun i H v H' => ∃ p x y, H p = none ∧ v = .ref p ∧ H' = upd H p (.tup [x, y]) ∧ (∀ xs, oz q1 K H a1 xs → xs[i]? = some x) ∧ (∀ ys, oz q2 K H a2 ys → ys[i]? = some y),
   fun i H => ∃ xs, oz q1 K H a1 xs ∧ xs.length = i⟩
end L2
namespace L2
open PySem PySem.Spec PyProof.Rows
abbrev BH (q : Bool) (h : Heap) (a : Addr) : Heap := h.push { cls := .type (yY q), data := .fields #[.ref a, .int 0 0] }
abbrev DD (q1 q2 : Bool) (h : Heap) (a b : Addr) : Heap := (BH q2 (BH q1 h a) b).push { cls := .type "tuple", data := .seq #[.ref h.objs.size, .ref (BH q1 h a).objs.size] }
abbrev Ed (q1 q2 : Bool) (h : Heap) (a b : Addr) : Heap := (DD q1 q2 h a b).push { cls := .type "tuple", data := .seq #[.none, .none] }
abbrev EN (q1 q2 : Bool) (h : Heap) (a b : Addr) : Heap := (Ed q1 q2 h a b).push { cls := .type "zip", data := .fields #[.none, .bool false, .bool false, .ref (BH q2 (BH q1 h a) b).objs.size, .ref (DD q1 q2 h a b).objs.size] }
theorem C0 (n b : Nat) (h : b ∈ [n + 1, n]) : n ≤ b := by
  simp only [List.mem_cons, List.not_mem_nil, or_false] at h
  omega
theorem nj : bootBuiltins "enumerate" = some (.type "enumerate") := by decide +kernel
def En (K : PySem.W.Frag) (ta : TA) : TI := fun σ H R => ta σ H fun vs H1 => ∃ q a1 a2, vs = [.ref a1, .ref a2] ∧ (∃ xs, oz q K H1 a1 xs) ∧ (∃ ys, oz q K H1 a2 ys) ∧ R (DY K q q a1 a2) H1
theorem xG {X : Cx} {pins : List (Addr × Obj)} {σ : St} {H : Hp} {s : Shared} {q : Bool} {a : Addr} {xs : List V} (I : Inv X pins σ H s) (h : oz q X.K H a xs) : a < s.heap.objs.size := by
  cases q with
  | true => obtain ⟨its, r, ⟨o, n, e, _⟩, z⟩ := I.list h; exact Heap.lt_size e
  | false => obtain ⟨its, r, ⟨o, e, _⟩, z⟩ := I.tuple h; exact Heap.lt_size e
section
variable {X : Cx}
end
def Ay (K : PySem.W.Frag) (a : Addr) : It :=
  ⟨fun i H => ∃ xs x, aJ K H a xs ∧ xs[i]? = some x, fun i H v H' => ∃ p x, H p = none ∧ v = .ref p ∧ H' = upd H p (.tup [.int i, x]) ∧ ∀ xs, aJ K H a xs → xs[i]? = some x, fun i H => ∃ xs, aJ K H a xs ∧ xs.length = i⟩
theorem uk {P : Program} {w : World} {K : PySem.W.Frag} {es : List Expr} {kk : Nat} {tp : Pos} {a : Addr} (e it : Addr) (ne : e ≠ it) (n1 : a ≠ e) (n2 : a ≠ it) :
    Turn P w K (.Tuple es kk tp) (Ay K a) [e, it] e (fun i h => (∃ old, IsEnum h e it i old) ∧ h.IsListIter it a i) := by
  refine ⟨by simp, fun i h st b hb => ?_, fun i h g st k => ?_, ?_, ?_, fun A i s Q E st h => ?_⟩
  · obtain ⟨⟨old, ce⟩, c1⟩ := st
    simp only [List.mem_cons, List.not_mem_nil, or_false] at hb
    rcases hb with rfl | rfl
    · exact ⟨_, ce, fun v e => by cases e⟩
    · exact ox (q := true) c1
  · obtain ⟨⟨old, ce⟩, c1⟩ := st
    exact ⟨⟨old, k _ (by simp) _ ce⟩, sV (q := true) c1 fun o e => k _ (by simp) o e⟩
  · intro X hP hw hK hc i pins s σ H E I hf st hg
    subst hP hw hK
    obtain ⟨⟨old, ce⟩, c1⟩ := st
    obtain ⟨xs, x, hx, ex⟩ := hg
    obtain ⟨its, r, p, l⟩ := I.list hx
    obtain ⟨u, eu, ru⟩ := r.get ex
    have W := WalksT.enumerate (prog := X.prog) (w := X.w) (A := X.A) (I.ok.hd hc) e it a ne n1 n2 its.toArray
    have hi : i < its.toArray.size := by
      have := (List.getElem?_eq_some_iff.mp eu).1
      simpa using this
    refine W.item i s _ _ hi ⟨⟨old, ce⟩, c1, p.isList⟩ fun T vals g tk hP hT hTup hM kp => ?_
    obtain ⟨t, v, hv, rfl⟩ := hP
    have hvu : v = u := by
      have : its[i]? = some v := by simpa using hv
      rw [eu] at this
      exact (Option.some.inj this).symm
    subst hvu
    have hTw : T ∉ [e, it] := W.apart i T g hM
    refine ⟨_, rfl, W.go es kk tp i T { s with heap := g, toks := tk } _ _ hM fun g2 st2 kp2 => ?_⟩
    have hn : H T = none := I.hok.fresh hT
    have kk2 : ∀ b u, b ∉ [e, it] → s.heap.get? b = some u → g2.get? b = some u := fun b u hb q => kp2 b u hb (kp b u hb q)
    have I2 : Inv X pins σ (upd H T (.tup [.int i, x])) { s with heap := g2, toks := tk } := by
      refine I.ug hf kk2 hT (fun b hb => ?_) ⟨by show 2 ≤ sizeLine; decide, [.int i t, v], .cons ⟨t, rfl⟩ (.cons ru .nil), ?_⟩
      · simp only [List.mem_cons, List.not_mem_nil, or_false] at hb
        rcases hb with rfl | rfl
        · exact ⟨_, ce⟩
        · obtain ⟨o, q, _⟩ := ox (q := true) c1; exact ⟨o, q⟩
      · obtain ⟨o, q, rest⟩ := hTup
        exact ⟨o, kp2 T o hTw q, rest⟩
    refine ⟨.ref T, _, I2, rfl, ⟨T, x, hn, rfl, rfl, fun zs hz => by rw [I.o3 hz hx]; exact ex⟩, ⟨by simpa using st2.1, st2.2.1⟩, fun b hb => ?_⟩
    have hbT : b ≠ T := by
      rintro rfl
      exact hTw hb
    rw [ao hbT]
    exact (hf b hb).1
  · intro X hP hw hK hc i pins s σ H E I hf st hg
    subst hP hw hK
    obtain ⟨⟨old, ce⟩, c1⟩ := st
    obtain ⟨xs, hx, rfl⟩ := hg
    obtain ⟨its, r, p, l⟩ := I.list hx
    have W := WalksT.enumerate (prog := X.prog) (w := X.w) (A := X.A) (I.ok.hd hc) e it a ne n1 n2 its.toArray
    have e1 : xs.length = its.toArray.size := by rw [List.size_toArray]; exact r.length
    rw [e1] at ce c1
    exact W.done s _ _ ⟨⟨old, ce⟩, c1, p.isList⟩ fun g tk kp => ⟨rfl, I.ja hf kp⟩
  · obtain ⟨⟨old, ce⟩, c1⟩ := st
    exact wpAny_pyIter_enum ce h
def yT (K : PySem.W.Frag) (ta : TA) : TI := fun σ H R => ta σ H fun vs H1 => ∃ a, vs = [.ref a] ∧ (∃ xs, aJ K H1 a xs) ∧ R (Ay K a) H1
section
variable {X : Cx}
theorem jZ {e1 : Expr} {es : List Expr} {kk : Nat} {tp p pos : Pos} {ta : TA} (B : Bt X "enumerate") (ha : PA X [e1] ta) (h1 : notStar e1 = true := by rfl) : PI X (.Tuple es kk tp) (.Call (.Name "enumerate" p) [e1] [] pos) (yT X.K ta) := by
  intro pins s σ H R I h
  refine wpAny_Call_Name_kw (jc I B.gl B.nm nj ?_ B.hn B.db)
  refine PyProof.Rows.callWith_type1 (bU (ha pos pins s σ H _ I h) fun us s1 hpat => ?_) (bq h1) (eK rfl)
  obtain ⟨vs, H1, I1, r1, a, e, ⟨xs, m1⟩, q⟩ := hpat
  subst e
  obtain ⟨u1, rfl, rx⟩ := vals1 r1
  cases rx
  obtain ⟨its, v1, p1, l1⟩ := I1.list m1
  have b1 : a < s1.heap.objs.size := xG (q := true) I1 m1
  refine call_enumerate_list p1.isList fun g ge gi _ kp => ?_
  refine wpAny_pyIter_enum ge ?_
  refine ⟨_, _, _, _, H1, rfl, I1.kept (t' := s1.toks) kp, uk (a := a) (s1.heap.objs.size + 1) s1.heap.objs.size (Nat.ne_of_gt (Nat.lt_succ_self _)) (Nat.ne_of_lt (Nat.lt_succ_of_lt b1)) (Nat.ne_of_lt b1), ⟨⟨_, ge⟩, gi⟩, fun b hb => ?_, q⟩
  have hle : s1.heap.objs.size ≤ b := C0 _ _ hb
  exact I1.sQ hle (I1.hok.fresh hle)
end
theorem vE {K : PySem.W.Frag} {a : Addr} {xs : List V} {g : TG} {tb : TS} {D : Ends} {σ : St} {H : Hp} (Pv : Nat → St → Hp → Prop) (h0 : Pv 0 σ H) (hq : ∀ i σ H, Pv i σ H → aJ K H a xs)
    (hs : ∀ (i : Nat) x p σ H, xs[i]? = some x → H p = none → Pv i σ H → g (.ref p) σ (upd H p (.tup [.int i, x])) fun σ2 H2 => tb { D with nx := Pv (i + 1), ct := Pv (i + 1), bk := D.nx } σ2 H2) (hd : ∀ σ H, Pv xs.length σ H → D.nx σ H) :
    ∃ W : Nat → Nat → St → Hp → Prop, (∃ m, W 0 m σ H) ∧ ∀ i m σ H, W i m σ H →
      ((Ay K a).stop i H ∧ D.nx σ H) ∨ ((Ay K a).go i H ∧ ∃ N : St → Hp → Prop, (∀ σ' H', N σ' H' → ∃ m', m' < m ∧ W (i + 1) m' σ' H') ∧ ∀ x H', (Ay K a).yld i H x H' → g x σ H' fun σ2 H2 => tb { D with nx := N, ct := N, bk := D.nx } σ2 H2) := by
  refine ⟨fun i m σ H => m = xs.length - i ∧ i ≤ xs.length ∧ Pv i σ H, ⟨xs.length, by simp, Nat.zero_le _, h0⟩, ?_⟩
  rintro i m σ H ⟨rfl, hi, p⟩
  have m1 := hq i σ H p
  by_cases hlt : i < xs.length
  · refine .inr ⟨⟨xs, xs[i], m1, by simp [hlt]⟩, Pv (i + 1), fun σ' H' p' => ⟨xs.length - (i + 1), by omega, rfl, hlt, p'⟩, fun v H' y => ?_⟩
    obtain ⟨pp, x, hn, rfl, rfl, e1⟩ := y
    exact hs i x pp σ H (e1 xs m1) hn p
  · have e : i = xs.length := by omega
    subst e
    exact .inl ⟨⟨xs, m1, rfl⟩, hd σ H p⟩
theorem kT : ∀ {zs : List Str} {us : List Value}, Vals (zs.map V.str) us → StrsAre us zs
  | [], _, r => by cases r; exact .nil
  | z :: zs, _, r => by
    cases r with
    | cons r1 r2 =>
      obtain ⟨t, rfl⟩ := r1
      exact .cons z t (kT r2)
end L2
namespace L2
open PySem PySem.Spec PyProof.Rows
local instance keyBEq : BEq Key := instBEqOfDecidableEq
local instance keyLBEq : @LawfulBEq Key keyBEq := inferInstanceAs (@LawfulBEq Key instBEqOfDecidableEq)
theorem iZ {prog : Program} {w : World} {h : Heap} {a : Addr} {S S' : Key → Bool} {n n' : Nat} (hS : h.SetOf (aR prog w) a S n) (e : ∀ k, S k = S' k) (en : n = n') : h.SetOf (aR prog w) a S' n' := by
  have : S = S' := funext e
  subst this
  subst en
  exact hS
section
variable {prog : Program} {w : World} {A : Around} {R : Result → Shared → Prop} {I : Addr} {fp wr : List Addr} {G : Array GenState → Array GenState → Prop} {n : Nat} {P : Nat → Value → Prop} {St : Nat → Shared → Prop}
theorem setLoop (W : WalksS prog w A.in1 I fp wr G n P St) (S : Addr) (hSf : S ∉ fp) (key : Nat → Key) (hval : ∀ i v, P i v → iF (key i) v = true ∧ v.scannable = true)
    (hnd : ∀ i j, i < j → j < n → key i ≠ key j) (hb : n + 1 < scanBound) : ∀ (k i : Nat) (s : Shared), n - i = k → i ≤ n → St i s → s.heap.SetOf (aR prog w) S (fun c => (List.range i).any fun j => decide (c = key j)) i →
      (∀ s', Moved (S :: wr) G s s' → s'.heap.SetOf (aR prog w) S (fun c => (List.range n).any fun j => decide (c = key j)) n → R (.ok (.ret .none)) s') →
      codeAny (model prog w) A (.builtin "set.update.loop" ⟨[.ref S, .ref I], []⟩) R s := by
  have hSw : S ∉ wr := fun h => hSf (W.sub _ h)
  have hsub : ∀ b ∈ wr, b ∈ S :: wr := fun b hb => List.mem_cons_of_mem _ hb
  have fw : ∀ {s s' : Shared} {T : Key → Bool} {m : Nat}, Moved wr G s s' → s.heap.SetOf (aR prog w) S T m → s'.heap.SetOf (aR prog w) S T m := fun hm ⟨o, es, ep, tb, ho, rest⟩ => ⟨o, es, ep, tb, hm.heap S _ hSw ho, rest⟩
  intro k
  induction k with
  | zero =>
    intro i s hk hi hst hS hR
    obtain rfl : i = n := by omega
    refine codeAny_builtin PyProof.Rows.F.entry_set_update_loop ?_
    rw [Around.under_plainId PyProof.Rows.F.plain_set_update_loop _]
    show wpAny _ A.in1 (pyNext (.ref I) >>= _) _ _ s
    refine wpAny_bind (W.done s _ _ hst fun s' hm => ?_)
    show wpAny _ A.in1 (ret Value.none) _ _ s'
    exact wpAny_pure (hR s' (hm.mono hsub) (fw hm hS))
  | succ k ih =>
    intro i s hk hi hst hS hR
    have hlt : i < n := by omega
    refine codeAny_builtin PyProof.Rows.F.entry_set_update_loop ?_
    rw [Around.under_plainId PyProof.Rows.F.plain_set_update_loop _]
    show wpAny _ A.in1 (pyNext (.ref I) >>= _) _ _ s
    refine wpAny_bind (W.item i s _ _ hlt hst fun v s' hP hst' hm => ?_)
    obtain ⟨hkv, hsc⟩ := hval i v hP
    have hS1 := fw hm hS
    show wpAny _ A.in1 (holding [v] (setAdd S v) >>= _) _ _ s'
    refine wpAny_bind (wpAny_holding ?_)
    unfold setAdd
    refine wpAny_holding ?_
    refine wpAny_bind ((aR prog w).pyHash (k := key i) hkv ?_)
    refine wpAny_setAddHashed_of (knd := aR prog w) (s := { s' with toks := s'.toks + 1 }) hkv hsc hS1 (by omega) fun g hsb hS2 => ?_
    have hno : ((List.range i).any fun j => decide (key i = key j)) = false := by
      rw [List.any_eq_false]
      intro j hj
      have hj' := List.mem_range.mp hj
      simp only [decide_eq_true_eq]
      exact fun e => hnd j i hj' hlt e.symm
    have hS3 : g.SetOf (aR prog w) S (fun c => (List.range (i + 1)).any fun j => decide (c = key j)) (i + 1) := by
      refine iZ hS2 (fun c => ?_) (by rw [hno]; rfl)
      rw [List.range_succ, List.any_append]
      simp
    refine wpAny_pure ⟨plainId_quiet PyProof.Rows.F.plain_set_update_loop _, ih (i + 1) _ (by omega) hlt (W.frame _ s' _ _ hst' (Nat.le_succ _) fun b hb o e => ?_) hS3 fun s'' hm'' hS'' => ?_⟩
    · rw [hsb.2 b (by rintro rfl; exact hSf hb)]
      exact e
    · refine hR s'' (Moved.trans W.gtrans ((hm.mono hsub).then_heap (Nat.le_succ _) fun b o hb e => ?_) hm'') hS''
      rw [hsb.2 b (by rintro rfl; exact hb List.mem_cons_self)]
      exact e
end
section
variable {prog : Program} {w : World} {A : Around} {E : Value → Shared → Prop} {s : Shared}
theorem tZ {l : Addr} {items : Array Value} {key : Nat → Key} {Q : Value → Shared → Prop} (hh : A.handled = none) (hl : s.heap.IsList l items) (hv : ∀ i v, items[i]? = some v → iF (key i) v = true ∧ v.scannable = true)
    (hnd : ∀ i j, i < j → j < items.size → key i ≠ key j) (hb : items.size + 1 < scanBound)
    (h : ∀ (g : Heap) (tk : Nat) (T : Key → Bool), g.SetOf (aR prog w) s.heap.objs.size T items.size → (∀ b o, b < s.heap.objs.size → s.heap.get? b = some o → g.get? b = some o) → Q (.ref s.heap.objs.size) { s with heap := g, toks := tk }) :
    wpAny (model prog w) A (call (.type "set") [.ref l]) Q E s := by
  obtain ⟨c, tl, hmro⟩ := PySem.F.called_set.mro
  have hmade := PySem.F.called_set.made
  have hsub := PySem.F.called_set.sub
  refine wpAny_call (codeAny_of_tree ?_)
  show wpAny _ _ (callAny (.type "set") _) _ _ _
  refine wpAny_pure ⟨Code.quiet_builtin _ (by decide +kernel), codeAny_builtin PySem.F.entry_type_call ?_⟩
  rw [Around.under_plain (weight_type_call_type "set" [.ref l] []) rfl]
  have f1 := PySem.F.called_set.notType
  have f2 := PySem.F.called_set.canCreate
  have f3 := PySem.F.typeCall_set_1 (.ref l)
  repeat (any_goals (first | assumption | wp_step))
  refine codeAny_mono (code_set_new_1 (.ref l) (E := E) (Q₁ := fun obj u => ∃ led : Bool, obj = .ref s.heap.objs.size ∧ u = { s with heap := s.heap.push { cls := .type "set", dict := none, data := .set #[] 0 (.fresh 0 0 led) } }) fun led => ⟨led, rfl, rfl⟩) fun r u hr => ?_
  cases r with
  | error e => exact hr
  | ok fl =>
    cases fl with
    | ret obj =>
      obtain ⟨led, rfl, rfl⟩ := hr
      have hS : (s.heap.push { cls := .type "set", dict := none, data := .set #[] 0 (.fresh 0 0 led) }).get? s.heap.objs.size = some { cls := .type "set", dict := none, data := .set #[] 0 (.fresh 0 0 led) } := Heap.get?_push_size _ rfl
      have hT : Shared.TypeIs { s with heap := s.heap.push { cls := .type "set", dict := none, data := .set #[] 0 (.fresh 0 0 led) } } (.ref s.heap.objs.size) "set" := ⟨_, hS, rfl⟩
      have hli := PySem.F.called_set.init.lookup
      have hbi := PySem.F.called_set.init.bind (.ref s.heap.objs.size)
      repeat (any_goals (first | assumption | wp_step))
      refine codeAny_mono (codeAny_call_builtin (R := wants (fun r u => r = .none ∧ ∃ g tk T, u = { s with heap := g, toks := tk } ∧ g.SetOf (aR prog w) s.heap.objs.size T items.size ∧ (∀ b o, b < s.heap.objs.size → s.heap.get? b = some o → g.get? b = some o)) E)
        PySem.F.called_set.init.plain PySem.F.entry_set_init (check_set_init_1 hT ?_)) fun r2 u hr2 => ?_
      · obtain ⟨⟨ocls, odict, odata, oslots⟩, hol, hcl, nl, hdl⟩ := hl
        simp only at hcl hdl
        subst hcl
        subst hdl
        have hol' : (s.heap.push { cls := .type "set", dict := none, data := .set #[] 0 (.fresh 0 0 led) }).get? l = some { cls := .type "list", dict := odict, data := .seq items nl, slots := oslots } := Heap.get?_push_of_some _ hol
        have k1 := PySem.F.sub_list_set
        have k2 := PySem.F.sub_list_frozenset
        have k3 : (Value.type "list" == Value.type "dict") = false := by decide
        have hl1 : (s.heap.push { cls := .type "set", dict := none, data := .set #[] 0 (.fresh 0 0 led) }).IsList l items := ⟨_, hol', rfl, nl, rfl⟩
        unfold Builtin.«set.__init__» noKeywords Builtin.Frozenset.updateFrom
        generalize hPI : pyIter = PI
        wp_walk
        subst hPI
        refine wpAny_pyIter_list hl1 ?_
        refine wpAny_bind (wpAny_runValue ?_)
        have hlS : l < s.heap.objs.size := Heap.lt_size hol
        have hneI : l ≠ (s.heap.push { cls := .type "set", dict := none, data := .set #[] 0 (.fresh 0 0 led) }).objs.size := by
          rw [Heap.size_push]
          exact Nat.ne_of_lt (Nat.lt_succ_of_lt hlS)
        have hSf : s.heap.objs.size ∉ [(s.heap.push { cls := .type "set", dict := none, data := .set #[] 0 (.fresh 0 0 led) }).objs.size, l] := by
          rw [Heap.size_push]
          simp only [List.mem_cons, List.not_mem_nil, or_false, not_or]
          exact ⟨Nat.ne_of_lt (Nat.lt_succ_self _), Nat.ne_of_gt hlS⟩
        refine setLoop ((Walks.list (show A.in1.in1.in1.handled = none by simp [hh]) _ l hneI items).toS) s.heap.objs.size hSf key hv hnd hb (items.size - 0) 0 _ (by omega) (Nat.zero_le _) ⟨⟨_, Heap.get?_push_size _ rfl, rfl, rfl⟩, (hl1.push _)⟩ ?_ ?_
        · refine iZ ((PyProof.Rows.setObjOf_fresh (knd := aR prog w) led).setOf (Heap.get?_push_of_some _ hS) (by unfold scanBound; omega)) (fun _ => rfl) rfl
        · intro s' hm hS'
          obtain ⟨g, g', d', tk', os'⟩ := s'
          have eg : g' = s.gens := hm.gens
          have ed : d' = s.drawn := hm.drawn
          have eo : os' = s.os := hm.os
          subst eg ed eo
          show wpAny _ _ _ _ _ _
          refine wpAny_pure ?_
          show wpAny _ _ (ret Value.none) _ _ _
          refine wpAny_pure ⟨rfl, g, tk', _, rfl, hS', fun b o hb e => ?_⟩
          have hb2 : b ≠ (s.heap.push { cls := .type "set", dict := none, data := .set #[] 0 (.fresh 0 0 led) }).objs.size := by
            rw [Heap.size_push]
            exact Nat.ne_of_lt (Nat.lt_succ_of_lt hb)
          exact hm.heap b o (by simp only [List.mem_cons, List.not_mem_nil, or_false, not_or]; exact ⟨Nat.ne_of_lt hb, hb2⟩) (Heap.get?_push_of_some _ (Heap.get?_push_of_some _ e))
      · cases r2 with
        | error e => exact hr2
        | ok fl2 =>
          cases fl2 with
          | ret r =>
            obtain ⟨rfl, g, tk, T, rfl, hS', hk'⟩ := hr2
            repeat (any_goals (first | assumption | wp_step))
            exact h _ _ _ hS' hk'
          | _ => exact hr2.elim
    | _ => exact hr.elim
end
def setM (P : Program) (w : World) (a : Addr) (n : Nat) : HO := .ext fun h => ∃ T, h.SetOf (aR P w) a T n
theorem jz {X : Cx} (hc : X.calm = true) : dY X (.type "set") (fun xs H Q => ∃ (p : Addr) (zs : List Str), xs = [.ref p] ∧ aJ X.K H p (zs.map V.str) ∧ zs.Nodup ∧ zs.length < 1000 ∧ ∀ q, H q = none → Q (.ref q) (upd H q (setM X.prog X.w q zs.length))) := by
  intro pins s σ H xs us Q I r h
  obtain ⟨p, zs, rfl, hq, nd, hz, q⟩ := h
  obtain ⟨u, rfl, rx⟩ := vals1 r
  cases rx
  obtain ⟨its, rv, pl, _⟩ := I.list hq
  have hl := rv.length
  rw [List.length_map] at hl
  refine tZ (key := fun i => Sum.inr (zs.getD i "")) (I.ok.hd hc) pl.isList (fun i v e => ?_) (fun i j hij hj => ?_) (by rw [List.size_toArray, ← hl]; unfold scanBound; omega) fun g tk T hS kp => ?_
  · have e' : its[i]? = some v := by simpa using e
    have hi : i < zs.length := by
      have := (List.getElem?_eq_some_iff.mp e').1
      omega
    obtain ⟨u, eu, t, rfl⟩ := rv.get (show (zs.map V.str)[i]? = some (V.str zs[i]) by simp [hi])
    rw [eu] at e'
    cases e'
    have e2 : zs.getD i "" = zs[i] := by simp [List.getD, hi]
    show iF (Sum.inr (zs.getD i "")) _ = true ∧ _
    rw [e2]
    exact ⟨mR _ _, rfl⟩
  · have hj' : j < zs.length := by
      rw [List.size_toArray, ← hl] at hj
      exact hj
    have hi' : i < zs.length := by omega
    intro e
    have e1 : zs.getD i "" = zs.getD j "" := Sum.inr.inj e
    have e2 : zs[i] = zs[j] := by simpa [List.getD, hi', hj'] using e1
    exact absurd ((List.getElem_inj nd).mp e2) (by omega)
  · have hn : H s.heap.objs.size = none := I.hok.fresh (Nat.le_refl _)
    have e3 : its.toArray.size = zs.length := by rw [List.size_toArray, hl]
    rw [e3] at hS
    refine ⟨.ref s.heap.objs.size, _, I.laid (t' := tk) (o := setM X.prog X.w s.heap.objs.size zs.length) (fun b o e => kp b o (Heap.lt_size e) e) (Nat.le_refl _) ⟨⟨T, hS⟩, ?_, fun h1 h2 p k => ?_⟩, rfl, q _ hn⟩
    · obtain ⟨o, _, _, _, e, _⟩ := hS
      exact ⟨o, e⟩
    · obtain ⟨T, o, es, ep, t, e, rest⟩ := p
      exact ⟨T, o, es, ep, t, k o e, rest⟩
theorem fB {X : Cx} : dY X (.builtin "len") (fun xs H Q => ∃ (p : Addr) (n : Nat), xs = [.ref p] ∧ H p = some (setM X.prog X.w p n) ∧ Q (.int n) H) := by
  intro pins s σ H xs us Q I r h
  obtain ⟨p, n, rfl, hp, q⟩ := h
  obtain ⟨u, rfl, rx⟩ := vals1 r
  cases rx
  obtain ⟨⟨T, o, es, ep, t, e, ex, d, _, _, hsz, hf, rfl⟩, _⟩ := I.hok p _ hp
  have hb : es.size < 4096 := hsz
  exact call_len_set e ex d hf (by omega) ⟨.int es.size, H, I.tok _, ⟨_, rfl⟩, q⟩
end L2
namespace L2
open PySem PySem.Spec PyProof.Rows
section
variable {K : PySem.W.Frag} {is : List Nat} {te : TE} {σ : St} {H : Hp} {Q : VK}
theorem zw {J : It} {n : Nat} (Pv : Addr → Nat → List V → Hp → Prop) (hz : n ≤ sizeLine) (h0 : ∀ D, H D = none → Pv D 0 [] (upd H D (.lst [])))
    (hD : ∀ D i ys H2, Pv D i ys H2 → H2 D = some (.lst ys) ∧ ys.length = i) (hgo : ∀ D i ys H2, Pv D i ys H2 → i < n → J.go i H2) (hstop : ∀ D ys H2, Pv D n ys H2 → J.stop n H2)
    (he : ∀ D i ys H2 v H3 (Q' : VK), Pv D i ys H2 → i < n → J.yld i H2 v H3 → (∀ y H4, H4 D = some (.lst ys) → Pv D (i + 1) (ys ++ [y]) (upd H4 D (.lst (ys ++ [y]))) → Q' y H4) → te (some v :: dE is σ) H3 Q')
    (q : ∀ D ys H2, H D = none → Pv D n ys H2 → Q (.ref D) H2) : fV J is te σ H Q := by
  intro D hDn
  refine ⟨fun i m ys H2 => m = n - i ∧ i ≤ n ∧ Pv D i ys H2, ⟨_, rfl, Nat.zero_le _, h0 D hDn⟩, ?_⟩
  rintro i m ys H2 ⟨rfl, hi, p⟩
  obtain ⟨d1, d2⟩ := hD D i ys H2 p
  refine ⟨d1, ?_⟩
  by_cases hlt : i < n
  · refine .inr ⟨hgo D i ys H2 p hlt, fun v H3 y => ?_⟩
    refine he D i ys H2 v H3 _ p hlt y fun y' H4 e4 p4 => ⟨e4, by omega, n - (i + 1), by omega, rfl, hlt, p4⟩
  · have e : i = n := by omega
    subst e
    exact .inl ⟨hstop D ys H2 p, q D ys H2 hDn p⟩
theorem sC {J : It} {xs : List V} (f : V → V) (hz : xs.length ≤ sizeLine) (hgo : ∀ i H2, au H H2 → i < xs.length → J.go i H2) (hstop : ∀ H2, au H H2 → J.stop xs.length H2)
    (hy : ∀ i H2 v H3, au H H2 → i < xs.length → J.yld i H2 v H3 → H3 = H2 ∧ xs[i]? = some v)
    (he : ∀ v H2 (Q' : VK), v ∈ xs → au H H2 → (∀ H3, au H2 H3 → Q' (f v) H3) → te (some v :: dE is σ) H2 Q')
    (q : ∀ D H', H D = none → au H H' → H' D = some (.lst (xs.map f)) → Q (.ref D) H') : fV J is te σ H Q := by
  refine zw (n := xs.length) (fun D i ys H2 => H D = none ∧ au H H2 ∧ H2 D = some (.lst ys) ∧ i ≤ xs.length ∧ ys = (xs.take i).map f) hz (fun D hD => ⟨hD, au.upd hD, af, Nat.zero_le _, by simp⟩)
    (fun D i ys H2 p => ⟨p.2.2.1, by rw [p.2.2.2.2, List.length_map, List.length_take]; have := p.2.2.2.1; omega⟩) (fun D i ys H2 p hi => hgo i H2 p.2.1 hi) (fun D ys H2 p => hstop H2 p.2.1) ?_ ?_
  · rintro D i ys H2 v H3 Q' ⟨hD, sm, hl, hi, hys⟩ hlt y k
    obtain ⟨rfl, hv⟩ := hy i H2 v H3 sm hlt y
    refine he v _ _ (List.mem_of_getElem? hv) sm fun H4 s4 => ?_
    refine k _ _ (s4 _ _ hl) ⟨hD, fun b o e => ?_, af, hlt, ?_⟩
    · rw [ao (aj e hD)]
      exact s4 _ _ (sm _ _ e)
    · rw [hys, List.take_add_one, hv, List.map_append]
      rfl
  · rintro D ys H2 hD ⟨_, sm, hl, _, hys⟩
    rw [List.take_length] at hys
    rw [hys] at hl
    exact q D H2 hD sm hl
theorem iz {a : Addr} {xs : List V} (f : V → V) (hq : aJ K H a xs) (hz : xs.length ≤ sizeLine) (he : ∀ v H2 (Q' : VK), v ∈ xs → au H H2 → (∀ H3, au H2 H3 → Q' (f v) H3) → te (some v :: dE is σ) H2 Q')
    (q : ∀ D H', H D = none → au H H' → H' D = some (.lst (xs.map f)) → Q (.ref D) H') : fV (xF K a) is te σ H Q :=
  sC f hz (fun i H2 sm hi => ⟨xs, xs[i], sm.seq hq, by simp [hi]⟩) (fun H2 sm => ⟨xs, sm.seq hq, Nat.le_refl _⟩) (fun i H2 v H3 sm hi y => ⟨y.1, y.2 xs (sm.seq hq)⟩) he q
theorem xH {a : Addr} {xs : List V} (f : V → V) (hq : aL K H a xs) (hz : xs.length ≤ sizeLine) (he : ∀ v H2 (Q' : VK), v ∈ xs → au H H2 → (∀ H3, au H2 H3 → Q' (f v) H3) → te (some v :: dE is σ) H2 Q')
    (q : ∀ D H', H D = none → au H H' → H' D = some (.lst (xs.map f)) → Q (.ref D) H') : fV (CF K a) is te σ H Q :=
  sC f hz (fun i H2 sm hi => ⟨xs, xs[i], sm.Aw hq, by simp [hi]⟩) (fun H2 sm => ⟨xs, sm.Aw hq, Nat.le_refl _⟩) (fun i H2 v H3 sm hi y => ⟨y.1, y.2 xs (sm.Aw hq)⟩) he q
end
theorem gf {env : Env} {k : NameKind} (hk : k ≠ .free) : ∀ {names : List (Str × NameKind)} {x : Str}, names.lookup x = some k →
    (names.map fun (n, k) => if (k == NameKind.free && env.scope.kind == .function && env.kindOf n == some .cell) then (n, NameKind.cell) else (n, k)).lookup x = some k
  | [], _, h => by simp at h
  | (n, j) :: r, x, h => by
    have ih := @gf env k hk r x
    show List.lookup x ((if (j == NameKind.free && env.scope.kind == .function && env.kindOf n == some .cell) = true then (n, NameKind.cell) else (n, j)) :: _) = _
    cases hx : x == n with
    | true =>
      simp only [List.lookup_cons, hx] at h
      cases h
      rw [if_neg (by simp [hk])]
      simp only [List.lookup_cons, hx]
    | false =>
      simp only [List.lookup_cons, hx] at h
      by_cases hc' : (j == NameKind.free && env.scope.kind == .function && env.kindOf n == some .cell) = true
      · rw [if_pos hc']; simp only [List.lookup_cons, hx]; exact ih h
      · rw [if_neg hc']; simp only [List.lookup_cons, hx]; exact ih h
theorem gF {env : Env} : ∀ {names : List (Str × NameKind)} {x : Str}, names.lookup x = some .free →
    (names.map fun (n, k) => if (k == NameKind.free && env.scope.kind == .function && env.kindOf n == some .cell) then (n, NameKind.cell) else (n, k)).lookup x = some .cell ∨
    (names.map fun (n, k) => if (k == NameKind.free && env.scope.kind == .function && env.kindOf n == some .cell) then (n, NameKind.cell) else (n, k)).lookup x = some .free
  | [], _, h => by simp at h
  | (n, j) :: r, x, h => by
    have ih := @gF env r x
    show List.lookup x ((if (j == NameKind.free && env.scope.kind == .function && env.kindOf n == some .cell) = true then (n, NameKind.cell) else (n, j)) :: _) = _ ∨ List.lookup x ((if (j == NameKind.free && env.scope.kind == .function && env.kindOf n == some .cell) = true then (n, NameKind.cell) else (n, j)) :: _) = _
    cases hx : x == n with
    | true =>
      simp only [List.lookup_cons, hx] at h
      cases h
      by_cases hc' : (NameKind.free == NameKind.free && env.scope.kind == .function && env.kindOf n == some .cell) = true
      · rw [if_pos hc']; simp only [List.lookup_cons, hx]; first | exact .inl rfl | exact .inl trivial
      · rw [if_neg hc']; simp only [List.lookup_cons, hx]; first | exact .inr rfl | exact .inr trivial
    | false =>
      simp only [List.lookup_cons, hx] at h
      by_cases hc' : (j == NameKind.free && env.scope.kind == .function && env.kindOf n == some .cell) = true
      · rw [if_pos hc']; simp only [List.lookup_cons, hx]; exact ih h
      · rw [if_neg hc']; simp only [List.lookup_cons, hx]; exact ih h
section
variable {X : Cx} {x y : Str} {ns : List Str} {scope : Scope} {cl : List (Str × Addr)} {fp : List Addr} {s3 : Shared} {H3 : Hp} {C : Addr} {sp : Sp}
structure tE (X : Cx) (x : Str) (sp : Sp) : Prop where
  ex : ∃ (k : Nat) (f : Addr) (fd : FuncData) (ps : List Str), dW X.prog X.w X.K X.mg X.base jP k f fd ps sp ∧ cy k X.A ∧ X.mg x = some (.ref f) ∧ PySem.W.keepIn X.K (.ref f) = true ∧ Binds X.K fd ps []
  db : (x == ("__debug__" : Str)) = false
structure EL (X : Cx) (x : Str) : Prop where
  nm : X.mg x = none
  hn : x ≠ "__name__"
  db : (x == ("__debug__" : Str)) = false
theorem tE.lc (B : tE X y sp) (h : scope.names.lookup y = some .globalImplicit) : zf (cz X (x :: ns) scope cl fp s3 H3 C) y sp := ⟨B.ex, gf (by decide) h, B.db⟩
end
structure Gd (P : Program) (w : World) (K : PySem.W.Frag) (mg : Str → Option Value) (base : Heap) (k : Nat) (x : Str) (sp : Sp) : Prop where
  ex : ∃ (f : Addr) (fd : FuncData) (ps : List Str), dW P w K mg base jP k f fd ps sp ∧ mg x = some (.ref f) ∧ PySem.W.keepIn K (.ref f) = true ∧ Binds K fd ps []
structure Md (P : Program) (w : World) (K : PySem.W.Frag) (mg : Str → Option Value) (base : Heap) (k : Nat) (C : Addr) (m : Str) (sp : Sp) : Prop where
  ex : ∃ (f : Addr) (fd : FuncData) (ps : List Str), dW P w K mg base jP k f fd ps sp ∧ Meth K C m f ∧ Binds K fd ps []
  cl : pR K C
structure Kd (P : Program) (w : World) (K : PySem.W.Frag) (mg : Str → Option Value) (base : Heap) (k : Nat) (x : Str) (C : Addr) (sp : Sp) : Prop where
  ex : ∃ (f : Addr) (fd : FuncData) (ps : List Str), dW P w K mg base jP k f fd ps sp ∧ Mk K C f ∧ Binds K fd ps []
  nm : mg x = some (.ref C)
structure C8 (X : Cx) (x : Str) (C : Addr) (sp : Sp) : Prop where
  ex : ∃ (k : Nat) (f : Addr) (fd : FuncData) (ps : List Str), dW X.prog X.w X.K X.mg X.base jP k f fd ps sp ∧ cy (k + 1) X.A ∧ Mk X.K C f ∧ Binds X.K fd ps []
  nm : X.mg x = some (.ref C)
  gl : Gl X x
  db : (x == ("__debug__" : Str)) = false
structure Met (X : Cx) (C : Addr) (m : Str) (sp : Sp) : Prop where
  ex : ∃ (k : Nat) (f : Addr) (fd : FuncData) (ps : List Str), dW X.prog X.w X.K X.mg X.base jP k f fd ps sp ∧ cy k X.A ∧ Meth X.K C m f ∧ Binds X.K fd ps []
  cl : pR X.K C
structure Here (X : Cx) (P : Program) (w : World) (K : PySem.W.Frag) (mg : Str → Option Value) (base : Heap) (sc : Scope) (N : List Str) (k : Nat) : Prop where
  pr : X.prog = P
  wd : X.w = w
  fK : X.K = K
  gm : X.mg = mg
  bs : X.base = base
  calm : X.calm = true
  own : PassesOwn (model X.prog X.w) X.A X.env X.xe
  hsc : X.env.scope = sc
  hN : X.N = N
  nd : X.N.Nodup
  room : cy k X.A
  fn : ∀ x, X.fn x = true
section
variable {X : Cx} {P : Program} {w : World} {K : PySem.W.Frag} {mg : Str → Option Value} {base : Heap} {sc : Scope} {N : List Str} {k j : Nat} {x m : Str} {sp : Sp} {C : Addr}
theorem Here.slot (h : Here X P w K mg base sc N k) (i : Nat) (hN : N[i]? = some x) (lc : Loc sc x) (db : (x == ("__debug__" : Str)) = false) (cd : (x == ("__classdict__" : Str)) = false) : Slot X i x :=
  ⟨by rw [h.hN]; exact hN, by rw [h.hsc]; exact lc, .inl (h.fn x), db, cd⟩
theorem Here.sl (h : Here X P w K mg base sc N k) (i : Nat) (x : Str) (hN : N[i]? = some x := by rfl) (lc : Loc sc x := by first | exact .inl rfl | exact .inr rfl) (db : (x == ("__debug__" : Str)) = false := by decide) (cd : (x == ("__classdict__" : Str)) = false := by decide) : Slot X i x := h.slot i hN lc db cd
theorem Here.gl (h : Here X P w K mg base sc N k) (hg : sc.names.lookup x = some .globalImplicit) : Gl X x := by
  show X.env.scope.names.lookup x = _
  rw [h.hsc]
  exact hg
theorem Here.bt (h : Here X P w K mg base sc N k) (hm : mg x = none) (hg : sc.names.lookup x = some .globalImplicit) (hn : x ≠ "__name__") (db : (x == ("__debug__" : Str)) = false) : Bt X x := ⟨h.gl hg, by rw [h.gm]; exact hm, hn, db⟩
theorem Here.b (h : Here X P w K mg base sc N k) (hm : mg x = none) (hg : sc.names.lookup x = some .globalImplicit := by rfl) (hn : x ≠ "__name__" := by decide) (db : (x == ("__debug__" : Str)) = false := by decide) : Bt X x := h.bt hm hg hn db
theorem Here.cF (h : Here X P w K mg base sc N k) (G : Gd P w K mg base j x sp) (hg : sc.names.lookup x = some .globalImplicit) (hj : j ≤ k) (db : (x == ("__debug__" : Str)) = false) : zf X x sp := by
  obtain ⟨f, fd, ps, h1, h2, h3, h4⟩ := G.ex
  obtain ⟨rfl, rfl, rfl, rfl, rfl⟩ := And.intro h.pr (And.intro h.wd (And.intro h.fK (And.intro h.gm h.bs)))
  exact ⟨⟨j, f, fd, ps, h1, h.room.mono hj, h2, h3, h4⟩, h.gl hg, db⟩
theorem Here.c (h : Here X P w K mg base sc N k) (G : Gd P w K mg base j x sp) (hg : sc.names.lookup x = some .globalImplicit := by rfl) (hj : j ≤ k := by first | decide | exact Nat.le_refl _) (db : (x == ("__debug__" : Str)) = false := by decide) : zf X x sp := h.cF G hg hj db
theorem Here.CQ (h : Here X P w K mg base sc N k) (G : Gd P w K mg base j x sp) (hj : j ≤ k) (db : (x == ("__debug__" : Str)) = false) : tE X x sp := by
  obtain ⟨f, fd, ps, h1, h2, h3, h4⟩ := G.ex
  obtain ⟨rfl, rfl, rfl, rfl, rfl⟩ := And.intro h.pr (And.intro h.wd (And.intro h.fK (And.intro h.gm h.bs)))
  exact ⟨⟨j, f, fd, ps, h1, h.room.mono hj, h2, h3, h4⟩, db⟩
theorem Here.ci (h : Here X P w K mg base sc N k) (G : Gd P w K mg base j x sp) (hj : j ≤ k := by first | decide | exact Nat.le_refl _) (db : (x == ("__debug__" : Str)) = false := by decide) : tE X x sp := h.CQ G hj db
theorem Here.CP (h : Here X P w K mg base sc N k) (G : Kd P w K mg base j x C sp) (hg : sc.names.lookup x = some .globalImplicit) (hj : j + 1 ≤ k) (db : (x == ("__debug__" : Str)) = false) : C8 X x C sp := by
  obtain ⟨f, fd, ps, h1, h2, h3⟩ := G.ex
  have nm := G.nm
  obtain ⟨rfl, rfl, rfl, rfl, rfl⟩ := And.intro h.pr (And.intro h.wd (And.intro h.fK (And.intro h.gm h.bs)))
  exact ⟨⟨j, f, fd, ps, h1, h.room.mono hj, h2, h3⟩, nm, h.gl hg, db⟩
theorem Here.met (h : Here X P w K mg base sc N k) (G : Md P w K mg base j C m sp) (hj : j ≤ k) : Met X C m sp := by
  obtain ⟨f, fd, ps, h1, h2, h3⟩ := G.ex
  have c := G.cl
  obtain ⟨rfl, rfl, rfl, rfl, rfl⟩ := And.intro h.pr (And.intro h.wd (And.intro h.fK (And.intro h.gm h.bs)))
  exact ⟨⟨j, f, fd, ps, h1, h.room.mono hj, h2, h3⟩, c⟩
end
section
variable {X : Cx} {x y : Str} {ns : List Str} {scope : Scope} {cl : List (Str × Addr)} {fp : List Addr} {s3 : Shared} {H3 : Hp} {C D : Addr} {sp : Sp} {m : Str}
end
theorem zL : bootBuiltins "set" = some (.type "set") := by decide +kernel
theorem nK : bootBuiltins "min" = some (.builtin "min") := by decide +kernel
theorem qq : bootBuiltins "max" = some (.builtin "max") := by decide +kernel
theorem cB {c A B : Prop} [Decidable c] (hc : c) (h : A) : if c then A else B := by
  rw [if_pos hc]
  exact h
theorem bT {c A B : Prop} [Decidable c] (hc : ¬ c) (h : B) : if c then A else B := by
  rw [if_neg hc]
  exact h
inductive CT (K : PySem.W.Frag) (x y : V) (H : Hp) (Q : VK) : Prop
  | mk (l b : Addr) (xs zs : List V) (hx : x = .ref l) (hy : y = .ref b) (s : aJ K H l xs) (t : aJ K H b zs) (e : xs.length + zs.length ≤ sizeLine) (q : ∀ p, H p = none → Q (.ref p) (upd H p (.lst (xs ++ zs))))
def Dz (K : PySem.W.Frag) : R2 := fun x y H Q => CT K x y H Q
end L2
namespace J
open PySem PySem.Spec PyProof.Rows
open L2 (Cx V Hp St VK TE TT TA TS TG mQ TI TO R2 Sp XK E0 jP dW cy Gl Binds RelV Vals aJ aL eC Here Gd Md Kd C8 Met Df lZ aB Meth Mk pR)
structure A0 (X : Cx) (id : String) (r : V → List V → Hp → VK → Prop) : Prop where
  out : L2.Ca X id r
section
variable {X : Cx} {x y : Str} {ns : List Str} {scope : Scope} {cl : List (Str × Addr)} {fp : List Addr} {s3 : Shared} {H3 : Hp} {C : Addr} {sp : Sp} {p pos apos pos' : Pos} {e o value : Expr} {es : List Expr} {ta te tv : TE} {t : TA} {m f : Str} {tg : Expr}
theorem AD (h : scope.names.lookup x = some .local) (db : (x == ("__debug__" : Str)) = false) (cd : (x == ("__classdict__" : Str)) = false) : JE (L2.cz X (x :: ns) scope cl fp s3 H3 C) (.Name x p) (L2.iW 0) :=
  ⟨L2.ji (i := 0) rfl (.inl (PySem.lookup_relabel_local h)) db cd⟩
theorem B3 {i : Nat} (h : scope.names.lookup y = some .free) (hi : ns[i]? = some y) (db : (y == ("__debug__" : Str)) = false) (cd : (y == ("__classdict__" : Str)) = false) : JE (L2.cz X (x :: ns) scope cl fp s3 H3 C) (.Name y p) (L2.iW (i + 1)) :=
  ⟨L2.ji (i := i + 1) hi (.inr (L2.gF h)) db cd⟩
theorem CP (M : C8 X x C sp) (ha : JA X (e :: es) t) (h1 : L2.notStar e = true := by rfl) (h2 : es.all L2.notStar = true := by rfl) : JE X (.Call (.Name x p) (e :: es) [] pos) (L2.yL C sp [] E0 t) := by
  obtain ⟨k, f, fd, ps, F, hr, mk, bi⟩ := M.ex
  exact ⟨L2.ye mk F hr M.gl M.nm bi .nil L2.r8 ha.out M.db (L2.bq h1) (L2.eK h2)⟩
theorem nZ {pl : Sem Bool} (M : Met X C m sp) (he : JE X o ta) (ht : eval (.Call (.Attribute o m apos) [] [] pos) X.env = (do
      let ov ← eval o X.env
      standAt apos.atName
      let (f, first) ← holding [ov] (getMethod ov m pl)
      callWith pos f first (backTo pos (starEach [] X.env)) (backToKw pos (keywordEach [] X.env)))) : JE X (.Call (.Attribute o m apos) [] [] pos) (L2.yX C m sp [] E0 ta L2.tT) := by
  obtain ⟨k, f, fd, ps, F, hr, me, bi⟩ := M.ex
  exact ⟨L2.vQ he.out M.cl me F hr bi .nil L2.r8 ht⟩
theorem fld (he : JE X (.Name x p) ta) : JE X (.Attribute (.Name x p) f pos) (L2.BM X.K ta f) := ⟨L2.zK he.out rfl⟩
theorem je (ha : JE X o ta) (hv : JE X value tv) (h : L2.iq value = false := by rfl) : JS X (.Assign [.Attribute o f pos'] value pos) (L2.B0 X.K ta tv f) := ⟨L2.je ha.out hv.out (L2.iA h)⟩
theorem bR : A0 X "list.append" L2.r6 := ⟨L2.bR⟩
theorem iw : A0 X "list.reverse" L2.o8 := ⟨L2.iw⟩
theorem kI : A0 X "list.clear" L2.vz := ⟨L2.kI⟩
def kP (o : Expr) : Bool := match o with
  | .Call .. => false
  | _ => true
theorem ff {o : Expr} {name : Str} {env : Env} {v : Sem Value} (h : kP o = true) : attributeBase o name env v = v := by
  cases o <;> first | rfl | cases h
theorem AA {cpos : Pos} {env : Env} (h1 : L2.notStar e = true) : ((backTo cpos (starEach [e] env)).all (fun x => !x.1) && (backToKw cpos (keywordEach [] env)).all (fun x => x.1.isSome)
      && decide ([e].length + ([] : List Keyword).length + (if ([] : List Keyword).isEmpty then 0 else 1) < 30)) = true := by
  rw [L2.bq h1]
  rfl
theorem Dr {T id : String} {r : V → List V → Hp → VK → Prop} {name : Str} (pa : PlainAttrs T) (slot : Slot T name id) (hty : typeOf (.builtin id) = pure (.type "method_descriptor")) (hm : A0 X id r) (ho : JE X o te)
    (h : kP o = true := by rfl) (hline : (apos.endLine == pos.line) = true := by rfl) : JE X (.Call (.Attribute o name apos) [] [] pos) (L2.Bb X.K T r te) := ⟨L2.zX pa slot hty hm.out ho.out (ff h) hline⟩
theorem bm {T id : String} {r : V → List V → Hp → VK → Prop} {name : Str} (pa : PlainAttrs T) (slot : Slot T name id) (hty : typeOf (.builtin id) = pure (.type "method_descriptor")) (hm : A0 X id r) (ho : JE X o te) (ha : JA X [e] t)
    (h : kP o = true := by rfl) (h1 : L2.notStar e = true := by rfl) (hline : (apos.endLine == pos.line) = true := by rfl) : JE X (.Call (.Attribute o name apos) [e] [] pos) (L2.DG X.K T r te t) :=
  ⟨L2.BL pa slot hty hm.out ho.out ha.out (ff h) (AA h1) hline (L2.bq h1) rfl⟩
theorem jZ {e1 : Expr} {kk : Nat} {tp : Pos} (B : L2.Bt X "enumerate") (ha : JA X [e1] t) (h1 : L2.notStar e1 = true := by rfl) : JI X (.Tuple es kk tp) (.Call (.Name "enumerate" p) [e1] [] pos) (L2.yT X.K t) := ⟨L2.jZ B ha.out h1⟩
theorem jz (hc : X.calm = true) : JF X (.type "set") (fun xs H Q => ∃ (p : Addr) (zs : List Str), xs = [.ref p] ∧ aJ X.K H p (zs.map V.str) ∧ zs.Nodup ∧ zs.length < 1000 ∧ ∀ q, H q = none → Q (.ref q) (L2.upd H q (L2.setM X.prog X.w q zs.length))) := ⟨L2.jz hc⟩
theorem fB : JF X (.builtin "len") (fun xs H Q => ∃ (p : Addr) (n : Nat), xs = [.ref p] ∧ H p = some (L2.setM X.prog X.w p n) ∧ Q (.int n) H) := ⟨L2.fB⟩
theorem cD : AX X [] L2.Bu := ⟨L2.cD⟩
theorem bO {g : TG} {u : mQ} (S : JG X (.Name x p) g) (h : AX X es u) : AX X (.Name x p :: es) (L2.yU g u) := ⟨L2.vZ S.out h.out rfl⟩
theorem dX {k n : Nat} {u : mQ} (hc : X.calm = true) (h : AX X es u) (hn : (assignEach es X.env).length = n := by rfl) (hst : (assignEach es X.env).findIdx? (·.1) = none := by rfl) : JG X (.Tuple es k pos) (L2.zU X.K n u) := ⟨L2.dX hc h.out hn hst⟩
theorem asg {g : TG} (he : JE X e te) (hg : JG X tg g) (hs : swapsWithSole [tg] e pos.line X.env = pure false := by rfl) (hw : swappedStores [tg] e X.env = pure none := by rfl)
    (h1 : (assignEach [tg] X.env).map (·.2) = [assign tg X.env] := by rfl) : JS X (.Assign [tg] e pos) (L2.oy te g) := ⟨L2.Ah he.out hg.out hs hw h1⟩
theorem rT (h : JE X (.Name x p) te) : JT X (.Name x p) (L2.tB te) := ⟨L2.qW h.out (fun _ => rfl)⟩
theorem qB {a b : Expr} : cX (.Subscript a b p) := ⟨fun _ _ => rfl⟩
theorem glob {P : Program} {w : World} {K : PySem.W.Frag} {mg : Str → Option Value} {base : Heap} {sc : Scope} {N : List Str} {k : Nat} {v : V} (hh : Here X P w K mg base sc N k) (hm : ∃ u, mg x = some u ∧ RelV v u) (hg : sc.names.lookup x = some .globalImplicit)
    (db : (x == ("__debug__" : Str)) = false) : JE X (.Name x p) (L2.tC v) := by
  obtain ⟨u, h1, h2⟩ := hm
  exact J.jX (hh.gl hg) (by rw [hh.gm]; exact h1) h2 db
end
section
variable {P : Program} {w : World} {K : PySem.W.Frag} {mg : Str → Option Value} {base : Heap} {x qual m : Str} {st : Stmt} {f C : Addr} {fd : FuncData} {N ps : List Str} {k : Nat} {sp : Sp}
theorem kf (F : lZ K x qual st f fd) (S : aB N ps (L2.aa st)) (len : ∀ vs H Q E, sp vs H Q E → vs.length = ps.length)
    (hbody : ∀ (X : Cx) (H : Hp) (vs : List V) (Q : VK) (E : XK), Here X P w K mg base (L2.aa st) N k → sp vs H Q E → ∃ t, ro X (L2.aA st) t ∧ t { nx := fun _ H' => Q .non H', rt := Q } (L2.start N vs) H) : dW P w K mg base jP (k + 1) f fd ps sp := by
  refine AE F S len fun X cdv A outer s H vs Q E hX hr h => ?_
  subst hX
  exact hbody _ H vs Q E ⟨rfl, rfl, rfl, rfl, rfl, rfl, PassesOwn.never, rfl, rfl, S.nd, hr, fun _ => rfl⟩ h
theorem aP (D : Df K mg x st ps f fd) (S : aB N ps (L2.aa st)) (len : ∀ vs H Q E, sp vs H Q E → vs.length = ps.length)
    (hbody : ∀ (X : Cx) (H : Hp) (vs : List V) (Q : VK) (E : XK), Here X P w K mg base (L2.aa st) N k → sp vs H Q E → ∃ t, ro X (L2.aA st) t ∧ t { nx := fun _ H' => Q .non H', rt := Q } (L2.start N vs) H) : Gd P w K mg base (k + 1) x sp :=
  ⟨f, fd, ps, kf D.fn S len hbody, D.nm, D.fn.kp, D.bi⟩
theorem i3 (F : lZ K m qual st f fd) (me : Meth K C m f) (bi : Binds K fd ps []) (cl : pR K C) (S : aB N ps (L2.aa st)) (len : ∀ vs H Q E, sp vs H Q E → vs.length = ps.length)
    (hbody : ∀ (X : Cx) (H : Hp) (vs : List V) (Q : VK) (E : XK), Here X P w K mg base (L2.aa st) N k → sp vs H Q E → ∃ t, ro X (L2.aA st) t ∧ t { nx := fun _ H' => Q .non H', rt := Q } (L2.start N vs) H) : Md P w K mg base (k + 1) C m sp :=
  ⟨⟨f, fd, ps, kf F S len hbody, me, bi⟩, cl⟩
theorem xB {y : Str} (F : lZ K m qual st f fd) (mk : Mk K C f) (bi : Binds K fd ps []) (nm : mg y = some (.ref C)) (S : aB N ps (L2.aa st)) (len : ∀ vs H Q E, sp vs H Q E → vs.length = ps.length)
    (hbody : ∀ (X : Cx) (H : Hp) (vs : List V) (Q : VK) (E : XK), Here X P w K mg base (L2.aa st) N k → sp vs H Q E → ∃ t, ro X (L2.aA st) t ∧ t { nx := fun _ H' => Q .non H', rt := Q } (L2.start N vs) H) : Kd P w K mg base (k + 1) y C sp :=
  ⟨⟨f, fd, ps, kf F S len hbody, mk, bi⟩, nm⟩
end
end J
namespace L2
open PySem PySem.Spec PyProof.Rows
theorem eV (n : Nat) : (List.range n).all (fun _ => true) = true := by
  rw [List.all_eq_true]
  intro _ _
  rfl
def Eg (K : PySem.W.Frag) : R2 := fun x y H Q => ∃ a b xs ys, x = .ref a ∧ y = .ref b ∧ aJ K H a xs ∧ aJ K H b ys ∧ xs.length = ys.length ∧
  (∀ (i : Nat) u v, xs[i]? = some u → ys[i]? = some v → ∃ p q zs, u = .ref p ∧ v = .ref q ∧ p ≠ q ∧ aJ K H p zs ∧ aJ K H q zs ∧ ∀ z ∈ zs, (∃ t, z = V.str t) ∨ ∃ c, z = V.ref c) ∧ Q (.bl false) H
end L2
namespace J
open PySem PySem.Spec PyProof.Rows
end J
namespace L2
open PySem PySem.Spec PyProof.Rows
section
variable {X : Cx} {x : Str} {px pos : Pos} {elt iter : Expr} {scope : Scope} {wi : TI} {te : TE} {is : List Nat} {ns : List Str}
end
theorem sH {elt : Expr} {gs : List Comprehension} {scope : Scope} {pos py : Pos} {y : Str} {n : Nat} {env : Env} {sc : Scope} (hsc : env.scope = sc)
    (h : ((if sc.kind.isAnnotationScope then ScopeKind.function else sc.kind) == .function && sc.names.lookup y == some .local && py.line == pos.line && !(scope.names.any fun (n, k) => n == y && (k == .local || k == .cell))) = true) :
    swapsWith (.ListComp elt gs scope pos) (some (.Name y py)) n env = pure true := by
  subst hsc
  show (pure _ : Sem Bool) = pure true
  exact congrArg pure h
end L2
namespace J
open PySem PySem.Spec PyProof.Rows
open L2 (Cx V Hp St VK TE TT TA TS TG mQ TI TO)
end J
namespace L2
open PySem PySem.Spec PyProof.Rows
section
variable {X : Cx} {pins : List (Addr × Obj)} {σ : St} {H : Hp} {s : Shared} {p : Addr} {ns : List Int}
theorem Inv.ints (I : Inv X pins σ H s) (h : aJ X.K H p (ns.map V.int)) : ∃ xs : Array (Int × Tok), s.heap.IsList p (intItems xs) ∧ xs.toList.map (·.1) = ns := by
  obtain ⟨its, r, pl, _⟩ := I.list h
  have hi := intsAre_of r
  obtain ⟨xs, e⟩ := hi.allInts.items
  refine ⟨xs, by rw [← e]; exact pl.isList, ?_⟩
  have e2 := hi.numsOf
  have e3 : its = (intItems xs).toList := by rw [← e]
  rw [e3, nums_intItems] at e2
  exact e2
theorem gL (hc : X.calm = true) : dY X (.builtin "sum") (fun xs H Q => ∃ (p : Addr) (ns : List Int), xs = [.ref p] ∧ aJ X.K H p (ns.map V.int) ∧ Q (.int ns.sum) H) := by
  intro pins s σ H xs us Q I r h
  obtain ⟨p, ns, rfl, hq, q⟩ := h
  obtain ⟨u, rfl, rx⟩ := vals1 r
  cases rx
  obtain ⟨ys, hl, e⟩ := I.ints hq
  refine sum_intListG (I.ok.hd hc) hl fun h' tk t' hk => ?_
  rw [preSum_eq, e, List.take_of_length_le (by rw [← e, List.length_map, Array.length_toList]; exact Nat.le_refl _)]
  exact ⟨.int _, H, I.kept (t' := tk) hk, ⟨_, rfl⟩, q⟩
def jN : V → V → Option Bool
  | .ref a, .ref b => if a = b then some true else none
  | x, y => if bK x = true ∧ bK y = true then some (ou x y) else none
theorem ux {A : Around} {s : Shared} {x y : V} {u v : Value} {b : Bool} (ru : RelV x u) (rv : RelV y v) (h : jN x y = some b) : SeqAt.EqAt A s u v b := by
  have flat : (if bK x = true ∧ bK y = true then some (ou x y) else none) = some b → SeqAt.EqAt A s u v b := fun h => by
    by_cases c : bK x = true ∧ bK y = true
    · rw [if_pos c] at h
      cases h
      exact nX ru rv c.1 c.2
    · rw [if_neg c] at h
      cases h
  cases x with
  | ref a =>
    cases y with
    | ref c =>
      have h' : (if a = c then some true else none) = some b := h
      by_cases e : a = c
      · rw [if_pos e] at h'
        cases h'
        cases ru
        cases rv
        rw [e]
        exact SeqAt.EqAt.same _
      · rw [if_neg e] at h'
        cases h'
    | _ => exact flat h
  | _ => exact flat h
def Cj (bs : List Bool) : Bool := (List.range bs.length).all fun i => bs.getD i false
def Er (K : PySem.W.Frag) : R2 := fun x y H Q => ∃ a b xs ys bs, x = .ref a ∧ y = .ref b ∧ aJ K H a xs ∧ aJ K H b ys ∧ xs.length = bs.length ∧ ys.length = bs.length ∧ (∀ (i : Nat) u v c, xs[i]? = some u → ys[i]? = some v → bs[i]? = some c → jN u v = some c) ∧ Q (.bl (Cj bs)) H
theorem dj {its : List Value} {xs : List V} {j : Nat} (r : Vals xs its) (h : j < its.length) : ∃ x, xs[j]? = some x ∧ RelV x its[j] := by
  have hl := r.length
  have e : xs[j]? = some xs[j] := List.getElem?_eq_getElem (by omega)
  obtain ⟨u, eu, ru⟩ := r.get e
  rw [List.getElem?_eq_getElem h] at eu
  cases eu
  exact ⟨_, e, ru⟩
end
end L2
namespace J
open PySem PySem.Spec PyProof.Rows
open L2 (Cx V aJ)
theorem gL {X : Cx} (hc : X.calm = true) : JF X (.builtin "sum") (fun xs H Q => ∃ (p : Addr) (ns : List Int), xs = [.ref p] ∧ aJ X.K H p (ns.map V.int) ∧ Q (.int ns.sum) H) := ⟨L2.gL hc⟩
end J
namespace L2
open PySem PySem.Spec PyProof.Rows
section
variable {X : Cx}
inductive Bj (vs : List V) (H : Hp) (Q : VK) : Prop
  | mk (j : Int) (e : vs = [.int j]) (lo : -(2 ^ 62) ≤ j) (hi : j ≤ sizeLine) (q : ∀ l, H l = none → Q (.ref l) (upd H l (.lst ((List.range j.toNat).map fun (i : Nat) => V.int (i : Int)))))
def Du (ta : TA) : TE := fun σ H Q => ta σ H fun vs H1 => Bj vs H1 Q
inductive Dh (K : PySem.W.Frag) (x y : V) (H : Hp) (Q : VK) : Prop
  | mk (a b : Addr) (xs ys : List V) (hx : x = .ref a) (hy : y = .ref b) (s : aJ K H a xs) (t : aJ K H b ys) (n : xs.length ≠ ys.length) (q : Q (.bl false) H)
inductive Em (K : PySem.W.Frag) (x y : V) (H : Hp) (Q : VK) : Prop
  | mk (a b : Addr) (xs ys : List V) (bs : List Bool) (hx : x = .ref a) (hy : y = .ref b) (s : aL K H a xs) (t : aL K H b ys) (l1 : xs.length = bs.length) (l2 : ys.length = bs.length)
      (e : ∀ (i : Nat) u v c, xs[i]? = some u → ys[i]? = some v → bs[i]? = some c → jN u v = some c) (q : Q (.bl (Cj bs)) H)
end
end L2
namespace J
open PySem PySem.Spec PyProof.Rows
open L2 (Cx V aJ aL)
end J
namespace L2
open PySem PySem.Spec PyProof.Rows
theorem lP {prog : Program} {w : World} {A : Around} {R : Result → Shared → Prop} {s : Shared} {elt target iter : Expr} {cts : List Expr} {scope : Scope} {pos : Pos} {it acc : Value} {env : Env} (I : Nat → Shared → Prop)
    (turn : ∀ n s, I n s → wpAny (model prog w) A (pyNext it) (fun r s₁ => match r with
      | none => R (.ok .next) s₁
      | some v => wpAny (model prog w) A (letOwnedTupleGo target it v) (fun _ s₁' => wpAny (model prog w) A (assign target env v) (fun _ s₂ => wpAny (model prog w) A (forIn cts true fun c r => if r = true then do let ok ← isTrue c env (eval c env); pure (ForInStep.yield ok) else pure (ForInStep.yield r)) (fun ok s₂' => if ok = true then wpAny (model prog w) A (eval elt env) (fun x s₃ =>
          wpAny (model prog w) A (call (.builtin "list.append") [acc, x]) (fun _ s₄ => ∃ m, m < n ∧ I m s₄) (notedBy (model prog w) A env fun e s' => R (.error e) s') s₃)
          (notedBy (model prog w) A env fun e s' => R (.error e) s') s₂' else ∃ m, m < n ∧ I m s₂') (notedBy (model prog w) A env fun e s' => R (.error e) s') s₂) (notedBy (model prog w) A env fun e s' => R (.error e) s') s₁') (notedBy (model prog w) A env fun e s' => R (.error e) s') s₁) (notedBy (model prog w) A env fun e s' => R (.error e) s') s)
    (n : Nat) (h : I n s) :
    codeAny (model prog w) A (.compLoop (.ListComp elt [⟨target, iter, cts, 0⟩] scope pos) 0 it acc env) R s := by
  refine codeAny_loop rfl I (fun n s hI => ?_) n h
  show wpAny _ _ ((compTurn (.ListComp elt [⟨target, iter, cts, 0⟩] scope pos) 0 it acc env).onRaise (fun x => do noteFrame x env; theTreesLotGoes x)) _ _ s
  refine wpAny_noted ?_
  rw [compTurn_list]
  refine wpAny_bind (wpAny_standAt (wpAny_bind (wpAny_mono (turn n s hI) (fun r s₁ h₁ => ?_) fun _ _ h' => h')))
  cases r with
  | none => exact wpAny_pure h₁
  | some v =>
    refine wpAny_bind (wpAny_mono h₁ (fun _ s₁' h₁' => ?_) fun _ _ h' => h')
    refine wpAny_bind (wpAny_mono h₁' (fun _ s₂ h₂ => wpAny_bind (wpAny_mono h₂ (fun ok s₃ h₃ => ?_) fun _ _ h' => h')) fun _ _ h' => h')
    cases ok with
    | false => exact wpAny_pure ⟨rfl, h₃⟩
    | true =>
      exact wpAny_bind (wpAny_bind (wpAny_mono h₃ (fun x s₄ h₄ => wpAny_bind (wpAny_mono h₄ (fun _ s₅ h₅ => wpAny_pure (wpAny_pure ⟨rfl, h₅⟩)) fun _ _ h' => h')) fun _ _ h' => h'))
def Ax (X : Cx) (cts : List Expr) (t : TT) : Prop :=
  ∀ (pins : List (Addr × Obj)) (s : Shared) (σ : St) (H : Hp) (Q : Bool → Hp → Prop), Inv X pins σ H s → t σ H Q → wpAny (model X.prog X.w) X.A (forIn cts true fun c r => if r = true then do let ok ← isTrue c X.env (eval c X.env); pure (ForInStep.yield ok) else pure (ForInStep.yield r)) (TP X pins σ Q) X.xe s
def tJ : TT := fun _ H Q => Q true H
theorem gq {X : Cx} : Ax X [] tJ := fun _ _ _ H _ I h => wpAny_tests_nil ⟨H, I, h⟩
theorem fj {X : Cx} {ct : Expr} {t : TT} (h : PT X ct t) : Ax X [ct] t := fun pins s σ H Q I q => wpAny_tests_one (h pins s σ H Q I q)
inductive BI (J : It) (n : Nat) (is : List Nat) (g : TG) (tc : TT) (te : TE) (σ : St) (W : Nat → Nat → List V → Hp → Prop) (D : Addr) (i m : Nat) (ys : List V) (H2 : Hp) : Prop
  | mk (go : J.go i H2) (nx : ∀ (os : St) v H3, os.length = n → J.yld i H2 v H3 → g v (os ++ dE is σ) H3 fun σ' H4 => (∃ os' : St, os'.length = n ∧ σ' = os' ++ dE is σ) ∧ tc σ' H4 fun b H5 => if b = true then te σ' H5 (fun y H6 =>
    H6 D = some (.lst ys) ∧ ys.length < sizeLine ∧ ∃ m', m' < m ∧ W (i + 1) m' (ys ++ [y]) (upd H6 D (.lst (ys ++ [y])))) else ∃ m', m' < m ∧ W (i + 1) m' ys H5)
def ej (J : It) (n : Nat) (is : List Nat) (g : TG) (tc : TT) (te : TE) (σ : St) (H1 : Hp) (Q : VK) : Prop := ∀ D, H1 D = none → ∃ W : Nat → Nat → List V → Hp → Prop, (∃ m, W 0 m [] (upd H1 D (.lst []))) ∧
  ∀ i m ys H2, W i m ys H2 → H2 D = some (.lst ys) ∧ ((J.stop i H2 ∧ Q (.ref D) H2) ∨ BI J n is g tc te σ W D i m ys H2)
def x5 (wi : TI) (n : Nat) (is : List Nat) (g : TG) (tc : TT) (te : TE) : TE := fun σ H Q => wi σ H fun J H1 => ej J n is g tc te σ H1 Q
structure oP (sc : Scope) (N : List Str) (xs : List Str) (scope : Scope) (is : List Nat) (ns : List Str) : Prop where
  kind : scope.kind = .function := by rfl
  nocell : ∀ y ∈ scope.names, y.2 ≠ .cell := by decide +kernel
  names : ∀ y ∈ scope.names, y.2 = .local → scope.names.lookup y.1 = some .local := by decide +kernel
  free : ∀ y ∈ scope.names, y.2 = .free → sc.names.lookup y.1 = some .cell := by decide +kernel
  cap : ns.map some = is.map fun i => N[i]? := by rfl
  capf : ∀ y ∈ ns, scope.names.lookup y = some .free ∧ sc.names.lookup y = some .cell := by decide +kernel
section
variable {X : Cx} {xs : List Str} {tg : Expr} {pos : Pos} {elt iter : Expr} {cts : List Expr} {scope : Scope} {wi : TI} {g : TG} {tc : TT} {te : TE} {is : List Nat} {ns : List Str}
def uJ (X : Cx) (pins : List (Addr × Obj)) (σ : St) (Qs : VK) (use : Option (Value → Sem Unit)) (Qv : Value → Shared → Prop) : Prop :=
  ∀ (D C : Addr) (H5 : Hp) (s6 : Shared) (m : Str → Option Value), Qs (.ref D) H5 → Inv X pins σ H5 s6 → jO X pins H5 C → s6.heap.Ns C m → compPost (model X.prog X.w) X.A X.xe use Qv (.ref D) C (.ok .next) s6
theorem jw {sc : Scope} {N : List Str} {use : Option (Value → Sem Unit)} {Qv : Value → Shared → Prop} {Gf : It → Hp → Prop} {Qs : VK} {cp : Pos} {pins : List (Addr × Obj)} {s : Shared} {σ : St} {H : Hp} (I : Inv X pins σ H s) (h : wi σ H Gf) (hG : ∀ J H1, Gf J H1 → ej J xs.length is g tc te σ H1 Qs)
    (fin : uJ X pins σ Qs use Qv) (hc : X.calm = true) (hi : PI X tg iter wi) (L : oP sc N xs scope is ns) (hg : ∀ cl fp s3 H3 C, PG (cz X (xs ++ ns) scope cl fp s3 H3 C) tg g) (hct : ∀ cl fp s3 H3 C, Ax (cz X (xs ++ ns) scope cl fp s3 H3 C) cts tc) (he : ∀ cl fp s3 H3 C, PE (cz X (xs ++ ns) scope cl fp s3 H3 C) elt te)
    (hsc : X.env.scope = sc) (hN : X.N = N) (hs : ∀ x, foldedSetIterable iter X.env x = pure x) :
    wpAny (model X.prog X.w) X.A (comprehension (.ListComp elt [⟨tg, iter, cts, 0⟩] scope pos) scope X.env cp (newList []) false (eval iter X.env) use) Qv X.xe s := by
  subst hsc hN
  obtain ⟨cl, hcl, cl1, cl2⟩ := qJ (env := X.env) (scope := scope) (fun y hy hf => I.ok.has y.1 (.inl (L.free y hy hf)))
  refine wpAny_comprehension_free rfl hs hcl L.kind L.names (bU (hi pins s σ H _ I h) fun v s1 h1 => bU h1 fun itv s2 h2 => ?_)
  obtain ⟨it, fp, tn, J, H2, e, I2, T, st2, f2, h2⟩ := h2
  subst e
  refine wpAny_newObj_type (wpAny_newFunctionEnv L.nocell (by intro y hy; simp at hy) (fun h₁ hns₁ hsb₁ => ?_) L.kind)
  have hD : H2 s2.heap.objs.size = none := I2.hok.fresh (Nat.le_refl _)
  have I3 : Inv X pins σ (upd H2 s2.heap.objs.size (.lst [])) { s2 with heap := s2.heap.push { cls := .type "list", dict := none, data := .seq ([] : List Value).toArray } } :=
    I2.laid (t' := s2.toks) (fun b u e => Heap.get?_push_of_some _ e) (Nat.le_refl _) ⟨Nat.zero_le _, [], 0, .nil, Heap.get?_push_size _ rfl⟩
  have kp23 : ∀ b u, s2.heap.get? b = some u → (s2.heap.push { cls := .type "list", dict := none, data := .seq ([] : List Value).toArray }).get? b = some u := fun b u e => Heap.get?_push_of_some _ e
  obtain ⟨W, ⟨m0, w0⟩, turn⟩ := hG J H2 h2 s2.heap.objs.size hD
  dsimp only at hns₁ hsb₁ ⊢
  generalize hD0 : s2.heap.objs.size = D at *
  generalize hp3 : s2.heap.push { cls := .type "list", dict := none, data := .seq ([] : List Value).toArray } = p3 at *
  generalize hH3 : upd H2 D (.lst []) = H3 at *
  have fpD : ∀ b ∈ fp, b ≠ D := fun b hb => by
    obtain ⟨o, e, _⟩ := T.obj 0 s2.heap st2 b hb
    rw [← hD0]
    exact Nat.ne_of_lt (Heap.lt_size e)
  have fp3 : ∀ b ∈ fp, jO X pins H3 b := fun b hb => ⟨by rw [← hH3, ao (fpD b hb)]; exact (f2 b hb).1, (f2 b hb).2⟩
  have st3 : tn 0 p3 := T.keep 0 s2.heap p3 st2 fun b _ o e => kp23 b o e
  have fplt : ∀ b ∈ fp, b < p3.objs.size := fun b hb => by
    obtain ⟨o, e, _⟩ := T.obj 0 p3 st3 b hb
    exact Heap.lt_size e
  have old : ∀ b u, p3.get? b = some u → h₁.get? b = some u := fun b u e => hsb₁.extBut b u (Nat.ne_of_lt (Heap.lt_size e)) (Heap.get?_push_of_some _ e)
  generalize hC : p3.objs.size = C at *
  have hfree : ∀ b ∈ fp, H3 b = none := fun b hb => (fp3 b hb).1
  have okX : (cz X (xs ++ ns) scope cl fp { s2 with heap := p3 } H3 C).Ok := by
    refine ⟨I.ok.mod, L.kind, I.ok.glob, I.ok.blt, Nat.le_of_eq hC, fun y z c e1 e2 => I.ok.inj y z c (cl1 y c e1) (cl1 z c e2), fun y hy => ?_, fun _ _ z => (by cases z), I.ok.hd, I.ok.frames, .inl rfl, fun b hb => ⟨Nat.ne_of_lt (fplt b hb), fun y c e => (fp3 b hb).2.2.2.2.1 y c (cl1 y c e)⟩, I3.bs, Nat.le_trans I3.ok.bsz I3.sz, fun b o e hb => ?_, fun b hb z => ?_, I3.stack, I3.rQ⟩
    · have hm : (y, NameKind.free) ∈ scope.names := by
        rcases hy with hy | hy
        · exact iK hy (.inl rfl) L.nocell
        · exact iK hy (.inr rfl) L.nocell
      obtain ⟨c, hc'⟩ := I.ok.has y (.inl (L.free _ hm rfl))
      exact ⟨c, (cl2 _ hm rfl).trans hc'⟩
    · rcases (fp3 b hb).2.2.2.1 with z | z
      · exact I.ok.noex b o e z
      · exact absurd (Nat.lt_of_lt_of_le (Heap.lt_size e) (Nat.le_trans I.ok.bsz z)) (Nat.lt_irrefl _)
    · exact (List.mem_cons.mp (I3.qt b z)).elim (fp3 b hb).2.1 (fp3 b hb).2.2.1
  have hlen : (dE is σ).length = ns.length := by
    have := congrArg List.length L.cap
    rw [List.length_map, List.length_map] at this
    rw [dE, List.length_map]
    exact this.symm
  have rl : (List.replicate xs.length (none : Option V)).length = xs.length := List.length_replicate ..
  have I4 : Inv (cz X (xs ++ ns) scope cl fp { s2 with heap := p3 } H3 C) [] (List.replicate xs.length none ++ dE is σ) H3 { s2 with heap := h₁, toks := s2.toks + 0 } := by
    refine ⟨okX, rfl, I3.bare, Un.kept old, ⟨_, hns₁, fun i y v e1 e2 e3 => ?_⟩, fun y c e => ?_, ?_, fun y c e => I3.freeC y c (cl1 y c e), fun p hp => absurd (show p ∈ ([] : List (Addr × Obj)) from hp) (by simp), I3.hok.kept old, by show (List.replicate xs.length none ++ dE is σ).length = (xs ++ ns).length; rw [List.length_append, List.length_append, hlen, rl]⟩
    · have e1 : (xs ++ ns)[i]? = some y := e1
      by_cases hi : i < xs.length
      · rw [List.getElem?_append_left (by rw [rl]; exact hi), List.getElem?_replicate, if_pos hi] at e2
        cases e2
      · rw [List.getElem?_append_right (by rw [rl]; omega), rl] at e2
        rw [List.getElem?_append_right (by omega)] at e1
        generalize i - xs.length = j at e1 e2
        have e1' : ns[j]? = some y := e1
        have e2' : (dE is σ)[j]? = some (some v) := e2
        have hy := L.capf y (List.mem_of_getElem? e1')
        have hcap : (ns.map some)[j]? = (is.map fun i => X.N[i]?)[j]? := by rw [L.cap]
        rw [List.getElem?_map, List.getElem?_map, e1'] at hcap
        rw [dE, List.getElem?_map] at e2'
        cases hk : is[j]? with
        | none => rw [hk] at e2'; cases e2'
        | some k =>
          rw [hk] at hcap e2'
          have hN : X.N[k]? = some y := (Option.some.inj hcap).symm
          have hσ : σ[k]? = some (some v) := by
            have q : (σ[k]?).join = some v := Option.some.inj e2'
            cases z : σ[k]? with
            | none => rw [z] at q; cases q
            | some o => rw [z] at q; exact congrArg some q
          obtain ⟨m, hn, hl⟩ := I3.loc
          obtain ⟨u, r, l⟩ := hl k y v hN hσ (.inr (.inl hy.2))
          refine ⟨u, r, ?_⟩
          rcases l with ⟨hk', _⟩ | ⟨hk', c, ec, o, ho, hd⟩
          · have hk2 : X.env.scope.names.lookup y = some .local := hk'
            rw [hy.2] at hk2; cases hk2
          · exact .inr ⟨.inl (iN I.ok.kind hy.1 hy.2), c, (cl2 _ (PySem.mem_of_lookup hy.1) rfl).trans ec, o, old c o ho, hd⟩
    · obtain ⟨v, o, ho, hd⟩ := I3.cell y c (cl1 y c e)
      exact ⟨v, o, old c o ho, hd⟩
    · show H3 C = none
      rw [← hC]
      exact I3.hok.fresh (Nat.le_refl _)
  have st4 : tn 0 h₁ := T.keep 0 p3 h₁ st3 fun b _ o e => old b o e
  have stat : ∀ {H' : Hp}, (∀ b ∈ fp, H' b = none) → ∀ b ∈ fp, jO (cz X (xs ++ ns) scope cl fp { s2 with heap := p3 } H3 C) [] H' b := fun {H'} hn b hb =>
    ⟨hn b hb, Nat.ne_of_lt (fplt b hb), okX.exfs b hb, .inl hb, fun y c e => (fp3 b hb).2.2.2.2.1 y c (cl1 y c e), fun p hp => absurd (show p ∈ ([] : List (Addr × Obj)) from hp) (by simp)⟩
  have loop : codeAny (model X.prog X.w) X.A (.compLoop (.ListComp elt [⟨tg, iter, cts, 0⟩] scope pos) 0 (.ref it) (.ref D) (compEnvC scope cl C X.env))
      (compPost (model X.prog X.w) X.A X.xe use Qv (.ref D) C) { s2 with heap := h₁, toks := s2.toks + 0 } := by
    refine lP (fun n s' => ∃ i os ys H', os.length = xs.length ∧ Inv (cz X (xs ++ ns) scope cl fp { s2 with heap := p3 } H3 C) [] (os ++ dE is σ) H' s' ∧ tn i s'.heap ∧ (∀ b ∈ fp, H' b = none) ∧ W i n ys H') ?_ m0 ⟨0, List.replicate xs.length none, [], H3, rl, I4, st4, hfree, w0⟩
    rintro n s5 ⟨i, os, ys, H5, hos, I5, st5, fr5, w5⟩
    obtain ⟨hD5, ⟨stop, q⟩ | ⟨go, step⟩⟩ := turn i n ys H5 w5
    · refine bU (T.done (cz X (xs ++ ns) scope cl fp { s2 with heap := p3 } H3 C) rfl rfl rfl hc i [] s5 _ H5 _ I5 (stat fr5) st5 stop) fun r s6 ⟨hr, I6⟩ => ?_
      subst hr
      obtain ⟨m, hn, _⟩ := id I6.loc
      have neC : ∀ b o, p3.get? b = some o → b ≠ C := fun b o e => by rw [← hC]; exact Nat.ne_of_lt (Heap.lt_size e)
      have fC : H5 C = none := I6.free
      have I6X : Inv X pins σ H5 s6 := by
        refine I3.vD (s' := s6) (ch := fp) I6.os ⟨fun b o e nn hb hx => ?_, fun b o e nn hb hx => ?_, I6.base.free, fun b o e hx => ?_, I6.base.tups, I6.base.frzs, I6.base.tbls⟩ (fun b ob e => I6.hok b ob e) I6.bare fun b hb => ⟨(fp3 b hb).2.2.2.1, (fp3 b hb).2.1, (fp3 b hb).2.2.2.2.1, (fp3 b hb).2.2.2.2.2⟩
        · exact I6.base.keep b o e nn hb hx
        · exact I6.base.slot b o e nn hb hx
        · exact I6.base.there b o e hx
      exact fin D C H5 s6 m q I6X (I3.sQ (Nat.le_of_eq hC) fC) hn
    · refine bU (T.item (cz X (xs ++ ns) scope cl fp { s2 with heap := p3 } H3 C) rfl rfl rfl hc i [] s5 _ H5 _ I5 (stat fr5) st5 go) fun r s6 ⟨u, hr, h6⟩ => ?_
      subst hr
      refine bU h6 fun _ s7 hpat => ?_
      obtain ⟨v, H7, I7, r7, y7, st7, fr7⟩ := hpat
      have I7' := I7.pinned (stat fr7) (T.obj _ _ st7)
      refine wpAny_mono (hg cl fp { s2 with heap := p3 } H3 C _ s7 (os ++ dE is σ) H7 v u _ I7' r7 (step os v H7 hos y7)) (fun _ s8 ⟨σ8, H8, I8, ⟨os', hos', e8⟩, q8⟩ => ?_) fun _ _ z => False.elim z
      subst e8
      refine wpAny_mono (hct cl fp { s2 with heap := p3 } H3 C _ s8 _ H8 _ I8 q8) (fun bb sb ⟨Hb, Ib, qb⟩ => ?_) fun _ _ z => False.elim z
      cases bb with
      | false =>
        rw [if_neg Bool.false_ne_true] at qb
        rw [if_neg Bool.false_ne_true]
        obtain ⟨m', hm', w9⟩ := qb
        refine ⟨m', hm', i + 1, os', ys, _, hos', Ib.fI, T.keep _ _ _ st7 fun b hb o e => (Ib.pin (b, o) (List.mem_append_right _ (List.mem_append_right _ (dA hb e)))).1, fun b hb => ?_, w9⟩
        obtain ⟨o', e, d⟩ := T.obj _ _ st7 b hb
        exact (Ib.pin (b, o') (List.mem_append_right _ (List.mem_append_right _ (dA hb e)))).2.1
      | true =>
        rw [if_pos rfl] at qb
        rw [if_pos rfl]
        refine wpAny_mono (he cl fp { s2 with heap := p3 } H3 C _ sb _ Hb _ Ib qb) (fun uy s9 ⟨y, H9, I9, r9, hD9, hl9, m', hm', w9⟩ => ?_) fun _ _ z => False.elim z
        refine wpAny_mono (bR (X := cz X (xs ++ ns) scope cl fp { s2 with heap := p3 } H3 C) _ s9 _ H9 (.ref D) [y] (.ref D) [uy] (fun _ H' => H' = upd H9 D (.lst (ys ++ [y]))) I9 rfl (.cons r9 .nil) ⟨D, ys, y, rfl, rfl, hD9, hl9, rfl⟩) (fun _ s10 ⟨_, H10, I10, _, e10⟩ => ?_) fun _ _ z => False.elim z
        subst e10
        refine ⟨m', hm', i + 1, os', ys ++ [y], _, hos', I10.fI, T.keep _ _ _ st7 fun b hb o e => (I10.pin (b, o) (List.mem_append_right _ (List.mem_append_right _ (dA hb e)))).1, fun b hb => ?_, w9⟩
        obtain ⟨o', e, d⟩ := T.obj _ _ st7 b hb
        exact (I10.pin (b, o') (List.mem_append_right _ (List.mem_append_right _ (dA hb e)))).2.1
  exact codeAny_compStart_list loop (T.self X.A 0 _ _ _ st4 loop)
theorem mF {pins : List (Addr × Obj)} {σ : St} {Q : VK} : uJ X pins σ Q none (EP X pins σ Q) := by
  intro D C H5 s6 m q I6 fC hn
  refine ⟨m, hn, fun h' sb => ⟨.ref D, H5, I6.ja (t' := s6.toks) (fp := [C]) (fun b hb => ?_) (fun b u nb e => (sb.2 b (fun z => nb (List.mem_singleton.mpr z))).trans e), rfl, q⟩⟩
  rw [List.mem_singleton] at hb
  subst hb
  exact fC
theorem ud {pins : List (Addr × Obj)} {σ : St} {Dn : Ends} {y : Str} {py : Pos} {iy : Nat} (hnd : X.N.Nodup) (hiy : X.N[iy]? = some y) (hly : Loc X.env.scope y) (hfy : X.fn y = true ∨ X.env.scope.names.lookup y = some .local) :
    uJ X pins σ (fun v H' => Dn.nx (σ.set iy (some v)) H') (some (assign (.Name y py) X.env)) (fun _ s' => SP X pins Dn .next s') := by
  intro D C H5 s6 m q I6X fC hn
  have fpC : ∀ b ∈ [C], jO X pins H5 b := fun b hb => by
    rw [List.mem_singleton] at hb
    subst hb
    exact fC
  obtain ⟨oC, esC, epC, hoC, rC⟩ := id hn
  have obC : ∀ b ∈ [C], ∃ o, s6.heap.get? b = some o ∧ ∀ v, o.data ≠ .cell v := fun b hb => by
    rw [List.mem_singleton] at hb
    subst hb
    exact ⟨oC, hoC, fun v z => by rw [z] at rC; exact absurd rC.1 (fun w => nomatch w)⟩
  have IP := I6X.pinned fpC obC
  have hgy : PG X (.Name y py) (dZ iy) := kq hnd hiy hly hfy
  show wpAny _ _ (assign (.Name y py) X.env (.ref D)) _ _ s6
  refine bU (hgy _ s6 σ H5 (.ref D) (.ref D) (fun σ' H' => σ' = σ.set iy (some (.ref D)) ∧ H' = H5) IP rfl ⟨rfl, rfl⟩) fun _ s7 hpat => ?_
  obtain ⟨σ7, H7, I7, e1, e2⟩ := hpat
  subst e1
  subst e2
  have hC7 : s7.heap.get? C = some oC := (I7.pin (C, oC) (List.mem_append_right _ (List.mem_append_right _ (dA (List.mem_singleton.mpr rfl) hoC)))).1
  exact ⟨m, ⟨oC, esC, epC, hC7, rC⟩, fun h' sb => ⟨_, H7, I7.fI.ja (t' := s7.toks) (fp := [C]) fpC (fun b u nb e => (sb.2 b (fun z => nb (List.mem_singleton.mpr z))).trans e), q⟩⟩
theorem za {sc : Scope} {N : List Str} (hc : X.calm = true) (hi : PI X tg iter wi) (L : oP sc N xs scope is ns) (hg : ∀ cl fp s3 H3 C, PG (cz X (xs ++ ns) scope cl fp s3 H3 C) tg g) (hct : ∀ cl fp s3 H3 C, Ax (cz X (xs ++ ns) scope cl fp s3 H3 C) cts tc) (he : ∀ cl fp s3 H3 C, PE (cz X (xs ++ ns) scope cl fp s3 H3 C) elt te)
    (hsc : X.env.scope = sc) (hN : X.N = N) (hs : ∀ x, foldedSetIterable iter X.env x = pure x) : PE X (.ListComp elt [⟨tg, iter, cts, 0⟩] scope pos) (x5 wi xs.length is g tc te) := by
  intro pins s σ H Q I h
  rw [eval_ListComp]
  exact jw I h (fun _ _ z => z) mF hc hi L hg hct he hsc hN hs
theorem sP {sc : Scope} {N : List Str} {y : Str} {py spos : Pos} {iy : Nat} (hnd : X.N.Nodup) (hiy : X.N[iy]? = some y) (hly : Loc X.env.scope y) (hfy : X.fn y = true ∨ X.env.scope.names.lookup y = some .local) (hsw : swapsWith (.ListComp elt [⟨tg, iter, cts, 0⟩] scope pos) (some (.Name y py)) spos.line X.env = pure true)
    (hc : X.calm = true) (hi : PI X tg iter wi) (L : oP sc N xs scope is ns) (hg : ∀ cl fp s3 H3 C, PG (cz X (xs ++ ns) scope cl fp s3 H3 C) tg g) (hct : ∀ cl fp s3 H3 C, Ax (cz X (xs ++ ns) scope cl fp s3 H3 C) cts tc) (he : ∀ cl fp s3 H3 C, PE (cz X (xs ++ ns) scope cl fp s3 H3 C) elt te)
    (hsc : X.env.scope = sc) (hN : X.N = N) (hs : ∀ x, foldedSetIterable iter X.env x = pure x) : PS X (.Assign [.Name y py] (.ListComp elt [⟨tg, iter, cts, 0⟩] scope pos) spos) (oy (x5 wi xs.length is g tc te) (dZ iy)) := by
  intro pins s σ H Dn I h
  rw [exec_Assign_Name_used _ _ _ _ hsw]
  refine wpAny_bind (wpAny_standAt (wpAny_bind ?_))
  show wpAny _ X.A (do let _ ← comprehension (.ListComp elt [⟨tg, iter, cts, 0⟩] scope pos) scope X.env _ (newList []) false (eval iter X.env) (some (assign (.Name y py) X.env))) _ _ s
  exact wpAny_bind (bU (Q := fun _ s' => SP X pins Dn .next s') (jw I h (fun _ _ z => z) (ud hnd hiy hly hfy) hc hi L hg hct he hsc hN hs) fun _ s' hq => wpAny_pure (wpAny_pure hq))
theorem AO {J : It} {te : TE} {is : List Nat} {σ : St} {H1 : Hp} {Q : VK} (h : fV J is te σ H1 Q) : ej J 1 is (dZ 0) tJ te σ H1 Q := by
  intro D hD
  obtain ⟨W, w0, k⟩ := h D hD
  refine ⟨W, w0, fun i m ys H2 w => ?_⟩
  obtain ⟨e, z | ⟨go, nx⟩⟩ := k i m ys H2 w
  · exact ⟨e, .inl z⟩
  · refine ⟨e, .inr ⟨go, fun os v H3 hos y => ?_⟩⟩
    match os, hos with
    | [o], _ => exact ⟨⟨[some v], rfl, rfl⟩, cP (B := ∃ m', m' < m ∧ W (i + 1) m' ys H3) (nx v H3 y)⟩
theorem gn {sc : Scope} {N : List Str} {x : Str} {px : Pos} (hc : X.calm = true) (hi : PI X (.Name x px) iter wi) (L : Bd sc N x scope is ns) (he : ∀ cl fp s3 H3 C, PE (cz X (x :: ns) scope cl fp s3 H3 C) elt te)
    (hsc : X.env.scope = sc := by rfl) (hN : X.N = N := by rfl) (hs : ∀ x, foldedSetIterable iter X.env x = pure x := by intro _; rfl) : PE X (.ListComp elt [⟨.Name x px, iter, [], 0⟩] scope pos) (Dy wi is te) := by
  intro pins s σ H Q I h
  rw [eval_ListComp]
  exact jw (xs := [x]) (g := dZ 0) (tc := tJ) I h (fun _ _ z => AO z) mF hc hi ⟨L.kind, L.nocell, L.names, L.free, L.cap, L.capf⟩ (fun _ _ _ _ _ => kq (i := 0) L.nd rfl (.inl (lookup_relabel_local L.hx)) (.inr (lookup_relabel_local L.hx))) (fun _ _ _ _ _ => gq) he hsc hN hs
end
section
variable {K : PySem.W.Frag} {n : Nat} {is : List Nat} {g : TG} {tc : TT} {te : TE} {σ : St} {H : Hp} {Q : VK}
theorem fg (p : Nat → Bool) (f : Nat → V) (i : Nat) : ((List.range (i + 1)).filter p).map f = ((List.range i).filter p).map f ++ if p i = true then [f i] else [] := by
  rw [List.range_succ, List.filter_append, List.map_append]
  cases h : p i <;> simp [List.filter, h]
theorem p5 {J : It} {N : Nat} (p : Nat → Bool) (f : Nat → V) (hz : N ≤ sizeLine) (hgo : ∀ i H2, au H H2 → i < N → J.go i H2) (hstop : ∀ H2, au H H2 → J.stop N H2)
    (he : ∀ (i : Nat) (os : St) v H2 H3 (K1 : VK) (K2 : Hp → Prop), i < N → os.length = n → au H H2 → J.yld i H2 v H3 → (p i = true → ∀ H6, au H2 H6 → K1 (f i) H6) → (p i = false → ∀ H5, au H2 H5 → K2 H5) →
      g v (os ++ dE is σ) H3 fun σ' H4 => (∃ os' : St, os'.length = n ∧ σ' = os' ++ dE is σ) ∧ tc σ' H4 fun b H5 => if b = true then te σ' H5 K1 else K2 H5)
    (q : ∀ D H', H D = none → au H H' → H' D = some (.lst (((List.range N).filter p).map f)) → Q (.ref D) H') : ej J n is g tc te σ H Q := by
  intro D hDn
  refine ⟨fun i m ys H2 => m = N - i ∧ i ≤ N ∧ au H H2 ∧ H2 D = some (.lst ys) ∧ ys = ((List.range i).filter p).map f, ⟨_, rfl, Nat.zero_le _, au.upd hDn, af, rfl⟩, ?_⟩
  rintro i m ys H2 ⟨rfl, hi, sm, hd, rfl⟩
  refine ⟨hd, ?_⟩
  by_cases hlt : i < N
  · refine .inr ⟨hgo i H2 sm hlt, fun os v H3 hos y => ?_⟩
    have hl : (((List.range i).filter p).map f).length ≤ i := by
      rw [List.length_map]
      have := List.length_filter_le p (List.range i)
      rw [List.length_range] at this
      exact this
    refine he i os v H2 H3 _ _ hlt hos sm y (fun hp H6 s6 => ⟨s6 _ _ hd, by omega, N - (i + 1), by omega, rfl, hlt, fun b o e => ?_, af, ?_⟩) (fun hp H5 s5 => ⟨N - (i + 1), by omega, rfl, hlt, sm.trans s5, s5 _ _ hd, ?_⟩)
    · rw [ao (aj e hDn)]
      exact s6 _ _ (sm _ _ e)
    · rw [fg, if_pos hp]
    · rw [fg, if_neg (by rw [hp]; exact Bool.false_ne_true), List.append_nil]
  · have e : i = N := by omega
    subst e
    exact .inl ⟨hstop H2 sm, q D H2 hDn sm hd⟩
theorem iD {a : Addr} {xs : List V} (p : Nat → Bool) (f : Nat → V) (hq : aJ K H a xs) (hz : xs.length ≤ sizeLine)
    (he : ∀ (i : Nat) (os : St) v H2 (K1 : VK) (K2 : Hp → Prop), xs[i]? = some v → os.length = n → au H H2 → (p i = true → ∀ H6, au H2 H6 → K1 (f i) H6) → (p i = false → ∀ H5, au H2 H5 → K2 H5) →
      g v (os ++ dE is σ) H2 fun σ' H4 => (∃ os' : St, os'.length = n ∧ σ' = os' ++ dE is σ) ∧ tc σ' H4 fun b H5 => if b = true then te σ' H5 K1 else K2 H5)
    (q : ∀ D H', H D = none → au H H' → H' D = some (.lst (((List.range xs.length).filter p).map f)) → Q (.ref D) H') : ej (xF K a) n is g tc te σ H Q :=
  p5 p f hz (fun i H2 sm hi => ⟨xs, xs[i], sm.seq hq, by simp [hi]⟩) (fun H2 sm => ⟨xs, sm.seq hq, Nat.le_refl _⟩) (fun i os v H2 H3 K1 K2 hi hos sm y k1 k2 => by
    obtain ⟨rfl, y⟩ := y
    exact he i os v _ K1 K2 (y xs (sm.seq hq)) hos sm k1 k2) q
theorem tD {lo : Int} {N : Nat} (p : Nat → Bool) (f : Nat → V) (hz : N ≤ sizeLine)
    (he : ∀ (i : Nat) (os : St) H2 (K1 : VK) (K2 : Hp → Prop), i < N → os.length = n → au H H2 → (p i = true → ∀ H6, au H2 H6 → K1 (f i) H6) → (p i = false → ∀ H5, au H2 H5 → K2 H5) →
      g (.int (lo + i)) (os ++ dE is σ) H2 fun σ' H4 => (∃ os' : St, os'.length = n ∧ σ' = os' ++ dE is σ) ∧ tc σ' H4 fun b H5 => if b = true then te σ' H5 K1 else K2 H5)
    (q : ∀ D H', H D = none → au H H' → H' D = some (.lst (((List.range N).filter p).map f)) → Q (.ref D) H') : ej (wZ lo N) n is g tc te σ H Q :=
  p5 p f hz (fun i H2 _ hi => hi) (fun H2 _ => Nat.le_refl N) (fun i os v H2 H3 K1 K2 hi hos sm y k1 k2 => by
    obtain ⟨rfl, rfl⟩ := y
    exact he i os _ K1 K2 hi hos sm k1 k2) q
theorem v5 {a : Addr} {xs : List V} (p : Nat → Bool) (f : Nat → V) (hq : aJ K H a xs) (hz : xs.length ≤ sizeLine)
    (he : ∀ (i : Nat) (os : St) v (t : Addr) H2 (K1 : VK) (K2 : Hp → Prop), xs[i]? = some v → os.length = n → au H H2 → H2 t = none → (p i = true → ∀ H6, au H2 H6 → K1 (f i) H6) → (p i = false → ∀ H5, au H2 H5 → K2 H5) →
      g (.ref t) (os ++ dE is σ) (upd H2 t (.tup [.int i, v])) fun σ' H4 => (∃ os' : St, os'.length = n ∧ σ' = os' ++ dE is σ) ∧ tc σ' H4 fun b H5 => if b = true then te σ' H5 K1 else K2 H5)
    (q : ∀ D H', H D = none → au H H' → H' D = some (.lst (((List.range xs.length).filter p).map f)) → Q (.ref D) H') : ej (Ay K a) n is g tc te σ H Q :=
  p5 p f hz (fun i H2 sm hi => ⟨xs, xs[i], sm.seq hq, by simp [hi]⟩) (fun H2 sm => ⟨xs, sm.seq hq, rfl⟩) (fun i os v H2 H3 K1 K2 hi hos sm y k1 k2 => by
    obtain ⟨t, x, ht, rfl, rfl, y⟩ := y
    exact he i os x t _ K1 K2 (y xs (sm.seq hq)) hos sm ht k1 k2) q
end
section
variable {X : Cx}
theorem pG : ∀ bs : List Bool, ((List.range bs.length).any fun i => bs.getD i false) = bs.any id
  | [] => rfl
  | b :: r => by
    rw [List.length_cons, List.range_succ_eq_map, List.any_cons, List.any_map, List.any_cons, ← pG r]
    rfl
theorem jD (hc : X.calm = true) : dY X (.builtin "any") (fun xs H Q => ∃ (p : Addr) (bs : List Bool), xs = [.ref p] ∧ aJ X.K H p (bs.map V.bl) ∧ Q (.bl (bs.any id)) H) := by
  intro pins s σ H xs us Q I r h
  obtain ⟨p, bs, rfl, hq, q⟩ := h
  obtain ⟨u, rfl, rx⟩ := vals1 r
  cases rx
  obtain ⟨its, rv, pl, hz⟩ := I.list hq
  have hl := rv.length
  rw [List.length_map] at hl
  have hlt : p < s.heap.objs.size := by obtain ⟨o, n, e, _⟩ := pl; exact Heap.lt_size e
  refine call_any_walk (wpAny_pyIter_list pl.isList ?_)
  refine ⟨s.heap.objs.size, [s.heap.objs.size, p], [s.heap.objs.size], its.toArray.size, _, _, fun i => bs.getD i false, rfl, Walks.list (show X.A.in1.handled = none from I.ok.hd hc) s.heap.objs.size p (Nat.ne_of_lt hlt) its.toArray,
    ⟨⟨_, Heap.get?_push_size _ rfl, rfl, rfl⟩, ?_⟩, fun i v s' Q' E' hv hQ => ?_, fun h' tk kk => ?_⟩
  · obtain ⟨o, e, r⟩ := pl.isList
    exact ⟨o, Heap.get?_push_of_some _ e, r⟩
  · have hi : i < bs.length := by
      have : i < its.length := by
        have := (Array.getElem?_eq_some_iff.mp hv).1
        simpa using this
      omega
    have hb : (bs.map V.bl)[i]? = some (V.bl bs[i]) := by simp [hi]
    obtain ⟨u, hu, ru⟩ := rv.get hb
    have hv' : its[i]? = some v := by simpa using hv
    rw [hu] at hv'
    cases hv'
    obtain rfl : v = Value.bool bs[i] := ru
    refine wpAny_truthy_bool ?_
    have e : bs.getD i false = bs[i] := by simp [List.getD, hi]
    rw [← e]
    exact hQ
  · refine ⟨.bl (bs.any id), H, ?_, ?_, q⟩
    · have I1 : Inv X pins σ H { s with heap := s.heap.push { cls := .type "list_iterator", data := .fields #[.ref p, .int 0 0] } } := I.kept (t' := s.toks) fun b o e => Heap.get?_push_of_some _ e
      have I2 : Inv X pins σ H { s with heap := h', toks := tk } := I.kept (t' := tk) fun b o e => kk b o (by
        intro z
        have z' : b = s.heap.objs.size := by simpa using z
        exact absurd (Heap.lt_size e) (by rw [z']; exact Nat.lt_irrefl _)) (Heap.get?_push_of_some _ e)
      exact I2
    · show Value.bool _ = Value.bool _
      congr 1
      rw [List.size_toArray, ← hl]
      exact pG bs
end
end L2
namespace J
open PySem PySem.Spec PyProof.Rows
open L2 (Cx V Hp St VK TE TT TA TS TG mQ TI TO aJ)
structure Cd (X : Cx) (cts : List Expr) (t : TT) : Prop where
  out : L2.Ax X cts t
section
variable {X : Cx} {x y : Str} {xs ns : List Str} {scope : Scope} {cl : List (Str × Addr)} {fp : List Addr} {s3 : Shared} {H3 : Hp} {C : Addr} {p pos spos py : Pos} {ct tg it elt : Expr} {cts : List Expr} {tc : TT} {te : TE} {wi : TI} {g : TG} {is : List Nat} {sc : Scope} {N : List Str} {iy : Nat}
theorem gn {x : Str} {px : Pos} (hc : X.calm = true) (hi : JI X (.Name x px) it wi) (L : L2.Bd sc N x scope is ns) (he : ∀ cl fp s3 H3 C, JE (L2.cz X (x :: ns) scope cl fp s3 H3 C) elt te) (hsc : X.env.scope = sc) (hN : X.N = N) (hs : ∀ x, foldedSetIterable it X.env x = pure x := by intro _; rfl) :
    JE X (.ListComp elt [⟨.Name x px, it, [], 0⟩] scope pos) (L2.Dy wi is te) := ⟨L2.gn hc hi.out L (fun cl fp s3 H3 C => (he cl fp s3 H3 C).out) hsc hN hs⟩
theorem gq : Cd X [] L2.tJ := ⟨L2.gq⟩
theorem fj (h : JT X ct tc) : Cd X [ct] tc := ⟨L2.fj h.out⟩
theorem jG {i : Nat} (h : scope.names.lookup y = some .local) (hi : xs[i]? = some y) (db : (y == ("__debug__" : Str)) = false) (cd : (y == ("__classdict__" : Str)) = false) : JE (L2.cz X xs scope cl fp s3 H3 C) (.Name y p) (L2.iW i) :=
  ⟨L2.ji (i := i) hi (.inl (PySem.lookup_relabel_local h)) db cd⟩
theorem rM {i : Nat} (h : scope.names.lookup y = some .free) (hi : xs[i]? = some y) (db : (y == ("__debug__" : Str)) = false) (cd : (y == ("__classdict__" : Str)) = false) : JE (L2.cz X xs scope cl fp s3 H3 C) (.Name y p) (L2.iW i) :=
  ⟨L2.ji (i := i) hi (.inr (L2.gF h)) db cd⟩
theorem vb {i : Nat} (nd : xs.Nodup) (h : scope.names.lookup y = some .local) (hi : xs[i]? = some y) : JG (L2.cz X xs scope cl fp s3 H3 C) (.Name y p) (L2.dZ i) :=
  ⟨L2.kq (i := i) nd hi (.inl (PySem.lookup_relabel_local h)) (.inr (PySem.lookup_relabel_local h))⟩
theorem Bp (hc : X.calm = true) (hi : JI X tg it wi) (L : L2.oP sc N xs scope is ns) (hg : ∀ cl fp s3 H3 C, JG (L2.cz X (xs ++ ns) scope cl fp s3 H3 C) tg g) (hct : ∀ cl fp s3 H3 C, Cd (L2.cz X (xs ++ ns) scope cl fp s3 H3 C) cts tc) (he : ∀ cl fp s3 H3 C, JE (L2.cz X (xs ++ ns) scope cl fp s3 H3 C) elt te)
    (hsc : X.env.scope = sc) (hN : X.N = N) (hs : ∀ x, foldedSetIterable it X.env x = pure x := by intro _; rfl) : JE X (.ListComp elt [⟨tg, it, cts, 0⟩] scope pos) (L2.x5 wi xs.length is g tc te) :=
  ⟨L2.za hc hi.out L (fun cl fp s3 H3 C => (hg cl fp s3 H3 C).out) (fun cl fp s3 H3 C => (hct cl fp s3 H3 C).out) (fun cl fp s3 H3 C => (he cl fp s3 H3 C).out) hsc hN hs⟩
theorem kA (S : L2.Slot X iy y) (hnd : X.N.Nodup) (hc : X.calm = true) (hi : JI X tg it wi) (L : L2.oP sc N xs scope is ns) (hg : ∀ cl fp s3 H3 C, JG (L2.cz X (xs ++ ns) scope cl fp s3 H3 C) tg g) (hct : ∀ cl fp s3 H3 C, Cd (L2.cz X (xs ++ ns) scope cl fp s3 H3 C) cts tc) (he : ∀ cl fp s3 H3 C, JE (L2.cz X (xs ++ ns) scope cl fp s3 H3 C) elt te)
    (hsc : X.env.scope = sc) (hN : X.N = N)
    (hw : ((if sc.kind.isAnnotationScope then ScopeKind.function else sc.kind) == .function && sc.names.lookup y == some .local && py.line == pos.line && !(scope.names.any fun (n, k) => n == y && (k == .local || k == .cell))) = true)
    (hs : ∀ x, foldedSetIterable it X.env x = pure x := by intro _; rfl) :
    JS X (.Assign [.Name y py] (.ListComp elt [⟨tg, it, cts, 0⟩] scope pos) spos) (L2.oy (L2.x5 wi xs.length is g tc te) (L2.dZ iy)) :=
  ⟨L2.sP hnd S.hN S.lc S.fn (L2.sH hsc hw) hc hi.out L (fun cl fp s3 H3 C => (hg cl fp s3 H3 C).out) (fun cl fp s3 H3 C => (hct cl fp s3 H3 C).out) (fun cl fp s3 H3 C => (he cl fp s3 H3 C).out) hsc hN hs⟩
theorem jD (hc : X.calm = true) : JF X (.builtin "any") (fun xs H Q => ∃ (p : Addr) (bs : List Bool), xs = [.ref p] ∧ aJ X.K H p (bs.map V.bl) ∧ Q (.bl (bs.any id)) H) := ⟨L2.jD hc⟩
end
end J
namespace L2
open PySem PySem.Spec PyProof.Rows
section
variable {κ : Type} [DecidableEq κ]
def dC (kvs : List (κ × V)) (k : κ) : Option V := (kvs.find? fun kv => decide (kv.1 = k)).map (·.2)
def putK (kvs : List (κ × V)) (k : κ) (v : V) : List (κ × V) :=
  if (kvs.any fun kv => decide (kv.1 = k)) = true then kvs.map (fun kv => if kv.1 = k then (kv.1, v) else kv) else kvs ++ [(k, v)]
def uK (kvs : List (κ × V)) (k : κ) : List (κ × V) := kvs.filter fun kv => decide (kv.1 ≠ k)
theorem cR {p : κ × V} {r : List (κ × V)} {k : κ} (e : p.1 = k) : dC (p :: r) k = some p.2 := by simp [dC, List.find?_cons, e]
theorem cN {p : κ × V} {r : List (κ × V)} {k : κ} (e : ¬ p.1 = k) : dC (p :: r) k = dC r k := by simp [dC, List.find?_cons, e]
theorem gC (k : κ) : ∀ kvs : List (κ × V), (kvs.any fun kv => decide (kv.1 = k)) = (dC kvs k).isSome
  | [] => rfl
  | p :: r => by
    rw [List.any_cons]
    by_cases e : p.1 = k
    · simp only [cR e, decide_eq_true e, Bool.true_or, Option.isSome_some]
    · rw [cN e, decide_eq_false e, Bool.false_or]; exact gC k r
theorem o9 (k j : κ) (y : V) : ∀ kvs : List (κ × V), dC (kvs.map fun kv => if kv.1 = k then (kv.1, y) else kv) j = (dC kvs j).map fun x => if j = k then y else x
  | [] => rfl
  | p :: r => by
    have ih := o9 k j y r
    rw [List.map_cons]
    by_cases h : p.1 = k
    · rw [if_pos h]
      by_cases e : p.1 = j
      · rw [cR (p := (p.1, y)) e, cR e, Option.map_some, if_pos (e.symm.trans h)]
      · rw [cN (p := (p.1, y)) e, cN e, ih]
    · rw [if_neg h]
      by_cases e : p.1 = j
      · rw [cR (p := p) e, cR e, Option.map_some, if_neg (fun z => h (e.trans z))]
      · rw [cN (p := p) e, cN e, ih]
theorem mC (k j : κ) (y : V) : ∀ kvs : List (κ × V), dC kvs k = none → dC (kvs ++ [(k, y)]) j = if j = k then some y else dC kvs j
  | [], _ => by
    by_cases e : k = j
    · rw [if_pos e.symm]; exact cR (p := (k, y)) e
    · rw [if_neg (fun z => e z.symm)]; exact cN (p := (k, y)) e
  | p :: r, hn => by
    rw [List.cons_append]
    have hk : ¬ p.1 = k := fun z => by rw [cR z] at hn; cases hn
    rw [cN hk] at hn
    have ih := mC k j y r hn
    by_cases e : p.1 = j
    · rw [cR e, cR e, if_neg (fun z => hk (e.trans z))]
    · rw [cN e, cN e, ih]
theorem gI (kvs : List (κ × V)) (k j : κ) (y : V) : dC (putK kvs k y) j = if j = k then some y else dC kvs j := by
  unfold putK
  by_cases a : (kvs.any fun kv => decide (kv.1 = k)) = true
  · rw [if_pos a, o9]
    rw [gC] at a
    by_cases e : j = k
    · obtain ⟨x, hx⟩ := Option.isSome_iff_exists.mp a
      rw [if_pos e, e, hx, Option.map_some, if_pos rfl]
    · rw [if_neg e]
      cases dC kvs j with
      | none => rfl
      | some x => rw [Option.map_some, if_neg e]
  · rw [if_neg a]
    refine mC k j y kvs ?_
    rw [gC] at a
    cases q : dC kvs k with
    | none => rfl
    | some x => rw [q] at a; exact (a rfl).elim
theorem ft (kvs : List (κ × V)) (k : κ) (v : V) : (putK kvs k v).length ≤ kvs.length + 1 := by
  unfold putK
  split
  · rw [List.length_map]; omega
  · rw [List.length_append, List.length_cons, List.length_nil]; omega
theorem gv.fH {o : Option V} {u : Option Value} (r : gv o u) : o.isSome = u.isSome := by
  cases o with
  | none => cases u with
    | none => rfl
    | some _ => exact (show False from r).elim
  | some _ => cases u with
    | none => exact (show False from r).elim
    | some _ => rfl
theorem gv.getD {o : Option V} {u : Option Value} {d : V} {d' : Value} (r : gv o u) (rd : RelV d d') : RelV (o.getD d) (u.getD d') := by
  cases o with
  | none => cases u with
    | none => exact rd
    | some _ => exact (show False from r).elim
  | some _ => cases u with
    | none => exact (show False from r).elim
    | some _ => exact r
theorem KV.val {kvs : List (κ × V)} {vs : List (κ × Value)} (r : KV kvs vs) (k : κ) : gv (dC kvs k) (valueAt vs k) := by
  unfold KV at r
  induction r with
  | nil => exact True.intro
  | @cons p q ps qs h t ih =>
    obtain ⟨h1, h2⟩ := h
    by_cases e : p.1 = k
    · have e' : q.1 = k := h1.symm.trans e
      have b : valueAt (q :: qs) k = some q.2 := by simp [valueAt, List.find?_cons, e']
      rw [cR e, b]; exact h2
    · have e' : ¬ q.1 = k := fun z => e (h1.trans z)
      have b : valueAt (q :: qs) k = valueAt qs k := by simp [valueAt, List.find?_cons, e']
      rw [cN e, b]; exact ih
theorem KV.any {kvs : List (κ × V)} {vs : List (κ × Value)} (r : KV kvs vs) (k : κ) : (kvs.any fun kv => decide (kv.1 = k)) = vs.any fun kv => decide (kv.1 = k) := by
  unfold KV at r
  induction r with
  | nil => rfl
  | cons h t ih => rw [List.any_cons, List.any_cons, ih, h.1]
theorem KV.Ar {kvs : List (κ × V)} {vs : List (κ × Value)} (r : KV kvs vs) (k : κ) {y : V} {u : Value} (ry : RelV y u) :
    KV (kvs.map fun kv => if kv.1 = k then (kv.1, y) else kv) (vs.map fun kv => if kv.1 = k then (kv.1, u) else kv) := by
  unfold KV at r ⊢
  induction r with
  | nil => exact .nil
  | @cons p q ps qs h t ih =>
    rw [List.map_cons, List.map_cons]
    refine .cons ?_ ih
    obtain ⟨h1, h2⟩ := h
    by_cases e : p.1 = k
    · rw [if_pos e, if_pos (h1.symm.trans e)]; exact ⟨h1, ry⟩
    · rw [if_neg e, if_neg (fun z => e (h1.trans z))]; exact ⟨h1, h2⟩
theorem KV.put {kvs : List (κ × V)} {vs : List (κ × Value)} (r : KV kvs vs) (k : κ) {y : V} {u : Value} (ry : RelV y u) : KV (putK kvs k y) (stored vs k u) := by
  unfold putK stored
  rw [r.any k]
  by_cases e : (vs.any fun kv => decide (kv.1 = k)) = true
  · rw [if_pos e, if_pos e]; exact r.Ar k ry
  · rw [if_neg e, if_neg e]; exact Paired.snoc r ⟨rfl, ry⟩
theorem KV.length {kvs : List (κ × V)} {vs : List (κ × Value)} (r : KV kvs vs) : kvs.length = vs.length := Paired.length r
end
theorem lC {P : Program} {w : World} {k : Key} {u : Value} (r : RelV (kV k) u) : (aR P w).is k u = true := by
  cases k with
  | inl i => obtain ⟨t, e⟩ := (show ∃ t, u = Value.int i t from r); subst e; exact pI P w i t
  | inr x => obtain ⟨t, e⟩ := (show ∃ t, u = Value.str x t from r); subst e; exact pA P w x t
theorem mG {P : Program} {w : World} : ∀ {ks : List Key} {us : List Value}, Vals (ks.map kV) us → ItemsAre (aR P w) ks us
  | [], _, r => by rw [List.map_nil] at r; cases r; exact .nil
  | k :: ks, _, r => by
    rw [List.map_cons] at r
    cases r with
    | cons h t => exact .cons (lC h) (mG t)
abbrev KT (H : Hp) : List (List Key × V) → List (List Key × Addr × Value) → Prop := Paired fun p q => p.1 = q.1 ∧ H q.2.1 = some (.tup (p.1.map kV)) ∧ RelV p.2 q.2.2
theorem KT.val {H : Hp} {kvs : List (List Key × V)} {xs : List (List Key × Addr × Value)} (r : KT H kvs xs) (k : List Key) : gv (dC kvs k) ((atKey xs k).map (·.2)) := by
  induction r with
  | nil => exact True.intro
  | @cons p q ps qs h t ih =>
    obtain ⟨h1, _, h2⟩ := h
    by_cases e : p.1 = k
    · have e' : q.1 = k := h1.symm.trans e
      have b : atKey (q :: qs) k = some q.2 := by simp [atKey, List.find?_cons, e']
      rw [cR e, b]; exact h2
    · have e' : ¬ q.1 = k := fun z => e (h1.trans z)
      have b : atKey (q :: qs) k = atKey qs k := by simp [atKey, List.find?_cons, e']
      rw [cN e, b]; exact ih
theorem KT.Ar {H : Hp} {kvs : List (List Key × V)} {xs : List (List Key × Addr × Value)} (r : KT H kvs xs) (k : List Key) {y : V} {u : Value} (ry : RelV y u) :
    KT H (kvs.map fun kv => if kv.1 = k then (kv.1, y) else kv) (xs.map (putAt k u)) := by
  induction r with
  | nil => exact .nil
  | @cons p q ps qs h t ih =>
    rw [List.map_cons, List.map_cons]
    refine .cons ?_ ih
    obtain ⟨h1, h2, h3⟩ := h
    unfold putAt
    by_cases e : p.1 = k
    · rw [if_pos e, if_pos (h1.symm.trans e)]; exact ⟨h1, h2, ry⟩
    · rw [if_neg e, if_neg (fun z => e (h1.trans z))]; exact ⟨h1, h2, h3⟩
theorem KT.put {H : Hp} {kvs : List (List Key × V)} {xs : List (List Key × Addr × Value)} (r : KT H kvs xs) (k : List Key) {b : Addr} {y : V} {u : Value} (hb : H b = some (.tup (k.map kV))) (ry : RelV y u) :
    KT H (putK kvs k y) (storedH xs k b u) := by
  have e : (kvs.any fun kv => decide (kv.1 = k)) = (atKey xs k).isSome := by
    rw [gC, (r.val k).fH, Option.isSome_map]
  unfold putK storedH
  rw [e]
  by_cases q : (atKey xs k).isSome = true
  · rw [if_pos q, if_pos q]; exact r.Ar k ry
  · rw [if_neg q, if_neg q]; exact Paired.snoc r ⟨rfl, hb, ry⟩
theorem KT.keeps {H H' : Hp} {kvs : List (List Key × V)} {xs : List (List Key × Addr × Value)} (r : KT H kvs xs) (ht : ∀ b ys, H b = some (.tup ys) → H' b = some (.tup ys)) : KT H' kvs xs :=
  Paired.Ad r fun _ _ z => ⟨z.1, ht _ _ z.2.1, z.2.2⟩
section
variable {P : Program} {w : World} {H : Hp} {h : Heap} {a : Addr}
theorem yG {u : HO} (ok : fP P w H h) (e : Rd H a u) : bW P w H h a u := e.ok ok
theorem jM {kvs : List (Key × V)} (ok : fP P w H h) (e : Rd H a (.dK kvs)) : kvs.length ≤ sizeLine ∧ (a == sysModules) = false ∧ ∃ vs, KV kvs vs ∧ h.DictOf (aR P w) a vs :=
  show bW P w H h a (.dK kvs) from yG ok e
theorem Bo {kvs : List (Key × V)} (ok : fP P w H h) (e : H a = some (.dK kvs)) : kvs.length ≤ sizeLine ∧ (a == sysModules) = false ∧ ∃ vs, KV kvs vs ∧ h.DictOf (aR P w) a vs := jM ok (.inl e)
theorem hV {ks : List Key} (ok : fP P w H h) (e : H a = some (.tup (ks.map kV))) : (tupleKind (aR P w)).is h ks a := by
  obtain ⟨_, its, r, o, h1, h2, n, h3⟩ := (show bW P w H h a (.tup (ks.map kV)) from ok a _ e)
  exact ⟨o, its.toArray, n, h1, h2, h3, by simpa using mG r⟩
theorem jJ {kvs : List (List Key × V)} (ok : fP P w H h) (e : Rd H a (.dT kvs)) : kvs.length ≤ sizeLine ∧ (a == sysModules) = false ∧
    ∃ xs, KT H kvs xs ∧ h.DictOfH (tupleKind (aR P w)) a xs := by
  obtain ⟨z, y, xs, r, o, es, ep, h1, h2, h3, h4, h5⟩ := (show bW P w H h a (.dT kvs) from yG ok e)
  refine ⟨z, y, xs, r, o, es, ep, h1, h2, h3, h4, fun x hx => ?_, h5⟩
  have all : ∀ {l : List (List Key × V)} {m : List (List Key × Addr × Value)}, KT H l m → ∀ x ∈ m, (tupleKind (aR P w)).is h x.1 x.2.1 := by
    intro l m q
    induction q with
    | nil => intro x hx; exact nomatch hx
    | @cons p q ps qs hq t ih =>
      intro x hx
      rcases List.mem_cons.mp hx with e | hx
      · subst e
        exact hV ok (by rw [← hq.1]; exact hq.2.1)
      · exact ih x hx
  exact all r x hx
theorem BE {kvs : List (List Key × V)} (ok : fP P w H h) (e : H a = some (.dT kvs)) : kvs.length ≤ sizeLine ∧ (a == sysModules) = false ∧
    ∃ xs, KT H kvs xs ∧ h.DictOfH (tupleKind (aR P w)) a xs := jJ ok (.inl e)
end
def eB (H : Hp) (a : Addr) (y : V) (r : Option V) : Prop :=
  (∃ kvs k, Rd H a (.dK kvs) ∧ y = kV k ∧ r = dC kvs k) ∨ ∃ kvs k b, Rd H a (.dT kvs) ∧ y = .ref b ∧ H b = some (.tup (k.map kV)) ∧ r = dC kvs k
def lQ (H : Hp) (a : Addr) (y v : V) (H' : Hp) : Prop :=
  (∃ kvs k, H a = some (.dK kvs) ∧ y = kV k ∧ kvs.length < sizeLine ∧ H' = upd H a (.dK (putK kvs k v))) ∨
  ∃ kvs k b, H a = some (.dT kvs) ∧ y = .ref b ∧ H b = some (.tup (k.map kV)) ∧ kvs.length < sizeLine ∧ H' = upd H a (.dT (putK kvs k v))
theorem eB.k {H : Hp} {a : Addr} {kvs : List (Key × V)} {k : Key} (e : H a = some (.dK kvs)) : eB H a (kV k) (dC kvs k) := .inl ⟨kvs, k, .inl e, rfl, rfl⟩
theorem lQ.k {H : Hp} {a : Addr} {kvs : List (Key × V)} {k : Key} {v : V} (e : H a = some (.dK kvs)) (hl : kvs.length < sizeLine) : lQ H a (kV k) v (upd H a (.dK (putK kvs k v))) := .inl ⟨kvs, k, e, rfl, hl, rfl⟩
section
variable {X : Cx} {pins : List (Addr × Obj)} {σ : St} {H : Hp} {s : Shared} {a : Addr} {y v : V} {u r : Value} {o : Option V} {A : Around} {E : Value → Shared → Prop}
theorem t9 {Q : Value → Shared → Prop} (hu : A.units + 1 < cLine) (I : Inv X pins σ H s) (g : eB H a y (some v)) (ry : RelV y u) (h : ∀ w' s', Inv X pins σ H s' → RelV v w' → Q w' s') :
    wpAny (model X.prog X.w) A (getItem (.ref a) u) Q E s := by
  rcases g with ⟨kvs, k, e, ey, l⟩ | ⟨kvs, k, b, e, ey, eb, l⟩
  · subst ey
    obtain ⟨z, hd, vs, rel, dd⟩ := jM I.hok e
    obtain ⟨w', hw, rw'⟩ := gv.some_of (v := v) (o := valueAt vs k) (by rw [l]; exact rel.val k)
    exact wpAny_getItem_of (lC ry) dd.mapOf hw (h w' _ (I.tok _) rw')
  · subst ey
    cases (show u = Value.ref b from ry)
    obtain ⟨z, hd, xs, rel, dd⟩ := jJ I.hok e
    obtain ⟨w', hw, rw'⟩ := gv.some_of (v := v) (o := (atKey xs k).map (·.2)) (by rw [l]; exact rel.val k)
    obtain ⟨p, hp, hp2⟩ := Option.map_eq_some_iff.mp hw
    refine wpAny_getItem_heap (tupleKind_room_in1 hu) (hV I.hok eb) dd hp ?_
    rw [hp2]
    exact h w' _ (I.tok _) rw'
theorem Dk {Q : Value → Shared → Prop} (hu : A.units + 1 < cLine) (I : Inv X pins σ H s) (g : eB H a y o) (ry : RelV y u) (h : ∀ s', Inv X pins σ H s' → Q (.bool o.isSome) s') :
    wpAny (model X.prog X.w) A (compareOp .In u (.ref a)) Q E s := by
  rcases g with ⟨kvs, k, e, ey, l⟩ | ⟨kvs, k, b, e, ey, eb, l⟩
  · subst ey
    obtain ⟨z, hd, vs, rel, dd⟩ := jM I.hok e
    refine wpAny_in_of (lC ry) hd dd.mapOf ?_
    rw [← (rel.val k).fH, ← l]
    exact h _ (I.tok _)
  · subst ey
    cases (show u = Value.ref b from ry)
    obtain ⟨z, hd, xs, rel, dd⟩ := jJ I.hok e
    refine wpAny_in_heap (tupleKind_room_in1 hu) (hV I.hok eb) hd dd ?_
    have q := (rel.val k).fH
    rw [Option.isSome_map] at q
    rw [← q, ← l]
    exact h _ (I.tok _)
theorem ym {Q : Value → Shared → Prop} (hu : A.units + 1 < cLine) (I : Inv X pins σ H s) (g : eB H a y o) (ry : RelV y u) (h : ∀ s', Inv X pins σ H s' → Q (.bool (!o.isSome)) s') :
    wpAny (model X.prog X.w) A (compareOp .NotIn u (.ref a)) Q E s := by
  rcases g with ⟨kvs, k, e, ey, l⟩ | ⟨kvs, k, b, e, ey, eb, l⟩
  · subst ey
    obtain ⟨z, hd, vs, rel, dd⟩ := jM I.hok e
    refine wpAny_notIn_of (lC ry) hd dd.mapOf ?_
    rw [← (rel.val k).fH, ← l]
    exact h _ (I.tok _)
  · subst ey
    cases (show u = Value.ref b from ry)
    obtain ⟨z, hd, xs, rel, dd⟩ := jJ I.hok e
    refine wpAny_notIn_heap (tupleKind_room_in1 hu) (hV I.hok eb) hd dd ?_
    have q := (rel.val k).fH
    rw [Option.isSome_map] at q
    rw [← q, ← l]
    exact h _ (I.tok _)
theorem rL {h' : Heap} {t' : Nat} {ob : HO} (I : Inv X pins σ H s) (mu : BV (H a)) (hs : Heap.SameBut a s.heap h') (he : ∃ q, h'.get? a = some q) (new : bW X.prog X.w (upd H a ob) h' a ob) :
    Inv X pins σ (upd H a ob) { s with heap := h', toks := t' } :=
  I.write (x := a) (e := a) mu (.inl rfl) (fun b q hb z => (hs.2 b hb).trans z) he new
theorem zQ {P : Program} {w : World} {H' : Hp} {h' : Heap} {kvs : List (Key × V)} {vs : List (Key × Value)} (z : kvs.length ≤ sizeLine) (hd : (a == sysModules) = false) (rel : KV kvs vs) (dd : h'.DictOf (aR P w) a vs) :
    bW P w H' h' a (.dK kvs) := ⟨z, hd, vs, rel, dd⟩
theorem uA {H' : Hp} {Q : Unit → Shared → Prop} (hu : A.units + 1 < cLine) (I : Inv X pins σ H s) (g : lQ H a y v H') (ry : RelV y u) (rv : RelV v r) (h : ∀ s', Inv X pins σ H' s' → Q () s') :
    wpAny (model X.prog X.w) A (setItem (.ref a) u r) Q E s := by
  rcases g with ⟨kvs, k, e, ey, l, eH⟩ | ⟨kvs, k, b, e, ey, eb, l, eH⟩
  · subst ey eH
    obtain ⟨z, hd, vs, rel, dd⟩ := Bo I.hok e
    have hz : vs.length ≤ sizeLine := by rw [← rel.length]; exact z
    have hl : (putK kvs k v).length ≤ sizeLine := by have := ft kvs k v; omega
    refine wpAny_setItem_pairs (hsz := hz) (lC ry) dd fun h' dd' hs => h _ ?_
    have he : ∃ q, h'.get? a = some q := let ⟨q, _, _, hq, _⟩ := dd'; ⟨q, hq⟩
    exact rL I (by rw [e]; exact True.intro) hs he (zQ hl hd (rel.put k rv) dd')
  · subst ey eH
    cases (show u = Value.ref b from ry)
    obtain ⟨z, hd, xs, rel, dd⟩ := BE I.hok e
    have hz : xs.length ≤ sizeLine := by rw [← Paired.length rel]; exact z
    have hl : (putK kvs k v).length ≤ sizeLine := by have := ft kvs k v; omega
    refine wpAny_setItem_heap (hsz := hz) (tupleKind_room_in1 hu) (hV I.hok eb) dd fun h' dd' hs => h _ ?_
    obtain ⟨q, es, ep, hq, h2, h3, h4, _, h5⟩ := dd'
    refine rL I (by rw [e]; exact True.intro) hs ⟨q, hq⟩ ⟨hl, hd, _, (rel.put k eb rv).keeps fun c ys ec => ?_, q, es, ep, hq, h2, h3, h4, h5⟩
    rw [ao (lE ec e (fun z => nomatch z))]
    exact ec
end
section
variable {X : Cx} {pins : List (Addr × Obj)} {σ : St} {H : Hp} {s : Shared} {a : Addr} {kvs : List (Key × V)} {k : Key} {u : Value} {A : Around} {E : Value → Shared → Prop}
end
def Bg (i : Expr) : Prop := ∀ ov iv, subscripted i false ov iv = operate [ov, iv] (getItem ov iv)
theorem yy {prog : Program} {w : World} {A : Around} {E : Value → Shared → Prop} {s : Shared} {env : Env} {value slice : Expr} {pos : Pos} {T id : String} {Q : Value → Shared → Prop}
    (hl : typeLookup (.type T) "__getitem__" = pure (some (.builtin id))) (hs : Bg slice)
    (h : wpAny (model prog w) A (eval value env) (fun o s₁ => wpAny (model prog w) A (eval slice env) (fun i s₂ => s₂.TypeIs o T ∧ wpAny (model prog w) A (getItem o i) Q E s₂) E s₁) E s) :
    wpAny (model prog w) A (eval (.Subscript value slice pos) env) Q E s := by
  refine Subscript_ (wpAny_mono h (fun o s₁ h₁ => wpAny_mono h₁ (fun i s₂ h₂ => ?_) fun _ _ x => x) fun _ _ x => x)
  obtain ⟨hT, h₂⟩ := h₂
  unfold subscriptTail
  refine wpAny_bind ?_
  rw [getitemInPython_of_ne hT.not_modules]
  refine wpAny_bind (wpAny_specialOf hT hl ?_)
  have fin : wpAny (model prog w) A (subscripted slice false o i) (fun r s₃ => wpAny (model prog w) A (letTemporaryGo value o r >>= fun _ => pure r) Q E s₃) E s₂ := by
    rw [hs o i]
    exact wpAny_operating (wpAny_mono h₂ (fun r s₃ h₃ => wpAny_bind (wpAny_letTemporaryGo (wpAny_pure h₃))) fun _ _ x => x)
  first
    | exact wpAny_pure (wpAny_bind fin)
    | exact wpAny_bind (wpAny_pure (wpAny_bind fin))
    | exact wpAny_bind fin
theorem o5 {X : Cx} {pins : List (Addr × Obj)} {σ : St} {H : Hp} {s : Shared} {a : Addr} {y : V} {o : Option V} (I : Inv X pins σ H s) (g : eB H a y o) : s.TypeIs (.ref a) "dict" := by
  rcases g with ⟨kvs, k, e, _, _⟩ | ⟨kvs, k, b, e, _, _, _⟩
  · obtain ⟨_, _, vs, _, dd⟩ := jM I.hok e
    exact dd.typeIs
  · obtain ⟨_, _, xs, _, dd⟩ := jJ I.hok e
    exact dd.typeIs
def yP (td ty : TE) : TE := fun σ H Q => td σ H fun x H1 => ty σ H1 fun y H2 => ∃ a v, x = .ref a ∧ eB H2 a y (some v) ∧ Q v H2
def xT (ty td : TE) : TE := fun σ H Q => ty σ H fun y H1 => td σ H1 fun x H2 => ∃ a o, x = .ref a ∧ eB H2 a y o ∧ Q (.bl o.isSome) H2
def rE (ty td : TE) : TE := fun σ H Q => ty σ H fun y H1 => td σ H1 fun x H2 => ∃ a o, x = .ref a ∧ eB H2 a y o ∧ Q (.bl (!o.isSome)) H2
def yH (td ty tv : TE) : TS := fun D σ H => tv σ H fun v H1 => td σ H1 fun x H2 => ty σ H2 fun y H3 => ∃ a H4, x = .ref a ∧ lQ H3 a y v H4 ∧ D.nx σ H4
def DB (td ty tv : TE) (rd : V → V → Hp → VK → Prop) : TS := fun D σ H => td σ H fun x H1 => ty σ H1 fun y H2 => ∃ a v, x = .ref a ∧ eB H2 a y (some v) ∧
  tv σ H2 fun y2 H3 => rd v y2 H3 fun z H4 => ∃ H5, lQ H4 a y z H5 ∧ D.nx σ H5
def Dw (td ty : TE) : TS := fun D σ H => td σ H fun x H1 => ty σ H1 fun y H2 => ∃ a kvs k, x = .ref a ∧ H2 a = some (.dK kvs) ∧ y = kV k ∧ (dC kvs k).isSome = true ∧ D.nx σ (upd H2 a (.dK (uK kvs k)))
section
variable {X : Cx} {o i e value : Expr} {pos pos' tpos : Pos} {td ty tv : TE}
theorem xY (hu : X.A.units + 1 < cLine) (ho : PE X o td) (hi : PE X i ty) (hs : Bg i) : PE X (.Subscript o i pos) (yP td ty) := by
  intro pins s σ H Q I h
  refine yy PySem.F.slot_dict_getitem.lookup hs (bU (ho pins s σ H _ I h) fun u s1 ⟨x, H1, I1, rx, q1⟩ => bU (hi pins s1 σ H1 _ I1 q1) fun iv s2 hpat => ?_)
  obtain ⟨y, H2, I2, ry, a, v, ex, g, q2⟩ := hpat
  subst ex
  obtain rfl : u = Value.ref a := rx
  exact ⟨o5 I2 g, t9 hu I2 g ry fun w' s3 I3 rw' => ⟨v, H2, I3, rw', q2⟩⟩
theorem vO (hu : X.A.units + 1 < cLine) (hi : PE X i ty) (ho : PE X o td) : PC X .In i o (xT ty td) := by
  intro pins s σ H Q I h
  refine bU (hi pins s σ H _ I h) fun iv s1 ⟨y, H1, I1, ry, q1⟩ => bU (ho pins s1 σ H1 _ I1 q1) fun u s2 hpat => ?_
  obtain ⟨x, H2, I2, rx, a, ov, ex, g, q2⟩ := hpat
  subst ex
  obtain rfl : u = Value.ref a := rx
  exact Dk hu I2 g ry fun s3 I3 => ⟨.bl ov.isSome, H2, I3, rfl, q2⟩
theorem tL (hu : X.A.units + 1 < cLine) (hi : PE X i ty) (ho : PE X o td) : PC X .NotIn i o (rE ty td) := by
  intro pins s σ H Q I h
  refine bU (hi pins s σ H _ I h) fun iv s1 ⟨y, H1, I1, ry, q1⟩ => bU (ho pins s1 σ H1 _ I1 q1) fun u s2 hpat => ?_
  obtain ⟨x, H2, I2, rx, a, ov, ex, g, q2⟩ := hpat
  subst ex
  obtain rfl : u = Value.ref a := rx
  exact ym hu I2 g ry fun s3 I3 => ⟨.bl (!ov.isSome), H2, I3, rfl, q2⟩
theorem xC (hu : X.A.units + 1 < cLine) (ho : PE X o td) (hi : PE X i ty) (hv : PE X value tv) (hs : swapsWith value (some (.Subscript o i pos')) pos.line X.env = pure false) :
    PS X (.Assign [.Subscript o i pos'] value pos) (yH td ty tv) := by
  intro pins s σ H D I h
  refine wpAny_Assign_Subscript (bU (hv pins s σ H _ I h) fun r s1 ⟨v, H1, I1, rv, q1⟩ => bU (ho pins s1 σ H1 _ I1 q1) fun u s2 ⟨x, H2, I2, rx, q2⟩ => bU (hi pins s2 σ H2 _ I2 q2) fun iv s3 hpat => ?_) hs
  obtain ⟨y, H3, I3, ry, a, H4, ex, g, q3⟩ := hpat
  subst ex
  obtain rfl : u = Value.ref a := rx
  exact uA hu I3 g ry rv fun s4 I4 => ⟨σ, H4, I4, q3⟩
end
def CK : TE := fun _ H Q => ∀ p, H p = none → Q (.ref p) (upd H p (.dK []))
def CJ : TE := fun _ H Q => ∀ p, H p = none → Q (.ref p) (upd H p (.dT []))
section
variable {X : Cx} {pos : Pos}
end
def qp : List (TE × TE) → St → Hp → (List (V × V) → Hp → Prop) → Prop
  | [], _, H, Q => Q [] H
  | (tk, tv) :: r, σ, H, Q => tk σ H fun x H1 => tv σ H1 fun y H2 => qp r σ H2 fun ps H3 => Q ((x, y) :: ps) H3
abbrev VV : List (V × V) → List (Value × Value) → Prop := Paired fun p q => RelV p.1 q.1 ∧ RelV p.2 q.2
def ES (X : Cx) (pos : Pos) (keys : List (Option Expr)) (values : List Expr) (trs : List (TE × TE)) : Prop :=
  ∀ (pins : List (Addr × Obj)) (s : Shared) (σ : St) (H : Hp) (Q : List (V × V) → Hp → Prop), Inv X pins σ H s → qp trs σ H Q →
    wpAny (model X.prog X.w) X.A (evalPairs (pairTrees keys values X.env pos)) (fun vs s' => ∃ ps H', Inv X pins σ H' s' ∧ VV ps vs ∧ Q ps H') X.xe s
def u4 (kvs more : List (Key × V)) : List (Key × V) := more.foldl (fun acc kv => putK acc kv.1 kv.2) kvs
def Dv (trs : List (TE × TE)) : TE := fun σ H Q => ∀ p, H p = none → qp trs σ (upd H p (.dK [])) fun ps H2 => H2 p = some (.dK []) ∧ ∃ kvs : List (Key × V), ps = kvs.map (fun kv => (kV kv.1, kv.2)) ∧ kvs.length ≤ 15 ∧ Q (.ref p) (upd H2 p (.dK (u4 [] kvs)))
structure M1 (X : Cx) (o : Expr) (m : Str) (apos : Pos) (e : Expr) (cpos : Pos) : Prop where
  base : attributeBase o m X.env (eval o X.env) = eval o X.env
  AA : ((backTo cpos (starEach [e] X.env)).all (fun x => !x.1) && (backToKw cpos (keywordEach [] X.env)).all (fun x => x.1.isSome)
    && decide (([e] : List Expr).length + ([] : List Keyword).length + (if ([] : List Keyword).isEmpty then 0 else 1) < 30)) = true
  line : (apos.endLine == cpos.line) = true
  trees : backTo cpos (starEach [e] X.env) = [(false, eval e X.env)]
structure M2 (X : Cx) (o : Expr) (m : Str) (apos : Pos) (e f : Expr) (cpos : Pos) : Prop where
  base : attributeBase o m X.env (eval o X.env) = eval o X.env
  AA : ((backTo cpos (starEach [e, f] X.env)).all (fun x => !x.1) && (backToKw cpos (keywordEach [] X.env)).all (fun x => x.1.isSome)
    && decide (([e, f] : List Expr).length + ([] : List Keyword).length + (if ([] : List Keyword).isEmpty then 0 else 1) < 30)) = true
  line : (apos.endLine == cpos.line) = true
  trees : backTo cpos (starEach [e, f] X.env) = [(false, eval e X.env), (false, eval f X.env)]
def Bf (H : Hp) (a : Addr) : Prop := (∃ kvs, Rd H a (.dK kvs)) ∨ ∃ kvs, Rd H a (.dT kvs)
theorem uR {X : Cx} {pins : List (Addr × Obj)} {σ : St} {H : Hp} {s : Shared} {a : Addr} (I : Inv X pins σ H s) (d : Bf H a) :
    s.TypeIs (.ref a) "dict" ∧ (∀ b, Value.ref a = .ref b → ∃ ob, s.heap.get? b = some ob ∧ ob.dict = none) ∧ (a == sysModules) = false := by
  rcases d with ⟨kvs, e⟩ | ⟨kvs, e⟩
  · obtain ⟨_, hd, vs, _, dd⟩ := jM I.hok e
    refine ⟨dd.typeIs, fun b q => ?_, hd⟩
    cases q
    obtain ⟨ob, _, _, h1, h2, _⟩ := dd
    exact ⟨ob, h1, h2.2.1⟩
  · obtain ⟨_, hd, xs, _, dd⟩ := jJ I.hok e
    refine ⟨dd.typeIs, fun b q => ?_, hd⟩
    cases q
    obtain ⟨ob, _, _, h1, h2, _⟩ := dd
    exact ⟨ob, h1, h2.2.1⟩
section
variable {X : Cx} {pins : List (Addr × Obj)} {σ : St} {H : Hp} {s : Shared} {a : Addr} {y d : V} {u r : Value} {o : Option V} {A : Around} {E : Value → Shared → Prop}
theorem zt {Q : Value → Shared → Prop} (hu : A.units + 1 < cLine) (I : Inv X pins σ H s) (g : eB H a y o) (ry : RelV y u) (h : ∀ w' s', Inv X pins σ H s' → RelV (o.getD .non) w' → Q w' s') :
    wpAny (model X.prog X.w) A (call (.builtin "dict.get") [.ref a, u]) Q E s := by
  rcases g with ⟨kvs, k, e, ey, l⟩ | ⟨kvs, k, b, e, ey, eb, l⟩
  · subst ey
    obtain ⟨z, hd, vs, rel, dd⟩ := jM I.hok e
    refine call_meetsIn PySem.F.slot_dict_get dd.typeIs PySem.F.entry_dict_get (PySem.F.args_dict_get_2 _ _) (meets_dict_get (aR X.prog X.w) a (lC ry) hd) ⟨_, dd.mapOf, h _ _ (I.tok _) ?_⟩
    rw [l]
    exact (rel.val k).getD rfl
  · subst ey
    cases (show u = Value.ref b from ry)
    obtain ⟨z, hd, xs, rel, dd⟩ := jJ I.hok e
    refine call_meetsIn PySem.F.slot_dict_get dd.typeIs PySem.F.entry_dict_get (PySem.F.args_dict_get_2 _ _) (meetsH_dict_get (tupleKind (aR X.prog X.w)) a b hd) ⟨tupleKind_room_in1 hu, k, xs, hV I.hok eb, dd, h _ _ (I.tok _) ?_⟩
    rw [l]
    exact (rel.val k).getD rfl
theorem zm {Q : Value → Shared → Prop} (hu : A.units + 1 < cLine) (I : Inv X pins σ H s) (g : eB H a y o) (ry : RelV y u) (rd : RelV d r) (h : ∀ w' s', Inv X pins σ H s' → RelV (o.getD d) w' → Q w' s') :
    wpAny (model X.prog X.w) A (call (.builtin "dict.get") [.ref a, u, r]) Q E s := by
  rcases g with ⟨kvs, k, e, ey, l⟩ | ⟨kvs, k, b, e, ey, eb, l⟩
  · subst ey
    obtain ⟨z, hd, vs, rel, dd⟩ := jM I.hok e
    refine call_meetsIn PySem.F.slot_dict_get dd.typeIs PySem.F.entry_dict_get (PySem.F.args_dict_get_3 _ _ _) (meets_dict_get_default (aR X.prog X.w) a (lC ry) hd r) ⟨_, dd.mapOf, h _ _ (I.tok _) ?_⟩
    rw [l]
    exact (rel.val k).getD rd
  · subst ey
    cases (show u = Value.ref b from ry)
    obtain ⟨z, hd, xs, rel, dd⟩ := jJ I.hok e
    refine call_meetsIn PySem.F.slot_dict_get dd.typeIs PySem.F.entry_dict_get (PySem.F.args_dict_get_3 _ _ _) (meetsH_dict_get_default (tupleKind (aR X.prog X.w)) a b hd r) ⟨tupleKind_room_in1 hu, k, xs, hV I.hok eb, dd, h _ _ (I.tok _) ?_⟩
    rw [l]
    exact (rel.val k).getD rd
end
def uU (td ty : TE) : TE := fun σ H Q => td σ H fun x H1 => ∃ a, x = .ref a ∧ Bf H1 a ∧ ty σ H1 fun y H2 => ∃ o, eB H2 a y o ∧ Q (o.getD .non) H2
def u3 (td ty tx : TE) : TE := fun σ H Q => td σ H fun x H1 => ∃ a, x = .ref a ∧ Bf H1 a ∧ ty σ H1 fun y H2 => tx σ H2 fun z H3 => ∃ o, eB H3 a y o ∧ Q (o.getD z) H3
def Cp (td ty : TE) : TE := fun σ H Q => td σ H fun x H1 => ∃ a, x = .ref a ∧ Bf H1 a ∧ ty σ H1 fun y H2 => ∃ kvs k v, H2 a = some (.dK kvs) ∧ y = kV k ∧ dC kvs k = some v ∧ Q v (upd H2 a (.dK (uK kvs k)))
def CV (td ty tx : TE) : TE := fun σ H Q => td σ H fun x H1 => ∃ a, x = .ref a ∧ Bf H1 a ∧ ty σ H1 fun y H2 => tx σ H2 fun z H3 => ∃ kvs k, H3 a = some (.dK kvs) ∧ y = kV k ∧
  (∀ v, dC kvs k = some v → Q v (upd H3 a (.dK (uK kvs k)))) ∧ (dC kvs k = none → Q z H3)
section
variable {X : Cx} {o e f : Expr} {apos cpos : Pos} {td ty tx : TE}
theorem vI (hu : X.A.units + 1 < cLine) (ho : PE X o td) (he : PE X e ty) (m : M1 X o "get" apos e cpos) : PE X (.Call (.Attribute o "get" apos) [e] [] cpos) (uU td ty) := by
  intro pins s σ H Q I h
  refine wpAny_Call_method m.base m.AA m.line PySem.F.plainAttrs_dict PySem.F.slot_dict_get PySem.F.type_dict_get (bU (ho pins s σ H _ I h) fun u s1 hpat => ?_)
  obtain ⟨x, H1, I1, rx, a, ex, d, q1⟩ := hpat
  subst ex
  obtain rfl : u = Value.ref a := rx
  obtain ⟨t1, t2, _⟩ := uR I1 d
  refine ⟨t1, t2, ?_⟩
  rw [m.trees]
  refine Calls.callWith_builtin rfl (Calls.evalArgs_plain (Calls.spliced_cons (bU (he pins s1 σ H1 _ I1 q1) fun iv s2 ⟨y, H2, I2, ry, ov, g, q2⟩ => Calls.spliced_nil ?_)))
  exact zt hu I2 g ry fun w' s3 I3 rw' => ⟨_, H2, I3, rw', q2⟩
theorem we (hu : X.A.units + 1 < cLine) (ho : PE X o td) (he : PE X e ty) (hf : PE X f tx) (m : M2 X o "get" apos e f cpos) : PE X (.Call (.Attribute o "get" apos) [e, f] [] cpos) (u3 td ty tx) := by
  intro pins s σ H Q I h
  refine wpAny_Call_method m.base m.AA m.line PySem.F.plainAttrs_dict PySem.F.slot_dict_get PySem.F.type_dict_get (bU (ho pins s σ H _ I h) fun u s1 hpat => ?_)
  obtain ⟨x, H1, I1, rx, a, ex, d, q1⟩ := hpat
  subst ex
  obtain rfl : u = Value.ref a := rx
  obtain ⟨t1, t2, _⟩ := uR I1 d
  refine ⟨t1, t2, ?_⟩
  rw [m.trees]
  refine Calls.callWith_builtin rfl (Calls.evalArgs_plain (Calls.spliced_cons (bU (he pins s1 σ H1 _ I1 q1) fun iv s2 ⟨y, H2, I2, ry, q2⟩ =>
    Calls.spliced_cons (bU (hf pins s2 σ H2 _ I2 q2) fun fv s3 ⟨z, H3, I3, rz, ov, g, q3⟩ => Calls.spliced_nil ?_))))
  exact zm hu I3 g ry rz fun w' s4 I4 rw' => ⟨_, H3, I4, rw', q3⟩
end
section
variable {X : Cx} {pins : List (Addr × Obj)} {σ : St} {H : Hp} {s : Shared} {a : Addr} {kvs : List (Key × V)} {A : Around} {E : Value → Shared → Prop}
end
section
variable {X : Cx} {pins : List (Addr × Obj)} {σ : St} {H : Hp} {s : Shared} {a : Addr} {y : V} {u : Value} {A : Around} {E : Value → Shared → Prop}
end
end L2
namespace L2
open PySem PySem.Spec PyProof.Rows
theorem zT : bootBuiltins "any" = some (.builtin "any") := by decide +kernel
section
variable {X : Cx} {y m : Str} {N' : List Str} {scope : Scope} {cl : List (Str × Addr)} {fp : List Addr} {s3 : Shared} {H3 : Hp} {C D : Addr} {sp : Sp}
theorem tE.lg (B : tE X y sp) (h : scope.names.lookup y = some .globalImplicit) : zf (cz X N' scope cl fp s3 H3 C) y sp := ⟨B.ex, gf (by decide) h, B.db⟩
end
def wC (zs xs : List V) : Bool := (List.range (min zs.length xs.length)).all (fun i => ou (zs.getD i .non) (xs.getD i .non)) && zs.length == xs.length
def AW (H : Hp) (xs : List V) (v : V) : Bool := match v with
  | .ref c => match H c with
    | some (.tup zs) => wC zs xs
    | _ => false
  | _ => false
theorem vh {x : V} (f : bK x = true) : ou x x = true := by
  cases x with
  | non => rfl
  | bl b => exact beq_self_eq_true b
  | int i => exact beq_self_eq_true i
  | str z => exact beq_self_eq_true z
  | _ => exact absurd (show false = true from f) Bool.false_ne_true
theorem tj {xs : List V} (f : xs.all bK = true) (i : Nat) : bK (xs.getD i .non) = true := by
  rw [List.getD_eq_getElem?_getD]
  cases h : xs[i]? with
  | none => rfl
  | some v => exact List.all_eq_true.mp f v (List.mem_of_getElem? h)
theorem u5 {xs : List V} (f : xs.all bK = true) : wC xs xs = true := by
  unfold wC
  rw [beq_self_eq_true, Bool.and_true, List.all_eq_true]
  exact fun i _ => vh (tj f i)
inductive AS (K : PySem.W.Frag) (x y : V) (H : Hp) (Q : VK) : Prop
  | mk (a b : Addr) (xs ys : List V) (hx : x = .ref a) (hy : y = .ref b) (s : H a = some (.tup xs)) (t : aJ K H b ys) (f : xs.all bK = true) (g : ∀ v ∈ ys, ∃ c zs, v = .ref c ∧ H c = some (.tup zs) ∧ zs.all bK = true) (q : Q (.bl (ys.any (AW H xs))) H)
def Bs (H : Hp) (xs : List V) (u : Value) : Bool := match u with
  | .ref c => AW H xs (.ref c)
  | _ => false
theorem sr {H : Hp} {xs : List V} : ∀ {ys : List V} {us : List Value}, Vals ys us → (∀ v ∈ ys, ∃ c zs, v = .ref c ∧ H c = some (.tup zs) ∧ zs.all bK = true) → us.any (Bs H xs) = ys.any (AW H xs)
  | _, _, .nil, _ => rfl
  | y :: _, u :: _, .cons r t, g => by
    obtain ⟨c, zs, rfl, _⟩ := g y (List.mem_cons_self ..)
    cases r
    rw [List.any_cons, List.any_cons, sr t fun v hv => g v (List.mem_cons_of_mem _ hv)]
    rfl
theorem oI : ∀ {ys : List V} {us : List Value} {u : Value}, Vals ys us → u ∈ us → ∃ y ∈ ys, RelV y u
  | _, _, _, .nil, h => by cases h
  | y :: _, _ :: _, u, .cons r t, h => by
    rcases List.mem_cons.mp h with rfl | h
    · exact ⟨y, List.mem_cons_self .., r⟩
    · obtain ⟨z, hz, q⟩ := oI t h
      exact ⟨z, List.mem_cons_of_mem _ hz, q⟩
theorem sN {X : Cx} {pins : List (Addr × Obj)} {σ : St} {H : Hp} {s : Shared} {A : Around} {c a : Addr} {zs xs : List V} (I : Inv X pins σ H s) (hu : A.units < cLine) (hc : H c = some (.tup zs)) (ha : H a = some (.tup xs)) (fz : zs.all bK = true) (fx : xs.all bK = true) : SeqAt.EqAt A s (.ref c) (.ref a) (wC zs xs) := by
  by_cases e : c = a
  · subst e
    rw [hc] at ha
    cases ha
    rw [u5 fx]
    exact SeqAt.EqAt.same _
  · obtain ⟨its, r, pl, _⟩ := I.tuple (aL.of (K := X.K) hc)
    obtain ⟨its2, r2, pl2, _⟩ := I.tuple (aL.of (K := X.K) ha)
    have m1 := r.length
    have m2 := r2.length
    have := SeqAt.RcAt.tuples (A := A) (e := fun i => ou (zs.getD i .non) (xs.getD i .non)) pl pl2 hu (fun j h1 h2 => by
      simp only [List.size_toArray] at h1 h2
      obtain ⟨x1, e1, r1⟩ := dj r h1
      obtain ⟨x2, e2, r2'⟩ := dj r2 h2
      simp only [List.getElem_toArray]
      rw [List.getD_eq_getElem?_getD, List.getD_eq_getElem?_getD, e1, e2]
      exact nX r1 r2' (List.all_eq_true.mp fz _ (List.mem_of_getElem? e1)) (List.all_eq_true.mp fx _ (List.mem_of_getElem? e2)))
    refine SeqAt.EqAt.of_refs e ?_
    simp only [List.size_toArray] at this
    rw [← m1, ← m2] at this
    exact this
theorem hU {X : Cx} (hu : X.A.units + 1 < cLine) : gQ X (compareOp .In) (fun x y H Q => AS X.K x y H Q) := by
  intro pins s σ H x y v u Q I rx ry h
  obtain ⟨a, b, xs, ys, rfl, rfl, ha, hb, fx, g, q⟩ := h
  cases rx
  cases ry
  obtain ⟨its, r, pl, _⟩ := I.list hb
  refine SeqAt.in_listAt (Bs H xs) pl.isList (fun w hw => ?_) ⟨.bl _, H, I, rfl, ?_⟩
  · obtain ⟨z, hz, rz⟩ := oI r (by simpa using hw)
    obtain ⟨c, zs, rfl, hc, fz⟩ := g z hz
    cases rz
    have e : Bs H xs (.ref c) = wC zs xs := by
      show (match H c with | some (.tup zs) => wC zs xs | _ => false) = _
      rw [hc]
    rw [e]
    exact sN I hu hc ha fz fx
  · rw [show its.toArray.any (Bs H xs) = its.any (Bs H xs) by simp, sr r g]
    exact q
end L2
namespace J
open PySem PySem.Spec PyProof.Rows
open L2 (Cx V Hp St VK TE TT TA TS TG mQ TI TO aJ aL)
section
variable {X : Cx} {N' : List Str} {scope : Scope} {cl : List (Str × Addr)} {fp : List Addr} {s3 : Shared} {H3 : Hp} {C : Addr} {o i e value : Expr} {es : List Expr} {pos pos' : Pos} {td ty tv : TE}
theorem i6 : JX (L2.cz X N' scope cl fp s3 H3 C) (L2.xP X.K) := ⟨L2.aX⟩
theorem dr : JX (L2.cz X N' scope cl fp s3 H3 C) (L2.xX X.K) := ⟨L2.aD⟩
theorem xh {k n : Nat} {u : mQ} (hc : X.calm = true) (h : AX (L2.cz X N' scope cl fp s3 H3 C) es u) (hn : (assignEach es (L2.cz X N' scope cl fp s3 H3 C).env).length = n := by rfl) (hst : (assignEach es (L2.cz X N' scope cl fp s3 H3 C).env).findIdx? (·.1) = none := by rfl) :
    JG (L2.cz X N' scope cl fp s3 H3 C) (.Tuple es k pos) (L2.zU X.K n u) := ⟨L2.dX (X := L2.cz X N' scope cl fp s3 H3 C) hc h.out hn hst⟩
theorem hU (hu : X.A.units + 1 < cLine) : JC X .In (fun x y H Q => L2.AS X.K x y H Q) := ⟨L2.hU hu⟩
theorem sL (hu : X.A.units + 1 < cLine) (ho : JE X o td) (hi : JE X i ty) (hs : cX i) : JE X (.Subscript o i pos) (L2.yP td ty) := ⟨L2.xY hu ho.out hi.out (fun ov iv => hs.out ov iv)⟩
theorem ve (hu : X.A.units + 1 < cLine) (hi : JE X i ty) (ho : JE X o td) (hm : behindInMarks .In o = false := by rfl) : JT X (.Compare i [.In] [o] pos) (L2.tB (L2.xT ty td)) := ⟨L2.vY (L2.vO hu hi.out ho.out) hm⟩
theorem mD (hu : X.A.units + 1 < cLine) (hi : JE X i ty) (ho : JE X o td) (hm : behindInMarks .NotIn o = false := by rfl) : JT X (.Compare i [.NotIn] [o] pos) (L2.tB (L2.rE ty td)) := ⟨L2.vY (L2.tL hu hi.out ho.out) hm⟩
theorem dput (hu : X.A.units + 1 < cLine) (ho : JE X o td) (hi : JE X i ty) (hv : JE X value tv) (h : L2.iq value = false := by rfl) : JS X (.Assign [.Subscript o i pos'] value pos) (L2.yH td ty tv) := ⟨L2.xC hu ho.out hi.out hv.out (L2.iA h)⟩
end
end J
namespace L2
open PySem PySem.Spec PyProof.Rows
section
variable {X : Cx}
inductive yB (x y : V) (H : Hp) (Q : VK) : Prop
  | mk (a b : Addr) (xs ys : List V) (hx : x = .ref a) (hy : y = .ref b) (s : H a = some (.tup xs)) (t : H b = some (.tup ys)) (f : xs.all bK = true) (g : ys.all bK = true) (q : Q (.bl (wC xs ys)) H)
theorem oo (hu : X.A.units + 1 < cLine) : gQ X (compareOp .Eq) (fun x y H Q => yB x y H Q) := by
  intro pins s σ H x y v u Q I rx ry h
  obtain ⟨a, b, xs, ys, rfl, rfl, ha, hb, fx, fy, q⟩ := h
  cases rx
  cases ry
  obtain ⟨its, r, pl, _⟩ := I.tuple (aL.of (K := X.K) ha)
  obtain ⟨its2, r2, pl2, _⟩ := I.tuple (aL.of (K := X.K) hb)
  have m1 := r.length
  have m2 := r2.length
  refine SeqAt.eq_tupleAt (e := fun i => ou (xs.getD i .non) (ys.getD i .non)) pl pl2 (by omega) (fun j h1 h2 => ?_) ?_
  · simp only [List.size_toArray] at h1 h2
    obtain ⟨x1, e1, r1⟩ := dj r h1
    obtain ⟨x2, e2, r2'⟩ := dj r2 h2
    simp only [List.getElem_toArray]
    rw [List.getD_eq_getElem?_getD, List.getD_eq_getElem?_getD, e1, e2]
    exact nX r1 r2' (List.all_eq_true.mp fx _ (List.mem_of_getElem? e1)) (List.all_eq_true.mp fy _ (List.mem_of_getElem? e2))
  · simp only [List.size_toArray]
    rw [← m1, ← m2]
    exact ⟨.bl _, H, I, rfl, q⟩
inductive yM (x y : V) (H : Hp) (Q : VK) : Prop
  | mk (z : Str) (n : Int) (hx : x = .str z) (hy : y = .int n) (n01 : n = 0 ∨ n = 1) (q : Q (.str (Txt.mul z n)) H)
theorem oj : gQ X (binaryOp .Mult) (fun x y H Q => yM x y H Q) := by
  intro pins s σ H x y v u Q I rx ry h
  obtain ⟨z, n, rfl, rfl, n01, q⟩ := h
  obtain ⟨t, rfl⟩ := rx
  obtain ⟨t', rfl⟩ := ry
  refine SB.mul ?_ fun tk k => ⟨.str _, H, I.tok k, ⟨_, rfl⟩, q⟩
  rcases n01 with rfl | rfl
  · exact ⟨by decide, fun h => absurd (by decide) h, fun h => absurd (by decide) h⟩
  · exact ⟨by decide, fun _ h => absurd h (by simp), fun _ h => absurd h (by simp)⟩
end
end L2
namespace J
open PySem PySem.Spec PyProof.Rows
open L2 (Cx V Hp St VK TE TT TA TS TG mQ TI TO)
section
variable {X : Cx} {o e f c : Expr} {body : List Stmt} {apos cpos pos : Pos} {td ty tx : TE} {tc : TT} {tb : TS}
theorem oo (hu : X.A.units + 1 < cLine) : JC X .Eq (fun x y H Q => L2.yB x y H Q) := ⟨L2.oo hu⟩
theorem oj : JB X .Mult (fun x y H Q => L2.yM x y H Q) := ⟨L2.oj⟩
theorem AF {env : Env} (h1 : L2.notStar e = true) (h2 : L2.notStar f = true) : backTo cpos (starEach [e, f] env) = [(false, eval e env), (false, eval f env)] := by
  rw [L2.bq h1, L2.bq h2]
  rfl
theorem Dj (hu : X.A.units + 1 < cLine) (ho : JE X o td) (he : JE X e ty) (h : kP o = true := by rfl) (h1 : L2.notStar e = true := by rfl) (hline : (apos.endLine == cpos.line) = true := by rfl) : JE X (.Call (.Attribute o "get" apos) [e] [] cpos) (L2.uU td ty) :=
  ⟨L2.vI hu ho.out he.out ⟨ff h, AA h1, hline, by rw [L2.bq h1]; rfl⟩⟩
theorem CH (hp : PassesOwn (model X.prog X.w) X.A X.env X.xe) (hc : JT X c tc) (hb : ro X body tb) : JS X (.While c body [] pos) (L2.uW tc tb) := ⟨L2.wk hp hc.out hb.out⟩
end
end J
namespace L2
open PySem PySem.Spec PyProof.Rows
section
variable {X : Cx}
theorem mO : ∀ {us : List Value} {zs : List Str}, StrsAre us zs → Vals (zs.map V.str) us
  | _, _, .nil => .nil
  | _, _, .cons _ _ r => .cons ⟨_, rfl⟩ (mO r)
inductive AZ (K : PySem.W.Frag) (xs : List V) (H : Hp) (Q : VK) : Prop
  | mk (p : Addr) (zs : List Str) (e : xs = [.ref p]) (s : aJ K H p (zs.map V.str)) (l : zs.length < 64) (q : ∀ l zs', H l = none → zs'.Perm zs → sortedS zs' = true → Q (.ref l) (upd H l (.lst (zs'.map V.str))))
theorem eJ : dY X (.builtin "sorted") (fun xs H Q => AZ X.K xs H Q) := by
  intro pins s σ H xs us Q I r h
  obtain ⟨p, zs, rfl, hq, l64, q⟩ := h
  obtain ⟨u, rfl, rx⟩ := vals1 r
  cases rx
  obtain ⟨its, rv, pl, hz⟩ := I.list hq
  have hl := rv.length
  rw [List.length_map] at hl hz
  refine sorted_strs pl.isList (kT rv) (by omega) fun out ss' a1 a2 a3 => ?_
  obtain ⟨e, he⟩ := sortedAll_at s.heap its out
  refine ⟨.ref _, _, I.laid (t' := s.toks) (fun b o hb => sortedAll_old hb) (Nat.le_succ _) (show bW X.prog X.w _ _ _ (.lst (ss'.map V.str)) from ⟨by rw [List.length_map, a2.length_eq]; exact hz, out.toList, e, mO a1, he⟩), rfl, q _ _ (I.hok.fresh (Nat.le_succ _)) a2 a3⟩
theorem uc {a b : List Nat} (h1 : ltCps a b = false) (h2 : ltCps b a = false) : a = b := by
  rw [ltCps_eq, decide_eq_false_iff_not] at h1 h2
  exact List.le_antisymm (List.not_lt.mp h2) (List.not_lt.mp h1)
theorem le_trans' {a b c : List Nat} (h1 : ltCps b a = false) (h2 : ltCps c b = false) : ltCps c a = false := by
  rw [ltCps_eq, decide_eq_false_iff_not] at *
  exact List.not_lt.mpr (List.le_trans (List.not_lt.mp h1) (List.not_lt.mp h2))
theorem ip : ∀ {l : List Str} {p : Str}, risingS p l = true → ∀ y ∈ l, ltCps y.cps.toList p.cps.toList = false
  | x :: r, p, h, y, hy => by
    have h' : (!ltCps x.cps.toList p.cps.toList && risingS x r) = true := h
    rw [Bool.and_eq_true, Bool.not_eq_true'] at h'
    rcases List.mem_cons.mp hy with rfl | hy
    · exact h'.1
    · exact le_trans' h'.1 (ip h'.2 y hy)
theorem jI {x : Str} {r : List Str} (h : sortedS (x :: r) = true) : sortedS r = true := by
  cases r with
  | nil => rfl
  | cons y t =>
    have h' : (!ltCps y.cps.toList x.cps.toList && risingS y t) = true := h
    rw [Bool.and_eq_true] at h'
    exact h'.2
theorem xV {a b : Str} (h : a.cps.toList = b.cps.toList) : a = b := by
  obtain ⟨x⟩ := a
  obtain ⟨y⟩ := b
  have h' : x.toList = y.toList := h
  rw [Array.toList_inj.mp h']
theorem lJ : ∀ {l m : List Str}, l.Perm m → sortedS l = true → sortedS m = true → l = m
  | [], m, p, _, _ => (List.nil_perm.mp p).symm ▸ rfl
  | x :: r, m, p, h1, h2 => by
    cases m with
    | nil => exact absurd (List.perm_nil.mp p) (by simp)
    | cons y t =>
      have e : x = y := by
        have mx : x ∈ y :: t := p.mem_iff.mp List.mem_cons_self
        have my : y ∈ x :: r := p.mem_iff.mpr List.mem_cons_self
        rcases List.mem_cons.mp mx with e | mx
        · exact e
        · rcases List.mem_cons.mp my with e | my
          · exact e.symm
          · exact xV (uc (ip h2 x mx) (ip h1 y my))
      subst e
      rw [lJ (List.perm_cons x |>.mp p) (jI h1) (jI h2)]
inductive Ex (K : PySem.W.Frag) (x y : V) (H : Hp) (Q : VK) : Prop
  | same (a b : Addr) (xs ys : List V) (bs : List Bool) (hx : x = .ref a) (hy : y = .ref b) (s : aJ K H a xs) (t : aJ K H b ys) (l1 : xs.length = bs.length) (l2 : ys.length = bs.length) (e : ∀ (i : Nat) u v c, xs[i]? = some u → ys[i]? = some v → bs[i]? = some c → jN u v = some c) (q : Q (.bl (!(Cj bs))) H)
  | other (a b : Addr) (xs ys : List V) (hx : x = .ref a) (hy : y = .ref b) (s : aJ K H a xs) (t : aJ K H b ys) (n : xs.length ≠ ys.length) (q : Q (.bl true) H)
end
section
variable {prog : Program} {w : World} {A : Around} {E : Value → Shared → Prop} {s : Shared}
end
section
variable {prog : Program} {w : World} {A : Around} {R : Result → Shared → Prop} {I : Addr} {fp wr : List Addr} {G : Array GenState → Array GenState → Prop} {n : Nat} {P : Nat → Value → Prop} {St : Nat → Shared → Prop}
end
section
variable {prog : Program} {w : World} {A : Around} {E : Value → Shared → Prop} {s : Shared}
end
section
variable {X : Cx}
inductive EC (K : PySem.W.Frag) (vs : List V) (H : Hp) (Q : VK) : Prop
  | mk (p : Addr) (xs : List V) (kvs : List (Key × V)) (e : vs = [.ref p]) (s : aJ K H p xs) (l : xs.length = kvs.length) (t : ∀ (i : Nat) x kv, xs[i]? = some x → kvs[i]? = some kv → ∃ a, x = .ref a ∧ H a = some (.tup [kV kv.1, kv.2])) (q : ∀ d, H d = none → Q (.ref d) (upd H d (.dK (u4 [] kvs))))
end
section
variable {prog : Program} {w : World} {A : Around} {E : Value → Shared → Prop} {s : Shared}
end
section
variable {X : Cx}
inductive AN (K : PySem.W.Frag) (vs : List V) (H : Hp) (Q : VK) : Prop
  | mk (p : Addr) (xs : List V) (e : vs = [.ref p]) (s : aJ K H p xs) (q : ∀ l, H l = none → Q (.ref l) (upd H l (.lst xs.reverse)))
def DA (K : PySem.W.Frag) (ta : TA) : TE := fun σ H Q => ta σ H fun vs H1 => AN K vs H1 Q
theorem jm : bootBuiltins "sorted" = some (.builtin "sorted") := by decide +kernel
theorem wm : bootBuiltins "sum" = some (.builtin "sum") := by decide +kernel
end
end L2
namespace J
open PySem PySem.Spec PyProof.Rows
open L2 (Cx V aJ aL)
theorem eJ {X : Cx} : JF X (.builtin "sorted") (fun xs H Q => L2.AZ X.K xs H Q) := ⟨L2.eJ⟩
end J
namespace L2
open PySem PySem.Spec PyProof.Rows
section
variable {X : Cx}
inductive Ep (K : PySem.W.Frag) (x y : V) (H : Hp) (Q : VK) : Prop
  | same (a b : Addr) (xs ys : List V) (bs : List Bool) (hx : x = .ref a) (hy : y = .ref b) (s : aJ K H a xs) (t : aJ K H b ys) (l1 : xs.length = bs.length) (l2 : ys.length = bs.length) (e : ∀ (i : Nat) u v c, xs[i]? = some u → ys[i]? = some v → bs[i]? = some c → jN u v = some c) (q : Q (.bl (Cj bs)) H)
  | other (a b : Addr) (xs ys : List V) (hx : x = .ref a) (hy : y = .ref b) (s : aJ K H a xs) (t : aJ K H b ys) (n : xs.length ≠ ys.length) (q : Q (.bl false) H)
inductive DE (K : PySem.W.Frag) (x y : V) (H : Hp) (Q : VK) : Prop
  | mk (a b : Addr) (xs ys : List V) (hx : x = .ref a) (hy : y = .ref b) (s : H a = some (.tup xs)) (t : aJ K H b ys) (f : xs.all bK = true) (g : ∀ v ∈ ys, ∃ c zs, v = .ref c ∧ H c = some (.tup zs) ∧ zs.all bK = true) (q : Q (.bl (!(ys.any (AW H xs)))) H)
inductive As (K : PySem.W.Frag) (x : V) (st : Option Int) (H : Hp) (Q : VK) : Prop
  | mk (a : Addr) (xs : List V) (hx : x = .ref a) (hst : st = some (-1)) (s : aJ K H a xs) (q : ∀ p ys, H p = none → ys.length ≤ xs.length → (∀ v ∈ ys, v ∈ xs) → Q (.ref p) (upd H p (.lst ys)))
def Cy (K : PySem.W.Frag) (te : TE) (ts : TO) : TE := fun σ H Q => te σ H fun x H1 => ts σ H1 fun st H2 => As K x st H2 Q
theorem rf {e d : Expr} {ty td : TE} {pos : Pos} (hu : X.A.units + 1 < cLine) (hi : PE X e ty) (ho : PE X d td) (hm : behindInMarks .In d = false := by rfl) : PE X (.Compare e [.In] [d] pos) (xT ty td) := Af (vO hu hi ho) hm
end
section
variable {prog : Program} {w : World} {A : Around} {R : Result → Shared → Prop} {I : Addr} {fp wr : List Addr} {G : Array GenState → Array GenState → Prop} {n : Nat} {P : Nat → Value → Prop} {St : Nat → Shared → Prop}
def Cb (xs ps : List (List Key × Addr × Value)) : List (List Key × Addr × Value) := ps.foldl (fun acc q => storedH acc q.1 q.2.1 q.2.2) xs
end
section
variable {prog : Program} {w : World} {A : Around} {E : Value → Shared → Prop} {s : Shared}
end
def z0 (kvs more : List (List Key × V)) : List (List Key × V) := more.foldl (fun acc kv => putK acc kv.1 kv.2) kvs
section
variable {X : Cx}
inductive DS (K : PySem.W.Frag) (vs : List V) (H : Hp) (Q : VK) : Prop
  | mk (p : Addr) (xs : List V) (kvs : List (List Key × V)) (e : vs = [.ref p]) (s : aJ K H p xs) (l : xs.length = kvs.length) (t : ∀ (i : Nat) x kv, xs[i]? = some x → kvs[i]? = some kv → ∃ a b, x = .ref a ∧ H a = some (.tup [.ref b, kv.2]) ∧ H b = some (.tup (kv.1.map kV))) (q : ∀ d, H d = none → Q (.ref d) (upd H d (.dT (z0 [] kvs))))
theorem q9 {A : Around} {k : Nat} (hr : cy k A) : A.units + 2 < cLine := by
  have := hr.un
  omega
end
end L2
namespace J
open PySem PySem.Spec PyProof.Rows
open L2 (Cx V Hp St VK TE TT TA TS TG mQ TI TO aJ aL)
section
variable {X : Cx} {e d st : Expr} {ty td te : TE} {ts : TO} {pos p2 : Pos}
theorem BQ {o f : Expr} {apos cpos : Pos} {tx : TE} (hu : X.A.units + 1 < cLine) (ho : JE X o td) (he : JE X e ty) (hf : JE X f tx) (h : kP o = true := by rfl) (h1 : L2.notStar e = true := by rfl) (h2 : L2.notStar f = true := by rfl) (hline : (apos.endLine == cpos.line) = true := by rfl) : JE X (.Call (.Attribute o "get" apos) [e, f] [] cpos) (L2.u3 td ty tx) :=
  ⟨L2.we hu ho.out he.out hf.out ⟨ff h, by rw [AF h1 h2]; rfl, hline, AF h1 h2⟩⟩
theorem rf (hu : X.A.units + 1 < cLine) (hi : JE X e ty) (ho : JE X d td) (hm : behindInMarks .In d = false := by rfl) : JE X (.Compare e [.In] [d] pos) (L2.xT ty td) := ⟨L2.rf hu hi.out ho.out hm⟩
end
end J
namespace TS
open PySem PyProof.Rows
def kr : Bool → Keyed → Array Keyed → Nat → Nat → Nat → StateT SortSt Sem (Option Nat) := sortPriv% PySem.Builtin.gallop
def key (κ : KeyKind) (p : Keyed) : κ.α := (κ.keyOf p.1).getD κ.dflt
def fQ (κ : KeyKind) (p : Keyed) : Prop := ∃ a, κ.keyOf p.1 = some a
def i0 (prog : Program) (w : World) (A : Around) (E : Value → Shared → Prop) (s : Shared) (κ : KeyKind) (kd : SortKind) : Prop :=
  ∀ (x y : Keyed) (st : SortSt) (Q : Option Bool → SortSt → Prop), kindOf st = kd → fQ κ x → fQ κ y → Q (some (κ.blt (key κ x) (key κ y))) st → wpS (model prog w) A E s (lt' x y) Q st
section
variable {prog : Program} {w : World} {A : Around} {E : Value → Shared → Prop} {s : Shared} {κ : KeyKind} {kd : SortKind}
theorem aY {arr : Array Keyed} {i : Nat} {x : Keyed} {st : SortSt} {Q : Keyed → SortSt → Prop} (h : arr[i]? = some x) (q : Q x st) : wpS (model prog w) A E s (elem' arr i) Q st := by
  rw [elem'_eq, h]
  exact wpS_pure q
def Aq (κ : KeyKind) (left : Bool) (k x : Keyed) : Bool := if left then κ.blt (key κ x) (key κ k) else !(κ.blt (key κ k) (key κ x))
theorem yh (hL : i0 prog w A E s κ kd) {left : Bool} {k x : Keyed} {arr : Array Keyed} {i : Nat} {st : SortSt} {Q : Option Bool → SortSt → Prop} (hk : kindOf st = kd) (kk : fQ κ k) (hx : arr[i]? = some x) (kx : fQ κ x) (q : Q (some (Aq κ left k x)) st) :
    wpS (model prog w) A E s (elem' arr i >>= fun x => if left = true then lt' x k else lt' k x >>= fun r => pure (Option.map (fun y => !y) r)) Q st := by
  refine wpS_bind (aY hx ?_)
  cases left with
  | true =>
    rw [if_pos rfl]
    exact hL x k st Q hk kx kk q
  | false =>
    rw [if_neg Bool.false_ne_true]
    exact wpS_bind (hL k x st _ hk kk kx (wpS_pure q))
theorem qF (hL : i0 prog w A E s κ kd) {left : Bool} {k : Keyed} {arr : Array Keyed} {base n hint : Nat} {st : SortSt} {Q : Option Nat → SortSt → Prop} (hk : kindOf st = kd) (kk : fQ κ k) (f : Nat → Bool) (hf : ∀ i, i < n → ∃ x, arr[base + i]? = some x ∧ fQ κ x ∧ Aq κ left k x = f i) (mono : ∀ i j, i ≤ j → j < n → f j = true → f i = true) (hh : hint < n)
    (q : ∀ m, m ≤ n → (∀ i, i < m → f i = true) → (∀ i, m ≤ i → i < n → f i = false) → Q (some m) st) : wpS (model prog w) A E s (kr left k arr base n hint) Q st := by
  have beyond : ∀ {i : Nat} {R : Option Bool → SortSt → Prop}, i < n → R (some (f i)) st → wpS (model prog w) A E s (elem' arr (base + i) >>= fun x => if left = true then lt' x k else lt' k x >>= fun r => pure (Option.map (fun y => !y) r)) R st := fun {i R} hi hR => by
    obtain ⟨x, hx, kx, e⟩ := hf i hi
    exact yh hL hk kk hx kx (e ▸ hR)
  have up : ∀ i j, i ≤ j → j < n → f i = false → f j = false := fun i j h1 h2 h3 => by
    cases h : f j with
    | false => rfl
    | true => rw [mono i j h1 h2 h] at h3; cases h3
  refine wpS_bind (beyond hh ?_)
  dsimp only
  by_cases hr : f hint = true
  · rw [if_pos hr]
    refine wpS_bind (wpS_mono (wpS_forRange (I := fun x c st' => st' = st ∧ ∃ la o, c = (none, la, o) ∧ la < o ∧ x + 1 ≤ o ∧ hint + la < n ∧ f (hint + la) = true)
      (Q := fun c st' => st' = st ∧ ∃ la o, c = (none, la, o) ∧ la < o ∧ hint + la < n ∧ f (hint + la) = true ∧ (n - hint ≤ o ∨ (hint + o < n ∧ f (hint + o) = false))) ?step ?fin ⟨rfl, 0, 1, rfl, by omega, by omega, by omega, hr⟩) ?post)
    case step =>
      rintro x c st' _ hx ⟨rfl, la, o, rfl, h1, h2, h3, h4⟩
      dsimp only
      by_cases c1 : o ≥ n - hint
      · rw [if_pos c1]
        exact wpS_pure ⟨rfl, la, o, rfl, h1, h3, h4, .inl c1⟩
      · rw [if_neg c1]
        refine wpS_bind (beyond (by omega) ?_)
        dsimp only
        cases hm : f (hint + o) with
        | false => exact wpS_pure ⟨rfl, la, o, rfl, h1, h3, h4, .inr ⟨by omega, hm⟩⟩
        | true => exact wpS_pure ⟨rfl, o, 2 * o + 1, rfl, by omega, by omega, by omega, hm⟩
    case fin =>
      rintro c st' ⟨rfl, la, o, rfl, h1, h2, h3, h4⟩
      exact ⟨rfl, la, o, rfl, h1, h3, h4, .inl (by omega)⟩
    case post =>
      rintro c st' ⟨e0, la, o, rfl, h1, h3, h4, h5⟩
      rw [e0]; clear e0 st'
      dsimp only
      have d : ∀ i, hint + min o (n - hint) ≤ i → i < n → f i = false := fun i i1 i2 => by
        rcases h5 with h5 | ⟨h5, h6⟩
        · omega
        · exact up _ i (by omega) i2 h6
      refine wpS_bind (wpS_mono (wpS_forRange (I := fun x c st'' => st'' = st ∧ ∃ lo hi, c = (none, lo, hi) ∧ lo ≤ hi ∧ hi ≤ n ∧ hi - lo ≤ n - x ∧ (∀ i, i < lo → f i = true) ∧ (∀ i, hi ≤ i → i < n → f i = false))
        (Q := fun c st'' => st'' = st ∧ ∃ hi, c = (none, hi, hi) ∧ hi ≤ n ∧ (∀ i, i < hi → f i = true) ∧ (∀ i, hi ≤ i → i < n → f i = false)) ?sstep ?sfin ⟨rfl, _, _, rfl, (by omega), (by omega), by omega, (fun i hi => mono i _ (by omega) h3 h4), d⟩) ?spost)
      case sstep =>
        rintro x c st'' _ hx ⟨rfl, lo, hi, rfl, g1, g2, g3, g4, g5⟩
        dsimp only
        by_cases c1 : lo ≥ hi
        · rw [if_pos c1]
          have e : lo = hi := by omega
          subst e
          exact wpS_pure ⟨rfl, lo, rfl, g2, g4, g5⟩
        · rw [if_neg c1]
          refine wpS_bind (beyond (by omega) ?_)
          dsimp only
          cases hm : f (lo + (hi - lo) / 2) with
          | true => exact wpS_pure ⟨rfl, _, _, rfl, by omega, by omega, by omega, fun i hi' => mono i _ (by omega) (by omega) hm, g5⟩
          | false => exact wpS_pure ⟨rfl, _, _, rfl, by omega, by omega, by omega, g4, fun i h1 h2 => up _ i h1 h2 hm⟩
      case sfin =>
        rintro c st'' ⟨rfl, lo, hi, rfl, g1, g2, g3, g4, g5⟩
        have e : lo = hi := by omega
        subst e
        exact ⟨rfl, lo, rfl, g2, g4, g5⟩
      case spost =>
        rintro c st'' ⟨rfl, hi, rfl, g2, g4, g5⟩
        exact wpS_pure (q hi g2 g4 g5)
  · rw [if_neg hr]
    have hr' : f hint = false := eq_false_of_ne_true hr
    refine wpS_bind (wpS_mono (wpS_forRange (I := fun x c st' => st' = st ∧ ∃ la o, c = (none, la, o) ∧ la < o ∧ x + 1 ≤ o ∧ la ≤ hint ∧ f (hint - la) = false)
      (Q := fun c st' => st' = st ∧ ∃ la o, c = (none, la, o) ∧ la < o ∧ la ≤ hint ∧ f (hint - la) = false ∧ (hint + 1 ≤ o ∨ (o ≤ hint ∧ f (hint - o) = true))) ?step ?fin ⟨rfl, 0, 1, rfl, by omega, by omega, by omega, hr'⟩) ?post)
    case step =>
      rintro x c st' _ hx ⟨rfl, la, o, rfl, h1, h2, h3, h4⟩
      dsimp only
      by_cases c1 : o ≥ hint + 1
      · rw [if_pos c1]
        exact wpS_pure ⟨rfl, la, o, rfl, h1, h3, h4, .inl c1⟩
      · rw [if_neg c1]
        refine wpS_bind (beyond (by omega) ?_)
        dsimp only
        cases hm : f (hint - o) with
        | true => exact wpS_pure ⟨rfl, la, o, rfl, h1, h3, h4, .inr ⟨by omega, hm⟩⟩
        | false => exact wpS_pure ⟨rfl, o, 2 * o + 1, rfl, by omega, by omega, by omega, hm⟩
    case fin =>
      rintro c st' ⟨rfl, la, o, rfl, h1, h2, h3, h4⟩
      exact ⟨rfl, la, o, rfl, h1, h3, h4, .inl (by omega)⟩
    case post =>
      rintro c st' ⟨e0, la, o, rfl, h1, h3, h4, h5⟩
      rw [e0]; clear e0 st'
      dsimp only
      have d : ∀ i, i < hint + 1 - min o (hint + 1) → f i = true := fun i i1 => by
        rcases h5 with h5 | ⟨h5, h6⟩
        · omega
        · exact mono i _ (by omega) (by omega) h6
      refine wpS_bind (wpS_mono (wpS_forRange (I := fun x c st'' => st'' = st ∧ ∃ lo hi, c = (none, lo, hi) ∧ lo ≤ hi ∧ hi ≤ n ∧ hi - lo ≤ n - x ∧ (∀ i, i < lo → f i = true) ∧ (∀ i, hi ≤ i → i < n → f i = false))
        (Q := fun c st'' => st'' = st ∧ ∃ hi, c = (none, hi, hi) ∧ hi ≤ n ∧ (∀ i, i < hi → f i = true) ∧ (∀ i, hi ≤ i → i < n → f i = false)) ?sstep ?sfin ⟨rfl, _, _, rfl, (by omega), (by omega), by omega, d, (fun i i1 i2 => up _ i i1 i2 h4)⟩) ?spost)
      case sstep =>
        rintro x c st'' _ hx ⟨rfl, lo, hi, rfl, g1, g2, g3, g4, g5⟩
        dsimp only
        by_cases c1 : lo ≥ hi
        · rw [if_pos c1]
          have e : lo = hi := by omega
          subst e
          exact wpS_pure ⟨rfl, lo, rfl, g2, g4, g5⟩
        · rw [if_neg c1]
          refine wpS_bind (beyond (by omega) ?_)
          dsimp only
          cases hm : f (lo + (hi - lo) / 2) with
          | true => exact wpS_pure ⟨rfl, _, _, rfl, by omega, by omega, by omega, fun i hi' => mono i _ (by omega) (by omega) hm, g5⟩
          | false => exact wpS_pure ⟨rfl, _, _, rfl, by omega, by omega, by omega, g4, fun i h1 h2 => up _ i h1 h2 hm⟩
      case sfin =>
        rintro c st'' ⟨rfl, lo, hi, rfl, g1, g2, g3, g4, g5⟩
        have e : lo = hi := by omega
        subst e
        exact ⟨rfl, lo, rfl, g2, g4, g5⟩
      case spost =>
        rintro c st'' ⟨rfl, hi, rfl, g2, g4, g5⟩
        exact wpS_pure (q hi g2 g4 g5)
end
end TS
namespace TS
open PySem PyProof.Rows
variable {κ : KeyKind}
def bV (κ : KeyKind) (l : List Keyed) : Prop := l.Pairwise fun x y => κ.kle (key κ x) (key κ y)
def AR (κ : KeyKind) (v : κ.α) (p : Keyed) : Bool := !κ.blt (key κ p) v && !κ.blt v (key κ p)
def fk (κ : KeyKind) (v : κ.α) (l : List Keyed) : List Keyed := l.filter (AR κ v)
def Below (κ : KeyKind) (l m : List Keyed) : Prop := ∀ x ∈ l, ∀ y ∈ m, κ.kle (key κ x) (key κ y)
def Under (κ : KeyKind) (l m : List Keyed) : Prop := ∀ x ∈ l, ∀ y ∈ m, κ.klt (key κ x) (key κ y)
def aS (κ : KeyKind) (l m : List Keyed) : Prop := ∀ v, fk κ v l = fk κ v m
theorem Under.below {l m : List Keyed} (h : Under κ l m) : Below κ l m := fun x hx y hy => KeyOrd.kle_of_klt (h x hx y hy)
theorem gM (v : κ.α) (l m : List Keyed) : fk κ v (l ++ m) = fk κ v l ++ fk κ v m := List.filter_append ..
theorem oU (p : Keyed) : AR κ (key κ p) p = true := by
  unfold AR
  rw [κ.irrefl]
  rfl
theorem wF {v : κ.α} {p : Keyed} (h : AR κ v p = true) : key κ p = v := by
  unfold AR at h
  rw [Bool.and_eq_true, Bool.not_eq_true', Bool.not_eq_true'] at h
  exact κ.total _ _ h.1 h.2
theorem aS.refl (l : List Keyed) : aS κ l l := fun _ => rfl
theorem aS.trans {l m n : List Keyed} (h : aS κ l m) (h' : aS κ m n) : aS κ l n := fun v => (h v).trans (h' v)
theorem aS.append {l m l' m' : List Keyed} (h : aS κ l l') (h' : aS κ m m') : aS κ (l ++ m) (l' ++ m') := fun v => by
  rw [gM, gM, h v, h' v]
theorem aS.perm {l m : List Keyed} (h : aS κ l m) : l.Perm m := by
  classical
  refine List.perm_iff_count.mpr fun x => ?_
  have e := congrArg (List.count x) (h (key κ x))
  unfold fk at e
  rwa [List.count_filter (oU x), List.count_filter (oU x)] at e
theorem aS.mem {l m : List Keyed} (h : aS κ l m) {x : Keyed} : x ∈ l ↔ x ∈ m := h.perm.mem_iff
theorem aS.swap {l m : List Keyed} (h : Under κ l m) : aS κ (l ++ m) (m ++ l) := fun v => by
  rw [gM, gM]
  by_cases e : fk κ v l = []
  · rw [e, List.append_nil, List.nil_append]
  · obtain ⟨x, hx⟩ := List.exists_mem_of_ne_nil _ e
    obtain ⟨x1, x2⟩ := List.mem_filter.mp hx
    have e2 : fk κ v m = [] := List.eq_nil_iff_forall_not_mem.mpr fun y hy => by
      obtain ⟨y1, y2⟩ := List.mem_filter.mp hy
      have := h x x1 y y1
      rw [wF x2, wF y2] at this
      unfold KeyOrd.klt at this
      rw [κ.irrefl] at this
      cases this
    rw [e2, List.append_nil, List.nil_append]
theorem bV.append {l m : List Keyed} (h : bV κ l) (h' : bV κ m) (b : Below κ l m) : bV κ (l ++ m) := List.pairwise_append.mpr ⟨h, h', b⟩
theorem bV.left {l m : List Keyed} (h : bV κ (l ++ m)) : bV κ l := (List.pairwise_append.mp h).1
theorem bV.right {l m : List Keyed} (h : bV κ (l ++ m)) : bV κ m := (List.pairwise_append.mp h).2.1
theorem bV.mid {l m : List Keyed} (h : bV κ (l ++ m)) : Below κ l m := (List.pairwise_append.mp h).2.2
theorem bV.drop {l : List Keyed} (h : bV κ l) (i : Nat) : bV κ (l.drop i) := List.Pairwise.sublist (List.drop_sublist i l) h
theorem Below.append {l m n : List Keyed} (h : Below κ l n) (h' : Below κ m n) : Below κ (l ++ m) n := fun x hx => (List.mem_append.mp hx).elim (h x) (h' x)
theorem Below.left {l m n : List Keyed} (h : Below κ l (m ++ n)) : Below κ l m := fun x hx y hy => h x hx y (List.mem_append_left _ hy)
theorem Below.right {l m n : List Keyed} (h : Below κ l (m ++ n)) : Below κ l n := fun x hx y hy => h x hx y (List.mem_append_right _ hy)
theorem Below.nil {l : List Keyed} : Below κ l [] := fun _ _ _ h => by cases h
theorem kN (l : List Keyed) (i k : Nat) : l.drop i = (l.drop i).take k ++ l.drop (i + k) := by
  rw [← List.drop_drop, List.take_append_drop]
structure gT (κ : KeyKind) (al bl out : List Keyed) (ia ib : Nat) : Prop where
  so : bV κ out
  oa : Below κ out (al.drop ia)
  ob : Below κ out (bl.drop ib)
  st : aS κ (out ++ (al.drop ia ++ bl.drop ib)) (al ++ bl)
theorem gT.v7 {al bl out : List Keyed} {ia ib k : Nat} (sa : bV κ al) (h : gT κ al bl out ia ib) (b : Below κ ((al.drop ia).take k) (bl.drop ib)) : gT κ al bl (out ++ (al.drop ia).take k) (ia + k) ib := by
  have e := kN al ia k
  have s := sa.drop ia
  have oa := h.oa
  have st := h.st
  rw [e] at s oa st
  refine ⟨h.so.append s.left oa.left, oa.right.append s.mid, h.ob.append b, ?_⟩
  rw [List.append_assoc, ← List.append_assoc _ (al.drop (ia + k))]
  exact st
theorem gT.vS {al bl out : List Keyed} {ia ib k : Nat} (sb : bV κ bl) (h : gT κ al bl out ia ib) (b : Under κ ((bl.drop ib).take k) (al.drop ia)) : gT κ al bl (out ++ (bl.drop ib).take k) ia (ib + k) := by
  have e := kN bl ib k
  have s := sb.drop ib
  have ob := h.ob
  have st := h.st
  rw [e] at s ob st
  refine ⟨h.so.append s.left ob.left, h.oa.append b.below, ob.right.append s.mid, ?_⟩
  refine aS.trans ?_ st
  rw [List.append_assoc]
  refine (aS.refl _).append ?_
  rw [← List.append_assoc, ← List.append_assoc]
  exact (aS.swap b).append (aS.refl _)
theorem gT.done {al bl out : List Keyed} {ia ib : Nat} (sa : bV κ al) (sb : bV κ bl) (h : gT κ al bl out ia ib) (e : al.drop ia = [] ∨ bl.drop ib = []) : bV κ (out ++ al.drop ia ++ bl.drop ib) ∧ aS κ (out ++ al.drop ia ++ bl.drop ib) (al ++ bl) := by
  refine ⟨?_, by rw [List.append_assoc]; exact h.st⟩
  rcases e with e | e
  · rw [e, List.append_nil]
    exact h.so.append (sb.drop ib) h.ob
  · rw [e, List.append_nil]
    exact h.so.append (sa.drop ia) h.oa
theorem gT.last {al bl out : List Keyed} {ia ib : Nat} (sa : bV κ al) (sb : bV κ bl) (h : gT κ al bl out ia ib) (u : Under κ (bl.drop ib) (al.drop ia)) : bV κ (out ++ bl.drop ib ++ al.drop ia) ∧ aS κ (out ++ bl.drop ib ++ al.drop ia) (al ++ bl) := by
  refine ⟨(h.so.append (sb.drop ib) h.ob).append (sa.drop ia) (h.oa.append u.below), aS.trans ?_ h.st⟩
  rw [List.append_assoc]
  exact (aS.refl _).append (aS.swap u)
def vk : Array Keyed → Array Keyed → StateT SortSt Sem (Array Keyed) := sortPriv% PySem.Builtin.mergeLo
section
variable {prog : Program} {w : World} {A : Around} {E : Value → Shared → Prop} {s : Shared} {kd : SortKind}
structure Kept (st st' : SortSt) : Prop where
  kind : kindOf st' = kindOf st
  arr : arrOf st' = arrOf st
  pend : pendingOf st' = pendingOf st
  failed : failedOf st' = failedOf st
theorem Kept.refl (st : SortSt) : Kept st st := ⟨rfl, rfl, rfl, rfl⟩
theorem Kept.trans {a b c : SortSt} (h : Kept a b) (h' : Kept b c) : Kept a c := ⟨h'.kind.trans h.kind, h'.arr.trans h.arr, h'.pend.trans h.pend, h'.failed.trans h.failed⟩
def lT : Nat → StateT SortSt Sem Unit := sortPriv% PySem.Builtin.setMinGallop
theorem iJ {g : Nat} {st : SortSt} {Q : Unit → SortSt → Prop} (q : ∀ st', Kept st st' → Q () st') : wpS (model prog w) A E s (lT g) Q st := by
  exact wpS_modify (q _ ⟨rfl, rfl, rfl, rfl⟩)
theorem su {l : List Keyed} {b m : Nat} {x : Keyed} : x ∈ (l.drop b).take m ↔ ∃ i, i < m ∧ l[b + i]? = some x := by
  constructor
  · intro h
    obtain ⟨i, hi⟩ := List.getElem?_of_mem h
    have hl := (List.getElem?_eq_some_iff.mp hi).1
    rw [List.length_take] at hl
    rw [List.getElem?_take_of_lt (by omega), List.getElem?_drop] at hi
    exact ⟨i, by omega, hi⟩
  · rintro ⟨i, h1, h2⟩
    refine List.mem_of_getElem? (i := i) ?_
    rw [List.getElem?_take_of_lt h1, List.getElem?_drop]
    exact h2
theorem bV.at {l : List Keyed} {b n i j : Nat} {x y : Keyed} (h : bV κ ((l.drop b).take n)) (ij : i ≤ j) (jn : j < n) (hx : l[b + i]? = some x) (hy : l[b + j]? = some y) : κ.kle (key κ x) (key κ y) := by
  by_cases e : i = j
  · subst e
    rw [hx] at hy
    cases hy
    exact KeyOrd.kle_refl _
  · have h1 : ((l.drop b).take n)[i]? = some x := by rw [List.getElem?_take_of_lt (by omega), List.getElem?_drop]; exact hx
    have h2 : ((l.drop b).take n)[j]? = some y := by rw [List.getElem?_take_of_lt jn, List.getElem?_drop]; exact hy
    obtain ⟨i1, e1⟩ := List.getElem?_eq_some_iff.mp h1
    obtain ⟨j1, e2⟩ := List.getElem?_eq_some_iff.mp h2
    have := List.pairwise_iff_getElem.mp h i j i1 j1 (by omega)
    rwa [e1, e2] at this
theorem sj (hL : i0 prog w A E s κ kd) {left : Bool} {k : Keyed} {arr : Array Keyed} {base n hint : Nat} {st : SortSt} {Q : Option Nat → SortSt → Prop} (hk : kindOf st = kd) (kk : fQ κ k) (ks : ∀ x ∈ arr.toList, fQ κ x) (sz : base + n ≤ arr.size) (ss : bV κ ((arr.toList.drop base).take n)) (hh : hint < n)
    (q : ∀ m, m ≤ n → (∀ x ∈ (arr.toList.drop base).take m, Aq κ left k x = true) → (∀ x ∈ (arr.toList.drop (base + m)).take (n - m), Aq κ left k x = false) → Q (some m) st) : wpS (model prog w) A E s (kr left k arr base n hint) Q st := by
  have ex : ∀ i, i < n → ∃ x, arr.toList[base + i]? = some x ∧ fQ κ x := fun i hi => by
    have : base + i < arr.toList.length := by rw [Array.length_toList]; omega
    exact ⟨_, List.getElem?_eq_getElem this, ks _ (List.getElem_mem this)⟩
  refine qF hL hk kk (fun i => match arr.toList[base + i]? with | some x => Aq κ left k x | none => false) (fun i hi => ?_) (fun i j ij jn hj => ?_) hh fun m hm m1 m2 => q m hm (fun x hx => ?_) (fun x hx => ?_)
  · obtain ⟨x, hx, kx⟩ := ex i hi
    exact ⟨x, by rw [← hx, Array.getElem?_toList], kx, by rw [hx]⟩
  · obtain ⟨x, hx, kx⟩ := ex i (by omega)
    obtain ⟨y, hy, ky⟩ := ex j jn
    have le := ss.at ij jn hx hy
    rw [hy] at hj
    rw [hx]
    dsimp only at hj ⊢
    cases left with
    | true => exact KeyOrd.klt_of_kle_of_klt le (show κ.klt _ _ from hj)
    | false =>
      have hj' : κ.blt (key κ k) (key κ y) = false := by
        have : (!κ.blt (key κ k) (key κ y)) = true := hj
        rwa [Bool.not_eq_true'] at this
      have : κ.kle (key κ x) (key κ k) := KeyOrd.kle_trans le hj'
      show (!κ.blt (key κ k) (key κ x)) = true
      rw [Bool.not_eq_true']
      exact this
  · obtain ⟨i, hi, hx'⟩ := su.mp hx
    have := m1 i hi
    rwa [hx'] at this
  · obtain ⟨i, hi, hx'⟩ := su.mp hx
    rw [Nat.add_assoc] at hx'
    have := m2 (m + i) (by omega) (by omega)
    rwa [hx'] at this
theorem ei (l : List Keyed) (b : Nat) {n : Nat} (h : l.length - b ≤ n) : (l.drop b).take n = l.drop b := List.take_of_length_le (by rw [List.length_drop]; exact h)
theorem kZ (hL : i0 prog w A E s κ kd) {k : Keyed} {arr : Array Keyed} {base n hint : Nat} {st : SortSt} {Q : Option Nat → SortSt → Prop} (hk : kindOf st = kd) (kk : fQ κ k) (ks : ∀ x ∈ arr.toList, fQ κ x) (sz : base + n ≤ arr.size) (ss : bV κ ((arr.toList.drop base).take n)) (hh : hint < n)
    (q : ∀ m, m ≤ n → Below κ ((arr.toList.drop base).take m) [k] → Under κ [k] ((arr.toList.drop (base + m)).take (n - m)) → Q (some m) st) : wpS (model prog w) A E s (kr false k arr base n hint) Q st :=
  sj hL hk kk ks sz ss hh fun m hm m1 m2 => q m hm (fun x hx y hy => by
    cases List.mem_singleton.mp hy
    have := m1 x hx
    unfold Aq at this
    rw [if_neg Bool.false_ne_true, Bool.not_eq_true'] at this
    exact this) (fun y hy x hx => by
    cases List.mem_singleton.mp hy
    have := m2 x hx
    unfold Aq at this
    rw [if_neg Bool.false_ne_true, Bool.not_eq_false'] at this
    exact this)
theorem lG (hL : i0 prog w A E s κ kd) {k : Keyed} {arr : Array Keyed} {base n hint : Nat} {st : SortSt} {Q : Option Nat → SortSt → Prop} (hk : kindOf st = kd) (kk : fQ κ k) (ks : ∀ x ∈ arr.toList, fQ κ x) (sz : base + n ≤ arr.size) (ss : bV κ ((arr.toList.drop base).take n)) (hh : hint < n)
    (q : ∀ m, m ≤ n → Under κ ((arr.toList.drop base).take m) [k] → Below κ [k] ((arr.toList.drop (base + m)).take (n - m)) → Q (some m) st) : wpS (model prog w) A E s (kr true k arr base n hint) Q st :=
  sj hL hk kk ks sz ss hh fun m hm m1 m2 => q m hm (fun x hx y hy => by
    cases List.mem_singleton.mp hy
    exact m1 x hx) (fun y hy x hx => by
    cases List.mem_singleton.mp hy
    exact m2 x hx)
def gW (κ : KeyKind) (a b r : Array Keyed) : Prop := bV κ r.toList ∧ aS κ r.toList (a.toList ++ b.toList)
theorem i5 (a : Array Keyed) (i : Nat) : (a.extract i a.size).toList = a.toList.drop i := by
  rw [Array.toList_extract]
  exact ei _ _ (by rw [Array.length_toList]; exact Nat.le_refl _)
theorem kW (a : Array Keyed) (i k : Nat) : (a.extract i (i + k)).toList = (a.toList.drop i).take k := by
  rw [Array.toList_extract]
  show (a.toList.drop i).take (i + k - i) = _
  rw [Nat.add_sub_cancel_left]
theorem cG {a : Array Keyed} {i : Nat} {x : Keyed} (h : a[i]? = some x) : a.toList.drop i = x :: a.toList.drop (i + 1) := by
  rw [← Array.getElem?_toList] at h
  obtain ⟨h1, h2⟩ := List.getElem?_eq_some_iff.mp h
  rw [List.drop_eq_getElem_cons h1, h2]
theorem bV.head {x : Keyed} {l : List Keyed} (h : bV κ (x :: l)) : Below κ [x] (x :: l) := fun a ha b hb => by
  cases List.mem_singleton.mp ha
  rcases List.mem_cons.mp hb with rfl | hb
  · exact KeyOrd.kle_refl _
  · exact (List.pairwise_cons.mp h).1 b hb
theorem Under.over {k : Keyed} {l m : List Keyed} (h : Under κ l [k]) (b : Below κ [k] m) : Under κ l m := fun x hx y hy => KeyOrd.klt_of_klt_of_kle (h x hx k (List.mem_singleton_self _)) (b k (List.mem_singleton_self _) y hy)
theorem Below.over {k : Keyed} {l m : List Keyed} (h : Below κ l [k]) (b : Below κ [k] m) : Below κ l m := fun x hx y hy => KeyOrd.kle_trans (h x hx k (List.mem_singleton_self _)) (b k (List.mem_singleton_self _) y hy)
section
variable {a b out : Array Keyed} {ia ib : Nat} (sa : bV κ a.toList) (sb : bV κ b.toList)
include sa sb
theorem gT.kG (h : gT κ a.toList b.toList out.toList ia ib) (e : a.size ≤ ia ∨ b.size ≤ ib) : gW κ a b (out ++ a.extract ia a.size ++ b.extract ib b.size) := by
  unfold gW
  rw [Array.toList_append, Array.toList_append, i5, i5]
  exact h.done sa sb (e.imp (fun e => List.drop_eq_nil_of_le (by rw [Array.length_toList]; exact e)) (fun e => List.drop_eq_nil_of_le (by rw [Array.length_toList]; exact e)))
theorem gT.xQ (h : gT κ a.toList b.toList out.toList ia ib) (u : Under κ (b.toList.drop ib) (a.toList.drop ia)) : gW κ a b (out ++ b.extract ib b.size ++ a.extract ia a.size) := by
  unfold gW
  rw [Array.toList_append, Array.toList_append, i5, i5]
  exact h.last sa sb u
omit sa in
theorem gT.mN {x : Keyed} (h : gT κ a.toList b.toList out.toList ia ib) (hx : b[ib]? = some x) (u : Under κ [x] (a.toList.drop ia)) : gT κ a.toList b.toList (out.push x).toList ia (ib + 1) := by
  rw [Array.toList_push]
  have e : (b.toList.drop ib).take 1 = [x] := by rw [cG hx]; rfl
  have := h.vS (k := 1) sb (by rw [e]; exact u)
  rwa [e] at this
omit sb in
theorem gT.mq {x : Keyed} (h : gT κ a.toList b.toList out.toList ia ib) (hx : a[ia]? = some x) (u : Below κ [x] (b.toList.drop ib)) : gT κ a.toList b.toList (out.push x).toList (ia + 1) ib := by
  rw [Array.toList_push]
  have e : (a.toList.drop ia).take 1 = [x] := by rw [cG hx]; rfl
  have := h.v7 (k := 1) sa (by rw [e]; exact u)
  rwa [e] at this
end
structure LI (κ : KeyKind) (a b : Array Keyed) (st : SortSt) (out : Array Keyed) (ia ib t : Nat) (st' : SortSt) : Prop where
  kp : Kept st st'
  m : gT κ a.toList b.toList out.toList ia ib
  la : ia + 1 < a.size
  lb : ib < b.size
  t : t ≤ ia + ib
theorem fA {a : Array Keyed} {i : Nat} (h : i < a.size) : ∃ x, a[i]? = some x ∧ x ∈ a.toList := ⟨_, getElem?_pos a i h, by simp⟩
theorem aO {α : Type} {c : Prop} [Decidable c] {m1 m2 : StateT SortSt Sem α} {Q : α → SortSt → Prop} {st : SortSt} (h1 : c → wpS (model prog w) A E s m1 Q st) (h2 : ¬ c → wpS (model prog w) A E s m2 Q st) : wpS (model prog w) A E s (if c then m1 else m2) Q st := by
  by_cases h : c
  · rw [if_pos h]
    exact h1 h
  · rw [if_neg h]
    exact h2 h
theorem gT.zP {a b out : Array Keyed} {ia ib k : Nat} (sa : bV κ a.toList) (h : gT κ a.toList b.toList out.toList ia ib) (u : Below κ ((a.toList.drop ia).take k) (b.toList.drop ib)) : gT κ a.toList b.toList (out ++ a.extract ia (ia + k)).toList (ia + k) ib := by
  rw [Array.toList_append, kW]
  exact h.v7 sa u
theorem gT.zz {a b out : Array Keyed} {ia ib k : Nat} (sb : bV κ b.toList) (h : gT κ a.toList b.toList out.toList ia ib) (u : Under κ ((b.toList.drop ib).take k) (a.toList.drop ia)) : gT κ a.toList b.toList (out ++ b.extract ib (ib + k)).toList ia (ib + k) := by
  rw [Array.toList_append, kW]
  exact h.vS sb u
theorem oQ (a : Array Keyed) {i m n : Nat} (h : a.size - i ≤ n) (hm : m ≤ n) : (a.toList.drop (i + m)).take (n - m) = a.toList.drop (i + m) := ei _ _ (by rw [Array.length_toList]; omega)
theorem pM (hL : i0 prog w A E s κ kd) {a b : Array Keyed} {st : SortSt} {Q : Array Keyed → SortSt → Prop} (hk : kindOf st = kd) (ka : ∀ x ∈ a.toList, fQ κ x) (kb : ∀ x ∈ b.toList, fQ κ x) (sa : bV κ a.toList) (sb : bV κ b.toList) (a1 : 1 ≤ a.size) (b1 : 1 ≤ b.size) (u1 : Under κ (b.toList.take 1) a.toList) (u2 : Under κ b.toList (a.toList.drop (a.size - 1)))
    (q : ∀ r st', Kept st st' → gW κ a b r → Q r st') : wpS (model prog w) A E s (vk a b) Q st := by
  refine wpS_bind (wpS_lift (wpAny_rule ⟨rfl, ?_⟩))
  obtain ⟨b0, hb0, mb0⟩ := fA b1
  refine wpS_bind (aY hb0 ?_)
  have ub : ∀ ib, Under κ (b.toList.drop ib) (a.toList.drop (a.size - 1)) := fun ib x hx y hy => u2 x (List.mem_of_mem_drop hx) y hy
  have m0 : gT κ a.toList b.toList (#[b0] : Array Keyed).toList 0 1 := by
    have h0 : gT κ a.toList b.toList (#[] : Array Keyed).toList 0 0 := ⟨List.Pairwise.nil, (fun _ h => by cases h), (fun _ h => by cases h), aS.refl _⟩
    refine h0.mN sb hb0 ?_
    have e : b.toList.take 1 = [b0] := by
      have := cG hb0
      rw [List.drop_zero] at this
      rw [this]
      rfl
    rw [e] at u1
    exact u1
  by_cases c1 : (1 == b.size) = true
  · rw [if_pos c1]
    exact wpS_pure (q _ st (Kept.refl _) (m0.kG sa sb (.inr (by rw [beq_iff_eq] at c1; omega))))
  rw [if_neg c1]
  by_cases c2 : (0 + 1 == a.size) = true
  · rw [if_pos c2]
    exact wpS_pure (q _ st (Kept.refl _) (m0.xQ sa sb (by rw [beq_iff_eq] at c2; have := ub 1; rwa [show a.size - 1 = 0 by omega] at this)))
  rw [if_neg c2]
  rw [beq_iff_eq] at c1 c2
  refine wpS_bind (wpS_get ?_)
  refine wpS_bind (wpS_mono (wpS_forRange (I := fun x c st' => ∃ out ia ib mg, c = (none, out, ia, ib, mg) ∧ LI κ a b st out ia ib x st')
    (Q := fun c st' => ∃ r c', c = (some r, c') ∧ Kept st st' ∧ gW κ a b r) ?step ?fin ⟨_, _, _, _, rfl, Kept.refl _, m0, by omega, by omega, Nat.zero_le _⟩) ?post)
  case post =>
    rintro c st' ⟨r, c', rfl, kp, mr⟩
    exact wpS_pure (q r st' kp mr)
  case fin =>
    rintro c st' ⟨out, ia, ib, mg, rfl, li⟩
    have := li.t
    have := li.la
    have := li.lb
    omega
  case step =>
    rintro x c st1 _ hx ⟨out, ia, ib, mg, rfl, li⟩
    dsimp only
    refine wpS_bind (wpS_mono (wpS_forRange (I := fun y c st' => ∃ out ia ib ac bc, c = (none, out, ia, ib, ac, bc) ∧ LI κ a b st out ia ib (x + y) st')
      (Q := fun c st' => (∃ r c', c = (some r, c') ∧ Kept st st' ∧ gW κ a b r) ∨ ∃ out ia ib ac bc, c = (none, out, ia, ib, ac, bc) ∧ LI κ a b st out ia ib (x + 1) st') ?istep ?ifin ⟨_, _, _, _, _, rfl, li⟩) ?ipost)
    case ifin =>
      rintro c st' ⟨out, ia, ib, ac, bc, rfl, li⟩
      have := li.t
      have := li.la
      have := li.lb
      omega
    case istep =>
      rintro y c st2 _ hy ⟨out, ia, ib, ac, bc, rfl, li⟩
      dsimp only
      obtain ⟨xb, hxb, mxb⟩ := fA li.lb
      obtain ⟨xa, hxa, mxa⟩ := fA (show ia < a.size by have := li.la; omega)
      refine wpS_bind (aY hxb (wpS_bind (aY hxa (wpS_bind (hL xb xa st2 _ (li.kp.kind.trans hk) (kb xb mxb) (ka xa mxa) ?_)))))
      dsimp only
      have ha' := (sa.drop ia)
      rw [cG hxa] at ha'
      have hb' := (sb.drop ib)
      rw [cG hxb] at hb'
      have bela : Below κ [xa] (a.toList.drop ia) := by rw [cG hxa]; exact ha'.head
      have belb : Below κ [xb] (b.toList.drop ib) := by rw [cG hxb]; exact hb'.head
      have lla := li.la
      have llb := li.lb
      have llt := li.t
      cases hc : κ.blt (key κ xb) (key κ xa) with
      | true =>
        rw [if_pos rfl]
        have m' := li.m.mN sb hxb (Under.over (k := xa) (fun x hx y hy => by cases List.mem_singleton.mp hx; cases List.mem_singleton.mp hy; exact hc) bela)
        refine wpS_bind (aY hxb ?_)
        by_cases c3 : (ib + 1 == b.size) = true
        · rw [if_pos c3]
          exact wpS_pure (.inl ⟨_, _, rfl, li.kp, m'.kG sa sb (.inr (by rw [beq_iff_eq] at c3; omega))⟩)
        rw [if_neg c3]
        rw [beq_iff_eq] at c3
        by_cases c4 : bc + 1 ≥ mg
        · rw [if_pos c4]
          exact wpS_pure (.inr ⟨_, _, _, _, _, rfl, li.kp, m', lla, by omega, by omega⟩)
        · rw [if_neg c4]
          exact wpS_pure ⟨_, _, _, _, _, rfl, li.kp, m', lla, by omega, by omega⟩
      | false =>
        rw [if_neg Bool.false_ne_true]
        have m' := li.m.mq sa hxa (Below.over (k := xb) (fun x hx y hy => by cases List.mem_singleton.mp hx; cases List.mem_singleton.mp hy; exact hc) belb)
        refine wpS_bind (aY hxa ?_)
        by_cases c3 : (ia + 1 + 1 == a.size) = true
        · rw [if_pos c3]
          exact wpS_pure (.inl ⟨_, _, rfl, li.kp, m'.xQ sa sb (by rw [beq_iff_eq] at c3; have := ub ib; rwa [show a.size - 1 = ia + 1 by omega] at this)⟩)
        rw [if_neg c3]
        rw [beq_iff_eq] at c3
        by_cases c4 : ac + 1 ≥ mg
        · rw [if_pos c4]
          exact wpS_pure (.inr ⟨_, _, _, _, _, rfl, li.kp, m', by omega, by omega, by omega⟩)
        · rw [if_neg c4]
          exact wpS_pure ⟨_, _, _, _, _, rfl, li.kp, m', by omega, by omega, by omega⟩
    case ipost =>
      rintro c st2 (⟨r, c', rfl, kp, mr⟩ | ⟨out, ia, ib, ac, bc, rfl, li⟩)
      · exact wpS_pure ⟨r, _, rfl, kp, mr⟩
      dsimp only
      refine wpS_bind (wpS_lift (wpAny_rule ⟨rfl, ?_⟩))
      refine wpS_bind (wpS_mono (wpS_forRange (I := fun y c st' => ∃ out ia ib mg ac bc, c = (none, out, ia, ib, mg, ac, bc) ∧ LI κ a b st out ia ib (x + 1 + y) st')
        (Q := fun c st' => (∃ r c', c = (some r, c') ∧ Kept st st' ∧ gW κ a b r) ∨ ∃ out ia ib mg ac bc, c = (none, out, ia, ib, mg, ac, bc) ∧ LI κ a b st out ia ib (x + 1) st') ?gstep ?gfin ⟨_, _, _, _, _, _, rfl, li⟩) ?gpost)
      case gfin =>
        rintro c st' ⟨out, ia, ib, mg, ac, bc, rfl, li⟩
        have := li.t
        have := li.la
        have := li.lb
        omega
      case gpost =>
        rintro c st3 (⟨r, c', rfl, kp, mr⟩ | ⟨out, ia, ib, mg, ac, bc, rfl, li⟩)
        · exact wpS_pure ⟨r, _, rfl, kp, mr⟩
        dsimp only
        exact wpS_bind (iJ fun st4 kp4 => wpS_pure ⟨_, _, _, _, rfl, li.kp.trans kp4, li.m, li.la, li.lb, li.t⟩)
      case gstep =>
        rintro y c st3 _ hy ⟨out, ia, ib, mg, ac, bc, rfl, li⟩
        dsimp only
        obtain ⟨xb, hxb, mxb⟩ := fA li.lb
        have hb' := (sb.drop ib)
        rw [cG hxb] at hb'
        have belb : Below κ [xb] (b.toList.drop ib) := by rw [cG hxb]; exact hb'.head
        clear hb'
        have belA : ∀ {i : Nat} {x : Keyed}, a[i]? = some x → Below κ [x] (a.toList.drop i) := fun {i x} hx => by
          have h := sa.drop i
          rw [cG hx] at h ⊢
          exact h.head
        have ubl : ∀ {i : Nat} (j : Nat), i + 1 = a.size → Under κ (b.toList.drop j) (a.toList.drop i) := fun {i} j e => by
          have := ub j
          rwa [show a.size - 1 = i by omega] at this
        have lla := li.la
        have llb := li.lb
        have llt := li.t
        refine aO (fun _ => ?_) (fun _ => ?_)
        all_goals
          refine wpS_bind (iJ fun st4 kp4 => ?_)
          have kp3 := li.kp.trans kp4
          refine wpS_bind (aY hxb (wpS_bind (kZ hL (kp3.kind.trans hk) (kb xb mxb) ka (by omega) (by rw [ei _ _ (by rw [Array.length_toList]; exact Nat.le_refl _)]; exact sa.drop _) (by omega) fun k1 hk1 bl1 un1 => ?_)))
          dsimp only
          rw [oQ a (Nat.le_refl _) hk1] at un1
          have m2 := gT.zP sa li.m (Below.over bl1 belb)
          refine aO (fun c1 => aO (fun c2 => ?_) (fun c2 => aO (fun c7 => ?_) (fun c7 => ?_))) (fun c1 => ?_)
          · rw [beq_iff_eq] at c2
            exact wpS_pure (.inl ⟨_, _, rfl, kp3, m2.xQ sa sb (ubl _ (by omega))⟩)
          · rw [beq_iff_eq] at c7
            exact wpS_pure (.inl ⟨_, _, rfl, kp3, m2.kG sa sb (.inl (by omega))⟩)
          rw [beq_iff_eq] at c2 c7
          have lt := show ia + k1 < a.size by omega
          rotate_left
          have e : k1 = 0 := by omega
          subst e
          have m2 := li.m
          have lt := show ia < a.size by omega
          all_goals
            have m3 := gT.mN sb m2 hxb un1
            refine wpS_bind (aY hxb ?_)
            refine aO (fun c3 => ?_) (fun c3 => ?_)
            · rw [beq_iff_eq] at c3
              exact wpS_pure (.inl ⟨_, _, rfl, kp3, m3.kG sa sb (.inr (by omega))⟩)
            rw [beq_iff_eq] at c3
            obtain ⟨xc, hxc, mxc⟩ := fA lt
            have belc := belA hxc
            refine wpS_bind (aY hxc (wpS_bind (lG hL (kp3.kind.trans hk) (ka xc mxc) kb (by omega) (by rw [ei _ _ (by rw [Array.length_toList]; omega)]; exact sb.drop _) (by omega) fun k2 hk2 ul bl => ?_)))
            dsimp only
            rw [oQ b (by omega) hk2] at bl
            have m4 := gT.zz sb m3 (Under.over ul belc)
            refine aO (fun c4 => aO (fun c6 => ?_) (fun c6 => ?_)) (fun c4 => ?_)
            · rw [beq_iff_eq] at c6
              exact wpS_pure (.inl ⟨_, _, rfl, kp3, m4.kG sa sb (.inr (by omega))⟩)
            rw [beq_iff_eq] at c6
            rotate_left
            have e : k2 = 0 := by omega
            subst e
            have m4 := m3
            all_goals
              have m5 := gT.mq sa m4 hxc bl
              refine wpS_bind (aY hxc ?_)
              refine aO (fun c5 => ?_) (fun c5 => ?_)
              · rw [beq_iff_eq] at c5
                exact wpS_pure (.inl ⟨_, _, rfl, kp3, m5.xQ sa sb (ubl _ (by omega))⟩)
              · rw [beq_iff_eq] at c5
                exact aO (fun _ => wpS_pure (.inr ⟨_, _, _, _, _, _, rfl, kp3, m5, by omega, by omega, by omega⟩)) (fun _ => wpS_pure ⟨_, _, _, _, _, _, rfl, kp3, m5, by omega, by omega, by omega⟩)
end
end TS
namespace TS
open PySem PyProof.Rows
variable {κ : KeyKind}
theorem ig (l : List Keyed) {m n : Nat} (h : m ≤ n) : l.take n = l.take m ++ (l.drop m).take (n - m) := by
  rw [← List.drop_take]
  have := List.take_append_drop m (l.take n)
  rw [List.take_take, Nat.min_eq_left h] at this
  exact this.symm
theorem bV.take {l : List Keyed} (h : bV κ l) (i : Nat) : bV κ (l.take i) := List.Pairwise.sublist (List.take_sublist i l) h
structure gU (κ : KeyKind) (al bl o : List Keyed) (na nb : Nat) : Prop where
  so : bV κ o
  oa : Below κ (al.take na) o
  ob : Below κ (bl.take nb) o
  st : aS κ (al.take na ++ (bl.take nb ++ o)) (al ++ bl)
theorem Below.uM {l m n : List Keyed} (h : Below κ l m) (h' : Below κ l n) : Below κ l (m ++ n) := fun x hx y hy => (List.mem_append.mp hy).elim (h x hx y) (h' x hx y)
theorem Below.yJ {l m n : List Keyed} (h : Below κ (l ++ m) n) : Below κ l n := fun x hx y hy => h x (List.mem_append_left _ hx) y hy
theorem Below.vG {l m n : List Keyed} (h : Below κ (l ++ m) n) : Below κ m n := fun x hx y hy => h x (List.mem_append_right _ hx) y hy
theorem gU.v7 {al bl o : List Keyed} {na nb m : Nat} (sa : bV κ al) (h : gU κ al bl o na nb) (hm : m ≤ na) (u : Under κ (bl.take nb) ((al.drop m).take (na - m))) : gU κ al bl ((al.drop m).take (na - m) ++ o) m nb := by
  have e := ig al hm
  have s := sa.take na
  have oa := h.oa
  have st := h.st
  rw [e] at s oa st
  refine ⟨s.right.append h.so oa.vG, s.mid.uM oa.yJ, u.below.uM h.ob, aS.trans ?_ st⟩
  rw [List.append_assoc]
  refine (aS.refl _).append ?_
  rw [← List.append_assoc, ← List.append_assoc]
  exact (aS.swap u).append (aS.refl _)
theorem gU.vS {al bl o : List Keyed} {na nb m : Nat} (sb : bV κ bl) (h : gU κ al bl o na nb) (hm : m ≤ nb) (u : Below κ (al.take na) ((bl.drop m).take (nb - m))) : gU κ al bl ((bl.drop m).take (nb - m) ++ o) na m := by
  have e := ig bl hm
  have s := sb.take nb
  have ob := h.ob
  have st := h.st
  rw [e] at s ob st
  refine ⟨s.right.append h.so ob.vG, u.uM h.oa, s.mid.uM ob.yJ, ?_⟩
  rw [← List.append_assoc (bl.take m)]
  exact st
theorem gU.done {al bl o : List Keyed} {na nb : Nat} (sa : bV κ al) (sb : bV κ bl) (h : gU κ al bl o na nb) (e : na = 0 ∨ nb = 0) : bV κ (al.take na ++ bl.take nb ++ o) ∧ aS κ (al.take na ++ bl.take nb ++ o) (al ++ bl) := by
  refine ⟨?_, by rw [List.append_assoc]; exact h.st⟩
  rcases e with e | e
  · rw [e, List.take_zero, List.nil_append]
    exact (sb.take nb).append h.so h.ob
  · rw [e, List.take_zero, List.append_nil]
    exact (sa.take na).append h.so h.oa
theorem gU.first {al bl o : List Keyed} {na nb : Nat} (sa : bV κ al) (sb : bV κ bl) (h : gU κ al bl o na nb) (u : Under κ (bl.take nb) (al.take na)) : bV κ (bl.take nb ++ al.take na ++ o) ∧ aS κ (bl.take nb ++ al.take na ++ o) (al ++ bl) := by
  refine ⟨?_, aS.trans ?_ h.st⟩
  · rw [List.append_assoc]
    exact (sb.take nb).append ((sa.take na).append h.so h.oa) (u.below.uM h.ob)
  · rw [← List.append_assoc]
    exact (aS.swap u).append (aS.refl _)
def vo : Array Keyed → Array Keyed → StateT SortSt Sem (Array Keyed) := sortPriv% PySem.Builtin.mergeHi
section
variable {prog : Program} {w : World} {A : Around} {E : Value → Shared → Prop} {s : Shared} {kd : SortKind}
abbrev bk (out : Array Keyed) : List Keyed := out.toList.reverse
section
variable {a b out : Array Keyed} {na nb : Nat} (sa : bV κ a.toList) (sb : bV κ b.toList)
include sa sb
theorem gU.kG (h : gU κ a.toList b.toList (bk out) na nb) (e : na = 0 ∨ nb = 0) : gW κ a b (a.extract 0 na ++ b.extract 0 nb ++ out.reverse) := by
  unfold gW
  rw [Array.toList_append, Array.toList_append, Array.toList_extract, Array.toList_extract, Array.toList_reverse]
  exact h.done sa sb e
theorem gU.xf (h : gU κ a.toList b.toList (bk out) na nb) (u : Under κ (b.toList.take nb) (a.toList.take na)) : gW κ a b (b.extract 0 nb ++ a.extract 0 na ++ out.reverse) := by
  unfold gW
  rw [Array.toList_append, Array.toList_append, Array.toList_extract, Array.toList_extract, Array.toList_reverse]
  exact h.first sa sb u
omit sa in
theorem gU.zz {m : Nat} (h : gU κ a.toList b.toList (bk out) na nb) (hm : m ≤ nb) (u : Below κ (a.toList.take na) ((b.toList.drop m).take (nb - m))) : gU κ a.toList b.toList (bk (out ++ (b.extract m nb).reverse)) na m := by
  have e : bk (out ++ (b.extract m nb).reverse) = (b.toList.drop m).take (nb - m) ++ bk out := by
    show (out ++ (b.extract m nb).reverse).toList.reverse = _
    rw [Array.toList_append, Array.toList_reverse, Array.toList_extract, List.reverse_append, List.reverse_reverse]
  rw [e]
  exact h.vS sb hm u
omit sb in
theorem gU.zP {m : Nat} (h : gU κ a.toList b.toList (bk out) na nb) (hm : m ≤ na) (u : Under κ (b.toList.take nb) ((a.toList.drop m).take (na - m))) : gU κ a.toList b.toList (bk (out ++ (a.extract m na).reverse)) m nb := by
  have e : bk (out ++ (a.extract m na).reverse) = (a.toList.drop m).take (na - m) ++ bk out := by
    show (out ++ (a.extract m na).reverse).toList.reverse = _
    rw [Array.toList_append, Array.toList_reverse, Array.toList_extract, List.reverse_append, List.reverse_reverse]
  rw [e]
  exact h.v7 sa hm u
end
theorem og {a : Array Keyed} {m n : Nat} {x : Keyed} (hx : a[m]? = some x) (h : n = m + 1) : (a.toList.drop m).take (n - m) = [x] := by
  rw [cG hx, show n - m = 1 by omega]
  rfl
theorem rP (out : Array Keyed) (x : Keyed) : bk (out.push x) = [x] ++ bk out := by
  show (out.push x).toList.reverse = _
  rw [Array.toList_push, List.reverse_append]
  rfl
theorem gU.mq {a b out : Array Keyed} {na nb m : Nat} {x : Keyed} (sa : bV κ a.toList) (h : gU κ a.toList b.toList (bk out) na nb) (hx : a[m]? = some x) (hm : na = m + 1) (u : Under κ (b.toList.take nb) [x]) : gU κ a.toList b.toList (bk (out.push x)) m nb := by
  have e := og hx hm
  have := h.v7 (m := m) sa (by omega) (by rw [e]; exact u)
  rw [e] at this
  rw [rP]
  exact this
theorem gU.mN {a b out : Array Keyed} {na nb m : Nat} {x : Keyed} (sb : bV κ b.toList) (h : gU κ a.toList b.toList (bk out) na nb) (hx : b[m]? = some x) (hm : nb = m + 1) (u : Below κ (a.toList.take na) [x]) : gU κ a.toList b.toList (bk (out.push x)) na m := by
  have e := og hx hm
  have := h.vS (m := m) sb (by omega) (by rw [e]; exact u)
  rw [e] at this
  rw [rP]
  exact this
theorem bV.last {a : Array Keyed} (h : bV κ a.toList) {m n : Nat} {x : Keyed} (hx : a[m]? = some x) (hn : n = m + 1) : Below κ (a.toList.take n) [x] := by
  have s := h.take n
  have e := ig a.toList (show m ≤ n by omega)
  rw [og hx hn] at e
  rw [e] at s ⊢
  exact s.mid.append fun y hy z hz => by
    cases List.mem_singleton.mp hy
    cases List.mem_singleton.mp hz
    exact KeyOrd.kle_refl _
theorem Below.under {k : Keyed} {l m : List Keyed} (h : Below κ l [k]) (u : Under κ [k] m) : Under κ l m := fun x hx y hy => KeyOrd.klt_of_kle_of_klt (h x hx k (List.mem_singleton_self _)) (u k (List.mem_singleton_self _) y hy)
structure HI (κ : KeyKind) (a b : Array Keyed) (st : SortSt) (out : Array Keyed) (na nb t : Nat) (st' : SortSt) : Prop where
  kp : Kept st st'
  m : gU κ a.toList b.toList (bk out) na nb
  la : 1 ≤ na
  lb : 2 ≤ nb
  ha : na ≤ a.size
  hb : nb ≤ b.size
  t : na + nb + t ≤ a.size + b.size
theorem oZ (hL : i0 prog w A E s κ kd) {a b : Array Keyed} {st : SortSt} {Q : Array Keyed → SortSt → Prop} (hk : kindOf st = kd) (ka : ∀ x ∈ a.toList, fQ κ x) (kb : ∀ x ∈ b.toList, fQ κ x) (sa : bV κ a.toList) (sb : bV κ b.toList) (a1 : 1 ≤ a.size) (b1 : 1 ≤ b.size) (u1 : Under κ (b.toList.take 1) a.toList) (u2 : Under κ b.toList (a.toList.drop (a.size - 1)))
    (q : ∀ r st', Kept st st' → gW κ a b r → Q r st') : wpS (model prog w) A E s (vo a b) Q st := by
  refine wpS_bind (wpS_lift (wpAny_rule ⟨rfl, ?_⟩))
  obtain ⟨a0, ha0, ma0⟩ := fA (show a.size - 1 < a.size by omega)
  refine wpS_bind (aY ha0 ?_)
  have ubf : ∀ {nb : Nat} (na : Nat), nb = 1 → Under κ (b.toList.take nb) (a.toList.take na) := fun {nb} na e x hx y hy => by
    subst e
    exact u1 x hx y (List.mem_of_mem_take hy)
  have m0 : gU κ a.toList b.toList (bk #[a0]) (a.size - 1) b.size := by
    have h0 : gU κ a.toList b.toList (bk #[]) a.size b.size := ⟨List.Pairwise.nil, Below.nil, Below.nil, by
      rw [List.take_of_length_le (by rw [Array.length_toList]; exact Nat.le_refl _), List.take_of_length_le (by rw [Array.length_toList]; exact Nat.le_refl _)]
      show aS κ (_ ++ (_ ++ [])) _
      rw [List.append_nil]
      exact aS.refl _⟩
    refine h0.mq sa ha0 (by omega) fun x hx y hy => u2 x (List.mem_of_mem_take hx) y ?_
    rw [cG ha0]
    cases List.mem_singleton.mp hy
    exact List.mem_cons_self
  refine aO (fun c1 => ?_) (fun c1 => ?_)
  · rw [beq_iff_eq] at c1
    exact wpS_pure (q _ st (Kept.refl _) (m0.kG sa sb (.inl c1)))
  refine aO (fun c2 => ?_) (fun c2 => ?_)
  · rw [beq_iff_eq] at c2
    exact wpS_pure (q _ st (Kept.refl _) (m0.xf sa sb (ubf _ c2)))
  rw [beq_iff_eq] at c1 c2
  refine wpS_bind (wpS_get ?_)
  refine wpS_bind (wpS_mono (wpS_forRange (I := fun x c st' => ∃ na nb out mg, c = (none, na, nb, out, mg) ∧ HI κ a b st out na nb x st')
    (Q := fun c st' => ∃ r c', c = (some r, c') ∧ Kept st st' ∧ gW κ a b r) ?step ?fin ⟨_, _, _, _, rfl, Kept.refl _, m0, by omega, by omega, by omega, by omega, by omega⟩) ?post)
  case post =>
    rintro c st' ⟨r, c', rfl, kp, mr⟩
    exact wpS_pure (q r st' kp mr)
  case fin =>
    rintro c st' ⟨na, nb, out, mg, rfl, li⟩
    have := li.t
    have := li.la
    have := li.lb
    omega
  case step =>
    rintro x c st1 _ hx ⟨na, nb, out, mg, rfl, li⟩
    dsimp only
    refine wpS_bind (wpS_mono (wpS_forRange (I := fun y c st' => ∃ na nb out ac bc, c = (none, na, nb, out, ac, bc) ∧ HI κ a b st out na nb (x + y) st')
      (Q := fun c st' => (∃ r c', c = (some r, c') ∧ Kept st st' ∧ gW κ a b r) ∨ ∃ na nb out ac bc, c = (none, na, nb, out, ac, bc) ∧ HI κ a b st out na nb (x + 1) st') ?istep ?ifin ⟨_, _, _, _, _, rfl, li⟩) ?ipost)
    case ifin =>
      rintro c st' ⟨na, nb, out, ac, bc, rfl, li⟩
      have := li.t
      have := li.la
      have := li.lb
      omega
    case istep =>
      rintro y c st2 _ hy ⟨na, nb, out, ac, bc, rfl, li⟩
      dsimp only
      have lla := li.la
      have llb := li.lb
      have lha := li.ha
      have lhb := li.hb
      have llt := li.t
      obtain ⟨xb, hxb, mxb⟩ := fA (show nb - 1 < b.size by omega)
      obtain ⟨xa, hxa, mxa⟩ := fA (show na - 1 < a.size by omega)
      have belb := sb.last hxb (show nb = _ by omega)
      have bela := sa.last hxa (show na = _ by omega)
      refine wpS_bind (aY hxb (wpS_bind (aY hxa (wpS_bind (hL xb xa st2 _ (li.kp.kind.trans hk) (kb xb mxb) (ka xa mxa) ?_)))))
      dsimp only
      cases hc : κ.blt (key κ xb) (key κ xa) with
      | true =>
        rw [if_pos rfl]
        have m' := li.m.mq sa hxa (by omega) (Below.under (k := xb) belb (fun x hx y hy => by cases List.mem_singleton.mp hx; cases List.mem_singleton.mp hy; exact hc))
        refine wpS_bind (aY hxa ?_)
        refine aO (fun c3 => ?_) (fun c3 => ?_)
        · rw [beq_iff_eq] at c3
          exact wpS_pure (.inl ⟨_, _, rfl, li.kp, m'.kG sa sb (.inl c3)⟩)
        rw [beq_iff_eq] at c3
        exact aO (fun _ => wpS_pure (.inr ⟨_, _, _, _, _, rfl, li.kp, m', by omega, by omega, by omega, by omega, by omega⟩)) (fun _ => wpS_pure ⟨_, _, _, _, _, rfl, li.kp, m', by omega, by omega, by omega, by omega, by omega⟩)
      | false =>
        rw [if_neg Bool.false_ne_true]
        have m' := li.m.mN sb hxb (by omega) (Below.over (k := xa) bela (fun x hx y hy => by cases List.mem_singleton.mp hx; cases List.mem_singleton.mp hy; exact hc))
        refine wpS_bind (aY hxb ?_)
        refine aO (fun c3 => ?_) (fun c3 => ?_)
        · rw [beq_iff_eq] at c3
          exact wpS_pure (.inl ⟨_, _, rfl, li.kp, m'.xf sa sb (ubf _ c3)⟩)
        rw [beq_iff_eq] at c3
        exact aO (fun _ => wpS_pure (.inr ⟨_, _, _, _, _, rfl, li.kp, m', by omega, by omega, by omega, by omega, by omega⟩)) (fun _ => wpS_pure ⟨_, _, _, _, _, rfl, li.kp, m', by omega, by omega, by omega, by omega, by omega⟩)
    case ipost =>
      rintro c st2 (⟨r, c', rfl, kp, mr⟩ | ⟨na, nb, out, ac, bc, rfl, li⟩)
      · exact wpS_pure ⟨r, _, rfl, kp, mr⟩
      dsimp only
      refine wpS_bind (wpS_lift (wpAny_rule ⟨rfl, ?_⟩))
      refine wpS_bind (wpS_mono (wpS_forRange (I := fun y c st' => ∃ na nb out mg ac bc, c = (none, na, nb, out, mg, ac, bc) ∧ HI κ a b st out na nb (x + 1 + y) st')
        (Q := fun c st' => (∃ r c', c = (some r, c') ∧ Kept st st' ∧ gW κ a b r) ∨ ∃ na nb out mg ac bc, c = (none, na, nb, out, mg, ac, bc) ∧ HI κ a b st out na nb (x + 1) st') ?gstep ?gfin ⟨_, _, _, _, _, _, rfl, li⟩) ?gpost)
      case gfin =>
        rintro c st' ⟨na, nb, out, mg, ac, bc, rfl, li⟩
        have := li.t
        have := li.la
        have := li.lb
        omega
      case gpost =>
        rintro c st3 (⟨r, c', rfl, kp, mr⟩ | ⟨na, nb, out, mg, ac, bc, rfl, li⟩)
        · exact wpS_pure ⟨r, _, rfl, kp, mr⟩
        dsimp only
        exact wpS_bind (iJ fun st4 kp4 => wpS_pure ⟨_, _, _, _, rfl, li.kp.trans kp4, li.m, li.la, li.lb, li.ha, li.hb, li.t⟩)
      case gstep =>
        rintro y c st3 _ hy ⟨na, nb, out, mg, ac, bc, rfl, li⟩
        dsimp only
        have lla := li.la
        have llb := li.lb
        have lha := li.ha
        have lhb := li.hb
        have llt := li.t
        obtain ⟨xb, hxb, mxb⟩ := fA (show nb - 1 < b.size by omega)
        have belb := sb.last hxb (show nb = _ by omega)
        refine aO (fun _ => ?_) (fun _ => ?_)
        all_goals
          refine wpS_bind (iJ fun st4 kp4 => ?_)
          have kp3 := li.kp.trans kp4
          refine wpS_bind (aY hxb (wpS_bind (kZ hL (kp3.kind.trans hk) (kb xb mxb) ka (by omega) (by rw [List.drop_zero]; exact sa.take _) (by omega) fun k1 hk1 bl1 un1 => ?_)))
          dsimp only
          rw [List.drop_zero] at bl1
          rw [Nat.zero_add] at un1
          have m2 := gU.zP sa li.m hk1 (Below.under belb un1)
          refine aO (fun c1 => aO (fun c2 => ?_) (fun c2 => ?_)) (fun c1 => ?_)
          · rw [beq_iff_eq] at c2
            exact wpS_pure (.inl ⟨_, _, rfl, kp3, m2.kG sa sb (.inl (by omega))⟩)
          rw [beq_iff_eq] at c2
          rotate_left
          have e : k1 = na := by omega
          subst e
          have m2 := li.m
          all_goals
            have m3 := gU.mN sb m2 hxb (by omega) bl1
            refine wpS_bind (aY hxb ?_)
            refine aO (fun c3 => ?_) (fun c3 => ?_)
            · rw [beq_iff_eq] at c3
              exact wpS_pure (.inl ⟨_, _, rfl, kp3, m3.xf sa sb (ubf _ (by omega))⟩)
            rw [beq_iff_eq] at c3
            obtain ⟨xc, hxc, mxc⟩ := fA (show k1 - 1 < a.size by omega)
            have belc := sa.last hxc (show k1 = _ by omega)
            refine wpS_bind (aY hxc (wpS_bind (lG hL (kp3.kind.trans hk) (ka xc mxc) kb (by omega) (by rw [List.drop_zero]; exact sb.take _) (by omega) fun k2 hk2 ul bl => ?_)))
            dsimp only
            rw [List.drop_zero] at ul
            rw [Nat.zero_add] at bl
            have m4 := gU.zz sb m3 hk2 (Below.over belc bl)
            refine aO (fun c4 => aO (fun c6 => ?_) (fun c6 => aO (fun c7 => ?_) (fun c7 => ?_))) (fun c4 => ?_)
            · rw [beq_iff_eq] at c6
              exact wpS_pure (.inl ⟨_, _, rfl, kp3, m4.xf sa sb (ubf _ (by omega))⟩)
            · rw [beq_iff_eq] at c7
              exact wpS_pure (.inl ⟨_, _, rfl, kp3, m4.kG sa sb (.inr (by omega))⟩)
            rw [beq_iff_eq] at c6 c7
            rotate_left
            have e : k2 = nb - 1 := by omega
            subst e
            have m4 := m3
            all_goals
              have m5 := gU.mq sa m4 hxc (by omega) ul
              refine wpS_bind (aY hxc ?_)
              refine aO (fun c5 => ?_) (fun c5 => ?_)
              · rw [beq_iff_eq] at c5
                exact wpS_pure (.inl ⟨_, _, rfl, kp3, m5.kG sa sb (.inl (by omega))⟩)
              · rw [beq_iff_eq] at c5
                exact aO (fun _ => wpS_pure (.inr ⟨_, _, _, _, _, _, rfl, kp3, m5, by omega, by omega, by omega, by omega, by omega⟩)) (fun _ => wpS_pure ⟨_, _, _, _, _, _, rfl, kp3, m5, by omega, by omega, by omega, by omega, by omega⟩)
end
end TS
namespace TS
open PySem PyProof.Rows
variable {κ : KeyKind}
def pX : Nat → Nat → StateT SortSt Sem (Option Nat) := sortPriv% PySem.Builtin.countRun
def n6 : Nat → Nat → Nat → StateT SortSt Sem Bool := sortPriv% PySem.Builtin.binarySort
theorem pC {xs : Array Keyed} {P G R : List Keyed} (e : xs.toList = P ++ (G ++ R)) {i j : Nat} (hi : i = P.length) (hj : j = i + G.length) : (mirror xs i j ((j - i) / 2)).toList = P ++ (G.reverse ++ R) := by
  have hs : xs.size = P.length + (G.length + R.length) := by rw [← Array.length_toList, e, List.length_append, List.length_append]
  apply List.ext_getElem?
  intro k
  rw [Array.getElem?_toList, getElem?_mirror_all (by omega), ← Array.getElem?_toList, ← Array.getElem?_toList, e]
  by_cases h : i ≤ k ∧ k < j
  · rw [if_pos h, List.getElem?_append_right (by omega), List.getElem?_append_left (by omega), List.getElem?_append_right (by omega), List.getElem?_append_left (by rw [List.length_reverse]; omega), List.getElem?_reverse (by omega)]
    congr 1
    omega
  · rw [if_neg h]
    by_cases h1 : k < i
    · rw [List.getElem?_append_left (by omega), List.getElem?_append_left (by omega)]
    · rw [List.getElem?_append_right (by omega), List.getElem?_append_right (by omega), List.getElem?_append_right (by omega), List.getElem?_append_right (by rw [List.length_reverse]; omega), List.length_reverse]
theorem oN {xs : Array Keyed} {P T R : List Keyed} {x : Keyed} (e : xs.toList = P ++ (T ++ x :: R)) {src d : Nat} (hi : src = P.length + T.length) (hd : d = T.length) : (bubble xs src d).toList = P ++ (x :: T ++ R) := by
  have hs : xs.size = P.length + (T.length + (R.length + 1)) := by rw [← Array.length_toList, e, List.length_append, List.length_append]; rfl
  apply List.ext_getElem?
  intro k
  rw [Array.getElem?_toList, getElem?_bubble (by omega) d (by omega), ← Array.getElem?_toList, ← Array.getElem?_toList, ← Array.getElem?_toList, e]
  by_cases h : k = src - d
  · rw [if_pos h, List.getElem?_append_right (by omega), List.getElem?_append_right (by omega), List.getElem?_append_right (by omega), show src - P.length - T.length = 0 by omega, show k - P.length = 0 by omega]
    rfl
  · rw [if_neg h]
    by_cases h1 : src - d < k ∧ k ≤ src
    · rw [if_pos h1, List.getElem?_append_right (by omega), List.getElem?_append_left (by omega), List.getElem?_append_right (by omega), List.getElem?_append_left (by show _ < T.length + 1; omega), show k - P.length = (k - 1 - P.length) + 1 by omega, List.getElem?_cons_succ]
    · rw [if_neg h1]
      by_cases h2 : k < P.length
      · rw [List.getElem?_append_left h2, List.getElem?_append_left h2]
      · rw [List.getElem?_append_right (by omega), List.getElem?_append_right (by omega), List.getElem?_append_right (by omega), List.getElem?_append_right (by show T.length + 1 ≤ _; omega), show k - P.length - T.length = (k - P.length - (T.length + 1)) + 1 by omega, List.getElem?_cons_succ]
        rfl
theorem iu : ∀ (m : List Keyed) (j off : Nat) (xs : Array Keyed) (P Y R : List Keyed), xs.toList = P ++ (Y ++ R) → m.length = Y.length → off + j = P.length →
    ((m.zipIdx j).foldl (fun (a : Array Keyed) (x : Keyed × Nat) => a.setIfInBounds (off + x.2) x.1) xs).toList = P ++ (m ++ R)
  | [], j, off, xs, P, Y, R, e, l, _ => by
    rw [List.zipIdx_nil, List.foldl_nil, e, List.eq_nil_of_length_eq_zero l.symm]
  | x :: m, j, off, xs, P, [], R, e, l, _ => by cases l
  | x :: m, j, off, xs, P, y :: Y, R, e, l, h => by
    rw [List.zipIdx_cons, List.foldl_cons]
    have ih := iu m (j + 1) off (xs.setIfInBounds (off + j) x) (P ++ [x]) Y R (by
      rw [Array.toList_setIfInBounds, e, h, List.set_append_right _ _ (Nat.le_refl _), Nat.sub_self, List.append_assoc]
      rfl) (Nat.succ.inj l) (by rw [List.length_append, ← h]; rfl)
    rw [ih, List.append_assoc]
    rfl
structure pQ (st st' : SortSt) : Prop where
  kind : kindOf st' = kindOf st
  pend : pendingOf st' = pendingOf st
  failed : failedOf st' = failedOf st
theorem pQ.refl (st : SortSt) : pQ st st := ⟨rfl, rfl, rfl⟩
theorem pQ.trans {a b c : SortSt} (h : pQ a b) (h' : pQ b c) : pQ a c := ⟨h'.kind.trans h.kind, h'.pend.trans h.pend, h'.failed.trans h.failed⟩
section
variable {prog : Program} {w : World} {A : Around} {E : Value → Shared → Prop} {s : Shared} {kd : SortKind}
theorem iV {st : SortSt} {P G R : List Keyed} (e : (arrOf st).toList = P ++ (G ++ R)) {i j : Nat} (hi : i = P.length) (hj : j = i + G.length) {Q : Unit → SortSt → Prop} (q : ∀ st', pQ st st' → (arrOf st').toList = P ++ (G.reverse ++ R) → Q () st') : wpS (model prog w) A E s (reverseSlice' i j) Q st := by
  rw [reverseSlice'_eq]
  exact wpS_modify (q _ ⟨rfl, rfl, rfl⟩ (pC e hi hj))
theorem wq {st : SortSt} {P T R : List Keyed} {x : Keyed} (e : (arrOf st).toList = P ++ (T ++ x :: R)) {src dst : Nat} (hi : src = P.length + T.length) (hd : dst = P.length) {Q : Unit → SortSt → Prop} (q : ∀ st', pQ st st' → (arrOf st').toList = P ++ (x :: T ++ R) → Q () st') : wpS (model prog w) A E s (moveDown' src dst) Q st := by
  rw [moveDown'_eq]
  exact wpS_modify (q _ ⟨rfl, rfl, rfl⟩ (oN e hi (by omega)))
theorem fF (hL : i0 prog w A E s κ kd) {st : SortSt} {i j : Nat} {x y : Keyed} {Q : Option Bool → SortSt → Prop} (hk : kindOf st = kd) (hx : (arrOf st).toList[i]? = some x) (hy : (arrOf st).toList[j]? = some y) (kx : fQ κ x) (ky : fQ κ y) (q : Q (some (κ.blt (key κ x) (key κ y))) st) : wpS (model prog w) A E s (ltAt' i j) Q st := by
  rw [ltAt'_eq]
  refine wpS_bind (wpS_get ?_)
  rw [Array.getElem?_toList] at hx hy
  exact wpS_bind (aY hx (wpS_bind (aY hy (hL x y st Q hk kx ky q))))
theorem j7 {P R : List Keyed} {x : Keyed} {i : Nat} (h : i = P.length) : (P ++ x :: R)[i]? = some x := by
  rw [List.getElem?_append_right (by omega), h, Nat.sub_self]
  rfl
theorem iC {P C R : List Keyed} {x : Keyed} {i : Nat} (h : i = P.length + C.length) : (P ++ ((C ++ [x]) ++ R))[i]? = some x := by
  rw [List.append_assoc, ← List.append_assoc P]
  exact j7 (by rw [List.length_append]; exact h)
theorem j4 {P C R : List Keyed} {x : Keyed} {i : Nat} (h : i = P.length + C.length) : (P ++ (C ++ x :: R))[i]? = some x := by
  rw [← List.append_assoc]
  exact j7 (by rw [List.length_append]; exact h)
theorem bV.snoc {l : List Keyed} {x : Keyed} (h : bV κ l) (b : Below κ l [x]) : bV κ (l ++ [x]) := h.append (List.pairwise_singleton _ _) b
theorem iP {l : List Keyed} (h : 1 ≤ l.length) : ∃ c x, l = c ++ [x] := ⟨l.dropLast, l.getLast (by intro e; rw [e] at h; cases h), (List.dropLast_concat_getLast _).symm⟩
theorem bV.wH {c : List Keyed} {x y : Keyed} (h : bV κ (c ++ [x])) (b : κ.kle (key κ x) (key κ y)) : Below κ (c ++ [x]) [y] := fun u hu v hv => by
  cases List.mem_singleton.mp hv
  rcases List.mem_append.mp hu with hu | hu
  · exact KeyOrd.kle_trans (h.mid u hu x (List.mem_singleton_self _)) b
  · cases List.mem_singleton.mp hu
    exact b
structure rh (κ : KeyKind) (st0 : SortSt) (P S : List Keyed) (n : Nat) (M O R : List Keyed) (st : SortSt) : Prop where
  e : (arrOf st).toList = P ++ (M ++ R)
  s : S = O ++ R
  m : M.length = n
  o : O.length = n
  sm : bV κ M
  tm : aS κ M O
  cg : pQ st0 st
structure vi (κ : KeyKind) (st0 : SortSt) (P S : List Keyed) (n neq : Nat) (C G O R : List Keyed) (st : SortSt) : Prop where
  e : (arrOf st).toList = P ++ ((C ++ G) ++ R)
  s : S = O ++ R
  o : O.length = n
  m : C.length + G.length = n
  g : G.length = neq + 1
  sc : bV κ C.reverse
  un : Under κ G C
  gg : Below κ G G
  t : aS κ (C.reverse ++ G) O
  cg : pQ st0 st
theorem ng {P C G R : List Keyed} : P ++ ((C ++ G) ++ R) = (P ++ C) ++ (G ++ R) := by rw [List.append_assoc, List.append_assoc]
theorem lK {G : List Keyed} (h : Below κ G G) : bV κ G := List.pairwise_iff_forall_sublist.mpr fun {a b} hs => h a (hs.subset List.mem_cons_self) b (hs.subset (List.mem_cons_of_mem _ (List.mem_singleton_self _)))
theorem Under.rev {G C : List Keyed} (h : Under κ G C) : Under κ G C.reverse := fun x hx y hy => h x hx y (List.mem_reverse.mp hy)
theorem vi.up {st0 : SortSt} {P S C G O R : List Keyed} {n neq : Nat} {st st' : SortSt} (d : vi κ st0 P S n neq C G O R st) (cg : pQ st st') (e : (arrOf st').toList = P ++ ((G ++ C.reverse) ++ R)) : rh κ st0 P S n (G ++ C.reverse) O R st' :=
  ⟨e, d.s, by have := d.m; rw [List.length_append, List.length_reverse]; omega, d.o, (lK d.gg).append d.sc d.un.rev.below, (aS.swap d.un.rev).trans d.t, d.cg.trans cg⟩
theorem vi.less {st0 : SortSt} {P S C G O R : List Keyed} {n neq : Nat} {st st' : SortSt} {y : Keyed} (d : vi κ st0 P S n neq C G O (y :: R) st) (u : Under κ [y] G) (g1 : 1 ≤ G.length) (cg : pQ st st') (e : (arrOf st').toList = (P ++ C) ++ (G.reverse ++ y :: R)) : vi κ st0 P S (n + 1) 0 (C ++ G.reverse) [y] (O ++ [y]) R st' := by
  have m := d.m
  have r : (C ++ G.reverse).reverse = G ++ C.reverse := by rw [List.reverse_append, List.reverse_reverse]
  refine ⟨by rw [e, List.append_assoc, List.append_assoc, List.append_assoc]; rfl, by rw [d.s, List.append_assoc]; rfl, by rw [List.length_append, d.o]; rfl, by rw [List.length_append, List.length_reverse]; show _ + 1 = _; omega, rfl, ?_, ?_, ?_, ?_, d.cg.trans cg⟩
  · rw [r]
    exact (lK d.gg).append d.sc d.un.rev.below
  · intro x hx z hz
    rcases List.mem_append.mp hz with hz | hz
    · obtain ⟨g, hg⟩ := List.exists_mem_of_length_pos g1
      exact KeyOrd.klt_of_klt_of_kle (u x hx g hg) (d.un.below g hg z hz)
    · exact u x hx z (List.mem_reverse.mp hz)
  · intro x hx z hz
    cases List.mem_singleton.mp hx
    cases List.mem_singleton.mp hz
    exact KeyOrd.kle_refl _
  · rw [r]
    exact ((aS.swap d.un.rev).trans d.t).append (aS.refl _)
theorem vi.same {st0 : SortSt} {P S C G O R : List Keyed} {n neq : Nat} {st : SortSt} {y z : Keyed} (d : vi κ st0 P S n neq C G O (y :: R) st) (hz : z ∈ G) (h1 : κ.kle (key κ z) (key κ y)) (h2 : κ.kle (key κ y) (key κ z)) : vi κ st0 P S (n + 1) (neq + 1) C (G ++ [y]) (O ++ [y]) R st := by
  have m := d.m
  have g := d.g
  refine ⟨by rw [d.e, ← List.append_assoc C, List.append_assoc _ [y]]; rfl, by rw [d.s, List.append_assoc]; rfl, by rw [List.length_append, d.o]; rfl, by rw [List.length_append]; show _ + (_ + 1) = _; omega, by rw [List.length_append, g]; rfl, d.sc, ?_, ?_, ?_, d.cg⟩
  · intro u hu v hv
    rcases List.mem_append.mp hu with hu | hu
    · exact d.un u hu v hv
    · cases List.mem_singleton.mp hu
      exact KeyOrd.klt_of_kle_of_klt h2 (d.un z hz v hv)
  · intro u hu v hv
    have a1 : κ.kle (key κ u) (key κ z) := by
      rcases List.mem_append.mp hu with hu | hu
      · exact d.gg u hu z hz
      · cases List.mem_singleton.mp hu
        exact h2
    refine KeyOrd.kle_trans a1 ?_
    rcases List.mem_append.mp hv with hv | hv
    · exact d.gg z hz v hv
    · cases List.mem_singleton.mp hv
      exact h1
  · rw [← List.append_assoc]
    exact d.t.append (aS.refl _)
theorem lL (hL : i0 prog w A E s κ kd) {lo nrem : Nat} {st : SortSt} {Q : Option Nat → SortSt → Prop} {P S : List Keyed} (hk : kindOf st = kd) (ks : ∀ x ∈ S, fQ κ x) (he0 : (arrOf st).toList = P ++ S) (hlo : lo = P.length) (hn : S.length = nrem) (h1 : 1 ≤ nrem)
    (q : ∀ n st' M O R, 1 ≤ n → n ≤ nrem → rh κ st P S n M O R st' → Q (some n) st') : wpS (model prog w) A E s (pX lo nrem) Q st := by
  have a0 : ∃ M O R, rh κ st P S 1 M O R st := by
    cases S with
    | nil => rw [← hn] at h1; cases h1
    | cons x R => exact ⟨[x], [x], R, he0, rfl, rfl, rfl, List.pairwise_singleton _ _, aS.refl _, pQ.refl _⟩
  refine wpS_bind (wpS_mono (wpS_forRange (I := fun x c st' => c = (none, x) ∧ ∃ M O R, rh κ st P S x M O R st')
    (Q := fun c st' => ∃ n, c = (none, n) ∧ (1 ≤ n ∧ n ≤ nrem) ∧ ∃ M O R, rh κ st P S n M O R st' ∧ (R = [] ∨ ∃ c z y R', M = c ++ [z] ∧ R = y :: R' ∧ κ.klt (key κ y) (key κ z))) ?step ?fin ⟨rfl, a0⟩) ?post)
  case step =>
    rintro x c st' hx0 hx ⟨rfl, M, O, R, he, hS, hM, hO, sM, tM, cg⟩
    dsimp only
    cases R with
    | nil => rw [hS, List.append_nil, hO] at hn; omega
    | cons y R =>
    obtain ⟨c, z, rfl⟩ := iP (show 1 ≤ M.length by omega)
    have kM : fQ κ z := ks z (by rw [hS]; exact List.mem_append_left _ (tM.mem.mp (List.mem_append_right _ (List.mem_singleton_self _))))
    have ky : fQ κ y := ks y (by rw [hS]; exact List.mem_append_right _ List.mem_cons_self)
    rw [List.length_append] at hM
    have hM' : c.length + 1 = x := hM
    refine wpS_bind (fF hL (cg.kind.trans hk) (by rw [he]; exact j4 (by rw [List.length_append]; show _ = _ + (c.length + 1); omega)) (by rw [he]; exact iC (by omega)) ky kM ?_)
    dsimp only
    cases hb : κ.blt (key κ y) (key κ z) with
    | true => exact wpS_pure ⟨x, rfl, ⟨by omega, by omega⟩, c ++ [z], O, y :: R, ⟨he, hS, by rw [List.length_append]; exact hM, hO, sM, tM, cg⟩, .inr ⟨c, z, y, R, rfl, rfl, hb⟩⟩
    | false => exact wpS_pure ⟨rfl, (c ++ [z]) ++ [y], O ++ [y], R, by rw [he, List.append_assoc _ [y]]; rfl, by rw [hS, List.append_assoc]; rfl, by rw [List.length_append, List.length_append]; show c.length + 1 + 1 = _; omega, by rw [List.length_append]; show O.length + 1 = _; omega, sM.snoc (sM.wH hb), tM.append (aS.refl _), cg⟩
  case fin =>
    rintro c st' ⟨rfl, M, O, R, h⟩
    have hR : R = [] := by
      have h3 := h.s
      rw [h3, List.length_append, h.o] at hn
      exact List.eq_nil_of_length_eq_zero (by omega)
    exact ⟨_, rfl, ⟨by omega, by omega⟩, M, O, R, h, .inl hR⟩
  case post =>
    rintro c st1 ⟨n, rfl, nn, M, O, R, h, hR⟩
    dsimp only
    refine aO (fun c1 => wpS_pure (q n st1 M O R nn.1 nn.2 h)) (fun c1 => ?_)
    rw [beq_iff_eq] at c1
    rcases hR with rfl | ⟨c, z, y, R, rfl, rfl, lt⟩
    · exfalso
      rw [h.s, List.append_nil, h.o] at hn
      exact c1 hn
    have nn1 := nn.1
    have nn2 := nn.2
    have hm := h.m
    rw [List.length_append] at hm
    have hm' : c.length + 1 = n := hm
    have hz : z ∈ c ++ [z] := List.mem_append_right _ (List.mem_singleton_self _)
    have kof : ∀ u ∈ c ++ [z], fQ κ u := fun u hu => ks u (by rw [h.s]; exact List.mem_append_left _ (h.tm.mem.mp hu))
    have start : ∀ {C : List Keyed} {st2 : SortSt}, pQ st st2 → (arrOf st2).toList = P ++ (C ++ y :: R) → C.reverse = c ++ [z] → (∀ u ∈ c ++ [z], κ.kle (key κ z) (key κ u)) → vi κ st P S (n + 1) 0 C [y] (O ++ [y]) R st2 := fun {C st2} cg e r al => by
      have cl : C.length = n := by rw [← List.length_reverse, r, List.length_append]; exact hm'
      refine ⟨by rw [e, List.append_assoc]; rfl, by rw [h.s, List.append_assoc]; rfl, by rw [List.length_append, h.o]; rfl, by rw [cl]; rfl, rfl, by rw [r]; exact h.sm, fun a ha b hb => ?_, fun a ha b hb => ?_, by rw [r]; exact h.tm.append (aS.refl _), cg⟩
      · cases List.mem_singleton.mp ha
        exact KeyOrd.klt_of_klt_of_kle lt (al b (by rw [← r]; exact List.mem_reverse.mpr hb))
      · cases List.mem_singleton.mp ha
        cases List.mem_singleton.mp hb
        exact KeyOrd.kle_refl _
    refine aO (fun c2 => ?_) (fun c2 => ?_)
    obtain ⟨f, c', rfl⟩ : ∃ f c', c = f :: c' := by
      cases c with
      | nil => have : 0 + 1 = n := hm'; omega
      | cons f c' => exact ⟨f, c', rfl⟩
    refine wpS_bind (fF hL (h.cg.kind.trans hk) (x := f) (y := z) (by rw [h.e]; exact j7 hlo) (by rw [h.e]; exact iC (by omega)) (kof f List.mem_cons_self) (kof z hz) ?_)
    dsimp only
    refine aO (fun hb => wpS_pure (q n st1 _ _ _ nn1 nn2 h)) (fun hb => ?_)
    refine wpS_bind (iV h.e hlo (by rw [List.length_append]; show _ = _ + (_ + 1); omega) fun st2 cg2 e2 => ?_)
    have d0 := start (h.cg.trans cg2) e2 (List.reverse_reverse _) fun u hu => KeyOrd.kle_trans (show κ.kle (key κ z) (key κ f) from Bool.eq_false_iff.mpr hb) (bV.head (x := f) (l := c' ++ [z]) h.sm f (List.mem_singleton_self _) u hu)
    rotate_left
    have c0 : c = [] := List.eq_nil_of_length_eq_zero (by omega)
    subst c0
    have d0 := start (C := [z]) h.cg h.e rfl fun u hu => by
      cases List.mem_singleton.mp hu
      exact KeyOrd.kle_refl _
    all_goals
      refine wpS_bind (wpS_lift (wpAny_rule ⟨rfl, ?_⟩))
      refine wpS_bind (wpS_mono (wpS_forRange (I := fun x c st' => ∃ neq, c = (none, x, neq) ∧ ∃ C G O R, vi κ st P S x neq C G O R st')
        (Q := fun c st' => ∃ m neq, c = (none, m, neq) ∧ (1 ≤ m ∧ m ≤ nrem) ∧ ∃ C G O R, vi κ st P S m neq C G O R st') ?_ ?_ ⟨0, rfl, _, _, _, _, d0⟩) ?_)
      · rintro x c st' hx0 hx ⟨neq, rfl, C, G, O, R, d⟩
        dsimp only
        cases R with
        | nil => rw [d.s, List.append_nil, d.o] at hn; omega
        | cons y R =>
        have dg := d.g
        have dm := d.m
        obtain ⟨g, z, rfl⟩ := iP (show 1 ≤ G.length by omega)
        have hz : z ∈ g ++ [z] := List.mem_append_right _ (List.mem_singleton_self _)
        have kz : fQ κ z := ks z (by rw [d.s]; exact List.mem_append_left _ (d.t.mem.mp (List.mem_append_right _ hz)))
        have ky : fQ κ y := ks y (by rw [d.s]; exact List.mem_append_right _ List.mem_cons_self)
        rw [List.length_append] at dg dm
        have dg' : g.length + 1 = neq + 1 := dg
        have dm' : C.length + (g.length + 1) = x := dm
        have py : (arrOf st').toList[lo + x]? = some y := by rw [d.e]; exact j4 (by rw [List.length_append, List.length_append]; show _ = _ + (C.length + (g.length + 1)); omega)
        have pz : (arrOf st').toList[lo + x - 1]? = some z := by rw [d.e, ← List.append_assoc C]; exact iC (by rw [List.length_append]; omega)
        refine wpS_bind (fF hL (d.cg.kind.trans hk) py pz ky kz ?_)
        dsimp only
        cases hb : κ.blt (key κ y) (key κ z) with
        | true =>
          have u : Under κ [y] (g ++ [z]) := fun a ha b hb' => by
            cases List.mem_singleton.mp ha
            exact KeyOrd.klt_of_klt_of_kle (show κ.klt _ _ from hb) (d.gg z hz b hb')
          rw [if_pos rfl]
          refine aO (fun c2 => ?_) (fun c2 => ?_)
          · refine wpS_bind (iV (P := P ++ C) (G := g ++ [z]) (R := y :: R) (d.e.trans ng) (by rw [List.length_append]; omega) (by rw [List.length_append]; show _ = _ + (g.length + 1); omega) fun st3 cg3 e3 => ?_)
            exact wpS_pure ⟨0, rfl, _, _, _, _, d.less u (by rw [List.length_append]; show 1 ≤ _ + 1; omega) cg3 e3⟩
          · have g0 : g = [] := List.eq_nil_of_length_eq_zero (by omega)
            subst g0
            exact wpS_pure ⟨0, rfl, _, _, _, _, d.less u (Nat.le_refl 1) (pQ.refl _) (d.e.trans ng)⟩
        | false =>
          rw [if_neg Bool.false_ne_true]
          refine wpS_bind (fF hL (d.cg.kind.trans hk) pz py kz ky ?_)
          dsimp only
          cases hb2 : κ.blt (key κ z) (key κ y) with
          | true => exact wpS_pure ⟨x, neq, rfl, ⟨by omega, by omega⟩, C, g ++ [z], O, y :: R, d⟩
          | false => exact wpS_pure ⟨neq + 1, rfl, _, _, _, _, d.same hz hb hb2⟩
      · rintro c st' ⟨neq, rfl, C, G, O, R, d⟩
        have := d.s
        have := d.o
        exact ⟨_, neq, rfl, ⟨by omega, by rw [d.s, List.length_append, d.o] at hn; omega⟩, C, G, O, R, d⟩
      · rintro c st3 ⟨m, neq, rfl, mm, C, G, O, R, d⟩
        dsimp only
        have dg := d.g
        have dm := d.m
        have hm1 := mm.1
        have hm2 := mm.2
        refine aO (fun c2 => ?_) (fun c2 => ?_)
        refine wpS_bind (iV (P := P ++ C) (G := G) (R := R) (d.e.trans ng) (by rw [List.length_append]; omega) (by omega) fun st4 cg4 e4 => ?_)
        refine wpS_bind (iV (P := P) (G := C ++ G.reverse) (R := R) (e4.trans ng.symm) hlo (by rw [List.length_append, List.length_reverse]; omega) fun st5 cg5 e5 => ?_)
        have up := d.up (cg4.trans cg5) (by rw [e5, List.reverse_append, List.reverse_reverse])
        rotate_left
        refine wpS_bind (iV (P := P) (G := C ++ G) (R := R) d.e hlo (by rw [List.length_append]; omega) fun st5 cg5 e5 => ?_)
        have G1 : G.reverse = G := by
          obtain ⟨g, z, rfl⟩ := iP (show 1 ≤ G.length by omega)
          rw [List.length_append] at dg
          rw [List.eq_nil_of_length_eq_zero (show g.length = 0 by have : g.length + 1 = neq + 1 := dg; omega)]
          rfl
        have up := d.up cg5 (by rw [e5, List.reverse_append, G1])
        all_goals
          refine wpS_bind (wpS_mono (wpS_forRange (I := fun x c st' => c = (none, x) ∧ ∃ M O R, rh κ st P S x M O R st')
            (Q := fun c st' => ∃ n, c = (none, n) ∧ (1 ≤ n ∧ n ≤ nrem) ∧ ∃ M O R, rh κ st P S n M O R st' ∧ (R = [] ∨ ∃ c z y R', M = c ++ [z] ∧ R = y :: R' ∧ κ.klt (key κ y) (key κ z))) ?_ ?_ ⟨rfl, _, _, _, up⟩) ?_)
          · rintro x c st' hx0 hx ⟨rfl, M, O, R, he, hS, hM, hO, sM, tM, cg⟩
            dsimp only
            cases R with
            | nil => rw [hS, List.append_nil, hO] at hn; omega
            | cons y R =>
            obtain ⟨c, z, rfl⟩ := iP (show 1 ≤ M.length by omega)
            have kM : fQ κ z := ks z (by rw [hS]; exact List.mem_append_left _ (tM.mem.mp (List.mem_append_right _ (List.mem_singleton_self _))))
            have ky : fQ κ y := ks y (by rw [hS]; exact List.mem_append_right _ List.mem_cons_self)
            rw [List.length_append] at hM
            have hM' : c.length + 1 = x := hM
            refine wpS_bind (fF hL (cg.kind.trans hk) (by rw [he]; exact j4 (by rw [List.length_append]; show _ = _ + (c.length + 1); omega)) (by rw [he]; exact iC (by omega)) ky kM ?_)
            dsimp only
            cases hb : κ.blt (key κ y) (key κ z) with
            | true => exact wpS_pure ⟨x, rfl, ⟨by omega, by omega⟩, c ++ [z], O, y :: R, ⟨he, hS, by rw [List.length_append]; exact hM, hO, sM, tM, cg⟩, .inr ⟨c, z, y, R, rfl, rfl, hb⟩⟩
            | false => exact wpS_pure ⟨rfl, (c ++ [z]) ++ [y], O ++ [y], R, by rw [he, List.append_assoc _ [y]]; rfl, by rw [hS, List.append_assoc]; rfl, by rw [List.length_append, List.length_append]; show c.length + 1 + 1 = _; omega, by rw [List.length_append]; show O.length + 1 = _; omega, sM.snoc (sM.wH hb), tM.append (aS.refl _), cg⟩
          · rintro c st' ⟨rfl, M, O, R, h⟩
            have hR : R = [] := by
              have h3 := h.s
              rw [h3, List.length_append, h.o] at hn
              exact List.eq_nil_of_length_eq_zero (by omega)
            exact ⟨_, rfl, ⟨by omega, by omega⟩, M, O, R, h, .inl hR⟩
          · rintro c st' ⟨n, rfl, nn, M, O, R, h, _⟩
            exact wpS_pure (q n st' M O R nn.1 nn.2 h)
end
end TS
namespace TS
open PySem PyProof.Rows
variable {κ : KeyKind}
def mK : Nat → StateT SortSt Sem Bool := sortPriv% PySem.Builtin.mergeAt
section
variable {prog : Program} {w : World} {A : Around} {E : Value → Shared → Prop} {s : Shared} {kd : SortKind}
theorem bV.get {l : List Keyed} (h : bV κ l) {i j : Nat} {x y : Keyed} (ij : i ≤ j) (hx : l[i]? = some x) (hy : l[j]? = some y) : κ.kle (key κ x) (key κ y) := by
  have := bV.at (κ := κ) (l := l) (b := 0) (n := l.length) (i := i) (j := j) (x := x) (y := y) (by rw [List.drop_zero, List.take_length]; exact h) ij (List.getElem?_eq_some_iff.mp hy).1 (by rw [Nat.zero_add]; exact hx) (by rw [Nat.zero_add]; exact hy)
  exact this
theorem rh.ins {st0 : SortSt} {P S M O R : List Keyed} {k l : Nat} {st st' : SortSt} {y : Keyed} (h : rh κ st0 P S k M O (y :: R) st) (b : Below κ (M.take l) [y]) (u : Under κ [y] (M.drop l)) (cg : pQ st st') (e : (arrOf st').toList = (P ++ M.take l) ++ (y :: M.drop l ++ R)) : rh κ st0 P S (k + 1) (M.take l ++ (y :: M.drop l)) (O ++ [y]) R st' := by
  have ml := h.m
  have sp : M.take l ++ M.drop l = M := List.take_append_drop l M
  have sm := h.sm
  rw [← sp] at sm
  refine ⟨by rw [e, ← ng], by rw [h.s, List.append_assoc]; rfl, ?_, by rw [List.length_append, h.o]; rfl, ?_, ?_, h.cg.trans cg⟩
  · have := congrArg List.length sp
    rw [List.length_append] at this ⊢
    show _ + (_ + 1) = _
    omega
  · refine sm.left.append (List.pairwise_cons.mpr ⟨fun z hz => KeyOrd.kle_of_klt (u y (List.mem_singleton_self _) z hz), sm.right⟩) fun a ha c hc => ?_
    rcases List.mem_cons.mp hc with rfl | hc
    · exact b a ha c (List.mem_singleton_self _)
    · exact sm.mid a ha c hc
  · have t : aS κ (M.take l ++ (y :: M.drop l)) (M ++ [y]) := by
      have : aS κ (M.take l ++ ([y] ++ M.drop l)) (M.take l ++ (M.drop l ++ [y])) := (aS.refl _).append (aS.swap u)
      rw [← List.append_assoc (M.take l) (M.drop l), sp] at this
      exact this
    exact t.trans (h.tm.append (aS.refl _))
theorem jE (hL : i0 prog w A E s κ kd) {lo n ok : Nat} {st0 st : SortSt} {Q : Bool → SortSt → Prop} {P S M O R : List Keyed} (hk : kindOf st0 = kd) (ks : ∀ x ∈ S, fQ κ x) (hlo : lo = P.length) (hn : n ≤ S.length) (h1 : 1 ≤ ok) (hok : ok ≤ n) (h : rh κ st0 P S ok M O R st)
    (q : ∀ st' M O R, rh κ st0 P S n M O R st' → Q true st') : wpS (model prog w) A E s (n6 lo n ok) Q st := by
  refine wpS_bind (wpS_mono (wpS_forRange (I := fun k c st' => c = (none, ()) ∧ ∃ M O R, rh κ st0 P S k M O R st')
    (Q := fun c st' => c = (none, ()) ∧ ∃ M O R, rh κ st0 P S n M O R st') ?step ?fin ⟨rfl, M, O, R, by rw [show max ok 1 = ok by omega]; exact h⟩) ?post)
  case post =>
    rintro c st' ⟨rfl, M, O, R, h⟩
    exact wpS_pure (q st' M O R h)
  case fin =>
    rintro c st' ⟨rfl, M, O, R, h⟩
    rw [show max (max ok 1) n = n by omega] at h
    exact ⟨rfl, M, O, R, h⟩
  case step =>
    rintro k c st1 hk0 hkn ⟨rfl, M, O, R, h⟩
    cases R with
    | nil => have e := h.s; rw [List.append_nil] at e; rw [e, h.o] at hn; omega
    | cons y R =>
    have hM := h.m
    have ky : fQ κ y := ks y (by rw [h.s]; exact List.mem_append_right _ List.mem_cons_self)
    refine wpS_bind (wpS_mono (wpS_forRange (I := fun x c st' => st' = st1 ∧ ∃ l r, c = (none, l, r) ∧ l ≤ r ∧ r ≤ k ∧ r - l ≤ k - x ∧ (∀ i u, i < l → M[i]? = some u → κ.kle (key κ u) (key κ y)) ∧ (∀ i u, r ≤ i → M[i]? = some u → κ.klt (key κ y) (key κ u)))
      (Q := fun c st' => st' = st1 ∧ ∃ l, c = (none, l, l) ∧ l ≤ k ∧ (∀ i u, i < l → M[i]? = some u → κ.kle (key κ u) (key κ y)) ∧ (∀ i u, l ≤ i → M[i]? = some u → κ.klt (key κ y) (key κ u))) ?istep ?ifin ⟨rfl, 0, k, rfl, by omega, by omega, by omega, fun i u hi => by omega, fun i u hi hu => by have := (List.getElem?_eq_some_iff.mp hu).1; omega⟩) ?ipost)
    case ifin =>
      rintro c st' ⟨rfl, l, r, rfl, lr, rk, rl, g1, g2⟩
      have e : l = r := by omega
      subst e
      exact ⟨rfl, l, rfl, rk, g1, g2⟩
    case istep =>
      rintro x c st' _ hx ⟨rfl, l, r, rfl, lr, rk, rl, g1, g2⟩
      dsimp only
      refine aO (fun c1 => ?_) (fun c1 => ?_)
      · have e : l = r := by omega
        subst e
        exact wpS_pure ⟨rfl, l, rfl, rk, g1, g2⟩
      obtain ⟨z, hz⟩ : ∃ z, M[(l + r) / 2]? = some z := ⟨_, List.getElem?_eq_getElem (by omega)⟩
      have kz : fQ κ z := ks z (by rw [h.s]; exact List.mem_append_left _ (h.tm.mem.mp (List.mem_of_getElem? hz)))
      refine wpS_bind (fF hL (h.cg.kind.trans hk) (x := y) (y := z) (by rw [h.e]; exact j4 (by omega)) (by rw [h.e, List.getElem?_append_right (by omega), List.getElem?_append_left (by omega), ← hz]; congr 1; omega) ky kz ?_)
      dsimp only
      cases hb : κ.blt (key κ y) (key κ z) with
      | true => exact wpS_pure ⟨rfl, l, (l + r) / 2, rfl, by omega, by omega, by omega, g1, fun i u hi hu => KeyOrd.klt_of_klt_of_kle (show κ.klt _ _ from hb) (h.sm.get hi hz hu)⟩
      | false => exact wpS_pure ⟨rfl, (l + r) / 2 + 1, r, rfl, by omega, by omega, by omega, fun i u hi hu => KeyOrd.kle_trans (h.sm.get (by omega) hu hz) (show κ.kle _ _ from hb), g2⟩
    case ipost =>
      rintro c st' ⟨rfl, l, rfl, lk, g1, g2⟩
      dsimp only
      have e1 : (arrOf st').toList = (P ++ M.take l) ++ (M.drop l ++ y :: R) := by rw [h.e, ← ng, List.take_append_drop]
      have tl : (M.take l).length = l := by rw [List.length_take]; omega
      have dl : (M.drop l).length = k - l := by rw [List.length_drop]; omega
      refine wpS_bind (wq e1 (by rw [List.length_append]; omega) (by rw [List.length_append]; omega) fun st2 cg2 e2 => wpS_pure ⟨rfl, _, _, _, h.ins (l := l) (fun a ha b hb => ?_) (fun b hb a ha => ?_) cg2 e2⟩)
      · cases List.mem_singleton.mp hb
        obtain ⟨i, hi⟩ := List.getElem?_of_mem ha
        have il := (List.getElem?_eq_some_iff.mp hi).1
        rw [List.getElem?_take_of_lt (by omega)] at hi
        exact g1 i a (by omega) hi
      · cases List.mem_singleton.mp hb
        obtain ⟨i, hi⟩ := List.getElem?_of_mem ha
        rw [List.getElem?_drop] at hi
        exact g2 (l + i) a (by omega) hi
theorem tR {L P X Y : List Keyed} (e : L = P ++ (X ++ Y)) {i m : Nat} (hi : i = P.length) (hm : m ≤ X.length) : (L.drop i).take m = X.take m := by
  rw [e, hi, List.drop_left, List.take_append_of_le_length hm]
theorem zr {L P X Y : List Keyed} (e : L = P ++ (X ++ Y)) {i k n : Nat} (hi : i = P.length) (hn : n = X.length) (hk : k ≤ n) : (L.drop (i + k)).take (n - k) = X.drop k := by
  have : L = (P ++ X.take k) ++ (X.drop k ++ Y) := by rw [e, ← ng, List.take_append_drop]
  rw [tR this (by rw [List.length_append, List.length_take]; omega) (by rw [List.length_drop]; omega)]
  exact List.take_of_length_le (by rw [List.length_drop]; omega)
theorem mI {A1 A2 B1 B2 M : List Keyed} (sa : bV κ (A1 ++ A2)) (sb : bV κ (B1 ++ B2)) (b1 : Below κ A1 (B1 ++ B2)) (b2 : Below κ (A1 ++ A2) B2) (sm : bV κ M) (tm : aS κ M (A2 ++ B1)) : bV κ (A1 ++ (M ++ B2)) ∧ aS κ (A1 ++ (M ++ B2)) ((A1 ++ A2) ++ (B1 ++ B2)) := by
  have mm : ∀ x ∈ M, x ∈ A2 ∨ x ∈ B1 := fun x hx => List.mem_append.mp (tm.mem.mp hx)
  refine ⟨sa.left.append (sm.append sb.right fun x hx y hy => ?_) fun x hx y hy => ?_, ?_⟩
  · exact (mm x hx).elim (fun h => b2 x (List.mem_append_right _ h) y hy) (fun h => sb.mid x h y hy)
  · rcases List.mem_append.mp hy with hy | hy
    · exact (mm y hy).elim (fun h => sa.mid x hx y h) (fun h => b1 x hx y (List.mem_append_left _ h))
    · exact b2 x (List.mem_append_left _ hx) y hy
  · have : aS κ (A1 ++ (M ++ B2)) (A1 ++ ((A2 ++ B1) ++ B2)) := (aS.refl _).append (tm.append (aS.refl _))
    rw [List.append_assoc A1 A2, ← List.append_assoc A2 B1 B2]
    exact this
theorem xS {l : List Keyed} (h : 1 ≤ l.length) : ∃ x r, l = x :: r := by
  cases l with
  | nil => cases h
  | cons x r => exact ⟨x, r, rfl⟩
structure Mg (κ : KeyKind) (st st' : SortSt) (P X Y R : List Keyed) (pend : Array (Nat × Nat × Nat)) : Prop where
  kind : kindOf st' = kindOf st
  failed : failedOf st' = failedOf st
  pend : pendingOf st' = pend
  ex : ∃ M, (arrOf st').toList = P ++ (M ++ R) ∧ bV κ M ∧ aS κ M (X ++ Y)
theorem yz {σ : Type} {M : Model} {A : Around} {E : Value → Shared → Prop} {s : Shared} {st' st : σ} {Q : PUnit → σ → Prop} (h : Q ⟨⟩ st') : wpS M A E s (set st' : StateT σ Sem PUnit) Q st := by
  unfold wpS
  rw [StateT.run_set]
  exact wpAny_pure ⟨rfl, h⟩
theorem lV (hL : i0 prog w A E s κ kd) {st : SortSt} {Q : Bool → SortSt → Prop} {P X Y R : List Keyed} {i sa na pa sb nb pb : Nat} (hk : kindOf st = kd) (hf : failedOf st = none) (ks : ∀ x ∈ (arrOf st).toList, fQ κ x) (p1 : (pendingOf st)[i]? = some (sa, na, pa)) (p2 : (pendingOf st)[i + 1]? = some (sb, nb, pb))
    (e : (arrOf st).toList = P ++ (X ++ (Y ++ R))) (ha : sa = P.length) (hx : na = X.length) (hb : sb = sa + na) (hy : nb = Y.length) (x1 : 1 ≤ na) (y1 : 1 ≤ nb) (sx : bV κ X) (sy : bV κ Y)
    (q : ∀ st', Mg κ st st' P X Y R (((pendingOf st).setIfInBounds i (sa, na + nb, pa)).eraseIdxIfInBounds (i + 1)) → Q true st') : wpS (model prog w) A E s (mK i) Q st := by
  refine wpS_bind (wpS_get ?_)
  rw [p1, p2]
  dsimp only
  refine wpS_bind (yz ?_)
  have sz : (arrOf st).size = P.length + (X.length + (Y.length + R.length)) := by rw [← Array.length_toList, e, List.length_append, List.length_append, List.length_append]
  have e' : (arrOf st).toList = (P ++ X) ++ (Y ++ R) := by rw [e, List.append_assoc]
  obtain ⟨y0, Y', hY⟩ := xS (show 1 ≤ Y.length by omega)
  obtain ⟨c, z, hX⟩ := iP (show 1 ≤ X.length by omega)
  have cl : c.length + 1 = na := by rw [hx, hX, List.length_append]; rfl
  have ey : (arrOf st)[sb]? = some y0 := by
    rw [← Array.getElem?_toList, e', hY]
    exact j7 (by rw [List.length_append]; omega)
  have ez : ∀ k, k ≤ na → 0 < na - k → (arrOf st)[sa + k + (na - k) - 1]? = some z := fun k h1 h2 => by
    rw [← Array.getElem?_toList, e, hX]
    exact iC (by omega)
  have kX : ∀ u ∈ X, fQ κ u := fun u hu => ks u (by rw [e]; exact List.mem_append_right _ (List.mem_append_left _ hu))
  have kY : ∀ u ∈ Y, fQ κ u := fun u hu => ks u (by rw [e]; exact List.mem_append_right _ (List.mem_append_right _ (List.mem_append_left _ hu)))
  have by0 : Below κ [y0] Y := by rw [hY] at sy ⊢; exact sy.head
  have lastz : Below κ X [z] := by rw [hX] at sx ⊢; exact sx.wH (KeyOrd.kle_refl _)
  refine wpS_bind (aY ey (wpS_bind (kZ hL hk (kY y0 (by rw [hY]; exact List.mem_cons_self)) ks (show sa + na ≤ (arrOf st).size by omega) (by rw [tR e ha (by omega)]; exact sx.take _) (by omega) fun k hk1 bl un => ?_)))
  rw [tR e ha (by omega)] at bl
  rw [zr e ha hx hk1] at un
  dsimp only
  refine aO (fun c1 => ?_) (fun c1 => ?_)
  · rw [beq_iff_eq] at c1
    rw [List.take_of_length_le (by omega)] at bl
    exact wpS_pure (q _ ⟨rfl, rfl, rfl, X ++ Y, by rw [List.append_assoc]; exact e, sx.append sy (Below.over bl by0), aS.refl _⟩)
  rw [beq_iff_eq] at c1
  refine wpS_bind (aY (ez k hk1 (by omega)) (wpS_bind (lG hL hk (kX z (by rw [hX]; exact List.mem_append_right _ (List.mem_singleton_self _))) ks (show sb + nb ≤ (arrOf st).size by omega) (by rw [tR e' (by rw [List.length_append]; omega) (by omega)]; exact sy.take _) (by omega) fun m hm ul bl2 => ?_)))
  rw [tR e' (by rw [List.length_append]; omega) (by omega)] at ul
  rw [zr e' (by rw [List.length_append]; omega) hy hm] at bl2
  dsimp only
  refine aO (fun c2 => ?_) (fun c2 => ?_)
  · rw [beq_iff_eq] at c2
    rw [c2, List.drop_zero] at bl2
    exact wpS_pure (q _ ⟨rfl, rfl, rfl, X ++ Y, by rw [List.append_assoc]; exact e, sx.append sy (Below.over lastz bl2), aS.refl _⟩)
  rw [beq_iff_eq] at c2
  have hax : ((arrOf st).extract (sa + k) sb).toList = X.drop k := by
    rw [Array.toList_extract]
    have := zr e ha hx hk1
    rw [show na - k = sb - (sa + k) by omega] at this
    exact this
  have hay : ((arrOf st).extract sb (sb + m)).toList = Y.take m := by
    rw [kW]
    exact tR e' (by rw [List.length_append]; omega) (by omega)
  have lax : ((arrOf st).extract (sa + k) sb).size = na - k := by rw [← Array.length_toList, hax, List.length_drop]; omega
  have lay : ((arrOf st).extract sb (sb + m)).size = m := by rw [← Array.length_toList, hay, List.length_take]; omega
  generalize (arrOf st).extract (sa + k) sb = ax at hax lax
  generalize (arrOf st).extract sb (sb + m) = ay at hay lay
  have ka : ∀ u ∈ ax.toList, fQ κ u := fun u hu => kX u (List.mem_of_mem_drop (by rw [← hax]; exact hu))
  have kb : ∀ u ∈ ay.toList, fQ κ u := fun u hu => kY u (List.mem_of_mem_take (by rw [← hay]; exact hu))
  have sax : bV κ ax.toList := by rw [hax]; exact sx.drop k
  have say : bV κ ay.toList := by rw [hay]; exact sy.take m
  have u1 : Under κ (ay.toList.take 1) ax.toList := by
    rw [hay, hax, List.take_take, hY, Nat.min_eq_left (by omega)]
    exact un
  have u2 : Under κ ay.toList (ax.toList.drop (ax.size - 1)) := by
    rw [hay, hax, lax, List.drop_drop, hX, List.drop_left' (by omega)]
    exact ul
  refine aO (fun _ => ?_) (fun _ => ?_)
  · refine wpS_bind (pM hL hk ka kb sax say (by omega) (by omega) u1 u2 ?_)
    intro r st4 kp mr
    have rl : r.toList.length = (X.drop k ++ Y.take m).length := by rw [← hax, ← hay]; exact mr.2.perm.length_eq
    refine wpS_bind (wpS_modify (wpS_bind (wpS_get (wpS_pure ?_))))
    show Q (failedOf st4).isNone _
    rw [kp.failed.trans hf]
    have mr2 := mr.2
    rw [hax, hay] at mr2
    have fin := mI (A1 := X.take k) (A2 := X.drop k) (B1 := Y.take m) (B2 := Y.drop m) (by rw [List.take_append_drop]; exact sx) (by rw [List.take_append_drop]; exact sy) (by rw [List.take_append_drop]; exact Below.over bl by0) (by rw [List.take_append_drop]; exact Below.over lastz bl2) mr.1 mr2
    rw [List.take_append_drop, List.take_append_drop] at fin
    refine q _ ⟨kp.kind, kp.failed, kp.pend, _, ?_, fin.1, fin.2⟩
    refine (iu r.toList 0 (sa + k) (arrOf st4) (P ++ X.take k) (X.drop k ++ Y.take m) (Y.drop m ++ R) ?_ rl ?_).trans ?_
    · rw [kp.arr, ← ng, ← List.append_assoc (X.take k), List.take_append_drop, List.append_assoc X, ← List.append_assoc (Y.take m), List.take_append_drop]
      exact e
    · rw [List.length_append, List.length_take]
      omega
    · rw [List.append_assoc P, List.append_assoc (X.take k), List.append_assoc r.toList]
  · refine wpS_bind (oZ hL hk ka kb sax say (by omega) (by omega) u1 u2 ?_)
    intro r st4 kp mr
    have rl : r.toList.length = (X.drop k ++ Y.take m).length := by rw [← hax, ← hay]; exact mr.2.perm.length_eq
    refine wpS_bind (wpS_modify (wpS_bind (wpS_get (wpS_pure ?_))))
    show Q (failedOf st4).isNone _
    rw [kp.failed.trans hf]
    have mr2 := mr.2
    rw [hax, hay] at mr2
    have fin := mI (A1 := X.take k) (A2 := X.drop k) (B1 := Y.take m) (B2 := Y.drop m) (by rw [List.take_append_drop]; exact sx) (by rw [List.take_append_drop]; exact sy) (by rw [List.take_append_drop]; exact Below.over bl by0) (by rw [List.take_append_drop]; exact Below.over lastz bl2) mr.1 mr2
    rw [List.take_append_drop, List.take_append_drop] at fin
    refine q _ ⟨kp.kind, kp.failed, kp.pend, _, ?_, fin.1, fin.2⟩
    refine (iu r.toList 0 (sa + k) (arrOf st4) (P ++ X.take k) (X.drop k ++ Y.take m) (Y.drop m ++ R) ?_ rl ?_).trans ?_
    · rw [kp.arr, ← ng, ← List.append_assoc (X.take k), List.take_append_drop, List.append_assoc X, ← List.append_assoc (Y.take m), List.take_append_drop]
      exact e
    · rw [List.length_append, List.length_take]
      omega
    · rw [List.append_assoc P, List.append_assoc (X.take k), List.append_assoc r.toList]
end
end TS
namespace TS
open PySem PyProof.Rows
variable {κ : KeyKind}
def qr : StateT SortSt Sem Unit := sortPriv% PySem.Builtin.sortRuns
def fD (κ : KeyKind) : Nat → List (Nat × Nat × Nat) → List (List Keyed) → Prop
  | _, [], [] => True
  | off, p :: ps, r :: rs => p.1 = off ∧ p.2.1 = r.length ∧ 1 ≤ p.2.1 ∧ bV κ r ∧ fD κ (off + p.2.1) ps rs
  | _, _, _ => False
theorem fD.merge : ∀ (i off : Nat) (ps : List (Nat × Nat × Nat)) (rs : List (List Keyed)), fD κ off ps rs → i + 1 < ps.length →
    ∃ rs1 X Y rs2 sa na pa sb nb pb, ps[i]? = some (sa, na, pa) ∧ ps[i + 1]? = some (sb, nb, pb) ∧ rs = rs1 ++ (X :: Y :: rs2) ∧ sa = off + rs1.flatten.length ∧ na = X.length ∧ sb = sa + na ∧ nb = Y.length ∧ 1 ≤ na ∧ 1 ≤ nb ∧ bV κ X ∧ bV κ Y ∧
      ∀ M, bV κ M → M.length = na + nb → fD κ off ((ps.set i (sa, na + nb, pa)).eraseIdx (i + 1)) (rs1 ++ (M :: rs2))
  | 0, off, [], _, _, l => by cases l
  | 0, off, [p], _, _, l => by have : 1 < 1 := l; omega
  | 0, off, (sa, na, pa) :: (sb, nb, pb) :: ps, [], t, _ => t.elim
  | 0, off, (sa, na, pa) :: (sb, nb, pb) :: ps, [X], t, _ => t.2.2.2.2.elim
  | 0, off, (sa, na, pa) :: (sb, nb, pb) :: ps, X :: Y :: rs, ⟨h1, h2, h3, h4, h5, h6, h7, h8, h9⟩, _ => by
    dsimp only at h1 h2 h3 h5 h6 h7 h9
    subst h1
    refine ⟨[], X, Y, rs, sa, na, pa, sb, nb, pb, rfl, rfl, rfl, rfl, h2, h5, h6, h3, h7, h4, h8, fun M sm ml => ⟨rfl, ml.symm, ?_, sm, ?_⟩⟩
    · show 1 ≤ na + nb
      omega
    · show fD κ (sa + (na + nb)) ps rs
      rw [← Nat.add_assoc]
      exact h9
  | i + 1, off, [], _, _, l => by cases l
  | i + 1, off, p :: ps, [], t, _ => t.elim
  | i + 1, off, p :: ps, r :: rs, ⟨h1, h2, h3, h4, h5⟩, l => by
    obtain ⟨rs1, X, Y, rs2, sa, na, pa, sb, nb, pb, g1, g2, g3, g4, g5, g6, g7, g8, g9, g10, g11, g12⟩ := fD.merge i _ ps rs h5 (Nat.lt_of_succ_lt_succ l)
    refine ⟨r :: rs1, X, Y, rs2, sa, na, pa, sb, nb, pb, g1, g2, by rw [g3]; rfl, ?_, g5, g6, g7, g8, g9, g10, g11, fun M sm ml => ⟨h1, h2, h3, h4, g12 M sm ml⟩⟩
    rw [List.flatten_cons, List.length_append, ← h2]
    omega
theorem fD.push : ∀ {off : Nat} {ps : List (Nat × Nat × Nat)} {rs : List (List Keyed)} {M : List Keyed} {pw : Nat}, fD κ off ps rs → bV κ M → 1 ≤ M.length → fD κ off (ps ++ [(off + rs.flatten.length, M.length, pw)]) (rs ++ [M])
  | off, [], [], M, pw, _, sm, ml => ⟨by rw [List.flatten_nil]; rfl, rfl, ml, sm, trivial⟩
  | off, [], _ :: _, M, pw, t, _, _ => t.elim
  | off, _ :: _, [], M, pw, t, _, _ => t.elim
  | off, p :: ps, r :: rs, M, pw, ⟨h1, h2, h3, h4, h5⟩, sm, ml => by
    refine ⟨h1, h2, h3, h4, ?_⟩
    have := fD.push (pw := pw) h5 sm ml
    rw [List.flatten_cons, List.length_append, ← h2, ← Nat.add_assoc]
    exact this
theorem fD.power : ∀ (i : Nat) {off : Nat} {ps : List (Nat × Nat × Nat)} {rs : List (List Keyed)} {pw : Nat}, fD κ off ps rs → fD κ off (ps.modify i fun p => (p.1, p.2.1, pw)) rs
  | 0, off, [], [], pw, _ => trivial
  | 0, off, [], _ :: _, pw, t => t.elim
  | 0, off, _ :: _, [], pw, t => t.elim
  | 0, off, p :: ps, r :: rs, pw, t => t
  | i + 1, off, [], [], pw, _ => trivial
  | i + 1, off, [], _ :: _, pw, t => t.elim
  | i + 1, off, _ :: _, [], pw, t => t.elim
  | i + 1, off, p :: ps, r :: rs, pw, ⟨h1, h2, h3, h4, h5⟩ => ⟨h1, h2, h3, h4, fD.power i h5⟩
theorem fD.len : ∀ {off : Nat} {ps : List (Nat × Nat × Nat)} {rs : List (List Keyed)}, fD κ off ps rs → ps.length ≤ rs.flatten.length
  | off, [], [], _ => Nat.zero_le _
  | off, [], _ :: _, t => t.elim
  | off, _ :: _, [], t => t.elim
  | off, p :: ps, r :: rs, ⟨h1, h2, h3, h4, h5⟩ => by
    have := fD.len h5
    rw [List.flatten_cons, List.length_append, ← h2]
    show ps.length + 1 ≤ _
    omega
theorem fD.one {ps : List (Nat × Nat × Nat)} {rs : List (List Keyed)} {off : Nat} (t : fD κ off ps rs) (h : ps.length ≤ 1) : bV κ rs.flatten := by
  cases ps with
  | nil =>
    cases rs with
    | nil => exact List.Pairwise.nil
    | cons r rs => exact t.elim
  | cons p ps =>
    cases ps with
    | cons p' ps => have : ps.length + 1 + 1 ≤ 1 := h; omega
    | nil =>
      cases rs with
      | nil => exact t.elim
      | cons r rs =>
        cases rs with
        | nil => rw [List.flatten_cons, List.flatten_nil, List.append_nil]; exact t.2.2.2.1
        | cons r' rs => exact t.2.2.2.2.elim
section
variable {prog : Program} {w : World} {A : Around} {E : Value → Shared → Prop} {s : Shared} {kd : SortKind}
theorem zd {c : Prop} [Decidable c] {n : Nat} (h : 1 < n) : (if c then n - 2 - 1 else n - 2) + 1 < n := by
  split <;> omega
structure RI (κ : KeyKind) (kd : SortKind) (a₀ : List Keyed) (lo : Nat) (S : List Keyed) (st : SortSt) : Prop where
  kind : kindOf st = kd
  failed : failedOf st = none
  stb : aS κ (arrOf st).toList a₀
  ex : ∃ Rs, fD κ 0 (pendingOf st).toList Rs ∧ (arrOf st).toList = Rs.flatten ++ S ∧ Rs.flatten.length = lo
theorem RI.keys {a₀ S : List Keyed} {lo : Nat} {st : SortSt} (h : RI κ kd a₀ lo S st) (ks : ∀ x ∈ a₀, fQ κ x) : ∀ x ∈ (arrOf st).toList, fQ κ x := fun x hx => ks x (h.stb.mem.mp hx)
theorem gY (hL : i0 prog w A E s κ kd) {a₀ S : List Keyed} {lo i : Nat} {st : SortSt} {Q : Bool → SortSt → Prop} (ks : ∀ x ∈ a₀, fQ κ x) (h : RI κ kd a₀ lo S st) (hi : i + 1 < (pendingOf st).size)
    (q : ∀ st', RI κ kd a₀ lo S st' → (pendingOf st').size + 1 = (pendingOf st).size → Q true st') : wpS (model prog w) A E s (mK i) Q st := by
  obtain ⟨Rs, t, e, l⟩ := h.ex
  obtain ⟨rs1, X, Y, rs2, sa, na, pa, sb, nb, pb, g1, g2, rfl, g4, g5, g6, g7, g8, g9, g10, g11, g12⟩ := t.merge i 0 _ _ (by rw [Array.length_toList]; exact hi)
  rw [Nat.zero_add] at g4
  have e' : (arrOf st).toList = rs1.flatten ++ (X ++ (Y ++ (rs2.flatten ++ S))) := by
    rw [e, List.flatten_append, List.flatten_cons, List.flatten_cons, List.append_assoc, List.append_assoc, List.append_assoc]
  refine lV hL h.kind h.failed (h.keys ks) (by rw [← Array.getElem?_toList]; exact g1) (by rw [← Array.getElem?_toList]; exact g2) e' g4 g5 g6 g7 g8 g9 g10 g11 fun st' mg => ?_
  obtain ⟨M, eM, sM, tM⟩ := mg.ex
  have ml : M.length = na + nb := by rw [tM.perm.length_eq, List.length_append, g5, g7]
  have hpl : (pendingOf st').toList = ((pendingOf st).toList.set i (sa, na + nb, pa)).eraseIdx (i + 1) := by
    rw [mg.pend, Array.toList_eraseIdxIfInBounds, Array.toList_setIfInBounds]
  refine q st' ⟨mg.kind.trans h.kind, mg.failed.trans h.failed, aS.trans ?_ h.stb, rs1 ++ (M :: rs2), by rw [hpl]; exact g12 M sM ml, ?_, ?_⟩ ?_
  · rw [eM, e', ← List.append_assoc X]
    exact (aS.refl _).append (tM.append (aS.refl _))
  · rw [eM, List.flatten_append, List.flatten_cons, List.append_assoc, List.append_assoc]
  · rw [← l, List.flatten_append, List.flatten_append, List.flatten_cons, List.flatten_cons, List.flatten_cons, List.length_append, List.length_append, List.length_append, List.length_append, List.length_append]
    omega
  · rw [← Array.length_toList, hpl, List.length_eraseIdx, if_pos (by rw [List.length_set, Array.length_toList]; exact hi), List.length_set, Array.length_toList]
    omega
theorem RI.push {a₀ M R : List Keyed} {lo n : Nat} {st st' : SortSt} (h : RI κ kd a₀ lo (M ++ R) st) (sM : bV κ M) (ml : M.length = n) (n1 : 1 ≤ n) (k : kindOf st' = kindOf st) (f : failedOf st' = failedOf st) (ar : arrOf st' = arrOf st) (pd : pendingOf st' = (pendingOf st).push (lo, n, 0)) : RI κ kd a₀ (lo + n) R st' := by
  obtain ⟨Rs, t, e, l⟩ := h.ex
  refine ⟨k.trans h.kind, f.trans h.failed, by rw [ar]; exact h.stb, Rs ++ [M], ?_, ?_, ?_⟩
  · rw [pd, Array.toList_push]
    have := t.push (pw := 0) sM (by omega)
    rw [Nat.zero_add, l, ml] at this
    exact this
  · rw [ar, e, List.flatten_append, List.flatten_cons, List.flatten_nil, List.append_nil, List.append_assoc]
  · rw [List.flatten_append, List.flatten_cons, List.flatten_nil, List.append_nil, List.length_append, l, ml]
theorem RI.power {a₀ S : List Keyed} {lo i pw : Nat} {st st' : SortSt} (h : RI κ kd a₀ lo S st) (k : kindOf st' = kindOf st) (f : failedOf st' = failedOf st) (ar : arrOf st' = arrOf st) (pd : pendingOf st' = (pendingOf st).modify i fun p => (p.1, p.2.1, pw)) : RI κ kd a₀ lo S st' := by
  obtain ⟨Rs, t, e, l⟩ := h.ex
  exact ⟨k.trans h.kind, f.trans h.failed, by rw [ar]; exact h.stb, Rs, by rw [pd, Array.toList_modify]; exact t.power i, by rw [ar]; exact e, l⟩
theorem RI.wN {a₀ M R : List Keyed} {lo n i pw : Nat} {st st' : SortSt} (h : RI κ kd a₀ lo (M ++ R) st) (sM : bV κ M) (ml : M.length = n) (n1 : 1 ≤ n) (k : kindOf st' = kindOf st) (f : failedOf st' = failedOf st) (ar : arrOf st' = arrOf st) (pd : pendingOf st' = ((pendingOf st).modify i fun p => (p.1, p.2.1, pw)).push (lo, n, 0)) : RI κ kd a₀ (lo + n) R st' :=
  RI.push (st := setPending st ((pendingOf st).modify i fun p => (p.1, p.2.1, pw))) (h.power rfl rfl rfl rfl) sM ml n1 k f ar pd
theorem RI.asc {a₀ S M O R : List Keyed} {lo n : Nat} {st st' : SortSt} {Rs : List (List Keyed)} (h : RI κ kd a₀ lo S st) (t : fD κ 0 (pendingOf st).toList Rs) (e : (arrOf st).toList = Rs.flatten ++ S) (l : Rs.flatten.length = lo) (as : rh κ st Rs.flatten S n M O R st') : RI κ kd a₀ lo (M ++ R) st' := by
  refine ⟨as.cg.kind.trans h.kind, as.cg.failed.trans h.failed, aS.trans ?_ h.stb, Rs, by rw [as.cg.pend]; exact t, as.e, l⟩
  rw [as.e, e, as.s]
  exact (aS.refl _).append (as.tm.append (aS.refl _))
theorem lI (hL : i0 prog w A E s κ kd) {st : SortSt} {Q : Unit → SortSt → Prop} (hk : kindOf st = kd) (hf : failedOf st = none) (hp : pendingOf st = #[]) (ks0 : ∀ x ∈ (arrOf st).toList, fQ κ x)
    (q : ∀ st', failedOf st' = none → bV κ (arrOf st').toList → aS κ (arrOf st').toList (arrOf st).toList → Q () st') : wpS (model prog w) A E s qr Q st := by
  refine wpS_bind (wpS_get ?_)
  obtain ⟨a₀, ha₀⟩ : ∃ a₀, a₀ = (arrOf st).toList := ⟨_, rfl⟩
  rw [← ha₀] at ks0 q
  have ks := ks0
  have r0 : RI κ kd a₀ 0 (arrOf st).toList st := ⟨hk, hf, by rw [ha₀]; exact aS.refl _, [], by rw [hp]; trivial, rfl, rfl⟩
  have hN : (arrOf st).size = a₀.length := by rw [ha₀, Array.length_toList]
  have r0' : ∃ lo S, ((none : Option Unit), 0) = ((none : Option Unit), lo) ∧ RI κ kd a₀ lo S st ∧ 0 ≤ lo := ⟨0, _, rfl, r0, Nat.le_refl 0⟩
  have lens : ∀ {lo S st'}, RI κ kd a₀ lo S st' → lo + S.length = (arrOf st).size := fun {lo S st'} h => by
    obtain ⟨Rs, t, e, l⟩ := h.ex
    rw [hN, ← h.stb.perm.length_eq, e, List.length_append, l]
  refine wpS_bind (wpS_mono (wpS_forRange (I := fun x c st' => ∃ lo S, c = (none, lo) ∧ RI κ kd a₀ lo S st' ∧ x ≤ lo)
    (Q := fun c st' => c.1 = none ∧ ∃ lo, RI κ kd a₀ lo [] st') ?step ?fin r0') ?post)
  case fin =>
    rintro c st' ⟨lo, S, rfl, ri, hx⟩
    have := lens ri
    have hx' : max 0 (arrOf st).size ≤ lo := hx
    have hS : S = [] := List.eq_nil_of_length_eq_zero (by omega)
    subst hS
    exact ⟨rfl, lo, ri⟩
  case step =>
    rintro x c st1 _ hx ⟨lo, S, rfl, ri, hxl⟩
    dsimp only
    have hl := lens ri
    refine aO (fun c1 => ?_) (fun c1 => ?_)
    · have hS : S = [] := List.eq_nil_of_length_eq_zero (by have : (arrOf st).size ≤ lo := c1; omega)
      subst hS
      exact wpS_pure ⟨rfl, lo, ri⟩
    have c1' : lo < (arrOf st).size := Nat.lt_of_not_le c1
    obtain ⟨Rs, t, e, l⟩ := ri.ex
    have kS : ∀ u ∈ S, fQ κ u := fun u hu => ri.keys ks u (by rw [e]; exact List.mem_append_right _ hu)
    refine wpS_bind (lL hL ri.kind kS e l.symm (by show S.length = (arrOf st).size - lo; omega) (by show 1 ≤ (arrOf st).size - lo; omega) fun n st2 M O R n1 nn as => ?_)
    dsimp only
    refine aO (fun c2 => ?_) (fun c2 => ?_)
    refine wpS_bind (wpS_lift (wpAny_rule ⟨rfl, ?_⟩))
    have hmn : n ≤ min ((arrOf st).size - lo) _ := Nat.le_min.mpr ⟨nn, Nat.le_of_lt c2⟩
    refine wpS_bind (jE hL ri.kind kS l.symm (Nat.le_trans (Nat.min_le_left _ _) (by show (arrOf st).size - lo ≤ S.length; omega)) n1 hmn as fun stx M O R as => ?_)
    have n1 := Nat.le_trans n1 hmn
    clear nn hmn c2
    have ri' := ri.asc t e l as
    have sM := as.sm
    have ml := as.m
    simp only [Bool.not_true, Bool.false_eq_true, if_false]
    rotate_left
    clear c2
    obtain ⟨stx, hstx⟩ : ∃ stx, stx = st2 := ⟨_, rfl⟩
    subst hstx
    have ri' := ri.asc t e l as
    have sM := as.sm
    have ml := as.m
    all_goals
      refine wpS_bind (wpS_get ?_)
      cases hbk : (pendingOf stx).back? with
      | none =>
        dsimp only
        exact wpS_bind (wpS_modify (wpS_pure ⟨_, R, rfl, ri'.push sM ml n1 rfl rfl rfl rfl, by omega⟩))
      | some bk =>
        obtain ⟨s1, n1', pw'⟩ := bk
        dsimp only
        refine wpS_bind (wpS_mono (wpS_forRange (I := fun x c st' => c = (none, ()) ∧ RI κ kd a₀ lo (M ++ R) st') (Q := fun c st' => c = (none, ()) ∧ RI κ kd a₀ lo (M ++ R) st') ?cstep (fun _ _ h => h) ⟨rfl, ri'⟩) ?cpost)
        case cpost =>
          rintro c st5 ⟨rfl, ri5⟩
          exact wpS_bind (wpS_modify (wpS_bind (wpS_modify (wpS_pure ⟨_, R, rfl, ri5.wN sM ml n1 rfl rfl rfl rfl, by omega⟩))))
        case cstep =>
          rintro x' c st5 _ _ ⟨rfl, ri5⟩
          refine wpS_bind (wpS_get ?_)
          by_cases c5 : (pendingOf st5).size > 1
          · rw [if_pos c5, getElem?_pos (pendingOf st5) ((pendingOf st5).size - 2) (by omega)]
            generalize (pendingOf st5)[(pendingOf st5).size - 2] = pp
            obtain ⟨f1, f2, older⟩ := pp
            dsimp only
            refine aO (fun _ => wpS_pure ⟨rfl, ri5⟩) (fun _ => ?_)
            exact wpS_bind (gY hL ks ri5 (show (pendingOf st5).size - 2 + 1 < (pendingOf st5).size by omega) fun st6 ri6 _ => wpS_pure ⟨rfl, ri6⟩)
          · rw [if_neg c5]
            exact wpS_pure ⟨rfl, ri5⟩
  case post =>
    rintro c st1 ⟨hc, lo, ri⟩
    rw [hc]
    dsimp only
    have hl := lens ri
    have hl' : lo = (arrOf st).size := hl
    obtain ⟨Rs, t, e, l⟩ := ri.ex
    have pl : (pendingOf st1).size ≤ (arrOf st).size := by
      rw [← hl', ← l, ← Array.length_toList]
      exact t.len
    refine wpS_bind (wpS_mono (wpS_forRange (I := fun x c st' => c = (none, ()) ∧ RI κ kd a₀ lo [] st' ∧ (pendingOf st').size + x ≤ (arrOf st).size) (Q := fun c st' => c = (none, ()) ∧ RI κ kd a₀ lo [] st' ∧ (pendingOf st').size ≤ 1) ?fstep ?ffin ⟨rfl, ri, pl⟩) ?fpost)
    case ffin =>
      rintro c st' ⟨rfl, ri, h⟩
      exact ⟨rfl, ri, by have h' : (pendingOf st').size + max 0 (arrOf st).size ≤ (arrOf st).size := h; omega⟩
    case fpost =>
      rintro c st' ⟨rfl, ri, h⟩
      obtain ⟨Rs, t, e, l⟩ := ri.ex
      rw [List.append_nil] at e
      exact wpS_pure (q st' ri.failed (by rw [e]; exact t.one (by rw [Array.length_toList]; exact h)) ri.stb)
    case fstep =>
      rintro x c st2 _ hx ⟨rfl, ri, h⟩
      refine wpS_bind (wpS_get ?_)
      refine aO (fun c3 => wpS_pure ⟨rfl, ri, c3⟩) (fun c3 => ?_)
      have c3' : 1 < (pendingOf st2).size := Nat.lt_of_not_le c3
      refine wpS_bind (gY hL ks ri (zd c3') fun st3 ri3 h3 => ?_)
      exact wpS_pure ⟨rfl, ri3, by omega⟩
end
end TS
namespace TS
open PySem PyProof.Rows
def intKind : KeyKind where
  α := Int
  blt a b := decide (a < b)
  irrefl a := by simp
  trans a b c h1 h2 := by
    rw [decide_eq_true_iff] at *
    omega
  negTrans a b c h := by
    rw [decide_eq_true_iff] at *
    rw [decide_eq_true_iff]
    omega
  total a b h1 h2 := by
    rw [decide_eq_false_iff_not] at *
    omega
  keyOf v := match v with
    | .int n _ => some n
    | _ => none
  dflt := 0
section
variable {prog : Program} {w : World} {A : Around} {E : Value → Shared → Prop} {s : Shared}
theorem wb : i0 prog w A E s intKind oneType' := by
  rintro ⟨x, p⟩ ⟨y, q⟩ st Q hk ⟨a, ha⟩ ⟨b, hb⟩ h
  cases x <;> cases ha
  cases y <;> cases hb
  rw [lt'_eq]
  refine wpS_bind (wpS_get ?_)
  rw [hk, keyLt'_oneType]
  exact wpS_bind (wpS_lift (wpAny_attempt (oneLt_int ⟨rfl, wpS_pure h⟩)))
theorem wpAny_forIn_list {M : Model} {α β : Type} {f : α → β → Sem (ForInStep β)} (I : List α → β → Shared → Prop) {Q : β → Shared → Prop} (hstep : ∀ x r b s, I (x :: r) b s → wpAny M A (f x b) (fun z s' => ∃ b', z = .yield b' ∧ I r b' s') E s) (hend : ∀ b s, I [] b s → Q b s) : ∀ (l : List α) (b : β) (s : Shared), I l b s → wpAny M A (forIn l b f) Q E s
  | [], b, s, h => by
    rw [List.forIn_nil]
    exact wpAny_pure (hend b s h)
  | x :: r, b, s, h => by
    rw [List.forIn_cons]
    refine wpAny_bind (wpAny_mono (hstep x r b s h) (fun z s' h' => ?_) fun _ _ e => e)
    obtain ⟨b', rfl, h'⟩ := h'
    exact wpAny_forIn_list I hstep hend r b' s' h'
inductive KeysAre (R : Value → Int → Prop) : List Value → List Value → Prop
  | nil : KeysAre R [] []
  | snoc {vs ks : List Value} {v : Value} {i : Int} {t : Tok} (h : KeysAre R vs ks) (r : R v i) : KeysAre R (vs ++ [v]) (ks ++ [.int i t])
theorem KeysAre.ints {R : Value → Int → Prop} {vs ks : List Value} (h : KeysAre R vs ks) : ∀ k ∈ ks, ∃ n t, k = .int n t := by
  induction h with
  | nil => intro k hk; cases hk
  | snoc h r ih =>
    intro k hk
    rcases List.mem_append.mp hk with hk | hk
    · exact ih k hk
    · exact ⟨_, _, List.mem_singleton.mp hk⟩
theorem KeysAre.len {R : Value → Int → Prop} {vs ks : List Value} (h : KeysAre R vs ks) : ks.length = vs.length := by
  induction h with
  | nil => rfl
  | snoc h r ih => rw [List.length_append, List.length_append, ih]; rfl
def ui : Array Value → Sem SortKind := sortPriv% PySem.Builtin.keyKind
theorem zC {vs : List Value} (h : ¬ vs.length < 2) : ∃ v₁ v₂ rest, vs = v₁ :: v₂ :: rest := by
  match vs, h with
  | [], h => exact absurd (show 0 < 2 by decide) h
  | [_], h => exact absurd (show 1 < 2 by decide) h
  | v₁ :: v₂ :: rest, _ => exact ⟨v₁, v₂, rest, rfl⟩
theorem lY {G : Shared → Prop} {R : Value → Int → Prop} {f a : Addr} {vs : List Value} {n : Nat} {P : Fin → Shared → Prop} (ho : s.heap.get? a = some (seqObj "list" vs.toArray n)) (vl : vs.length ≤ sizeLine)
    (g0 : G { s with heap := ((s.heap.update a (Obj.mapSeq fun _ => #[])).push (seqObj "tuple" vs.toArray 0)).push (seqObj "list" #[] 0) })
    (gu : ∀ s' g, G s' → G { s' with heap := s'.heap.update (s.heap.objs.size + 1) (Obj.mapSeq g) })
    (gc : ∀ x ∈ vs, ∀ s', G s' → wpAny (model prog w) A (call (.ref f) [x]) (fun k s'' => (∃ i t, k = .int i t ∧ R x i) ∧ G s'' ∧ (∀ b o, (b = a ∨ b = s.heap.objs.size + 1) → s'.heap.get? b = some o → s''.heap.get? b = some o)) (fun _ _ => False) s')
    (fin : ∀ s' (ks : List Value) (arr : Array Keyed), G s' → (∃ e, s'.heap.get? a = some (seqObj "list" #[] e)) → KeysAre R vs ks → bV intKind arr.toList → aS intKind arr.toList (ks.zip vs) → P (.done (.ret .none)) { s' with heap := (s'.heap.update (s.heap.objs.size + 1) (Obj.mapSeq fun _ => #[])).update a (Obj.mapSeq fun _ => arr.map (·.2)) }) :
    wpAny (model prog w) A (Builtin.«list.sort» ⟨[.ref a], [(Str.ofString "key", .ref f)]⟩) P E s := by
  unfold Builtin.«list.sort»
  dsimp only [List.length_cons, List.length_nil]
  have l1 : List.lookup (Str.ofString "key") [(Str.ofString "key", Value.ref f)] = some (.ref f) := by
    rw [List.lookup_cons]
    simp
  have l2 : List.lookup (Str.ofString "reverse") [(Str.ofString "key", Value.ref f)] = none := by
    rw [List.lookup_cons, show (Str.ofString "reverse" == Str.ofString "key") = false by decide +kernel]
    rfl
  have l3 : (Value.ref f != Value.none) = true := rfl
  have l4 : (Str.ofString "key" != Str.ofString "key") = false := by decide +kernel
  rw [if_neg (by decide), if_neg (by decide), l1, l2]
  dsimp only [Option.getD]
  simp only [l3, if_true, List.forIn_cons, List.forIn_nil, l4, Bool.false_and, Bool.false_eq_true, if_false]
  have ha : a < s.heap.objs.size := Heap.lt_size ho
  refine wpAny_bind (wpAny_bind (wpAny_pure (wpAny_pure ?_)))
  refine wpAny_bind (wpAny_pure ?_)
  refine wpAny_bind (listItems_at ho rfl ?_)
  refine wpAny_bind (listUpdate_at ho rfl ?_)
  obtain ⟨e1, ho1⟩ : ∃ e1, (s.heap.update a (Obj.mapSeq fun _ => #[])).get? a = some (seqObj "list" #[] e1) := ⟨_, get?_update_seq ho (fun _ => #[])⟩
  refine wpAny_bind (seqEpoch_at ho1 rfl ?_)
  refine wpAny_bind (wpAny_newTuple ?_)
  refine wpAny_bind (wpAny_newList ?_)
  refine wpAny_holding ?_
  have hN : (s.heap.update a (Obj.mapSeq fun _ => #[])).objs.size = s.heap.objs.size := Heap.size_update _ _ _
  have hks : ((s.heap.update a (Obj.mapSeq fun _ => #[])).push (seqObj "tuple" vs.toArray 0)).objs.size = s.heap.objs.size + 1 := by rw [size_push', hN]
  have ho6 : (((s.heap.update a (Obj.mapSeq fun _ => #[])).push (seqObj "tuple" vs.toArray 0)).push (seqObj "list" #[] 0)).get? a = some (seqObj "list" #[] e1) := by
    rw [Heap.get?_push_ne _ _ _ (by rw [hks]; exact Nat.ne_of_lt (Nat.lt_succ_of_lt ha)), Heap.get?_push_ne _ _ _ (by rw [hN]; exact Nat.ne_of_lt ha)]
    exact ho1
  have hk6 : (((s.heap.update a (Obj.mapSeq fun _ => #[])).push (seqObj "tuple" vs.toArray 0)).push (seqObj "list" #[] 0)).get? (s.heap.objs.size + 1) = some (seqObj "list" #[] 0) := by
    rw [← hks]
    exact Heap.get?_push_size _ rfl
  show wpAny (model prog w) A _ P E { s with heap := ((s.heap.update a (Obj.mapSeq fun _ => #[])).push (seqObj "tuple" vs.toArray 0)).push (seqObj "list" #[] 0) }
  simp only [hks]
  generalize hh1 : ((s.heap.update a (Obj.mapSeq fun _ => #[])).push (seqObj "tuple" vs.toArray 0)).push (seqObj "list" #[] 0) = h1 at g0 ho6 hk6
  have hne : s.heap.objs.size + 1 ≠ a := Nat.ne_of_gt (Nat.lt_succ_of_lt ha)
  have hsz : vs.toArray.size = vs.length := List.size_toArray
  refine wpAny_bind (wpAny_rule ?_)
  rw [List.forIn_toArray]
  refine wpAny_bind (wpAny_mono (wpAny_forIn_list (I := fun rest _ s' => ∃ dn ks e2, vs = dn ++ rest ∧ KeysAre R dn ks ∧ G s' ∧ s'.heap.get? a = some (seqObj "list" #[] e1) ∧ s'.heap.get? (s.heap.objs.size + 1) = some (seqObj "list" ks.toArray e2))
    (Q := fun _ s' => ∃ ks e2, KeysAre R vs ks ∧ G s' ∧ s'.heap.get? a = some (seqObj "list" #[] e1) ∧ s'.heap.get? (s.heap.objs.size + 1) = some (seqObj "list" ks.toArray e2)) ?step ?fin' vs _ _ ⟨[], [], 0, rfl, .nil, g0, ho6, hk6⟩) ?post fun _ _ e => e)
  case fin' =>
    rintro b s' ⟨dn, ks, e2, e, k, g, h1, h2⟩
    rw [List.append_nil] at e
    subst e
    exact ⟨ks, e2, k, g, h1, h2⟩
  case step =>
    rintro x r b s' ⟨dn, ks, e2, e, k, g, h1, h2⟩
    have mx : x ∈ vs := by rw [e]; exact List.mem_append_right _ List.mem_cons_self
    have kl : ks.length + 1 ≤ vs.length := by rw [k.len, e, List.length_append]; show _ ≤ _ + (_ + 1); omega
    refine wpAny_bind (wpAny_attempt (wpAny_mono (gc x mx s' g) (fun kv s2 h => ?_) fun _ _ h => False.elim h))
    obtain ⟨⟨i, t, rfl, ri⟩, g2, kp⟩ := h
    dsimp only
    have hk2 := kp _ _ (.inr rfl) h2
    refine wpAny_bind (listUpdate_at hk2 rfl ?_ (by rw [List.size_toArray]; omega) (by rw [Array.size_push, List.size_toArray]; omega))
    have hk3 := get?_update_seq hk2 (fun x => x.push (.int i t))
    simp only [List.push_toArray] at hk3
    refine wpAny_pure ⟨_, rfl, dn ++ [x], ks ++ [.int i t], _, by rw [e, List.append_assoc]; rfl, k.snoc ri, gu _ _ g2, ?_, hk3⟩
    exact (Heap.get?_update_ne _ _ _ _ hne.symm).trans (kp _ _ (.inl rfl) h1)
  case post =>
    rintro _ s' ⟨ks, e2, k, g, h1, h2⟩
    have kl := k.len
    refine wpAny_bind (listItems_at h2 rfl ?_)
    simp only [Bool.false_eq_true, if_false]
    have k2 : ks.toArray.size = ks.length := List.size_toArray
    have al : ∀ {st' : SortSt}, aS intKind (arrOf st').toList (ks.zip vs) → (arrOf st').size = vs.length := fun {st'} h => by
      rw [← Array.length_toList, h.perm.length_eq, List.length_zip, kl, Nat.min_self]
    by_cases c2 : vs.toArray.size < 2
    · rw [if_pos c2]
      refine wpAny_bind (wpAny_pure ?_)
      rw [if_pos c2, StateT.run_pure]
      refine wpAny_bind (wpAny_pure ?_)
      dsimp only
      have zl : (ks.toArray.zip vs.toArray).toList = ks.zip vs := by rw [Array.toList_zip]
      have fz := fin s' ks (ks.toArray.zip vs.toArray) g ⟨e1, h1⟩ k (by
        rw [zl]
        have l2' : (ks.zip vs).length < 2 := by rw [List.length_zip, kl, Nat.min_self, ← hsz]; exact c2
        match ks.zip vs, l2' with
        | [], _ => exact List.Pairwise.nil
        | [_], _ => exact List.pairwise_singleton _ _) (by rw [zl]; exact aS.refl _)
      refine wpAny_bind (listUpdate_at h2 rfl ?_ (by rw [List.size_toArray]; omega) (by show 0 ≤ _; omega))
      refine wpAny_bind (wpAny_letGo ?_)
      have ha2 : (s'.heap.update (s.heap.objs.size + 1) (Obj.mapSeq fun _ => #[])).get? a = some (seqObj "list" #[] e1) := (Heap.get?_update_ne _ _ _ _ hne.symm).trans h1
      refine wpAny_bind (seqEpoch_at ha2 rfl ?_)
      refine wpAny_bind (listUpdate_at ha2 rfl ?_ (by show 0 ≤ _; omega) (by rw [Array.size_map, Array.size_zip, List.size_toArray, List.size_toArray]; omega))
      simp only [bne_self_eq_false, Bool.false_eq_true, if_false]
      exact wpAny_pure fz
    · rw [if_neg c2]
      have hkk : ui ks.toArray = pure oneType' := by
        obtain ⟨v₁, v₂, rest, e⟩ := zC (vs := ks) (by rw [kl, ← hsz]; exact c2)
        have := intsAre_map ks k.ints
        rw [e] at this ⊢
        exact keyKind_ints this
      refine wpAny_bind (wpAny_of_eq hkk ?_)
      rw [if_neg c2]
      have zl : (ks.toArray.zip vs.toArray).toList = ks.zip vs := by rw [Array.toList_zip]
      refine wpAny_bind (wpAny_mono (lI (κ := intKind) wb (st := SortSt.mk' oneType' (ks.toArray.zip vs.toArray) #[] 7 none)
        (Q := fun _ st' => failedOf st' = none ∧ bV intKind (arrOf st').toList ∧ aS intKind (arrOf st').toList (ks.zip vs)) rfl rfl rfl (fun p hp => ?_) fun st' f1 f2 f3 => ⟨f1, f2, by rw [← zl]; exact f3⟩) ?_ fun _ _ e => e)
      · have hp' : p ∈ ks.zip vs := by rw [← zl]; exact hp
        obtain ⟨n', t', e'⟩ := k.ints p.1 (List.of_mem_zip (show (p.1, p.2) ∈ ks.zip vs from hp')).1
        exact ⟨n', by rw [e']; rfl⟩
      · rintro ⟨⟨⟩, st'⟩ s2 ⟨rfl, f1, f2, f3⟩
        dsimp only
        have fz := fin s2 ks (arrOf st') g ⟨e1, h1⟩ k f2 f3
        refine wpAny_bind (listUpdate_at h2 rfl ?_ (by rw [List.size_toArray]; omega) (by show 0 ≤ _; omega))
        refine wpAny_bind (wpAny_letGo ?_)
        have ha2 : (s2.heap.update (s.heap.objs.size + 1) (Obj.mapSeq fun _ => #[])).get? a = some (seqObj "list" #[] e1) := (Heap.get?_update_ne _ _ _ _ hne.symm).trans h1
        refine wpAny_bind (seqEpoch_at ha2 rfl ?_)
        refine wpAny_bind (listUpdate_at ha2 rfl ?_ (by show 0 ≤ _; omega) (by refine Nat.le_trans (Nat.le_of_eq ((Array.size_map ..).trans (al f3))) ?_; omega))
        have f1' : (sortPriv% PySem.Builtin.SortState.failed) st' = none := f1
        rw [f1']
        simp only [bne_self_eq_false, Bool.false_eq_true, if_false]
        exact wpAny_pure fz
end
end TS
namespace L2
open PySem PySem.Spec PyProof.Rows
section
variable {X : Cx}
theorem Un.over {fs ex : List Addr} {H H1 : Hp} {h h1 h2 : Heap} (u : Un fs ex H H1 h h1) (k : ∀ b, b < h.objs.size → h2.get? b = h1.get? b) : Un fs ex H H1 h h2 where
  keep := fun b o q n hb hx => (k b (Heap.lt_size q)).trans (u.keep b o q n hb hx)
  slot := fun b o q n hb hx => by
    obtain ⟨sl, e⟩ := u.slot b o q n hb hx
    exact ⟨sl, (k b (Heap.lt_size q)).trans e⟩
  free := u.free
  there := fun b o q hx => by
    obtain ⟨o', e⟩ := u.there b o q hx
    exact ⟨o', (k b (Heap.lt_size q)).trans e⟩
  tups := u.tups
  frzs := u.frzs
  tbls := u.tbls
theorem Un.vj {fs ex : List Addr} {H : Hp} {h h1 : Heap} {a : Addr} {o : HO} (u : Un fs ex H H h h1) (ha : h.objs.size ≤ a) (hn : H a = none) : Un fs ex H (upd H a o) h h1 where
  keep := u.keep
  slot := u.slot
  free := fun b ob q n hx => by rw [ao (Nat.ne_of_lt (Nat.lt_of_lt_of_le (Heap.lt_size q) ha))]; exact n
  there := u.there
  tups := fun b xs q => by rw [ao (aj q hn)]; exact q
  frzs := fun b ob xs q => by rw [ao (aj q hn)]; exact q
  tbls := fun b ps q => ⟨#[], by rw [ao (aj q hn), q]; simp⟩
theorem fP.over {P : Program} {w : World} {H : Hp} {h0 h h' : Heap} (x0 : fP P w H h0) (x : fP P w H h) (k : ∀ b, b < h0.objs.size → h'.get? b = h.get? b) : fP P w H h' := fun a o e =>
  (x a o e).fw (fun b u hb q => (k b (hb.elim (fun z => z ▸ x0.lt e) (fun z => x0.lt z))).trans q) (fun _ q => q) fun _ _ q => q
theorem fP.vj {P : Program} {w : World} {H : Hp} {h : Heap} {a : Addr} {o : HO} (x : fP P w H h) (hn : H a = none) (new : bW P w (upd H a o) h a o) : fP P w (upd H a o) h := fun b u e => by
  by_cases hb : b = a
  · subst hb
    rw [af] at e
    cases e
    exact new
  · rw [ao hb] at e
    exact (x b u e).fw (fun c v _ q => q) (fun c q => by rw [ao (aj q hn)]; exact q) fun c xs q => by rw [ao (aj q hn)]; exact q
theorem jW (a v : Value) : argsOk "sorted" ⟨[a], [(Str.ofString "key", v)]⟩ := by unfold argsOk; kernel_rfl
theorem lp (a v : Value) : argsOk "list.sort" ⟨[a], [(Str.ofString "key", v)]⟩ := by unfold argsOk; kernel_rfl
def cT : Value → Addr
  | .ref a => a
  | _ => 0
def vC (g : Addr → Int) (v : Value) (i : Int) : Prop := ∃ a, v = .ref a ∧ g a = i
theorem tq {g : Addr → Int} {vs ks : List Value} (h : TS.KeysAre (vC g) vs ks) : ∀ p ∈ ks.zip vs, TS.key TS.intKind p = g (cT p.2) ∧ p.2 = .ref (cT p.2) := by
  induction h with
  | nil => intro p hp; cases hp
  | snoc h r ih =>
    intro p hp
    rw [List.zip_append h.len] at hp
    rcases List.mem_append.mp hp with hp | hp
    · exact ih p hp
    · cases List.mem_singleton.mp hp
      obtain ⟨a, rfl, e⟩ := r
      exact ⟨e.symm, rfl⟩
theorem rX : ∀ {as : List Addr} {its : List Value}, Vals (as.map V.ref) its → its = as.map Value.ref
  | [], [], _ => rfl
  | [], _ :: _, h => by cases h
  | _ :: _, [], h => by cases h
  | a :: as, v :: its, h => by
    cases h with
    | cons r t =>
      cases r
      rw [List.map_cons, rX t]
theorem mE : ∀ (as : List Addr), Vals (as.map V.ref) (as.map Value.ref)
  | [] => .nil
  | a :: as => .cons rfl (mE as)
inductive zE (K : PySem.W.Frag) (sp : Sp) (xs : List V) (H : Hp) (Q : VK) : Prop
  | mk (p : Addr) (as : List Addr) (g : Addr → Int) (e : xs = [.ref p]) (s : aJ K H p (as.map V.ref)) (hs : ∀ a ∈ as, ∀ Q' : VK, Q' (.int (g a)) H → sp [.ref a] H Q' E0)
      (q : ∀ (l : Addr) (zs : List Addr), H l = none → zs.Perm as → zs.Pairwise (fun a b => g a ≤ g b) → (∀ i, zs.filter (fun a => decide (g a = i)) = as.filter (fun a => decide (g a = i))) → Q (.ref l) (upd H l (.lst (zs.map V.ref))))
theorem qM {k : Nat} {f : Addr} {fd : FuncData} {ps : List Str} {sp : Sp} (F : dW X.prog X.w X.K X.mg X.base jP k f fd ps sp) (hr : cy (k + 2) X.A) (hb : Binds X.K fd ps []) {pins : List (Addr × Obj)} {s : Shared} {σ : St} {H : Hp} {xs : List V} {us : List Value} {Q : VK}
    (I : Inv X pins σ H s) (r : Vals xs us) (h : zE X.K sp xs H Q) : wpAny (model X.prog X.w) X.A (call (.builtin "sorted") us [(Str.ofString "key", .ref f)]) (EP X pins σ Q) X.xe s := by
  obtain ⟨p, as, g, rfl, hq, hs, q⟩ := h
  obtain ⟨u, rfl, rx⟩ := vals1 r
  cases rx
  obtain ⟨its, rv, pl, hz⟩ := I.list hq
  obtain rfl := rX rv
  rw [List.length_map] at hz
  refine call_function_entry_kw kind_sorted plain_sorted entry_sorted (jW _ _) ?_
  unfold Builtin.«sorted»
  refine wpAny_bind (m := checkCount "sorted" 1 1 _) (wpAny_pure ?_)
  refine wpAny_bind (collect_list pl.isList ?_)
  refine wpAny_bind (wpAny_newList ?_)
  have hsz : ((s.heap.push (seqObj "list" #[] 0)).update s.heap.objs.size (Obj.mapSeq (· ++ (as.map Value.ref).toArray))).objs.size = s.heap.objs.size + 1 := by
    rw [Heap.size_update, size_push']
  have hoL : (((s.heap.push (seqObj "list" #[] 0)).update s.heap.objs.size (Obj.mapSeq (· ++ (as.map Value.ref).toArray))).push (seqObj "list" (as.map Value.ref).toArray 0)).get? (s.heap.objs.size + 1) = some (seqObj "list" (as.map Value.ref).toArray 0) := by
    rw [← hsz]
    exact Heap.get?_push_size _ rfl
  show wpAny _ _ _ _ _ { s with heap := ((s.heap.push (seqObj "list" #[] 0)).update s.heap.objs.size (Obj.mapSeq (· ++ (as.map Value.ref).toArray))).push (seqObj "list" (as.map Value.ref).toArray 0) }
  rw [hsz]
  have hold : ∀ b, b < s.heap.objs.size → (((s.heap.push (seqObj "list" #[] 0)).update s.heap.objs.size (Obj.mapSeq (· ++ (as.map Value.ref).toArray))).push (seqObj "list" (as.map Value.ref).toArray 0)).get? b = s.heap.get? b := fun b hb => by
    rw [Heap.get?_push_ne _ _ _ (by rw [hsz]; exact Nat.ne_of_lt (Nat.lt_succ_of_lt hb)), Heap.get?_update_ne _ _ _ _ (Nat.ne_of_lt hb), Heap.get?_push_ne _ _ _ (Nat.ne_of_lt hb)]
  have hs2 : (((s.heap.push (seqObj "list" #[] 0)).update s.heap.objs.size (Obj.mapSeq (· ++ (as.map Value.ref).toArray))).push (seqObj "list" (as.map Value.ref).toArray 0)).objs.size = s.heap.objs.size + 2 := by rw [size_push', hsz]
  generalize ((s.heap.push (seqObj "list" #[] 0)).update s.heap.objs.size (Obj.mapSeq (· ++ (as.map Value.ref).toArray))).push (seqObj "list" (as.map Value.ref).toArray 0) = h2 at hoL hold hs2
  have na : H (s.heap.objs.size + 1) = none := I.hok.fresh (Nat.le_succ _)
  have nk : H (h2.objs.size + 1) = none := I.hok.fresh (by rw [hs2]; omega)
  have nfr : ∀ b, s.heap.objs.size ≤ b → b ∉ uw X.stack := fun b hb hm => by
    obtain ⟨_, o, e, _⟩ := I.stack.mem hm
    exact absurd (Heap.lt_size e) (Nat.not_lt.mpr hb)
  refine wpAny_bind (wpAny_holding (wpAny_call_entry_kw slot_list_sort ⟨_, hoL, rfl⟩ entry_list_sort (TS.lY (R := vC g)
    (G := fun s' => s'.os = s.os ∧ AllBare s'.gens ∧ Un (uw X.stack) [] H H s.heap s'.heap ∧ fP X.prog X.w H s'.heap) hoL (by rw [List.length_map]; exact hz) ?g0 ?gu ?gc ?fin) (lp _ _)))
  case g0 =>
    have k : ∀ b, b < s.heap.objs.size → (((h2.update (s.heap.objs.size + 1) (Obj.mapSeq fun _ => #[])).push (seqObj "tuple" (as.map Value.ref).toArray 0)).push (seqObj "list" #[] 0)).get? b = s.heap.get? b := fun b hb => by
      rw [Heap.get?_push_ne _ _ _ (Nat.ne_of_lt (by rw [size_push', Heap.size_update, hs2]; omega)), Heap.get?_push_ne _ _ _ (Nat.ne_of_lt (by rw [Heap.size_update, hs2]; omega)), Heap.get?_update_ne _ _ _ _ (Nat.ne_of_lt (by omega)), hold b hb]
    exact ⟨rfl, I.bare, Un.refl.over k, fP.over I.hok I.hok k⟩
  case gu =>
    rintro s' gg ⟨os, bare, un, hok⟩
    have k : ∀ b, b < s.heap.objs.size → (s'.heap.update (h2.objs.size + 1) (Obj.mapSeq gg)).get? b = s'.heap.get? b := fun b hb => Heap.get?_update_ne _ _ _ _ (Nat.ne_of_lt (by rw [hs2]; omega))
    exact ⟨os, bare, un.over k, fP.over I.hok hok k⟩
  case gc =>
    rintro v hv s' ⟨os, bare, un, hok⟩
    obtain ⟨a, ha, rfl⟩ := List.mem_map.mp hv
    have I' : Inv X pins σ H s' := I.vD (ch := []) os un hok bare (fun b z => by cases z)
    have hq' := hs a ha (fun v H' => v = .int (g a) ∧ H' = H) ⟨rfl, rfl⟩
    have hl : ([Value.ref a] ++ ([] : List Value)).length = ps.length := F.len _ _ _ _ hq'
    refine wpAny_call (codeAny_mono (F.run X.A.in1.in1 X.stack s' H ⟨[.ref a], []⟩ [.ref a] [.ref a] _ E0 hr.in1.in1 I'.Ac.in1.in1 (hb s' [.ref a] I'.jU hl) (.cons rfl .nil) hq') fun rr s2 hh => ?_)
    cases rr with
    | error e => exact False.elim hh
    | ok fl =>
      cases fl with
      | next => exact False.elim hh
      | brk => exact False.elim hh
      | cont => exact False.elim hh
      | ret u =>
        obtain ⟨v, H', os2, bare2, un2, hok2, rv2, rfl, rfl⟩ := hh
        obtain ⟨t, rfl⟩ := rv2
        refine ⟨⟨_, t, rfl, a, rfl, rfl⟩, ⟨os2.trans os, bare2, un.trans un2, hok2⟩, fun b o hb hg => ?_⟩
        rcases hb with rfl | rfl
        · exact un2.keep _ _ hg na (nfr _ (Nat.le_succ _)) (fun z => by cases z)
        · exact un2.keep _ _ hg nk (nfr _ (by rw [hs2]; omega)) (fun z => by cases z)
  case fin =>
    rintro s' ks arr ⟨os, bare, un, hok⟩ ⟨e1, hae⟩ kk lO stb
    refine ⟨_, rfl, wpAny_pure ⟨_, rfl, ?_⟩⟩
    have km := tq kk
    have am : ∀ p ∈ arr.toList, TS.key TS.intKind p = g (cT p.2) ∧ p.2 = .ref (cT p.2) := fun p hp => km p (stb.mem.mp hp)
    have zsnd : (ks.zip (as.map Value.ref)).map (fun p => cT p.2) = as := by
      have e1 : (fun p : Keyed => cT p.2) = cT ∘ Prod.snd := rfl
      rw [e1, ← List.map_map, List.map_snd_zip (by rw [kk.len]; exact Nat.le_refl _), List.map_map]
      exact List.map_id _
    have hzs : (arr.map (·.2)).toList = (arr.toList.map fun p => cT p.2).map Value.ref := by
      rw [Array.toList_map, List.map_map]
      exact List.map_congr_left fun p hp => (am p hp).2
    have perm : (arr.toList.map fun p => cT p.2).Perm as := by
      have := stb.perm.map (fun p : Keyed => cT p.2)
      rwa [zsnd] at this
    have pw : (arr.toList.map fun p => cT p.2).Pairwise (fun a b => g a ≤ g b) := by
      rw [List.pairwise_map]
      refine List.Pairwise.imp_of_mem (fun {x y} hx hy hxy => ?_) lO
      have h' : TS.intKind.blt (TS.key TS.intKind y) (TS.key TS.intKind x) = false := hxy
      rw [(am x hx).1, (am y hy).1] at h'
      have h2' : decide (g (cT y.2) < g (cT x.2)) = false := h'
      rw [decide_eq_false_iff_not] at h2'
      omega
    have flt : ∀ (l : List Keyed), (∀ p ∈ l, TS.key TS.intKind p = g (cT p.2)) → ∀ i : Int, (l.map fun p => cT p.2).filter (fun a => decide (g a = i)) = (TS.fk TS.intKind i l).map fun p => cT p.2 := fun l hl i => by
      rw [List.filter_map]
      congr 1
      refine List.filter_congr fun p hp => ?_
      show decide (g (cT p.2) = i) = (!TS.intKind.blt (TS.key TS.intKind p) i && !TS.intKind.blt i (TS.key TS.intKind p))
      rw [hl p hp]
      show decide (g (cT p.2) = i) = (!decide (g (cT p.2) < i) && !decide (i < g (cT p.2)))
      rw [Bool.eq_iff_iff, Bool.and_eq_true, Bool.not_eq_true', Bool.not_eq_true', decide_eq_true_iff, decide_eq_false_iff_not, decide_eq_false_iff_not]
      omega
    have fl : ∀ i : Int, (arr.toList.map fun p => cT p.2).filter (fun a => decide (g a = i)) = as.filter (fun a => decide (g a = i)) := fun i => by
      have e2 := flt (ks.zip (as.map Value.ref)) (fun p hp => (km p hp).1) i
      rw [zsnd] at e2
      rw [flt arr.toList (fun p hp => (am p hp).1) i, e2, stb i]
    have hkne : s.heap.objs.size + 1 ≠ h2.objs.size + 1 := Nat.ne_of_lt (by rw [hs2]; omega)
    have hae2 : (s'.heap.update (h2.objs.size + 1) (Obj.mapSeq fun _ => #[])).get? (s.heap.objs.size + 1) = some (seqObj "list" #[] e1) := (Heap.get?_update_ne _ _ _ _ hkne).trans hae
    have hend := get?_update_seq hae2 (fun _ => arr.map (·.2))
    have k : ∀ b, b < s.heap.objs.size → ((s'.heap.update (h2.objs.size + 1) (Obj.mapSeq fun _ => #[])).update (s.heap.objs.size + 1) (Obj.mapSeq fun _ => arr.map (·.2))).get? b = s'.heap.get? b := fun b hb => by
      rw [Heap.get?_update_ne _ _ _ _ (Nat.ne_of_lt (by omega)), Heap.get?_update_ne _ _ _ _ (Nat.ne_of_lt (by rw [hs2]; omega))]
    refine ⟨.ref (s.heap.objs.size + 1), _, I.vD (ch := []) os ((un.over k).vj (Nat.le_succ _) na) ((fP.over I.hok hok k).vj na ?_) bare (fun b z => by cases z), rfl, q _ _ na perm pw fl⟩
    have pl' := perm.length_eq
    have hz2 : arr.map (·.2) = ((arr.toList.map fun p => cT p.2).map Value.ref).toArray := by rw [← hzs]
    obtain ⟨e3, he3⟩ : ∃ e3, ((s'.heap.update (h2.objs.size + 1) (Obj.mapSeq fun _ => #[])).update (s.heap.objs.size + 1) (Obj.mapSeq fun _ => arr.map (·.2))).get? (s.heap.objs.size + 1) = some (seqObj "list" (arr.map (·.2)) e3) := ⟨_, hend⟩
    refine ⟨by rw [List.length_map, pl']; exact hz, (arr.toList.map fun p => cT p.2).map Value.ref, e3, mE _, he3.trans ?_⟩
    rw [hz2]
structure Aa (X : Cx) (x : Str) (sp : Sp) : Prop where
  ex : ∃ (k : Nat) (f : Addr) (fd : FuncData) (ps : List Str), dW X.prog X.w X.K X.mg X.base jP k f fd ps sp ∧ cy (k + 2) X.A ∧ X.mg x = some (.ref f) ∧ Binds X.K fd ps []
  gl : Gl X x
  db : (x == ("__debug__" : Str)) = false
theorem Here.Cz {P : Program} {w : World} {K : PySem.W.Frag} {mg : Str → Option Value} {base : Heap} {sc : Scope} {N : List Str} {k j : Nat} {x : Str} {sp : Sp} (h : Here X P w K mg base sc N k) (G : Gd P w K mg base j x sp) (hg : sc.names.lookup x = some .globalImplicit) (hj : j + 2 ≤ k) (db : (x == ("__debug__" : Str)) = false) : Aa X x sp := by
  obtain ⟨f, fd, ps, h1, h2, h3, h4⟩ := G.ex
  obtain ⟨rfl, rfl, rfl, rfl, rfl⟩ := And.intro h.pr (And.intro h.wd (And.intro h.fK (And.intro h.gm h.bs)))
  exact ⟨⟨j, f, fd, ps, h1, h.room.mono hj, h2, h4⟩, h.gl hg, db⟩
theorem wt {x : Str} {sp : Sp} {e : Expr} {t : TA} {p p2 kpos pos : Pos} (B : Bt X "sorted") (C : Aa X x sp) (ha : PA X [e] t) (he : starEach [e] X.env = [(false, eval e X.env)]) :
    PE X (.Call (.Name "sorted" p) [e] [⟨some "key", .Name x p2, kpos⟩] pos) (fun σ H Q => t σ H fun xs H1 => zE X.K sp xs H1 Q) := by
  intro pins s σ H Q I h
  obtain ⟨k, f, fd, ps, F, hr, nm, hb⟩ := C.ex
  have hbt : backTo pos (starEach [e] X.env) = (false, eval e X.env) :: backTo pos (starEach [] X.env) := by
    rw [he]
    rfl
  refine wpAny_Call_Name_kw (jc I B.gl B.nm jm ?_ B.hn B.db)
  refine callWith_kw (bU (ha pos pins s σ H _ I h) fun us s1 hpat => ?_) (by rw [he]; rfl) (by rw [he]; rfl)
  obtain ⟨vs, H1, I1, r, q⟩ := hpat
  exact kws_cons (kj I1 C.gl nm (kws_nil (qM F hr hb I1 r q)) C.db)
end
end L2
namespace J
open PySem PySem.Spec PyProof.Rows
open L2 (Cx V aJ aL)
theorem B7 {X : Cx} {x : Str} {sp : L2.Sp} {e : Expr} {t : L2.TA} {p p2 kpos pos : Pos} (B : L2.Bt X "sorted") (C : L2.Aa X x sp) (ha : JA X [e] t) (h : L2.notStar e = true := by rfl) :
    JE X (.Call (.Name "sorted" p) [e] [⟨some "key", .Name x p2, kpos⟩] pos) (fun σ H Q => t σ H fun xs H1 => L2.zE X.K sp xs H1 Q) := ⟨L2.wt B C ha.out (L2.bq h)⟩
theorem BX {X : Cx} {c a b : Expr} {pos : Pos} {tA : L2.TT} {ta tb : L2.TE} (hc : JT X c tA) (ha : JE X a ta) (hb : JE X b tb) : JE X (.IfExp c a b pos) (L2.DL tA ta tb) := ⟨L2.v9 hc.out ha.out hb.out⟩
end J
namespace L2
open PySem PySem.Spec PyProof.Rows
section
variable {X : Cx}
inductive oH (K : PySem.W.Frag) (x y : V) (H : Hp) (Q : Prop) : Prop
  | mk (a b : Addr) (xs ys : List V) (hx : x = .ref a) (hy : y = .ref b) (s : aJ K H a xs) (t : aJ K H b ys) (l : xs.length = ys.length)
      (he : ∀ (i : Nat) u v, xs[i]? = some u → ys[i]? = some v → ∃ p q zs, u = .ref p ∧ v = .ref q ∧ aL K H p zs ∧ aL K H q zs ∧ ∀ z ∈ zs, jN z z = some true) (q : Q)
theorem wg {pins : List (Addr × Obj)} {σ : St} {H : Hp} {s : Shared} {A : Around} (hu : A.units + 1 < cLine) (I : Inv X pins σ H s) {p q : Addr} {zs : List V} (hp : aL X.K H p zs) (hq : aL X.K H q zs) (hz : ∀ z ∈ zs, jN z z = some true) : SeqAt.EqAt A s (.ref p) (.ref q) true := by
  by_cases e : p = q
  · rw [e]
    exact SeqAt.EqAt.same _
  obtain ⟨jts, rj, plj, _⟩ := I.tuple hp
  obtain ⟨jts2, rj2, plj2, _⟩ := I.tuple hq
  have m1 := rj.length
  have m2 := rj2.length
  have inner := SeqAt.RcAt.tuples (A := A) (e := fun _ => true) (show s.heap.IsTuple p jts.toArray from plj) (show s.heap.IsTuple q jts2.toArray from plj2) (by omega) fun i k1 k2 => by
    simp only [List.size_toArray] at k1 k2
    obtain ⟨x1, f1, r1⟩ := dj rj k1
    obtain ⟨x2, f2, r2⟩ := dj rj2 k2
    rw [f1] at f2
    cases f2
    simp only [List.getElem_toArray]
    exact ux r1 r2 (hz _ (List.mem_of_getElem? f1))
  have sz : jts.toArray.size = jts2.toArray.size := by simp only [List.size_toArray]; omega
  rw [eV, sz, beq_self_eq_true] at inner
  exact SeqAt.EqAt.of_refs e inner
theorem gO (hu : X.A.units + 2 < cLine) : gQ X (compareOp .Eq) (fun x y H Q => oH X.K x y H (Q (.bl true) H)) := by
  intro pins s σ H x y v u Q I rx ry h
  obtain ⟨a, b, xs, ys, rfl, rfl, ha, hb, l, he, q⟩ := h
  cases rx
  cases ry
  obtain ⟨its, r, pl, _⟩ := I.list ha
  obtain ⟨its2, r2, pl2, _⟩ := I.list hb
  have m1 := r.length
  have m2 := r2.length
  refine SeqAt.eq_listAt (e := fun _ => true) pl.isList pl2.isList (by simp only [List.size_toArray]; omega) (by omega) (fun j h1 h2 => ?_) ?_
  · simp only [List.size_toArray] at h1 h2
    obtain ⟨x1, e1, r1⟩ := dj r h1
    obtain ⟨x2, e2, r2'⟩ := dj r2 h2
    obtain ⟨p, q', zs, rfl, rfl, hp, hq, hz⟩ := he j x1 x2 e1 e2
    simp only [List.getElem_toArray]
    rw [show its[j] = .ref p from r1, show its2[j] = .ref q' from r2']
    exact wg (by show X.A.units + 1 + 1 < cLine; omega) I hp hq hz
  · rw [eV]
    exact ⟨.bl _, H, I, rfl, q⟩
theorem jh (hu : X.A.units + 2 < cLine) : gQ X (compareOp .NotEq) (fun x y H Q => oH X.K x y H (Q (.bl false) H)) := by
  intro pins s σ H x y v u Q I rx ry h
  obtain ⟨a, b, xs, ys, rfl, rfl, ha, hb, l, he, q⟩ := h
  cases rx
  cases ry
  obtain ⟨its, r, pl, _⟩ := I.list ha
  obtain ⟨its2, r2, pl2, _⟩ := I.list hb
  have m1 := r.length
  have m2 := r2.length
  have key : SeqAt.RcNeAt X.A s (.ref a) (.ref b) (!((List.range its.toArray.size).all fun _ => true)) := by
    refine SeqAt.RcNeAt.lists pl.isList pl2.isList (by simp only [List.size_toArray]; omega) (by omega) fun j h1 h2 => ?_
    simp only [List.size_toArray] at h1 h2
    obtain ⟨x1, e1, r1⟩ := dj r h1
    obtain ⟨x2, e2, r2'⟩ := dj r2 h2
    obtain ⟨p, q', zs, rfl, rfl, hp, hq, hz⟩ := he j x1 x2 e1 e2
    simp only [List.getElem_toArray]
    rw [show its[j] = .ref p from r1, show its2[j] = .ref q' from r2']
    exact wg (by show X.A.units + 1 + 1 < cLine; omega) I hp hq hz
  rw [eV] at key
  exact key X.prog X.w X.xe _ ⟨.bl false, H, I, rfl, q⟩
end
end L2
namespace J
open PySem PySem.Spec PyProof.Rows
open L2 (Cx V aJ aL)
theorem gO {X : Cx} (hu : X.A.units + 2 < cLine) : JC X .Eq (fun x y H Q => L2.oH X.K x y H (Q (.bl true) H)) := ⟨L2.gO hu⟩
theorem jh {X : Cx} (hu : X.A.units + 2 < cLine) : JC X .NotEq (fun x y H Q => L2.oH X.K x y H (Q (.bl false) H)) := ⟨L2.jh hu⟩
end J
namespace K21
open PySem L2
def kept : List Str := ["person", "talk", "saw", "knew", "heard", "told", "not", "nobody", "never", "by", "from", "to"]
def o7 : V → Bool
  | .int i => decide (0 ≤ i) && decide (i ≤ 10 ^ Int.toNat 18)
  | _ => false
def gG : V → Bool
  | .str w => !decide (w.cps.toList < ("a" : Str).cps.toList) && !decide (("z" : Str).cps.toList < w.cps.toList)
  | _ => false
def cC (z : Str) : Bool := decide (1 ≤ (z.length : Int)) && (decide ((z.length : Int) ≤ 12) && (((signs z).map gG).all id && !yn (.str z) (kept.map V.str)))
def rG : V → Bool
  | .str z => cC z
  | _ => false
def sq (K : PySem.W.Frag) : Sp := fun vs H Q _ => ∃ x T, vs = [x] ∧ eC K H x (.type T) ∧ T ∈ tys ∧ Q (.bl (T == "int")) H
def jA (K : PySem.W.Frag) : Sp := fun vs H Q _ => ∃ x T, vs = [x] ∧ eC K H x (.type T) ∧ T ∈ tys ∧ Q (.bl (o7 x)) H
def lx (K : PySem.W.Frag) : Sp := fun vs H Q _ => ∃ x T, vs = [x] ∧ eC K H x (.type T) ∧ T ∈ tys ∧ (∀ z, x = .str z → z.length ≤ sizeLine) ∧ ∀ H', au H H' → Q (.bl (rG x)) H'
def lets : Str := "bcdfghijklmnpqrstuvwxz"
def qQ (z : Str) : Prop := ∀ c ∈ z.cps.toList, c ∈ lets.cps.toList
theorem sF : ∀ c ∈ lets.cps.toList, gG (.str ⟨#[c]⟩) = true := by decide +kernel
theorem uZ : ∀ w ∈ kept, (w.cps.toList.any fun c => !lets.cps.toList.contains c) = true := by decide +kernel
theorem j8 (a b : Str) : (a ++ b).cps.toList = a.cps.toList ++ b.cps.toList := by
  show (a.cps ++ b.cps).toList = _
  rw [Array.toList_append]
theorem x9 (a b : Str) : (a ++ b).length = a.length + b.length := Array.size_append
theorem i7 (a : Str) : a.cps.toList.length = a.length := Array.length_toList
theorem uT {z : Str} (h : qQ z) (h1 : 1 ≤ z.length) (h2 : z.length ≤ 12) : cC z = true := by
  unfold cC
  rw [decide_eq_true (by omega), decide_eq_true (by omega), Bool.true_and, Bool.true_and, Bool.and_eq_true]
  refine ⟨?_, ?_⟩
  · rw [List.all_map, List.all_eq_true]
    intro v hv
    obtain ⟨c, hc, rfl⟩ := List.mem_map.mp hv
    exact sF c (h c hc)
  · cases e : yn (.str z) (kept.map V.str) with
    | false => rfl
    | true =>
      have e' : (kept.map V.str).any (fun y => ou y (.str z)) = true := e
      rw [List.any_map, List.any_eq_true] at e'
      obtain ⟨w, hw, e2⟩ := e'
      have e3 : (w == z) = true := e2
      have e4 : w = z := eq_of_beq e3
      have ko := uZ w hw
      rw [List.any_eq_true] at ko
      obtain ⟨c, hc, nc⟩ := ko
      rw [e4] at hc
      have := h c hc
      rw [← List.contains_iff_mem] at this
      rw [this] at nc
      cases nc
def putIn (z : Str) (k : Int) (c : Nat) : Str := (zu z none (some k) ++ (⟨#[c]⟩ : Str)) ++ zu z (some k) none
theorem x3 {a b : Str} (ha : qQ a) (hb : qQ b) : qQ (a ++ b) := by
  intro c hc
  rw [j8, List.mem_append] at hc
  exact hc.elim (ha c) (hb c)
def CY (f : Nat → Str) (more : Str) : Nat → List Str
  | 0 => []
  | i + 1 => CY f more i ++ [f i, f i ++ more]
structure Cg (us : List Str) : Prop where
  len : us.length = 24
  nd : us.Nodup
  nm : ∀ z ∈ us, cC z = true
def DQ (i : Int) : Nat := lets.cps.toList.getD i.toNat 0
def bo (h : Int) : Prop := 0 ≤ h ∧ h ≤ 10 ^ Int.toNat 18
theorem fL {h : Int} (k : bo h) : o7 (.int h) = true := by
  show (decide (0 ≤ h) && decide (h ≤ 10 ^ Int.toNat 18)) = true
  rw [decide_eq_true k.1, decide_eq_true k.2]
  rfl
theorem wA {z : Str} (h : cC z = true) : z.length ≤ 12 := by
  unfold cC at h
  rw [Bool.and_eq_true, Bool.and_eq_true, decide_eq_true_iff, decide_eq_true_iff] at h
  have := h.2.1
  omega
theorem sD {z : Str} (h : cC z = true) : z.length ≤ sizeLine := by
  have h1 := wA h
  have : sizeLine = 16777216 := sizeLine_eq
  omega
theorem jv {z : Str} (h : cC z = true) : ∀ y, V.str z = V.str y → y.length ≤ sizeLine := fun y e => by
  cases e
  exact sD h
structure eD (ps : List Str) : Prop where
  lo : 1 ≤ ps.length
  hi : ps.length ≤ 24
  nd : ps.Nodup
  nm : ∀ z ∈ ps, cC z = true
inductive cY  (ps : List Str) (H : Hp) (v : V) : Prop
  | mk (a : Addr) (z : Str) (h : Int) (ta : Addr) (ws : List Str) (h0 : v = .ref a) (h1 : H a = some (.tup [.str z, .int h, .ref ta])) (h2 : z ∈ ps) (h3 : bo h) (h4 : H ta = some (.tup (ws.map V.str))) (h5 : 1 ≤ ws.length) (h6 : ws.length ≤ 6) (h7 : ∀ x ∈ ws, cC x = true)
inductive d5  (ps : List Str) (H : Hp) (v : V) : Prop
  | mk (a : Addr) (h : Int) (p q w : Str) (h0 : v = .ref a) (h1 : H a = some (.tup [.int h, .str p, .str q, .str w])) (h2 : bo h) (h3 : p ∈ ps) (h4 : q ∈ ps) (h5 : p ≠ q) (h6 : (w = "both" ∨ w = "one"))
inductive eX  (ps : List Str) (H : Hp) (v : V) : Prop
  | mk (a : Addr) (h0 : v = .ref a) (h1 : ((∃ (p : Str) (h : Int), H a = some (.tup [.str "knew", .str p, .int h]) ∧ p ∈ ps ∧ bo h) ∨    (∃ (p : Str) (b : V), H a = some (.tup [.str "unheard", .str p, b]) ∧ p ∈ ps ∧ (b = .non ∨ ∃ h : Int, b = .int h ∧ bo h)) ∨    (∃ (p : Str) (h k : Int), H a = some (.tup [.str "silent", .str p, .int h, .int k]) ∧ p ∈ ps ∧ bo h ∧ bo k ∧ h ≤ k) ∨    (∃ p q : Str, H a = some (.tup [.str "barred", .str p, .str q]) ∧ p ∈ ps ∧ q ∈ ps ∧ p ≠ q)))
def Tk (H H' : Hp) : Prop := ∀ b xs, H b = some (.tup xs) → H' b = some (.tup xs)
theorem Tk.of {H H' : Hp} (s : au H H') : Tk H H' := fun b _ e => s b _ e
theorem Tk.trans {H H1 H2 : Hp} (a : Tk H H1) (b : Tk H1 H2) : Tk H H2 := fun c xs e => b c xs (a c xs e)
theorem Tk.upd {H : Hp} {l : Addr} {xs ys : List V} (h : H l = some (.lst xs)) : Tk H (upd H l (.lst ys)) := fun b zs e => by
  rw [ao (lE e h (by intro z; cases z))]
  exact e
theorem cY.mono {ps : List Str} {H H' : Hp} {v : V} (s : Tk H H') (h : cY ps H v) : cY ps H' v := by
  obtain ⟨a, z, h, ta, ws, e, ha, hz, hh, ht, r1, r2, r3⟩ := h
  exact ⟨a, z, h, ta, ws, e, s _ _ ha, hz, hh, s _ _ ht, r1, r2, r3⟩
theorem d5.mono {ps : List Str} {H H' : Hp} {v : V} (s : Tk H H') (h : d5 ps H v) : d5 ps H' v := by
  obtain ⟨a, h, p, q, w, e, ha, r1, r2, r3, r4, r5⟩ := h
  exact ⟨a, h, p, q, w, e, s _ _ ha, r1, r2, r3, r4, r5⟩
theorem eX.mono {ps : List Str} {H H' : Hp} {v : V} (s : Tk H H') (h : eX ps H v) : eX ps H' v := by
  obtain ⟨a, e, h⟩ := h
  refine ⟨a, e, ?_⟩
  rcases h with ⟨p, h, ha, r⟩ | ⟨p, b, ha, r⟩ | ⟨p, h, k, ha, r⟩ | ⟨p, q, ha, r⟩
  · exact .inl ⟨p, h, s _ _ ha, r⟩
  · exact .inr (.inl ⟨p, b, s _ _ ha, r⟩)
  · exact .inr (.inr (.inl ⟨p, h, k, s _ _ ha, r⟩))
  · exact .inr (.inr (.inr ⟨p, q, s _ _ ha, r⟩))
theorem uN {z : Str} {ps : List Str} (h : z ∈ ps) : yn (.str z) (ps.map V.str) = true := by
  show (ps.map V.str).any (fun y => ou y (.str z)) = true
  rw [List.any_map, List.any_eq_true]
  exact ⟨z, h, by show (z == z) = true; exact beq_self_eq_true z⟩
theorem uv (ps : List Str) : (ps.map V.str).all bK = true := by
  rw [List.all_map, List.all_eq_true]
  intro z _
  rfl
theorem all_true {α : Type} {f : α → Bool} {xs : List α} (h : ∀ x ∈ xs, f x = true) : (xs.map f).all id = true := by
  rw [List.all_map, List.all_eq_true]
  exact fun x hx => h x hx
theorem hJ {xs : List V} {n : Nat} {m : Int} (h : xs.length = n) (hm : (n : Int) ≠ m) : ¬ decide (V.int (xs.length : Nat) = V.int m) = true := by
  rw [decide_eq_true_iff, h]
  intro e
  injection e with e
  exact hm e
theorem nD {xs : List V} {n : Nat} {m : Int} (h : xs.length = n) (hm : (n : Int) = m) : decide (V.int (xs.length : Nat) = V.int m) = true := by
  rw [decide_eq_true_iff, h, hm]
inductive tQ  (vs : List V) (H : Hp) (Q : VK) : Prop
  | mk (p : Addr) (xs : List V) (m : Int) (h0 : vs = [.ref p, .int m]) (h1 : H p = some (.lst xs)) (h2 : (xs.length : Int) ≤ m) (h3 : Q (.bl true) H)
def fM  : Sp := fun vs H Q _ => tQ  vs H Q
inductive vN  (vs : List V) (H : Hp) (Q : VK) : Prop
  | mk (p : Addr) (xs : List V) (m : Int) (h0 : vs = [.ref p, .int m]) (h1 : H p = some (.tup xs)) (h2 : (xs.length : Int) = m) (h3 : Q (.bl true) H)
def kg  : Sp := fun vs H Q _ => vN  vs H Q
inductive um  (vs : List V) (H : Hp) (Q : VK) : Prop
  | mk (p : Addr) (ps : List Str) (z : Str) (h0 : vs = [.ref p, .str z]) (h1 : H p = some (.lst (ps.map V.str))) (h2 : eD ps) (h3 : z ∈ ps) (h4 : ∀ H', au H H' → Q (.bl true) H')
def fO  : Sp := fun vs H Q _ => um  vs H Q
inductive uo  (vs : List V) (H : Hp) (Q : VK) : Prop
  | mk (p : Addr) (ps : List Str) (y z : Str) (h0 : vs = [.ref p, .str y, .str z]) (h1 : H p = some (.lst (ps.map V.str))) (h2 : eD ps) (h3 : y ∈ ps) (h4 : z ∈ ps) (h5 : y ≠ z) (h6 : ∀ H', au H H' → Q (.bl true) H')
def iI  : Sp := fun vs H Q _ => uo  vs H Q
inductive xi  (vs : List V) (H : Hp) (Q : VK) : Prop
  | mk (t : Addr) (ws : List Str) (h0 : vs = [.ref t]) (h1 : H t = some (.tup (ws.map V.str))) (h2 : 1 ≤ ws.length) (h3 : ws.length ≤ 6) (h4 : (∀ x ∈ ws, cC x = true)) (h5 : ∀ H', au H H' → Q (.bl true) H')
def qL  : Sp := fun vs H Q _ => xi  vs H Q
inductive wD  (vs : List V) (H : Hp) (Q : VK) : Prop
  | mk (p : Addr) (ps : List Str) (v : V) (h0 : vs = [.ref p, v]) (h1 : H p = some (.lst (ps.map V.str))) (h2 : eD ps) (h3 : cY ps H v) (h4 : ∀ H', au H H' → Q (.bl true) H')
def nQ  : Sp := fun vs H Q _ => wD  vs H Q
inductive zW  (vs : List V) (H : Hp) (Q : VK) : Prop
  | mk (w : Str) (h0 : vs = [.str w]) (h1 : (w = "both" ∨ w = "one")) (h2 : ∀ H', au H H' → Q (.bl true) H')
def vf  : Sp := fun vs H Q _ => zW  vs H Q
inductive wR  (vs : List V) (H : Hp) (Q : VK) : Prop
  | mk (p : Addr) (ps : List Str) (v : V) (h0 : vs = [.ref p, v]) (h1 : H p = some (.lst (ps.map V.str))) (h2 : eD ps) (h3 : d5 ps H v) (h4 : ∀ H', au H H' → Q (.bl true) H')
def qa  : Sp := fun vs H Q _ => wR  vs H Q
inductive yq  (vs : List V) (H : Hp) (Q : VK) : Prop
  | mk (h k : Int) (h0 : vs = [.int h, .int k]) (h1 : bo h) (h2 : bo k) (h3 : h ≤ k) (h4 : Q (.bl true) H)
def qC  : Sp := fun vs H Q _ => yq  vs H Q
inductive vx  (vs : List V) (H : Hp) (Q : VK) : Prop
  | mk (p : Addr) (ps : List Str) (kd y : Str) (b : V) (h0 : vs = [.ref p, .str kd, .str y, b]) (h1 : H p = some (.lst (ps.map V.str))) (h2 : eD ps) (h3 : y ∈ ps) (h4 : ((kd = "barred" ∧ ∃ z, b = .str z ∧ z ∈ ps ∧ y ≠ z) ∨ (kd = "unheard" ∧ (b = .non ∨ ∃ h : Int, b = .int h ∧ bo h)) ∨ (kd = "knew" ∧ ∃ h : Int, b = .int h ∧ bo h))) (h5 : ∀ H', au H H' → Q (.bl true) H')
def nu  : Sp := fun vs H Q _ => vx  vs H Q
inductive ue  (vs : List V) (H : Hp) (Q : VK) : Prop
  | mk (p : Addr) (ps : List Str) (v : V) (h0 : vs = [.ref p, v]) (h1 : H p = some (.lst (ps.map V.str))) (h2 : eD ps) (h3 : eX ps H v) (h4 : ∀ H', au H H' → Q (.bl true) H')
def lM  : Sp := fun vs H Q _ => ue  vs H Q
inductive qw  (vs : List V) (H : Hp) (Q : VK) : Prop
  | mk (p : Addr) (ps : List Str) (h0 : vs = [.ref p]) (h1 : H p = some (.lst (ps.map V.str))) (h2 : eD ps) (h3 : ∀ H', au H H' → Q (.bl true) H')
def jk  : Sp := fun vs H Q _ => qw  vs H Q
inductive yi  (M : List Str → Hp → V → Prop) (n : Nat) (vs : List V) (H : Hp) (Q : VK) : Prop
  | mk (p q : Addr) (ps : List Str) (xs : List V) (h0 : vs = [.ref p, .ref q]) (h1 : H p = some (.lst (ps.map V.str))) (h2 : eD ps) (h3 : H q = some (.lst xs)) (h4 : xs.length ≤ n) (h5 : (∀ v ∈ xs, M ps H v)) (h6 : ∀ H', au H H' → Q (.bl true) H')
def gr  (M : List Str → Hp → V → Prop) (n : Nat) : Sp := fun vs H Q _ => yi M n vs H Q
def jR (p s t y : Addr) : List (Str × V) := eG "kept_sayings" (.ref y) (eG "kept_talks" (.ref t) (eG "kept_sights" (.ref s) (eG "kept_persons" (.ref p) [])))
theorem Bl (p s t y : Addr) : (jR p s t y).lookup ("kept_persons" : Str) = some (.ref p) := by
  unfold jR
  rw [aU, if_neg (by decide +kernel), aU, if_neg (by decide +kernel), aU, if_neg (by decide +kernel), aU, if_pos rfl]
theorem BY (p s t y : Addr) : (jR p s t y).lookup ("kept_sights" : Str) = some (.ref s) := by
  unfold jR
  rw [aU, if_neg (by decide +kernel), aU, if_neg (by decide +kernel), aU, if_pos rfl]
theorem yR (p s t y : Addr) : (jR p s t y).lookup ("kept_talks" : Str) = some (.ref t) := by
  unfold jR
  rw [aU, if_neg (by decide +kernel), aU, if_pos rfl]
theorem AI (p s t y : Addr) : (jR p s t y).lookup ("kept_sayings" : Str) = some (.ref y) := by
  unfold jR
  rw [aU, if_pos rfl]
theorem gb (p s t y : Addr) {m : Str} (h1 : ¬ m = "kept_sayings") (h2 : ¬ m = "kept_talks") (h3 : ¬ m = "kept_sights") (h4 : ¬ m = "kept_persons") : (jR p s t y).lookup m = none := by
  unfold jR
  rw [aU, if_neg h1, aU, if_neg h2, aU, if_neg h3, aU, if_neg h4]
  rfl
structure Parts (H : Hp) (ps : List Str) (ss ts ys : List V) : Prop where
  ok : eD ps
  sl : ss.length ≤ 24
  sg : ∀ v ∈ ss, cY ps H v
  tl : ts.length ≤ 120
  tg : ∀ v ∈ ts, d5 ps H v
  yl : ys.length ≤ 60
  yg : ∀ v ∈ ys, eX ps H v
theorem Parts.mono {H H' : Hp} {ps : List Str} {ss ts ys : List V} (s : Tk H H') (g : Parts H ps ss ts ys) : Parts H' ps ss ts ys :=
  ⟨g.ok, g.sl, fun v h => (g.sg v h).mono s, g.tl, fun v h => (g.tg v h).mono s, g.yl, fun v h => (g.yg v h).mono s⟩
structure Bk (C : Addr) (H : Hp) (x p s t y : Addr) (ps : List Str) (ss ts ys : List V) : Prop where
  ob : ∃ dx, H x = some (.ins C dx (jR p s t y))
  hp : H p = some (.lst (ps.map V.str))
  hs : H s = some (.lst ss)
  ht : H t = some (.lst ts)
  hy : H y = some (.lst ys)
theorem Bk.mono {C : Addr} {H H' : Hp} {x p s t y : Addr} {ps : List Str} {ss ts ys : List V} (m : au H H') (b : Bk C H x p s t y ps ss ts ys) : Bk C H' x p s t y ps ss ts ys := by
  obtain ⟨⟨dx, e⟩, h1, h2, h3, h4⟩ := b
  exact ⟨⟨dx, m _ _ e⟩, m _ _ h1, m _ _ h2, m _ _ h3, m _ _ h4⟩
inductive xN  (C : Addr) (vs : List V) (H : Hp) (Q : VK) : Prop
  | mk (x dx p a b c : Addr) (ps : List Str) (ss ts ys : List V) (h0 : vs = [.ref x, .ref p, .ref a, .ref b, .ref c]) (h1 : H x = some (.ins C dx [])) (h2 : H p = some (.lst (ps.map V.str))) (h3 : H a = some (.lst ss)) (h4 : H b = some (.lst ts)) (h5 : H c = some (.lst ys)) (h6 : Parts H ps ss ts ys) (h7 : ∀ (p' s' t' y' : Addr) (H' : Hp), H p' = none → H s' = none → H t' = none → H y' = none → Bk C H' x p' s' t' y' ps ss ts ys → (∀ d o, H d = some o → d ≠ x → H' d = some o) → Q .non H')
def qY  (C : Addr) : Sp := fun vs H Q _ => xN C vs H Q
structure Txt (K : PySem.W.Frag) (mg : Str → Option Value) (kw C : Addr) : Prop where
  b_isinstance : mg "isinstance" = none
  b_int : mg "int" = none
  b_bool : mg "bool" = none
  b_str : mg "str" = none
  b_len : mg "len" = none
  b_all : mg "all" = none
  b_range : mg "range" = none
  b_list : mg "list" = none
  b_tuple : mg "tuple" = none
  b_set : mg "set" = none
  b_zip : mg "zip" = none
  b_enumerate : mg "enumerate" = none
  b_min : mg "min" = none
  b_max : mg "max" = none
  b_any : mg "any" = none
  b_sorted : mg "sorted" = none
  b_dict : mg "dict" = none
  b_sum : mg "sum" = none
  b_reversed : mg "reversed" = none
  kwm : mg "KEPT_WORDS" = some (.ref kw)
  kwt : ∃ (o : Obj) (its : Array Value) (n : Nat), K.lookup kw = some o ∧ o.cls = .type "tuple" ∧ o.data = .seq its n ∧ its.size ≤ sizeLine ∧ Vals (kept.map V.str) its.toList
  g_MOST_PERSONS : ∃ u, mg "MOST_PERSONS" = some u ∧ RelV (.int 24) u
  g_MOST_SIGHTS : ∃ u, mg "MOST_SIGHTS" = some u ∧ RelV (.int 24) u
  g_MOST_TALKS : ∃ u, mg "MOST_TALKS" = some u ∧ RelV (.int 120) u
  g_MOST_SAYINGS : ∃ u, mg "MOST_SAYINGS" = some u ∧ RelV (.int 60) u
  g_MOST_WORDS : ∃ u, mg "MOST_WORDS" = some u ∧ RelV (.int 6) u
  cl : pR K C
  nP : eZ K C "kept_persons"
  nS : eZ K C "kept_sights"
  nT : eZ K C "kept_talks"
  nY : eZ K C "kept_sayings"
section
variable {P : Program} {w : World} {K : PySem.W.Frag} {mg : Str → Option Value} {base : Heap} {kw C : Addr}
theorem Ea : aB ["thing"] ["thing"] (aa cU) := {}
theorem u6 {f : Addr} {fd : FuncData} (F : lZ K "is_whole" "is_whole" cU f fd) (T : Txt K mg kw C) : dW P w K mg base jP 1 f fd ["thing"] (sq K) := by
  refine F.ok Ea (fun vs H Q E h => ?_) (fun cdv A outer s H vs Q E hr h => ?_)
  · obtain ⟨x, t, rfl, _⟩ := h
    rfl
  · obtain ⟨x, t, rfl, ty, ht, k⟩ := h
    refine ⟨_, ak (aE (bz (fN bS rfl T.b_isinstance aT (eA (pv 0) (eA (ki (v := .ty "int") rfl T.b_int mU rfl) ae)))
      (bD (oh (fN bS rfl T.b_isinstance aT (eA (pv 0) (eA (ki (v := .ty "bool") rfl T.b_bool sf rfl) ae))))))), ?_⟩
    refine ⟨_, rfl, _, _, _, _, rfl, ty, bL ht (by decide), _, rfl, ?_⟩
    refine cH (fun h1 => ?_) (fun h1 => ?_)
    · refine ⟨_, rfl, _, _, _, _, rfl, ty, bL ht (by decide), _, rfl, ?_⟩
      have e : (!wu t "bool") = (t == "int") := by
        simp only [tys, List.mem_cons, List.not_mem_nil, or_false] at ht
        rcases ht with rfl | rfl | rfl | rfl | rfl | rfl | rfl <;> first | rfl | (exfalso; revert h1; decide)
      show Q (.bl (!wu t "bool")) H
      rw [e]
      exact k
    · have e : (t == "int") = false := by
        simp only [tys, List.mem_cons, List.not_mem_nil, or_false] at ht
        rcases ht with rfl | rfl | rfl | rfl | rfl | rfl | rfl <;> first | rfl | (exfalso; revert h1; decide)
      show Q (.bl false) H
      rw [← e]
      exact k
theorem Ey : aB ["thing"] ["thing"] (aa d9) := {}
theorem xx {f fW : Addr} {fd fdW : FuncData} (F : lZ K "is_hour" "is_hour" d9 f fd) (DW : Df K mg "is_whole" cU ["thing"] fW fdW) (T : Txt K mg kw C) : dW P w K mg base jP 2 f fd ["thing"] (jA K) := by
  have GW : dW P w K mg base jP 1 fW fdW ["thing"] (sq K) := u6 DW.fn T
  refine F.ok Ey (fun vs H Q E h => ?_) (fun cdv A outer s H vs Q E hr h => ?_)
  · obtain ⟨x, t, rfl, _⟩ := h
    rfl
  · obtain ⟨x, t, rfl, ty, ht, k⟩ := h
    refine ⟨_, ak (aE (bz (sh GW hr rfl DW.nm DW.fn.kp DW.bi .nil r8 (eA (pv 0) ae))
      (bD (gB eY eY ag (pv 0) (aG ju ag ag))))), ?_⟩
    refine ⟨_, rfl, x, t, rfl, ty, ht, _, rfl, ?_⟩
    refine cH (fun h1 => ?_) (fun h1 => ?_)
    · have e : t = "int" := eq_of_beq h1
      subst e
      obtain ⟨i, rfl⟩ := ty_int ty
      · refine ⟨_, rfl, _, _, rfl, rfl, _, rfl, ?_⟩
        refine cH (fun h2 => ?_) (fun h2 => ?_)
        · refine ⟨_, _, rfl, rfl, ⟨by decide, by decide, by decide⟩, _, _, rfl, rfl, ?_⟩
          have e2 : o7 (.int i) = decide (i ≤ 10 ^ Int.toNat 18) := by
            show (decide (0 ≤ i) && decide (i ≤ 10 ^ Int.toNat 18)) = _
            rw [h2, Bool.true_and]
          rw [e2] at k
          exact k
        · have e2 : o7 (.int i) = false := by
            show (decide (0 ≤ i) && decide (i ≤ 10 ^ Int.toNat 18)) = _
            rw [Bool.eq_false_iff.mpr h2, Bool.false_and]
          rw [e2] at k
          exact k
    · have e2 : o7 x = false := by
        cases x with
        | int i => exact absurd (beq_iff_eq.mpr (tS ty)) h1
        | _ => rfl
      rw [e2] at k
      exact k
theorem Ec : aB ["thing"] ["thing"] (aa dF) := {}
theorem yj {f : Addr} {fd : FuncData} (F : lZ K "is_name" "is_name" dF f fd) (T : Txt K mg kw C) : dW P w K mg base jP 1 f fd ["thing"] (lx K) := by
  refine F.ok Ec (fun vs H Q E h => ?_) (fun cdv A outer s H vs Q E hr h => ?_)
  · obtain ⟨x, t, rfl, _⟩ := h
    rfl
  · obtain ⟨x, t, rfl, ty, ht, hz, k⟩ := h
    refine ⟨_, ah (bp (PW.pt (fq (cq (qW (fN bS rfl T.b_isinstance aT (eA (pv 0) (eA (ki (v := .ty "str") rfl T.b_str qy rfl) ae)))))
        (d7 (cq (iX eY eY ag (fN oe rfl T.b_len df (eA (pv 0) ae)) ag))))) (ak (aE dk)) aM)
      (ak (aE (bz (fN (dH rfl) rfl T.b_all jf (eA (gn (sc := aa dF) (N := ["thing"]) (is := []) (ns := []) rfl (zb (pv 0))
          {} (fun _ _ _ _ _ => gB mS mS ba (pv 0) ba)) ae))
        (bD (bu n5 (pv 0) (jX (v := .ref kw) rfl T.kwm rfl) (by with_unfolding_all rfl)))))), ?_⟩
    refine ⟨_, rfl, _, _, _, _, rfl, ty, bL ht (by decide), _, rfl, ?_⟩
    by_cases hs : t = "str"
    · subst hs
      obtain ⟨z, rfl⟩ := ty_str ty
      · have hz' := hz z rfl
        refine bY ?_
        refine ⟨_, rfl, z, rfl, hz', _, _, rfl, rfl, _, rfl, ?_⟩
        by_cases h1 : 1 ≤ (z.length : Int)
        · rw [decide_eq_true h1]
          refine cP ⟨_, _, rfl, rfl, _, rfl, ?_⟩
          by_cases h2 : (z.length : Int) ≤ 12
          · rw [decide_eq_true h2]
            refine bY ?_
            refine ⟨_, rfl, z, rfl, zy (fun v => .bl (gG v)) hz' (fun v H2 Q' hv sm q' => ?_) fun D hD => ?_⟩
            · obtain ⟨c, _, rfl⟩ := List.mem_map.mp hv
              refine ⟨_, rfl, _, _, rfl, rfl, _, rfl, cH (fun h => ⟨_, _, rfl, rfl, ?_⟩) (fun h => ?_)⟩
              · have e : gG (.str ⟨#[c]⟩) = !decide (("z" : Str).cps.toList < (⟨#[c]⟩ : Str).cps.toList) := by
                  show (!decide ((⟨#[c]⟩ : Str).cps.toList < ("a" : Str).cps.toList) && _) = _
                  rw [h, Bool.true_and]
                rw [e] at q'
                exact q'
              · have e : gG (.str ⟨#[c]⟩) = false := by
                  show (!decide ((⟨#[c]⟩ : Str).cps.toList < ("a" : Str).cps.toList) && _) = _
                  rw [Bool.eq_false_iff.mpr h, Bool.false_and]
                rw [e] at q'
                exact q'
            · refine ⟨D, (signs z).map gG, rfl, aJ.of (af.trans (by rw [List.map_map]; rfl)), _, rfl, ?_⟩
              have e : cC z = (((signs z).map gG).all id && !yn (.str z) (kept.map V.str)) := by
                unfold cC
                rw [decide_eq_true h1, decide_eq_true h2, Bool.true_and, Bool.true_and]
              have k' := k _ (au.upd (o := .lst (((signs z).map fun v => V.bl (gG v)))) hD)
              have k2 : Q (.bl (cC z)) _ := k'
              rw [e] at k2
              refine cH (fun h => ?_) (fun h => ?_)
              · rw [h, Bool.true_and] at k2
                refine ⟨_, rfl, kw, _, rfl, .inr (.inr T.kwt), rfl, ?_, k2⟩
                decide +kernel
              · rw [Bool.eq_false_iff.mpr h, Bool.false_and] at k2
                exact k2
          · rw [decide_eq_false h2]
            refine cP ?_
            have e : cC z = false := by
              unfold cC
              rw [decide_eq_false h2, Bool.false_and, Bool.and_false]
            have k2 : Q (.bl (cC z)) H := k H (au.refl H)
            rw [e] at k2
            exact k2
        · rw [decide_eq_false h1]
          refine bY ⟨_, rfl, cP ?_⟩
          have e : cC z = false := by
            unfold cC
            rw [decide_eq_false h1, Bool.false_and]
          have k2 : Q (.bl (cC z)) H := k H (au.refl H)
          rw [e] at k2
          exact k2
    · have e : wu t "str" = false := by
        unfold wu
        rw [beq_eq_false_iff_ne.mpr hs, Bool.false_or]
        exact Bool.and_false _
      rw [e]
      refine cP (cP ?_)
      have e2 : rG x = false := by
        cases x with
        | str z => exact absurd (uE ty) hs
        | _ => rfl
      have k2 := k H (au.refl H)
      rw [e2] at k2
      exact k2
theorem yK {α : Type} {xs : List α} {i : Int} (h0 : 0 ≤ i) (h1 : i < xs.length) : ∃ v, mZ xs i = some v ∧ v ∈ xs := by
  have hj : i.toNat < xs.length := by omega
  have e : ((i.toNat : Nat) : Int) = i := Int.toNat_of_nonneg h0
  refine ⟨xs[i.toNat], ?_, List.getElem_mem hj⟩
  have := bE (xs := xs) (j := i.toNat) (v := xs[i.toNat]) (by simp [hj])
  rw [e] at this
  exact this
theorem jj : aB ["thing", "most"] ["thing", "most"] (aa bJ) := {}
theorem rg {f : Addr} {fd : FuncData} (D : Df K mg "is_list_up_to" bJ ["thing", "most"] f fd) (T : Txt K mg kw C) : Gd P w K mg base 1 "is_list_up_to" fM := by
  refine J.aP D jj (fun vs H Q E h => ?_) (fun X H vs Q E hh h => ?_)
  · obtain ⟨p, xs, m, rfl, _⟩ := h
    rfl
  · obtain ⟨p, xs, m, rfl, hp, hm, k⟩ := h
    have S0 := hh.sl 0 "thing"
    have S1 := hh.sl 1 "most"
    have B_isinstance := hh.b T.b_isinstance
    have B_len := hh.b T.b_len
    have B_list := hh.b T.b_list
    refine ⟨_, (J.ak (J.aE (J.bz (J.blt B_isinstance J.bS L2.aT (J.ai (J.rd S0) (J.ai (J.ty B_list L2.cE) J.ae))) (J.bD (J.bu J.eY (J.blt B_len J.aQ L2.df (J.ai (J.rd S0) J.ae)) (J.rd S1) (L2.aH _)))))), ?_⟩
    refine ⟨_, rfl, _, _, _, _, rfl, .lst hp, bL (T := "list") (by decide) (by decide), _, rfl, cB (by decide) ?_⟩
    refine ⟨_, rfl, p, xs, rfl, .inl (aJ.of hp), _, rfl, _, _, rfl, rfl, ?_⟩
    show Q (.bl (decide ((xs.length : Int) ≤ m))) H
    rw [decide_eq_true hm]
    exact k
theorem lA : aB ["thing", "length"] ["thing", "length"] (aa cm) := {}
theorem tP {f : Addr} {fd : FuncData} (D : Df K mg "is_tuple_of" cm ["thing", "length"] f fd) (T : Txt K mg kw C) : Gd P w K mg base 1 "is_tuple_of" kg := by
  refine J.aP D lA (fun vs H Q E h => ?_) (fun X H vs Q E hh h => ?_)
  · obtain ⟨p, xs, m, rfl, _⟩ := h
    rfl
  · obtain ⟨p, xs, m, rfl, hp, hm, k⟩ := h
    have S0 := hh.sl 0 "thing"
    have S1 := hh.sl 1 "length"
    have B_isinstance := hh.b T.b_isinstance
    have B_len := hh.b T.b_len
    have B_tuple := hh.b T.b_tuple
    refine ⟨_, (J.ak (J.aE (J.bz (J.blt B_isinstance J.bS L2.aT (J.ai (J.rd S0) (J.ai (J.ty B_tuple L2.iY) J.ae))) (J.bD (J.bu J.bN (J.blt B_len J.aQ L2.df (J.ai (J.rd S0) J.ae)) (J.rd S1) (L2.aH _)))))), ?_⟩
    refine ⟨_, rfl, _, _, _, _, rfl, .tup hp, bL (T := "tuple") (by decide) (by decide), _, rfl, cB (by decide) ?_⟩
    refine ⟨_, rfl, p, xs, rfl, .inr (aL.of hp), _, rfl, rfl, ?_⟩
    rw [hm, decide_eq_true rfl]
    exact k
theorem nI : aB ["persons", "thing"] ["persons", "thing"] (aa cW) := {}
theorem tK {f : Addr} {fd : FuncData} (D : Df K mg "is_person" cW ["persons", "thing"] f fd) (G_is_name : Gd P w K mg base 1 "is_name" (lx K)) : Gd P w K mg base 2 "is_person" fO := by
  refine J.aP D nI (fun vs H Q E h => ?_) (fun X H vs Q E hh h => ?_)
  · obtain ⟨p, ps, z, rfl, _⟩ := h
    rfl
  · obtain ⟨p, ps, z, rfl, hp, hP, hz, k⟩ := h
    have S0 := hh.sl 0 "persons"
    have S1 := hh.sl 1 "thing"
    have C_is_name := hh.c G_is_name
    have hn := hP.nm z hz
    refine ⟨_, (J.ak (J.aE (J.bz (J.cF C_is_name (J.ai (J.rd S1) J.ae)) (J.bD (J.bu J.gS (J.rd S1) (J.rd S0) J.jL))))), ?_⟩
    refine ⟨_, rfl, .str z, "str", rfl, .str z, by decide, jv hn, fun H1 s1 => ⟨_, rfl, cB hn ?_⟩⟩
    refine ⟨_, rfl, _, rfl, p, _, rfl, .inl (aJ.of (s1 _ _ hp)), rfl, uv ps, ?_⟩
    show Q (.bl (yn (.str z) (ps.map V.str))) H1
    rw [uN hz]
    exact k H1 s1
theorem gx : aB ["persons", "one", "other"] ["persons", "one", "other"] (aa aZ) := {}
theorem tf {f : Addr} {fd : FuncData} (D : Df K mg "are_unlike_persons" aZ ["persons", "one", "other"] f fd) (G_is_person : Gd P w K mg base 2 "is_person" fO) : Gd P w K mg base 3 "are_unlike_persons" iI := by
  refine J.aP D gx (fun vs H Q E h => ?_) (fun X H vs Q E hh h => ?_)
  · obtain ⟨p, ps, y, z, rfl, _⟩ := h
    rfl
  · obtain ⟨p, ps, y, z, rfl, hp, hP, hy, hz, hne, k⟩ := h
    have S0 := hh.sl 0 "persons"
    have S1 := hh.sl 1 "one"
    have S2 := hh.sl 2 "other"
    have C_is_person := hh.c G_is_person
    refine ⟨_, (J.ak (J.aE (J.bz (J.cF C_is_person (J.ai (J.rd S0) (J.ai (J.rd S1) J.ae))) (J.bz (J.cF C_is_person (J.ai (J.rd S0) (J.ai (J.rd S2) J.ae))) (J.bD (J.bu J.mz (J.rd S1) (J.rd S2) (L2.aH _))))))), ?_⟩
    refine ⟨_, rfl, _, rfl, p, ps, y, rfl, hp, hP, hy, fun H1 s1 => ⟨_, rfl, cP ?_⟩⟩
    refine ⟨_, rfl, _, rfl, p, ps, z, rfl, s1 _ _ hp, hP, hz, fun H2 s2 => ⟨_, rfl, cP ?_⟩⟩
    refine ⟨_, rfl, _, rfl, rfl, ?_⟩
    rw [decide_eq_false (by intro e; cases e; exact hne rfl)]
    exact k H2 (s1.trans s2)
theorem qf : aB ["thing"] ["thing"] (aa dO) := {}
theorem yr {f : Addr} {fd : FuncData} (D : Df K mg "is_tale" dO ["thing"] f fd) (T : Txt K mg kw C) (G_is_name : Gd P w K mg base 1 "is_name" (lx K)) : Gd P w K mg base 2 "is_tale" qL := by
  refine J.aP D qf (fun vs H Q E h => ?_) (fun X H vs Q E hh h => ?_)
  · obtain ⟨t, ws, rfl, _⟩ := h
    rfl
  · obtain ⟨t, ws, rfl, ht, w1, w6, hw, k⟩ := h
    have S0 := hh.sl 0 "thing"
    have B_all := hh.b T.b_all
    have B_isinstance := hh.b T.b_isinstance
    have B_len := hh.b T.b_len
    have B_tuple := hh.b T.b_tuple
    have g_MOST_WORDS : ∀ {p : Pos}, J.JE X (.Name "MOST_WORDS" p) (L2.tC (.int 6)) := J.glob hh T.g_MOST_WORDS rfl (by decide)
    have CI_is_name := hh.ci G_is_name
    have hl : (ws.map V.str).length = ws.length := List.length_map ..
    have hz : (ws.map V.str).length ≤ sizeLine := by
      have : sizeLine = 16777216 := sizeLine_eq
      omega
    refine ⟨_, (J.ah (J.bp (J.dN (J.fq (J.cq (J.bB (J.blt B_isinstance J.bS L2.aT (J.ai (J.rd S0) (J.ai (J.ty B_tuple L2.iY) J.ae))))) (J.d7 (J.cq (J.iX J.eY J.eY J.ag (J.blt B_len J.aQ L2.df (J.ai (J.rd S0) J.ae)) g_MOST_WORDS L2.kF)))))
 (J.ak (J.aE J.dk))
 J.aM)
 (J.ak (J.aE (J.blt B_all (J.dH hh.calm) L2.jf (J.ai (J.gn (sc := L2.aa dO) (N := ["thing"]) (is := []) (ns := []) hh.calm (J.qm (J.rd S0)) {} (fun _ _ _ _ _ => (J.cF (CI_is_name.lc rfl) (J.ai (J.AD rfl (by decide) (by decide)) J.ae))) hh.hsc hh.hN) J.ae))))), ?_⟩
    refine ⟨_, rfl, _, _, _, _, rfl, .tup ht, bL (T := "tuple") (by decide) (by decide), _, rfl, bT (by decide) ?_⟩
    refine ⟨_, rfl, t, _, rfl, .inr (aL.of ht), _, _, rfl, rfl, _, rfl, cB (decide_eq_true (by omega)) ⟨_, _, rfl, rfl, _, rfl, ?_⟩⟩
    rw [decide_eq_true (show ((ws.map V.str).length : Int) ≤ 6 by omega)]
    refine bY ?_
    refine ⟨_, rfl, t, rfl, ⟨_, aL.of ht⟩, xH (fun v => .bl (rG v)) (aL.of ht) hz (fun v H2 Q' hv sm q' => ?_) (fun D' H' hD sm hl' => ?_)⟩
    · obtain ⟨x, hx, rfl⟩ := List.mem_map.mp hv
      exact ⟨_, rfl, .str x, "str", rfl, .str x, by decide, jv (hw x hx), fun H3 s3 => q' H3 s3⟩
    · refine ⟨D', ws.map cC, rfl, aJ.of (hl'.trans (by rw [List.map_map, List.map_map]; rfl)), ?_⟩
      rw [all_true hw]
      exact k H' sm
theorem ow : aB ["persons", "thing"] ["persons", "thing"] (aa dy) := {}
theorem uO {f : Addr} {fd : FuncData} (D : Df K mg "is_sight" dy ["persons", "thing"] f fd) (G_is_tuple_of : Gd P w K mg base 1 "is_tuple_of" kg) (G_is_person : Gd P w K mg base 2 "is_person" fO)
    (G_is_hour : Gd P w K mg base 2 "is_hour" (jA K)) (G_is_tale : Gd P w K mg base 2 "is_tale" qL) : Gd P w K mg base 3 "is_sight" nQ := by
  refine J.aP D ow (fun vs H Q E h => ?_) (fun X H vs Q E hh h => ?_)
  · obtain ⟨p, ps, v, rfl, _⟩ := h
    rfl
  · obtain ⟨p, ps, v, rfl, hp, hP, ⟨a, z, hr, ta, ws, rfl, ha, hz, hho, hta, w1, w6, hw⟩, k⟩ := h
    have S0 := hh.sl 0 "persons"
    have S1 := hh.sl 1 "thing"
    have C_is_hour := hh.c G_is_hour
    have C_is_person := hh.c G_is_person
    have C_is_tale := hh.c G_is_tale
    have C_is_tuple_of := hh.c G_is_tuple_of
    refine ⟨_, (J.ah (J.bp (J.cq (J.bB (J.cF C_is_tuple_of (J.ai (J.rd S1) (J.ai J.ag J.ae)))))
 (J.ak (J.aE J.dk))
 J.aM)
 (J.ak (J.aE (J.bz (J.cF C_is_person (J.ai (J.rd S0) (J.ai (J.aw J.aD (J.rd S1) J.ag J.az) J.ae))) (J.bz (J.cF C_is_hour (J.ai (J.aw J.aD (J.rd S1) J.ag J.az) J.ae)) (J.bD (J.cF C_is_tale (J.ai (J.aw J.aD (J.rd S1) J.ag J.az) J.ae)))))))), ?_⟩
    refine ⟨_, rfl, a, _, 3, rfl, ha, rfl, _, rfl, bY ?_⟩
    refine ⟨_, rfl, _, rfl, a, _, _, _, rfl, rfl, aL.of ha, rfl, p, ps, z, rfl, hp, hP, hz, fun H1 s1 => ⟨_, rfl, cP ?_⟩⟩
    refine ⟨_, rfl, a, _, _, _, rfl, rfl, aL.of (s1 _ _ ha), rfl, .int hr, "int", rfl, .int hr, by decide, _, rfl, cB (fL hho) ?_⟩
    exact ⟨_, rfl, a, _, _, _, rfl, rfl, aL.of (s1 _ _ ha), rfl, ta, ws, rfl, s1 _ _ hta, w1, w6, hw, fun H2 s2 => k H2 (s1.trans s2)⟩
theorem sG : aB ["thing"] ["thing"] (aa eS) := {}
theorem y8 {f : Addr} {fd : FuncData} (D : Df K mg "is_way" eS ["thing"] f fd) (T : Txt K mg kw C) : Gd P w K mg base 1 "is_way" vf := by
  refine J.aP D sG (fun vs H Q E h => ?_) (fun X H vs Q E hh h => ?_)
  · obtain ⟨z, rfl, _⟩ := h
    rfl
  · obtain ⟨z, rfl, hz, k⟩ := h
    have S0 := hh.sl 0 "thing"
    have B_isinstance := hh.b T.b_isinstance
    have B_str := hh.b T.b_str
    refine ⟨_, (J.ak (J.aE (J.bz (J.blt B_isinstance J.bS L2.aT (J.ai (J.rd S0) (J.ai (J.ty B_str L2.qy) J.ae))) (J.bD (J.bu J.gS (J.rd S0) (J.bj (J.ai J.ba (J.ai J.ba J.ae))) J.u0))))), ?_⟩
    refine ⟨_, rfl, _, _, _, _, rfl, .str z, bL (T := "str") (by decide) (by decide), _, rfl, cB (by decide) ?_⟩
    refine ⟨_, rfl, by show 2 ≤ sizeLine; decide, fun q hq => ⟨q, _, rfl, .inr (aL.of af), rfl, by decide +kernel, ?_⟩⟩
    show Q (.bl (yn (.str z) [.str "both", .str "one"])) _
    have e : yn (.str z) [.str "both", .str "one"] = true := by
      rcases hz with rfl | rfl <;> decide +kernel
    rw [e]
    exact k _ (au.upd hq)
theorem qx : aB ["persons", "thing"] ["persons", "thing"] (aa d4) := {}
theorem wW {f : Addr} {fd : FuncData} (D : Df K mg "is_talk" d4 ["persons", "thing"] f fd) (G_is_tuple_of : Gd P w K mg base 1 "is_tuple_of" kg) (G_are_unlike_persons : Gd P w K mg base 3 "are_unlike_persons" iI)
    (G_is_hour : Gd P w K mg base 2 "is_hour" (jA K)) (G_is_way : Gd P w K mg base 1 "is_way" vf) : Gd P w K mg base 4 "is_talk" qa := by
  refine J.aP D qx (fun vs H Q E h => ?_) (fun X H vs Q E hh h => ?_)
  · obtain ⟨p, ps, v, rfl, _⟩ := h
    rfl
  · obtain ⟨p, ps, v, rfl, hp, hP, ⟨a, hr, y, z, wy, rfl, ha, hho, hy, hz, hne, hw⟩, k⟩ := h
    have S0 := hh.sl 0 "persons"
    have S1 := hh.sl 1 "thing"
    have C_are_unlike_persons := hh.c G_are_unlike_persons
    have C_is_hour := hh.c G_is_hour
    have C_is_tuple_of := hh.c G_is_tuple_of
    have C_is_way := hh.c G_is_way
    refine ⟨_, (J.ah (J.bp (J.cq (J.bB (J.cF C_is_tuple_of (J.ai (J.rd S1) (J.ai J.ag J.ae)))))
 (J.ak (J.aE J.dk))
 J.aM)
 (J.ak (J.aE (J.bz (J.cF C_is_hour (J.ai (J.aw J.aD (J.rd S1) J.ag J.az) J.ae)) (J.bz (J.cF C_are_unlike_persons (J.ai (J.rd S0) (J.ai (J.aw J.aD (J.rd S1) J.ag J.az) (J.ai (J.aw J.aD (J.rd S1) J.ag J.az) J.ae)))) (J.bD (J.cF C_is_way (J.ai (J.aw J.aD (J.rd S1) J.ag J.az) J.ae)))))))), ?_⟩
    refine ⟨_, rfl, a, _, 4, rfl, ha, rfl, _, rfl, bY ?_⟩
    refine ⟨_, rfl, a, _, _, _, rfl, rfl, aL.of ha, rfl, .int hr, "int", rfl, .int hr, by decide, _, rfl, cB (fL hho) ?_⟩
    refine ⟨_, rfl, _, rfl, a, _, _, _, rfl, rfl, aL.of ha, rfl, _, rfl, a, _, _, _, rfl, rfl, aL.of ha, rfl, p, ps, y, z, rfl, hp, hP, hy, hz, hne, fun H1 s1 => ⟨_, rfl, cP ?_⟩⟩
    exact ⟨_, rfl, a, _, _, _, rfl, rfl, aL.of (s1 _ _ ha), rfl, wy, rfl, hw, fun H2 s2 => k H2 (s1.trans s2)⟩
theorem q0 : aB ["begin", "end"] ["begin", "end"] (aa ef) := {}
theorem yd {f : Addr} {fd : FuncData} (D : Df K mg "is_span" ef ["begin", "end"] f fd) (G_is_hour : Gd P w K mg base 2 "is_hour" (jA K)) : Gd P w K mg base 3 "is_span" qC := by
  refine J.aP D q0 (fun vs H Q E h => ?_) (fun X H vs Q E hh h => ?_)
  · obtain ⟨a, b, rfl, _⟩ := h
    rfl
  · obtain ⟨a, b, rfl, h1, h2, h3, k⟩ := h
    have S0 := hh.sl 0 "begin"
    have S1 := hh.sl 1 "end"
    have C_is_hour := hh.c G_is_hour
    refine ⟨_, (J.ak (J.aE (J.bz (J.cF C_is_hour (J.ai (J.rd S0) J.ae)) (J.bz (J.cF C_is_hour (J.ai (J.rd S1) J.ae)) (J.bD (J.bu J.eY (J.rd S0) (J.rd S1) (L2.aH _))))))), ?_⟩
    refine ⟨_, rfl, .int a, "int", rfl, .int a, by decide, _, rfl, cB (fL h1) ?_⟩
    refine ⟨_, rfl, .int b, "int", rfl, .int b, by decide, _, rfl, cB (fL h2) ?_⟩
    refine ⟨_, rfl, _, rfl, _, _, rfl, rfl, ?_⟩
    show Q (.bl (decide (a ≤ b))) H
    rw [decide_eq_true h3]
    exact k
theorem hZ : aB ["persons", "kind", "person", "behind"] ["persons", "kind", "person", "behind"] (aa br) := {}
theorem vT {f : Addr} {fd : FuncData} (D : Df K mg "is_short_saying" br ["persons", "kind", "person", "behind"] f fd) (G_are_unlike_persons : Gd P w K mg base 3 "are_unlike_persons" iI)
    (G_is_person : Gd P w K mg base 2 "is_person" fO) (G_is_hour : Gd P w K mg base 2 "is_hour" (jA K)) : Gd P w K mg base 4 "is_short_saying" nu := by
  refine J.aP D hZ (fun vs H Q E h => ?_) (fun X H vs Q E hh h => ?_)
  · obtain ⟨p, ps, kd, y, b, rfl, _⟩ := h
    rfl
  · obtain ⟨p, ps, kd, y, b, rfl, hp, hP, hy, hk, k⟩ := h
    have S0 := hh.sl 0 "persons"
    have S1 := hh.sl 1 "kind"
    have S2 := hh.sl 2 "person"
    have S3 := hh.sl 3 "behind"
    have C_are_unlike_persons := hh.c G_are_unlike_persons
    have C_is_hour := hh.c G_is_hour
    have C_is_person := hh.c G_is_person
    refine ⟨_, (J.ah (J.bp (J.aI J.bN (J.rd S1) J.ba (L2.aH _))
 (J.ak (J.aE (J.cF C_are_unlike_persons (J.ai (J.rd S0) (J.ai (J.rd S2) (J.ai (J.rd S3) J.ae))))))
 J.aM)
 (J.ah (J.bp (J.cq (J.bB (J.cF C_is_person (J.ai (J.rd S0) (J.ai (J.rd S2) J.ae)))))
 (J.ak (J.aE J.dk))
 J.aM)
 (J.ah (J.bp (J.aI J.bN (J.rd S1) J.ba (L2.aH _))
 (J.ak (J.aE (J.pf (J.bu J.jB (J.rd S3) J.fu (L2.aH _)) (J.bD (J.cF C_is_hour (J.ai (J.rd S3) J.ae))))))
 J.aM)
 (J.ak (J.aE (J.bz (J.bu J.bN (J.rd S1) J.ba (L2.aH _)) (J.bD (J.cF C_is_hour (J.ai (J.rd S3) J.ae))))))))), ?_⟩
    refine ⟨_, rfl, rfl, _, rfl, ?_⟩
    rcases hk with ⟨rfl, z, rfl, hz, hne⟩ | ⟨rfl, hb⟩ | ⟨rfl, h, rfl, hho⟩
    · refine cB (decide_eq_true rfl) ?_
      exact ⟨_, rfl, _, rfl, _, rfl, p, ps, y, z, rfl, hp, hP, hy, hz, hne, k⟩
    · refine bT (by decide +kernel) ?_
      refine ⟨_, rfl, _, rfl, p, ps, y, rfl, hp, hP, hy, fun H1 s1 => ⟨_, rfl, bY ?_⟩⟩
      refine ⟨_, rfl, rfl, _, rfl, cB (decide_eq_true rfl) ?_⟩
      rcases hb with rfl | ⟨h, rfl, hho⟩
      · exact ⟨_, rfl, rfl, _, rfl, cB (decide_eq_true rfl) (k H1 s1)⟩
      · refine ⟨_, rfl, rfl, _, rfl, bT (by rw [decide_eq_true_iff]; intro e; cases e) ?_⟩
        refine ⟨_, rfl, .int h, "int", rfl, .int h, by decide, ?_⟩
        rw [fL hho]
        exact k H1 s1
    · refine bT (by decide +kernel) ?_
      refine ⟨_, rfl, _, rfl, p, ps, y, rfl, hp, hP, hy, fun H1 s1 => ⟨_, rfl, bY ?_⟩⟩
      refine ⟨_, rfl, rfl, _, rfl, bT (by decide +kernel) ?_⟩
      refine ⟨_, rfl, rfl, _, rfl, cB (decide_eq_true rfl) ?_⟩
      refine ⟨_, rfl, .int h, "int", rfl, .int h, by decide, ?_⟩
      rw [fL hho]
      exact k H1 s1
theorem nO : aB ["persons", "thing"] ["persons", "thing"] (aa cL) := {}
theorem uh {f : Addr} {fd : FuncData} (D : Df K mg "is_saying" cL ["persons", "thing"] f fd) (T : Txt K mg kw C) (G_is_person : Gd P w K mg base 2 "is_person" fO) (G_is_span : Gd P w K mg base 3 "is_span" qC)
    (G_is_short_saying : Gd P w K mg base 4 "is_short_saying" nu) : Gd P w K mg base 5 "is_saying" lM := by
  refine J.aP D nO (fun vs H Q E h => ?_) (fun X H vs Q E hh h => ?_)
  · obtain ⟨p, ps, v, rfl, _⟩ := h
    rfl
  · obtain ⟨p, ps, v, rfl, hp, hP, ⟨a, rfl, hk⟩, k⟩ := h
    have S0 := hh.sl 0 "persons"
    have S1 := hh.sl 1 "thing"
    have B_isinstance := hh.b T.b_isinstance
    have B_len := hh.b T.b_len
    have B_str := hh.b T.b_str
    have B_tuple := hh.b T.b_tuple
    have C_is_person := hh.c G_is_person
    have C_is_short_saying := hh.c G_is_short_saying
    have C_is_span := hh.c G_is_span
    refine ⟨_, (J.ah (J.bp (J.dN (J.fq (J.cq (J.bB (J.blt B_isinstance J.bS L2.aT (J.ai (J.rd S1) (J.ai (J.ty B_tuple L2.iY) J.ae))))) (J.fq (J.aI J.bN (J.blt B_len J.aQ L2.df (J.ai (J.rd S1) J.ae)) J.ag (L2.aH _)) (J.d7 (J.cq (J.bB (J.blt B_isinstance J.bS L2.aT (J.ai (J.aw J.aD (J.rd S1) J.ag J.az) (J.ai (J.ty B_str L2.qy) J.ae)))))))))
 (J.ak (J.aE J.dk))
 J.aM)
 (J.ah (J.bp (J.aI J.bN (J.blt B_len J.aQ L2.df (J.ai (J.rd S1) J.ae)) J.ag (L2.aH _))
 (J.ak (J.aE (J.bz (J.bu J.bN (J.aw J.aD (J.rd S1) J.ag J.az) J.ba (L2.aH _)) (J.bz (J.cF C_is_person (J.ai (J.rd S0) (J.ai (J.aw J.aD (J.rd S1) J.ag J.az) J.ae))) (J.bD (J.cF C_is_span (J.ai (J.aw J.aD (J.rd S1) J.ag J.az) (J.ai (J.aw J.aD (J.rd S1) J.ag J.az) J.ae))))))))
 J.aM)
 (J.ak (J.aE (J.bz (J.bu J.bN (J.blt B_len J.aQ L2.df (J.ai (J.rd S1) J.ae)) J.ag (L2.aH _)) (J.bD (J.cF C_is_short_saying (J.ai (J.rd S0) (J.ai (J.aw J.aD (J.rd S1) J.ag J.az) (J.ai (J.aw J.aD (J.rd S1) J.ag J.az) (J.ai (J.aw J.aD (J.rd S1) J.ag J.az) J.ae))))))))))), ?_⟩
    rcases hk with ⟨y, h, ha, hy, hho⟩ | ⟨y, b, ha, hy, hb⟩ | ⟨y, h, h2, ha, hy, hho, hho2, hle⟩ | ⟨y, z, ha, hy, hz, hne⟩
    · refine ⟨_, rfl, _, _, _, _, rfl, .tup ha, bL (T := "tuple") (by decide) (by decide), _, rfl, bT (by decide) ?_⟩
      refine ⟨_, rfl, a, _, rfl, .inr (aL.of ha), rfl, _, rfl, bT (hJ (n := 3) rfl (by decide)) ?_⟩
      refine ⟨_, rfl, a, _, _, _, rfl, rfl, aL.of ha, rfl, _, _, _, _, rfl, .str _, bL (T := "str") (by decide) (by decide), _, rfl, bT (by decide) ?_⟩
      refine ⟨_, rfl, a, _, rfl, .inr (aL.of ha), rfl, _, rfl, bT (hJ (n := 3) rfl (by decide)) ?_⟩
      refine ⟨_, rfl, a, _, rfl, .inr (aL.of ha), rfl, _, rfl, cB (nD (n := 3) rfl (by decide)) ?_⟩
      exact ⟨_, rfl, _, rfl, a, _, _, _, rfl, rfl, aL.of ha, rfl, _, rfl, a, _, _, _, rfl, rfl, aL.of ha, rfl, _, rfl, a, _, _, _, rfl, rfl, aL.of ha, rfl, p, ps, _, y, _, rfl, hp, hP, hy, .inr (.inr ⟨rfl, h, rfl, hho⟩), k⟩
    · refine ⟨_, rfl, _, _, _, _, rfl, .tup ha, bL (T := "tuple") (by decide) (by decide), _, rfl, bT (by decide) ?_⟩
      refine ⟨_, rfl, a, _, rfl, .inr (aL.of ha), rfl, _, rfl, bT (hJ (n := 3) rfl (by decide)) ?_⟩
      refine ⟨_, rfl, a, _, _, _, rfl, rfl, aL.of ha, rfl, _, _, _, _, rfl, .str _, bL (T := "str") (by decide) (by decide), _, rfl, bT (by decide) ?_⟩
      refine ⟨_, rfl, a, _, rfl, .inr (aL.of ha), rfl, _, rfl, bT (hJ (n := 3) rfl (by decide)) ?_⟩
      refine ⟨_, rfl, a, _, rfl, .inr (aL.of ha), rfl, _, rfl, cB (nD (n := 3) rfl (by decide)) ?_⟩
      exact ⟨_, rfl, _, rfl, a, _, _, _, rfl, rfl, aL.of ha, rfl, _, rfl, a, _, _, _, rfl, rfl, aL.of ha, rfl, _, rfl, a, _, _, _, rfl, rfl, aL.of ha, rfl, p, ps, _, y, _, rfl, hp, hP, hy, .inr (.inl ⟨rfl, hb⟩), k⟩
    · refine ⟨_, rfl, _, _, _, _, rfl, .tup ha, bL (T := "tuple") (by decide) (by decide), _, rfl, bT (by decide) ?_⟩
      refine ⟨_, rfl, a, _, rfl, .inr (aL.of ha), rfl, _, rfl, bT (hJ (n := 4) rfl (by decide)) ?_⟩
      refine ⟨_, rfl, a, _, _, _, rfl, rfl, aL.of ha, rfl, _, _, _, _, rfl, .str _, bL (T := "str") (by decide) (by decide), _, rfl, bT (by decide) ?_⟩
      refine ⟨_, rfl, a, _, rfl, .inr (aL.of ha), rfl, _, rfl, cB (nD (n := 4) rfl (by decide)) ?_⟩
      refine ⟨_, rfl, a, _, _, _, rfl, rfl, aL.of ha, rfl, rfl, _, rfl, cB (by decide +kernel) ?_⟩
      refine ⟨_, rfl, _, rfl, a, _, _, _, rfl, rfl, aL.of ha, rfl, p, ps, y, rfl, hp, hP, hy, fun H1 s1 => ⟨_, rfl, cP ?_⟩⟩
      exact ⟨_, rfl, a, _, _, _, rfl, rfl, aL.of (s1 _ _ ha), rfl, _, rfl, a, _, _, _, rfl, rfl, aL.of (s1 _ _ ha), rfl, h, h2, rfl, hho, hho2, hle, k H1 s1⟩
    · refine ⟨_, rfl, _, _, _, _, rfl, .tup ha, bL (T := "tuple") (by decide) (by decide), _, rfl, bT (by decide) ?_⟩
      refine ⟨_, rfl, a, _, rfl, .inr (aL.of ha), rfl, _, rfl, bT (hJ (n := 3) rfl (by decide)) ?_⟩
      refine ⟨_, rfl, a, _, _, _, rfl, rfl, aL.of ha, rfl, _, _, _, _, rfl, .str _, bL (T := "str") (by decide) (by decide), _, rfl, bT (by decide) ?_⟩
      refine ⟨_, rfl, a, _, rfl, .inr (aL.of ha), rfl, _, rfl, bT (hJ (n := 3) rfl (by decide)) ?_⟩
      refine ⟨_, rfl, a, _, rfl, .inr (aL.of ha), rfl, _, rfl, cB (nD (n := 3) rfl (by decide)) ?_⟩
      exact ⟨_, rfl, _, rfl, a, _, _, _, rfl, rfl, aL.of ha, rfl, _, rfl, a, _, _, _, rfl, rfl, aL.of ha, rfl, _, rfl, a, _, _, _, rfl, rfl, aL.of ha, rfl, p, ps, _, y, _, rfl, hp, hP, hy, .inl ⟨rfl, z, rfl, hz, hne⟩, k⟩
theorem kJ : aB ["thing"] ["thing"] (aa bQ) := {}
theorem qE {f : Addr} {fd : FuncData} (D : Df K mg "are_persons" bQ ["thing"] f fd) (T : Txt K mg kw C) (G_is_list_up_to : Gd P w K mg base 1 "is_list_up_to" fM) (G_is_name : Gd P w K mg base 1 "is_name" (lx K)) : Gd P w K mg base 2 "are_persons" jk := by
  refine J.aP D kJ (fun vs H Q E h => ?_) (fun X H vs Q E hh h => ?_)
  · obtain ⟨p, ps, rfl, _⟩ := h
    rfl
  · obtain ⟨p, ps, rfl, hp, hP, k⟩ := h
    have S0 := hh.sl 0 "thing"
    have B_all := hh.b T.b_all
    have B_len := hh.b T.b_len
    have B_set := hh.b T.b_set
    have g_MOST_PERSONS : ∀ {p : Pos}, J.JE X (.Name "MOST_PERSONS" p) (L2.tC (.int 24)) := J.glob hh T.g_MOST_PERSONS rfl (by decide)
    have C_is_list_up_to := hh.c G_is_list_up_to
    have CI_is_name := hh.ci G_is_name
    have hl : (ps.map V.str).length = ps.length := List.length_map ..
    have h24 := hP.hi
    have h1 := hP.lo
    have hz : (ps.map V.str).length ≤ sizeLine := by
      have : sizeLine = 16777216 := sizeLine_eq
      omega
    refine ⟨_, (J.ah (J.bp (J.dN (J.fq (J.cq (J.bB (J.cF C_is_list_up_to (J.ai (J.rd S0) (J.ai g_MOST_PERSONS J.ae))))) (J.d7 (J.aI J.bN (J.blt B_len J.aQ L2.df (J.ai (J.rd S0) J.ae)) J.ag (L2.aH _)))))
 (J.ak (J.aE J.dk))
 J.aM)
 (J.ak (J.aE (J.bz (J.blt B_all (J.dH hh.calm) L2.jf (J.ai (J.gn (sc := L2.aa bQ) (N := ["thing"]) (is := []) (ns := []) hh.calm (J.bh (J.rd S0)) {} (fun _ _ _ _ _ => (J.cF (CI_is_name.lc rfl) (J.ai (J.AD rfl (by decide) (by decide)) J.ae))) hh.hsc hh.hN) J.ae)) (J.bD (J.bu J.bN (J.blt B_len J.fB L2.df (J.ai (J.ir B_set (J.jz hh.calm) L2.zL (J.ai (J.rd S0) J.ae)) J.ae)) (J.blt B_len J.aQ L2.df (J.ai (J.rd S0) J.ae)) (L2.aH _))))))), ?_⟩
    refine ⟨_, rfl, p, _, 24, rfl, hp, (by omega), _, rfl, bY ?_⟩
    refine ⟨_, rfl, p, _, rfl, .inl (aJ.of hp), rfl, _, rfl, bT ?_ ?_⟩
    · rw [decide_eq_true_iff]
      intro e
      injection e with e
      omega
    · refine ⟨_, rfl, p, rfl, ⟨_, aJ.of hp⟩, iz (fun v => .bl (rG v)) (aJ.of hp) hz (fun v H2 Q' hv sm q' => ?_) (fun D' H' hD sm hl' => ?_)⟩
      · obtain ⟨x, hx, rfl⟩ := List.mem_map.mp hv
        exact ⟨_, rfl, .str x, "str", rfl, .str x, by decide, jv (hP.nm x hx), fun H3 s3 => q' H3 s3⟩
      · refine ⟨D', ps.map cC, rfl, aJ.of (hl'.trans (by rw [List.map_map, List.map_map]; rfl)), _, rfl, cB (all_true hP.nm) ?_⟩
        refine ⟨_, rfl, p, ps, rfl, aJ.of (sm _ _ hp), hP.nd, by omega, fun q hq => ?_⟩
        refine ⟨q, ps.length, rfl, af, _, rfl, p, _, rfl, .inl (aJ.of ((au.upd hq) _ _ (sm _ _ hp))), rfl, ?_⟩
        rw [hl, decide_eq_true rfl]
        exact k _ (sm.trans (au.upd hq))
theorem l0 : aB ["persons", "thing"] ["persons", "thing"] (aa bZ) := {}
theorem ma {f : Addr} {fd : FuncData} (D : Df K mg "are_sights" bZ ["persons", "thing"] f fd) (T : Txt K mg kw C) (G_is_list_up_to : Gd P w K mg base 1 "is_list_up_to" fM) (G_is_sight : Gd P w K mg base 3 "is_sight" nQ) : Gd P w K mg base 4 "are_sights" (gr cY 24) := by
  refine J.aP D l0 (fun vs H Q E h => ?_) (fun X H vs Q E hh h => ?_)
  · obtain ⟨p, q, ps, xs, rfl, _⟩ := h
    rfl
  · obtain ⟨p, q, ps, xs, rfl, hp, hP, hq, hn, hg, k⟩ := h
    have S0 := hh.sl 0 "persons"
    have S1 := hh.sl 1 "thing"
    have B_all := hh.b T.b_all
    have g_MOST_SIGHTS : ∀ {p : Pos}, J.JE X (.Name "MOST_SIGHTS" p) (L2.tC (.int 24)) := J.glob hh T.g_MOST_SIGHTS rfl (by decide)
    have C_is_list_up_to := hh.c G_is_list_up_to
    have CI_is_sight := hh.ci G_is_sight
    have hz : xs.length ≤ sizeLine := by
      have : sizeLine = 16777216 := sizeLine_eq
      omega
    refine ⟨_, (J.ak (J.aE (J.bz (J.cF C_is_list_up_to (J.ai (J.rd S1) (J.ai g_MOST_SIGHTS J.ae))) (J.bD (J.blt B_all (J.dH hh.calm) L2.jf (J.ai (J.gn (sc := L2.aa bZ) (N := ["persons", "thing"]) (is := [0]) (ns := ["persons"]) hh.calm (J.bh (J.rd S1)) {} (fun _ _ _ _ _ => (J.cF (CI_is_sight.lc rfl) (J.ai (J.B3 (i := 0) rfl rfl (by decide) (by decide)) (J.ai (J.AD rfl (by decide) (by decide)) J.ae)))) hh.hsc hh.hN) J.ae)))))), ?_⟩
    refine ⟨_, rfl, q, _, 24, rfl, hq, (by omega), _, rfl, cP ?_⟩
    refine ⟨_, rfl, q, rfl, ⟨_, aJ.of hq⟩, iz (fun _ => .bl true) (aJ.of hq) hz (fun v H2 Q' hv sm q' => ?_) (fun D' H' hD sm hl' => ?_)⟩
    · exact ⟨_, rfl, _, rfl, p, ps, v, rfl, sm _ _ hp, hP, (hg v hv).mono (Tk.of sm), fun H3 s3 => q' H3 s3⟩
    · refine ⟨D', xs.map fun _ => true, rfl, aJ.of (hl'.trans (by rw [List.map_map]; rfl)), ?_⟩
      rw [all_true fun _ _ => rfl]
      exact k H' sm
theorem nA : aB ["persons", "thing"] ["persons", "thing"] (aa cu) := {}
theorem nz {f : Addr} {fd : FuncData} (D : Df K mg "are_talks" cu ["persons", "thing"] f fd) (T : Txt K mg kw C) (G_is_list_up_to : Gd P w K mg base 1 "is_list_up_to" fM) (G_is_talk : Gd P w K mg base 4 "is_talk" qa) : Gd P w K mg base 5 "are_talks" (gr d5 120) := by
  refine J.aP D nA (fun vs H Q E h => ?_) (fun X H vs Q E hh h => ?_)
  · obtain ⟨p, q, ps, xs, rfl, _⟩ := h
    rfl
  · obtain ⟨p, q, ps, xs, rfl, hp, hP, hq, hn, hg, k⟩ := h
    have S0 := hh.sl 0 "persons"
    have S1 := hh.sl 1 "thing"
    have B_all := hh.b T.b_all
    have g_MOST_TALKS : ∀ {p : Pos}, J.JE X (.Name "MOST_TALKS" p) (L2.tC (.int 120)) := J.glob hh T.g_MOST_TALKS rfl (by decide)
    have C_is_list_up_to := hh.c G_is_list_up_to
    have CI_is_talk := hh.ci G_is_talk
    have hz : xs.length ≤ sizeLine := by
      have : sizeLine = 16777216 := sizeLine_eq
      omega
    refine ⟨_, (J.ak (J.aE (J.bz (J.cF C_is_list_up_to (J.ai (J.rd S1) (J.ai g_MOST_TALKS J.ae))) (J.bD (J.blt B_all (J.dH hh.calm) L2.jf (J.ai (J.gn (sc := L2.aa cu) (N := ["persons", "thing"]) (is := [0]) (ns := ["persons"]) hh.calm (J.bh (J.rd S1)) {} (fun _ _ _ _ _ => (J.cF (CI_is_talk.lc rfl) (J.ai (J.B3 (i := 0) rfl rfl (by decide) (by decide)) (J.ai (J.AD rfl (by decide) (by decide)) J.ae)))) hh.hsc hh.hN) J.ae)))))), ?_⟩
    refine ⟨_, rfl, q, _, 120, rfl, hq, (by omega), _, rfl, cP ?_⟩
    refine ⟨_, rfl, q, rfl, ⟨_, aJ.of hq⟩, iz (fun _ => .bl true) (aJ.of hq) hz (fun v H2 Q' hv sm q' => ?_) (fun D' H' hD sm hl' => ?_)⟩
    · exact ⟨_, rfl, _, rfl, p, ps, v, rfl, sm _ _ hp, hP, (hg v hv).mono (Tk.of sm), fun H3 s3 => q' H3 s3⟩
    · refine ⟨D', xs.map fun _ => true, rfl, aJ.of (hl'.trans (by rw [List.map_map]; rfl)), ?_⟩
      rw [all_true fun _ _ => rfl]
      exact k H' sm
theorem kQ : aB ["persons", "thing"] ["persons", "thing"] (aa bP) := {}
theorem lH {f : Addr} {fd : FuncData} (D : Df K mg "are_sayings" bP ["persons", "thing"] f fd) (T : Txt K mg kw C) (G_is_list_up_to : Gd P w K mg base 1 "is_list_up_to" fM) (G_is_saying : Gd P w K mg base 5 "is_saying" lM) : Gd P w K mg base 6 "are_sayings" (gr eX 60) := by
  refine J.aP D kQ (fun vs H Q E h => ?_) (fun X H vs Q E hh h => ?_)
  · obtain ⟨p, q, ps, xs, rfl, _⟩ := h
    rfl
  · obtain ⟨p, q, ps, xs, rfl, hp, hP, hq, hn, hg, k⟩ := h
    have S0 := hh.sl 0 "persons"
    have S1 := hh.sl 1 "thing"
    have B_all := hh.b T.b_all
    have g_MOST_SAYINGS : ∀ {p : Pos}, J.JE X (.Name "MOST_SAYINGS" p) (L2.tC (.int 60)) := J.glob hh T.g_MOST_SAYINGS rfl (by decide)
    have C_is_list_up_to := hh.c G_is_list_up_to
    have CI_is_saying := hh.ci G_is_saying
    have hz : xs.length ≤ sizeLine := by
      have : sizeLine = 16777216 := sizeLine_eq
      omega
    refine ⟨_, (J.ak (J.aE (J.bz (J.cF C_is_list_up_to (J.ai (J.rd S1) (J.ai g_MOST_SAYINGS J.ae))) (J.bD (J.blt B_all (J.dH hh.calm) L2.jf (J.ai (J.gn (sc := L2.aa bP) (N := ["persons", "thing"]) (is := [0]) (ns := ["persons"]) hh.calm (J.bh (J.rd S1)) {} (fun _ _ _ _ _ => (J.cF (CI_is_saying.lc rfl) (J.ai (J.B3 (i := 0) rfl rfl (by decide) (by decide)) (J.ai (J.AD rfl (by decide) (by decide)) J.ae)))) hh.hsc hh.hN) J.ae)))))), ?_⟩
    refine ⟨_, rfl, q, _, 60, rfl, hq, (by omega), _, rfl, cP ?_⟩
    refine ⟨_, rfl, q, rfl, ⟨_, aJ.of hq⟩, iz (fun _ => .bl true) (aJ.of hq) hz (fun v H2 Q' hv sm q' => ?_) (fun D' H' hD sm hl' => ?_)⟩
    · exact ⟨_, rfl, _, rfl, p, ps, v, rfl, sm _ _ hp, hP, (hg v hv).mono (Tk.of sm), fun H3 s3 => q' H3 s3⟩
    · refine ⟨D', xs.map fun _ => true, rfl, aJ.of (hl'.trans (by rw [List.map_map]; rfl)), ?_⟩
      rw [all_true fun _ _ => rfl]
      exact k H' sm
theorem tI : aB ["self", "persons", "sights", "talks", "sayings"] ["self", "persons", "sights", "talks", "sayings"] (aa fG) := {}
theorem xw {f : Addr} {fd : FuncData} (F : lZ K "__init__" "Book.__init__" fG f fd) (mk : Mk K C f) (bi : Binds K fd ["self", "persons", "sights", "talks", "sayings"] []) (nm : mg "Book" = some (.ref C)) (T : Txt K mg kw C)
    (G_are_persons : Gd P w K mg base 2 "are_persons" jk) (G_are_sights : Gd P w K mg base 4 "are_sights" (gr cY 24)) (G_are_talks : Gd P w K mg base 5 "are_talks" (gr d5 120)) (G_are_sayings : Gd P w K mg base 6 "are_sayings" (gr eX 60)) :
    Kd P w K mg base 7 "Book" C (qY C) := by
  refine J.xB F mk bi nm tI (fun vs H Q E h => ?_) (fun X H vs Q E hh h => ?_)
  · obtain ⟨x, dx, p, a, b, c, ps, ss, ts, ys, rfl, _⟩ := h
    rfl
  · obtain ⟨x, dx, p, a, b, c, ps, ss, ts, ys, rfl, hx, hp, ha, hb, hc, g, k⟩ := h
    have S0 := hh.sl 0 "self"
    have S1 := hh.sl 1 "persons"
    have S2 := hh.sl 2 "sights"
    have S3 := hh.sl 3 "talks"
    have S4 := hh.sl 4 "sayings"
    have B_list := hh.b T.b_list
    have C_are_persons := hh.c G_are_persons
    have C_are_sayings := hh.c G_are_sayings
    have C_are_sights := hh.c G_are_sights
    have C_are_talks := hh.c G_are_talks
    obtain ⟨hP, sl, sg, tl, tg, yl, yg⟩ := id g
    obtain rfl := hh.fK
    refine ⟨_, (J.ah (J.bp (J.cq (J.bB (J.cF C_are_persons (J.ai (J.rd S1) J.ae))))
 J.eO
 J.aM)
 (J.ah (J.bp (J.cq (J.bB (J.cF C_are_sights (J.ai (J.rd S1) (J.ai (J.rd S2) J.ae)))))
 J.eO
 J.aM)
 (J.ah (J.bp (J.cq (J.bB (J.cF C_are_talks (J.ai (J.rd S1) (J.ai (J.rd S3) J.ae)))))
 J.eO
 J.aM)
 (J.ah (J.bp (J.cq (J.bB (J.cF C_are_sayings (J.ai (J.rd S1) (J.ai (J.rd S4) J.ae)))))
 J.eO
 J.aM)
 (J.ah (J.je (J.rd S0) (J.ir B_list J.aV L2.cE (J.ai (J.rd S1) J.ae)))
 (J.ah (J.je (J.rd S0) (J.ir B_list J.aV L2.cE (J.ai (J.rd S2) J.ae)))
 (J.ah (J.je (J.rd S0) (J.ir B_list J.aV L2.cE (J.ai (J.rd S3) J.ae)))
 (J.ak (J.je (J.rd S0) (J.ir B_list J.aV L2.cE (J.ai (J.rd S4) J.ae))))))))))), ?_⟩
    refine ⟨_, rfl, p, ps, rfl, hp, hP, fun H1 s1 => ⟨_, rfl, bY ?_⟩⟩
    refine ⟨_, rfl, _, rfl, p, a, ps, ss, rfl, s1 _ _ hp, hP, s1 _ _ ha, sl, fun v hv => (sg v hv).mono (Tk.of s1), fun H2 s2' => ⟨_, rfl, bY ?_⟩⟩
    have s2 := s1.trans s2'
    refine ⟨_, rfl, _, rfl, p, b, ps, ts, rfl, s2 _ _ hp, hP, s2 _ _ hb, tl, fun v hv => (tg v hv).mono (Tk.of s2), fun H3 s3' => ⟨_, rfl, bY ?_⟩⟩
    have s3 := s2.trans s3'
    refine ⟨_, rfl, _, rfl, p, c, ps, ys, rfl, s3 _ _ hp, hP, s3 _ _ hc, yl, fun v hv => (yg v hv).mono (Tk.of s3), fun H4 s4' => ⟨_, rfl, bY ?_⟩⟩
    have s4 := s3.trans s4'
    clear s1 s2' s2 s3' s3 s4'
    refine ⟨_, rfl, p, _, rfl, .inl (aJ.of (s4 _ _ hp)), fun p' np => ⟨_, rfl, x, C, dx, [], rfl, (by rw [ao (aj (s4 _ _ hx) np)]; exact s4 _ _ hx), T.cl, T.nP, (by show 0 < 1000; decide), ?_⟩⟩
    have xp : x ≠ p' := aj (s4 _ _ hx) np
    have k1 : ∀ d o, H4 d = some o → d ≠ x → upd (upd H4 p' (.lst (ps.map V.str))) x (.ins C dx (eG "kept_persons" (.ref p') [])) d = some o := fun d o e n => by
      rw [ao n, ao (aj e np)]
      exact e
    have ax : a ≠ x := lE (s4 _ _ ha) (s4 _ _ hx) (by intro z; cases z)
    have bx : b ≠ x := lE (s4 _ _ hb) (s4 _ _ hx) (by intro z; cases z)
    have cx : c ≠ x := lE (s4 _ _ hc) (s4 _ _ hx) (by intro z; cases z)
    refine ⟨_, rfl, a, _, rfl, .inl (aJ.of (k1 _ _ (s4 _ _ ha) ax)), fun s' ns => ⟨_, rfl, x, C, dx, _, rfl, (by rw [ao (aj af ns)]; exact af), T.cl, T.nS, (by show 1 < 1000; decide), ?_⟩⟩
    have xs : x ≠ s' := aj af ns
    have ps' : p' ≠ s' := aj (by rw [ao xp.symm]; exact af) ns
    have ns4 : H4 s' = none := by
      rw [ao xs.symm, ao ps'.symm] at ns
      exact ns
    have k2 : ∀ d o, H4 d = some o → d ≠ x → upd (upd (upd (upd H4 p' (.lst (ps.map V.str))) x (.ins C dx (eG "kept_persons" (.ref p') []))) s' (.lst ss)) x (.ins C dx (eG "kept_sights" (.ref s') (eG "kept_persons" (.ref p') []))) d = some o := fun d o e n => by
      rw [ao n, ao (aj e ns4)]
      exact k1 d o e n
    refine ⟨_, rfl, b, _, rfl, .inl (aJ.of (k2 _ _ (s4 _ _ hb) bx)), fun t' nt => ⟨_, rfl, x, C, dx, _, rfl, (by rw [ao (aj af nt)]; exact af), T.cl, T.nT, (by show 2 < 1000; decide), ?_⟩⟩
    have xt : x ≠ t' := aj af nt
    have st' : s' ≠ t' := aj (by rw [ao xs.symm]; exact af) nt
    have pt' : p' ≠ t' := aj (by rw [ao xp.symm, ao ps', ao xp.symm]; exact af) nt
    have nt4 : H4 t' = none := by
      rw [ao xt.symm, ao st'.symm, ao xt.symm, ao pt'.symm] at nt
      exact nt
    refine ⟨_, rfl, c, _, rfl, .inl (aJ.of (by rw [ao cx, ao (aj (s4 _ _ hc) nt4)]; exact k2 _ _ (s4 _ _ hc) cx)), fun y' ny => ⟨_, rfl, x, C, dx, _, rfl, (by rw [ao (aj af ny)]; exact af), T.cl, T.nY, (by show 3 < 1000; decide), ?_⟩⟩
    have xy : x ≠ y' := aj af ny
    have ty' : t' ≠ y' := aj (by rw [ao xt.symm]; exact af) ny
    have sy' : s' ≠ y' := aj (by rw [ao xs.symm, ao st', ao xs.symm]; exact af) ny
    have py' : p' ≠ y' := aj (by rw [ao xp.symm, ao pt', ao xp.symm, ao ps', ao xp.symm]; exact af) ny
    have ny4 : H4 y' = none := by
      rw [ao xy.symm, ao ty'.symm, ao xy.symm, ao sy'.symm, ao xy.symm, ao py'.symm] at ny
      exact ny
    refine k p' s' t' y' _ (s4.free np) (s4.free ns4) (s4.free nt4) (s4.free ny4) ⟨⟨dx, af⟩, ?_, ?_, ?_, ?_⟩ fun d o e n => ?_
    · rw [ao xp.symm, ao py', ao xp.symm, ao pt', ao xp.symm, ao ps', ao xp.symm]
      exact af
    · rw [ao xs.symm, ao sy', ao xs.symm, ao st', ao xs.symm]
      exact af
    · rw [ao xt.symm, ao ty', ao xt.symm]
      exact af
    · rw [ao xy.symm]
      exact af
    · rw [ao n, ao (aj (s4 _ _ e) ny4), ao n, ao (aj (s4 _ _ e) nt4)]
      exact k2 d o (s4 _ _ e) n
end
end K21
namespace K21
open PySem L2
abbrev TD := Str × Str × Str
def cK (k : Nat) (d : TD) : List (Nat × Str × Str) := if d.2.2 = "both" then [(k, d.1, d.2.1), (k, d.2.1, d.1)] else [(k, d.1, d.2.1)]
def fc (k : Nat) : List TD → List (Nat × Str × Str)
  | [] => []
  | d :: r => cK k d ++ fc (k + 1) r
theorem pB (d : TD) : ∀ (l : List TD) (k : Nat), fc k (l ++ [d]) = fc k l ++ cK (k + l.length) d
  | [], k => by
    show cK k d ++ [] = [] ++ cK (k + 0) d
    rw [List.append_nil, List.nil_append, Nat.add_zero]
  | e :: r, k => by
    show cK k e ++ fc (k + 1) (r ++ [d]) = (cK k e ++ fc (k + 1) r) ++ cK (k + (r.length + 1)) d
    rw [pB d r (k + 1), List.append_assoc, show k + 1 + r.length = k + (r.length + 1) by omega]
theorem pY (k : Nat) (d : TD) : (cK k d).length ≤ 2 := by
  unfold cK
  split
  · exact Nat.le_refl 2
  · exact Nat.le_succ 1
theorem i4 : ∀ (l : List TD) (k : Nat), (fc k l).length ≤ 2 * l.length
  | [], _ => Nat.le_refl 0
  | d :: r, k => by
    show (cK k d ++ fc (k + 1) r).length ≤ 2 * (r.length + 1)
    rw [List.length_append]
    have := pY k d
    have := i4 r (k + 1)
    omega
inductive B6  (H : Hp) (v : V) (d : TD) : Prop
  | mk (a : Addr) (h : Int) (h0 : v = .ref a) (h1 : H a = some (.tup [.int h, .str d.1, .str d.2.1, .str d.2.2]))
def BJ (H : Hp) (ts : List V) (td : List TD) : Prop := ts.length = td.length ∧ ∀ (i : Nat) v d, ts[i]? = some v → td[i]? = some d → B6 H v d
theorem BJ.mono {H H' : Hp} {ts : List V} {td : List TD} (s : Tk H H') (h : BJ H ts td) : BJ H' ts td := ⟨h.1, fun i v d hv hd => by
  obtain ⟨a, t, e, ha⟩ := h.2 i v d hv hd
  exact ⟨a, t, e, s _ _ ha⟩⟩
inductive kU  (H : Hp) (v : V) (t : Nat × Str × Str) : Prop
  | mk (a : Addr) (h0 : v = .ref a) (h1 : H a = some (.tup [.int t.1, .str t.2.1, .str t.2.2]))
def eF (H : Hp) (us : List V) (ks : List (Nat × Str × Str)) : Prop := us.length = ks.length ∧ ∀ (i : Nat) u t, us[i]? = some u → ks[i]? = some t → kU H u t
theorem kU.mono {H H' : Hp} {v : V} {t : Nat × Str × Str} (s : Tk H H') (h : kU H v t) : kU H' v t := by
  obtain ⟨a, e, ha⟩ := h
  exact ⟨a, e, s _ _ ha⟩
theorem eF.mono {H H' : Hp} {us : List V} {ks : List (Nat × Str × Str)} (s : Tk H H') (h : eF H us ks) : eF H' us ks := ⟨h.1, fun i u t hu ht => (h.2 i u t hu ht).mono s⟩
theorem eF.nil {H : Hp} : eF H [] [] := ⟨rfl, fun i u t hu => by cases hu⟩
theorem eF.snoc {H : Hp} {us : List V} {ks : List (Nat × Str × Str)} {u : V} {t : Nat × Str × Str} (h : eF H us ks) (hv : kU H u t) : eF H (us ++ [u]) (ks ++ [t]) := by
  refine ⟨by rw [List.length_append, List.length_append, h.1]; rfl, fun i x e hu he => ?_⟩
  by_cases hi : i < us.length
  · rw [List.getElem?_append_left hi] at hu
    rw [List.getElem?_append_left (by rw [← h.1]; exact hi)] at he
    exact h.2 i x e hu he
  · rw [List.getElem?_append_right (by omega)] at hu
    rw [List.getElem?_append_right (by rw [← h.1]; omega), ← h.1] at he
    cases hj : i - us.length with
    | zero =>
      rw [hj] at hu he
      cases hu
      cases he
      exact hv
    | succ j =>
      rw [hj] at hu
      cases hu
inductive oA  (C : Addr) (vs : List V) (H : Hp) (Q : VK) : Prop
  | mk (x p s t y : Addr) (ps : List Str) (ss ts ys : List V) (td : List TD) (h0 : vs = [.ref x]) (h1 : Bk C H x p s t y ps ss ts ys) (h2 : BJ H ts td) (h3 : ts.length ≤ 120) (h4 : ∀ (l : Addr) (us : List V) (H' : Hp), au H H' → H l = none → H' l = some (.lst us) → eF H' us (fc 0 td) → Q (.ref l) H')
def hB  (C : Addr) : Sp := fun vs H Q _ => oA C vs H Q
section
variable {P : Program} {w : World} {K : PySem.W.Frag} {mg : Str → Option Value} {base : Heap} {kw C : Addr}
inductive AK (x l : Addr) (H : Hp) (td : List TD) (i : Nat) (σ : St) (H2 : Hp) : Prop
  | mk (us : List V) (e1 e2 : Option V) (e : σ = [some (.ref x), some (.ref l), e1, e2]) (s : au H H2) (hl : H2 l = some (.lst us)) (tl : eF H2 us (fc 0 (td.take i)))
theorem j5 {H : Hp} {us : List V} {td : List TD} {i : Nat} {d : TD} (hd : td[i]? = some d) (t : eF H us (fc 0 (td.take i))) :
    (d.2.2 = "both" → ∀ u v, kU H u (i, d.1, d.2.1) → kU H v (i, d.2.1, d.1) → eF H ((us ++ [u]) ++ [v]) (fc 0 (td.take (i + 1)))) ∧ (d.2.2 ≠ "both" → ∀ u, kU H u (i, d.1, d.2.1) → eF H (us ++ [u]) (fc 0 (td.take (i + 1)))) := by
  have hi : i < td.length := (List.getElem?_eq_some_iff.mp hd).1
  have e : fc 0 (td.take (i + 1)) = fc 0 (td.take i) ++ cK i d := by
    rw [List.take_add_one, hd]
    show fc 0 (td.take i ++ [d]) = _
    rw [pB, List.length_take, Nat.zero_add, Nat.min_eq_left (Nat.le_of_lt hi)]
  rw [e]
  refine ⟨fun hb u v hu hv => ?_, fun hb u hu => ?_⟩
  · rw [show cK i d = [(i, d.1, d.2.1)] ++ [(i, d.2.1, d.1)] by unfold cK; rw [if_pos hb]; rfl, ← List.append_assoc]
    exact (t.snoc hu).snoc hv
  · rw [show cK i d = [(i, d.1, d.2.1)] by unfold cK; rw [if_neg hb]]
    exact t.snoc hu
theorem lR : aB ["self", "told", "k", "talk"] ["self"] (aa cZ) := {}
theorem oS {f : Addr} {fd : FuncData} (F : lZ K "tellings" "Book.tellings" cZ f fd) (me : Meth K C "tellings" f) (bi : Binds K fd ["self"] []) (T : Txt K mg kw C) : Md P w K mg base 1 C "tellings" (hB C) := by
  refine J.i3 F me bi T.cl lR (fun vs H Q E h => ?_) (fun X H vs Q E hh h => ?_)
  · obtain ⟨x, p, s, t, y, ps, ss, ts, ys, td, rfl, _⟩ := h
    rfl
  · obtain ⟨x, p, s, t, y, ps, ss, ts, ys, td, rfl, bk, tls, l120, k⟩ := h
    have S0 := hh.sl 0 "self"
    have S1 := hh.sl 1 "told"
    have S2 := hh.sl 2 "k"
    have S3 := hh.sl 3 "talk"
    have B_enumerate := hh.b T.b_enumerate
    obtain rfl := hh.fK
    have hsz : sizeLine = 16777216 := sizeLine_eq
    obtain ⟨⟨dx, hx⟩, _, _, ht, _⟩ := id bk
    refine ⟨_, (J.ah (J.set S1 hh.nd (J.dS J.ae))
 (J.ah (J.cA hh.own hh.calm (J.jZ B_enumerate (J.ai (J.fld (J.rd S0)) J.ae)) (J.dX hh.calm (J.bO (J.fE S2 hh.nd) (J.bO (J.fE S3 hh.nd) J.cD)))
 (J.ah (J.fh (J.bm PySem.F.plainAttrs_list PySem.F.slot_list_append PySem.F.type_list_append J.bR (J.rd S1) (J.ai (J.bj (J.ai (J.rd S2) (J.ai (J.aw J.aD (J.rd S3) J.ag J.az) (J.ai (J.aw J.aD (J.rd S3) J.ag J.az) J.ae)))) J.ae)))
 (J.ak (J.bp (J.aI J.bN (J.aw J.aD (J.rd S3) J.ag J.az) J.ba (L2.aH _))
 (J.ak (J.fh (J.bm PySem.F.plainAttrs_list PySem.F.slot_list_append PySem.F.type_list_append J.bR (J.rd S1) (J.ai (J.bj (J.ai (J.rd S2) (J.ai (J.aw J.aD (J.rd S3) J.ag J.az) (J.ai (J.aw J.aD (J.rd S3) J.ag J.az) J.ae)))) J.ae))))
 J.aM))))
 (J.ak (J.aE (J.rd S1))))), ?_⟩
    refine ⟨by show 0 ≤ sizeLine; decide, fun l hl => ?_⟩
    have s1 := au.upd (o := .lst []) hl
    refine ⟨_, rfl, x, C, dx, _, _, rfl, s1 _ _ hx, T.cl, T.nT, yR _ _ _ _, t, rfl, ⟨_, aJ.of (s1 _ _ ht)⟩, vE (K := X.K) (a := t) (xs := ts) (AK x l H td)
      ⟨[], none, none, rfl, s1, af, eF.nil⟩ ?_ ?_ ?_⟩
    · rintro i σ H2 ⟨_, _, _, _, s2, _⟩
      exact aJ.of (s2 _ _ ht)
    · rintro i v q σ H2 hv hq ⟨us, e1, e2, rfl, s2, hl2, tl⟩
      have hi : i < ts.length := (List.getElem?_eq_some_iff.mp hv).1
      have hd : td[i]? = some (td[i]'(by rw [← tls.1]; exact hi)) := List.getElem?_eq_getElem _
      generalize (td[i]'(by rw [← tls.1]; exact hi)) = d at hd
      obtain ⟨a, h, rfl, ha⟩ := tls.2 i v d hv hd
      have ul : us.length ≤ 240 := by
        have := i4 (td.take i) 0
        rw [List.length_take] at this
        have := tl.1
        have := tls.1
        omega
      refine ⟨q, _, rfl, aL.of af, rfl, _, _, rfl, _, _, rfl, rfl, ?_⟩
      have s3 := au.upd (o := .tup [.int i, .ref a]) hq
      have ha3 := s3 _ _ (s2 _ _ ha)
      have hl3 := s3 _ _ hl2
      have tl3 := tl.mono (Tk.of s3)
      have s03 := s2.trans s3
      generalize upd H2 q (.tup [.int i, .ref a]) = H3 at ha3 hl3 tl3 s03
      refine ⟨_, rfl, .inl ⟨rfl, _, aJ.of hl3⟩, _, rfl, _, rfl, a, _, _, _, rfl, rfl, aL.of ha3, rfl, _, rfl, a, _, _, _, rfl, rfl, aL.of ha3, rfl, by show 3 ≤ sizeLine; decide, fun t1 ht1 => ?_⟩
      have s4 := au.upd (o := .tup [.int i, .str d.1, .str d.2.1]) ht1
      refine ⟨l, us, .ref t1, rfl, rfl, s4 _ _ hl3, by omega, ?_⟩
      have al : a ≠ l := lE ha3 hl3 (by intro z; cases z)
      have t1l : t1 ≠ l := (aj hl3 ht1).symm
      have ha5 : upd (upd H3 t1 (.tup [.int i, .str d.1, .str d.2.1])) l (.lst (us ++ [.ref t1])) a = some (.tup [.int h, .str d.1, .str d.2.1, .str d.2.2]) := by
        rw [ao al]
        exact s4 _ _ ha3
      have tv5 : kU (upd (upd H3 t1 (.tup [.int i, .str d.1, .str d.2.1])) l (.lst (us ++ [.ref t1]))) (.ref t1) (i, d.1, d.2.1) := ⟨t1, rfl, by rw [ao t1l]; exact af⟩
      have tk5 := (Tk.of s4).trans (Tk.upd (s4 _ _ hl3) (ys := us ++ [.ref t1]))
      have tl5 := tl3.mono tk5
      have hl5 : upd (upd H3 t1 (.tup [.int i, .str d.1, .str d.2.1])) l (.lst (us ++ [.ref t1])) l = some (.lst (us ++ [.ref t1])) := af
      have s05 : au H (upd (upd H3 t1 (.tup [.int i, .str d.1, .str d.2.1])) l (.lst (us ++ [.ref t1]))) := fun b o e => by
        rw [ao (aj e hl)]
        exact s4 _ _ (s03 _ _ e)
      generalize upd (upd H3 t1 (.tup [.int i, .str d.1, .str d.2.1])) l (.lst (us ++ [.ref t1])) = H5 at ha5 tv5 tl5 hl5 s05
      refine ⟨_, rfl, a, _, _, _, rfl, rfl, aL.of ha5, rfl, rfl, _, rfl, cH (fun hb => ?_) (fun hb => ?_)⟩
      · have hb' : d.2.2 = "both" := V.str.inj (of_decide_eq_true hb)
        refine ⟨_, rfl, .inl ⟨rfl, _, aJ.of hl5⟩, _, rfl, _, rfl, a, _, _, _, rfl, rfl, aL.of ha5, rfl, _, rfl, a, _, _, _, rfl, rfl, aL.of ha5, rfl, by show 3 ≤ sizeLine; decide, fun t2 ht2 => ?_⟩
        have s6 := au.upd (o := .tup [.int i, .str d.2.1, .str d.1]) ht2
        refine ⟨l, _, .ref t2, rfl, rfl, s6 _ _ hl5, by rw [List.length_append]; show us.length + 1 < _; omega, ?_⟩
        have t2l : t2 ≠ l := (aj hl5 ht2).symm
        have tk7 := (Tk.of s6).trans (Tk.upd (s6 _ _ hl5) (ys := (us ++ [.ref t1]) ++ [.ref t2]))
        refine ⟨_, _, _, rfl, fun b o e => ?_, af, (j5 hd (tl5.mono tk7)).1 hb' _ _ (tv5.mono tk7) ⟨t2, rfl, ?_⟩⟩
        · rw [ao (aj e hl)]
          exact s6 _ _ (s05 _ _ e)
        · rw [ao t2l]
          exact af
      · have hb' : d.2.2 ≠ "both" := fun e => hb (decide_eq_true (congrArg V.str e))
        exact ⟨_, _, _, rfl, s05, hl5, (j5 hd tl5).2 hb' _ tv5⟩
    · rintro σ H2 ⟨us, e1, e2, rfl, s2, hl2, tl⟩
      rw [tls.1, List.take_length] at tl
      exact ⟨_, rfl, k l us H2 s2 hl hl2 tl⟩
end
inductive SD where
  | knew (p : Str) (h : Int)
  | unh (p : Str) (h : Option Int)
  | sil (p : Str) (b e : Int)
  | bar (p q : Str)
def oV : Option Int → V
  | none => .non
  | some h => .int h
def SD.tup : SD → List V
  | .knew p h => [.str "knew", .str p, .int h]
  | .unh p h => [.str "unheard", .str p, oV h]
  | .sil p b e => [.str "silent", .str p, .int b, .int e]
  | .bar p q => [.str "barred", .str p, .str q]
def yo (ps : List Str) : SD → Prop
  | .knew p h => p ∈ ps ∧ bo h
  | .unh p h => p ∈ ps ∧ ∀ i, h = some i → bo i
  | .sil p b e => p ∈ ps ∧ bo b ∧ bo e ∧ b ≤ e
  | .bar p q => p ∈ ps ∧ q ∈ ps ∧ p ≠ q
inductive qj  (H : Hp) (v : V) (d : SD) : Prop
  | mk (a : Addr) (h0 : v = .ref a) (h1 : H a = some (.tup d.tup))
def Sys (H : Hp) (ys : List V) (sd : List SD) : Prop := ys.length = sd.length ∧ ∀ (i : Nat) v d, ys[i]? = some v → sd[i]? = some d → qj H v d
theorem Sys.mono {H H' : Hp} {ys : List V} {sd : List SD} (s : Tk H H') (h : Sys H ys sd) : Sys H' ys sd := ⟨h.1, fun i v d hv hd => by
  obtain ⟨a, e, ha⟩ := h.2 i v d hv hd
  exact ⟨a, e, s _ _ ha⟩⟩
theorem Sys.nil {H : Hp} : Sys H [] [] := ⟨rfl, fun i v d hv => by cases hv⟩
theorem Sys.at {H : Hp} {ys : List V} {sd : List SD} {i : Nat} {v : V} (h : Sys H ys sd) (hv : ys[i]? = some v) : ∃ d a, sd[i]? = some d ∧ v = .ref a ∧ H a = some (.tup d.tup) := by
  have hi : i < sd.length := by
    rw [← h.1]
    exact (List.getElem?_eq_some_iff.mp hv).1
  obtain ⟨a, e, ha⟩ := h.2 i v sd[i] hv (List.getElem?_eq_getElem hi)
  exact ⟨sd[i], a, List.getElem?_eq_getElem hi, e, ha⟩
theorem pO {ps : List Str} {H : Hp} {v : V} (h : eX ps H v) : ∃ d, qj H v d ∧ yo ps d := by
  obtain ⟨a, e, h⟩ := h
  rcases h with ⟨p, h, ha, h1, h2⟩ | ⟨p, b, ha, h1, h2⟩ | ⟨p, h, k, ha, h1, h2, h3, h4⟩ | ⟨p, q, ha, h1, h2, h3⟩
  · exact ⟨.knew p h, ⟨a, e, ha⟩, h1, h2⟩
  · rcases h2 with rfl | ⟨h, rfl, h2⟩
    · exact ⟨.unh p none, ⟨a, e, ha⟩, h1, fun i z => by cases z⟩
    · exact ⟨.unh p (some h), ⟨a, e, ha⟩, h1, fun i z => by cases z; exact h2⟩
  · exact ⟨.sil p h k, ⟨a, e, ha⟩, h1, h2, h3, h4⟩
  · exact ⟨.bar p q, ⟨a, e, ha⟩, h1, h2, h3⟩
theorem js {ps : List Str} {H : Hp} : ∀ {ys : List V}, (∀ v ∈ ys, eX ps H v) → ∃ sd, Sys H ys sd ∧ ∀ d ∈ sd, yo ps d
  | [], _ => ⟨[], Sys.nil, fun d hd => by cases hd⟩
  | v :: r, h => by
    obtain ⟨sd, ⟨l, g⟩, k⟩ := js fun u hu => h u (List.mem_cons_of_mem _ hu)
    obtain ⟨d, hd, kd⟩ := pO (h v (List.mem_cons_self ..))
    refine ⟨d :: sd, ⟨by rw [List.length_cons, List.length_cons, l], fun i u e hu he => ?_⟩, fun e he => ?_⟩
    · cases i with
      | zero =>
        cases hu
        cases he
        exact hd
      | succ j => exact g j u e hu he
    · rcases List.mem_cons.mp he with rfl | he
      · exact kd
      · exact k e he
theorem cG {α : Type} {l : List α} {i : Nat} {d : α} (h : l[i]? = some d) : l.drop i = d :: l.drop (i + 1) := by
  obtain ⟨hi, rfl⟩ := List.getElem?_eq_some_iff.mp h
  exact List.drop_eq_getElem_cons hi
def jd {α : Type} (l : List α) (p : α → Bool) (i : Nat) : Bool := match l[i]? with
  | some d => p d
  | none => false
def wL {α : Type} (l : List α) (f : α → V) (i : Nat) : V := match l[i]? with
  | some d => f d
  | none => .non
theorem jq {α : Type} {l : List α} {p : α → Bool} {i : Nat} {d : α} (h : l[i]? = some d) : jd l p i = p d := by
  unfold jd
  rw [h]
theorem mX {α : Type} {l : List α} {f : α → V} {i : Nat} {d : α} (h : l[i]? = some d) : wL l f i = f d := by
  unfold wL
  rw [h]
theorem gz {α : Type} (p : α → Bool) (f : α → V) : ∀ l : List α, ((List.range l.length).filter (jd l p)).map (wL l f) = (l.filter p).map f
  | [] => rfl
  | d :: r => by
    have ih := gz p f r
    have e1 : (jd (d :: r) p ∘ Nat.succ) = jd r p := rfl
    have e2 : (wL (d :: r) f ∘ Nat.succ) = wL r f := rfl
    rw [List.length_cons, List.range_succ_eq_map, List.filter_cons, List.filter_map, e1]
    have e3 : jd (d :: r) p 0 = p d := rfl
    rw [e3, List.filter_cons]
    cases p d with
    | true =>
      rw [if_pos rfl, if_pos rfl, List.map_cons, List.map_cons, List.map_map, e2, ih]
      rfl
    | false =>
      rw [if_neg Bool.false_ne_true, if_neg Bool.false_ne_true, List.map_map, e2, ih]
def pN (z : Str) : SD → Bool
  | .unh q _ => decide (q = z)
  | _ => false
def SD.hr : SD → Option Int
  | .unh _ h => h
  | _ => none
def jQ (z : Str) (sd : List SD) : List (Option Int) := (sd.filter (pN z)).map SD.hr
def AM (acc : Int) : List (Option Int) → Option Int
  | [] => some acc
  | none :: _ => none
  | some h :: r => AM (if h > acc then h else acc) r
def floorOf (z : Str) (sd : List SD) : Option Int := AM (-1) (jQ z sd)
theorem fi {z : Str} {d : SD} {r : List SD} (h : pN z d = false) : jQ z (d :: r) = jQ z r := by
  unfold jQ
  rw [List.filter_cons, if_neg (by rw [h]; exact Bool.false_ne_true)]
theorem o4 {z : Str} {h : Option Int} {r : List SD} : jQ z (.unh z h :: r) = h :: jQ z r := by
  unfold jQ
  rw [List.filter_cons, if_pos (show pN z (.unh z h) = true from decide_eq_true rfl)]
  rfl
inductive vL  (C : Addr) (M : Addr → Addr → Addr → Addr → Addr) (vs : List V) (H : Hp) (Q : VK) : Prop
  | mk (x p s t y : Addr) (xs : List V) (h0 : vs = [.ref x]) (h1 : (∃ dx, H x = some (.ins C dx (jR p s t y)))) (h2 : H (M p s t y) = some (.lst xs)) (h3 : ∀ l, H l = none → Q (.ref l) (upd H l (.lst xs)))
def cn  (C : Addr) (M : Addr → Addr → Addr → Addr → Addr) : Sp := fun vs H Q _ => vL C M vs H Q
inductive zH (C : Addr) (vs : List V) (H : Hp) (Q : VK) : Prop
  | mk (x p s t y : Addr) (ps : List Str) (ss ts ys : List V) (z : Str) (sd : List SD) (e : vs = [.ref x, .str z]) (bk : Bk C H x p s t y ps ss ts ys) (sy : Sys H ys sd) (l : ys.length ≤ 60) (k : ∀ H', au H H' → Q (oV (floorOf z sd)) H')
def nB (C : Addr) : Sp := fun vs H Q _ => zH C vs H Q
section
variable {P : Program} {w : World} {K : PySem.W.Frag} {mg : Str → Option Value} {base : Heap} {kw C : Addr}
theorem m7 : aB ["self"] ["self"] (aa dJ) := {}
theorem n9 {f : Addr} {fd : FuncData} (F : lZ K "sayings" "Book.sayings" dJ f fd) (me : Meth K C "sayings" f) (bi : Binds K fd ["self"] []) (T : Txt K mg kw C) : Md P w K mg base 1 C "sayings" (cn C (fun _ _ _ y => y)) := by
  refine J.i3 F me bi T.cl m7 (fun vs H Q E h => ?_) (fun X H vs Q E hh h => ?_)
  · obtain ⟨x, p, s, t, y, xs, rfl, _⟩ := h
    rfl
  · obtain ⟨x, p, s, t, y, xs, rfl, ⟨dx, hx⟩, hl, k⟩ := h
    have S0 := hh.sl 0 "self"
    have B_list := hh.b T.b_list
    obtain rfl := hh.fK
    refine ⟨_, (J.ak (J.aE (J.ir B_list J.aV L2.cE (J.ai (J.fld (J.rd S0)) J.ae)))), ?_⟩
    exact ⟨_, rfl, x, C, dx, _, _, rfl, hx, T.cl, T.nY, AI _ _ _ _, _, _, rfl, .inl (aJ.of hl), k⟩
theorem oB : aB ["book", "person", "floor", "saying"] ["book", "person"] (aa dz) := {}
theorem pj {f : Addr} {fd : FuncData} (D : Df K mg "floor_of" dz ["book", "person"] f fd) (T : Txt K mg kw C) (G_sayings : Md P w K mg base 1 C "sayings" (cn C fun _ _ _ y => y)) : Gd P w K mg base 2 "floor_of" (nB C) := by
  refine J.aP D oB (fun vs H Q E h => ?_) (fun X H vs Q E hh h => ?_)
  · obtain ⟨x, p, s, t, y, ps, ss, ts, ys, z, sd, rfl, _⟩ := h
    rfl
  · obtain ⟨x, p, s, t, y, ps, ss, ts, ys, z, sd, rfl, bk, sy, l60, k⟩ := h
    have S0 := hh.sl 0 "book"
    have S1 := hh.sl 1 "person"
    have S2 := hh.sl 2 "floor"
    have S3 := hh.sl 3 "saying"
    have B_max := hh.b T.b_max
    have M_sayings := hh.met G_sayings (by decide)
    obtain ⟨⟨dx, hx⟩, hp, hs, ht, hy⟩ := id bk
    refine ⟨_, (J.ah (J.set S2 hh.nd (J.vK J.qV J.ag))
 (J.ah (J.cA hh.own hh.calm (J.bh (J.nZ M_sayings (J.rd S0) rfl)) (J.fE S3 hh.nd)
 (J.ak (J.bp (J.dN (J.di (J.aI J.bN (J.aw J.aD (J.rd S3) J.ag J.az) J.ba (L2.aH _)) (J.dv (J.aI J.bN (J.aw J.aD (J.rd S3) J.ag J.az) (J.rd S1) (L2.aH _)))))
 (J.ah (J.bp (J.aI J.jB (J.aw J.aD (J.rd S3) J.ag J.az) J.fu (L2.aH _))
 (J.ak (J.aE J.fu))
 J.aM)
 (J.ak (J.set S2 hh.nd (J.blt B_max (J.fJ hh.calm) L2.qq (J.ai (J.rd S2) (J.ai (J.aw J.aD (J.rd S3) J.ag J.az) J.ae))))))
 J.aM)))
 (J.ak (J.aE (J.rd S2))))), ?_⟩
    refine ⟨_, rfl, _, rfl, x, dx, _, rfl, hx, gb _ _ _ _ (by decide +kernel) (by decide +kernel) (by decide +kernel) (by decide +kernel), x, p, s, t, y, ys, rfl, ⟨dx, hx⟩, hy, fun l hl => ?_⟩
    have s1 := au.upd (o := .lst ys) hl
    have hl1 : upd H l (.lst ys) l = some (.lst ys) := af
    generalize upd H l (.lst ys) = H1 at s1 hl1
    refine ⟨l, rfl, ⟨_, aJ.of hl1⟩, cS (K := X.K) (a := l) (xs := ys) (fun i σ H2 => ∃ (acc : Int) (e : Option V), σ = [some (.ref x), some (.str z), some (.int acc), e] ∧ au H1 H2 ∧ AM acc (jQ z (sd.drop i)) = floorOf z sd)
      ⟨_, none, rfl, au.refl _, rfl⟩ ?_ ?_ ?_⟩
    · rintro i σ H2 hi ⟨acc, e, rfl, s2, hf⟩
      exact aJ.of (s2 _ _ hl1)
    · rintro i v σ H2 hv ⟨acc, e, rfl, s2, hf⟩
      obtain ⟨d, a, hd, rfl, ha⟩ := sy.at hv
      have ha2 := s2 _ _ (s1 _ _ ha)
      rw [cG hd] at hf
      cases d with
      | knew q h =>
        rw [fi rfl] at hf
        exact ⟨_, rfl, a, _, _, _, rfl, rfl, aL.of ha2, rfl, rfl, _, rfl, bT (by decide +kernel) (bY ⟨acc, _, rfl, s2, hf⟩)⟩
      | sil q b e' =>
        rw [fi rfl] at hf
        exact ⟨_, rfl, a, _, _, _, rfl, rfl, aL.of ha2, rfl, rfl, _, rfl, bT (by decide +kernel) (bY ⟨acc, _, rfl, s2, hf⟩)⟩
      | bar q q' =>
        rw [fi rfl] at hf
        exact ⟨_, rfl, a, _, _, _, rfl, rfl, aL.of ha2, rfl, rfl, _, rfl, bT (by decide +kernel) (bY ⟨acc, _, rfl, s2, hf⟩)⟩
      | unh q h =>
        refine ⟨_, rfl, a, _, _, _, rfl, rfl, aL.of ha2, rfl, rfl, _, rfl, cB (by decide +kernel) ⟨_, rfl, a, _, _, _, rfl, rfl, aL.of ha2, rfl, _, rfl, rfl, _, rfl, cH (fun hq => ?_) (fun hq => ?_)⟩⟩
        · have hq' : q = z := V.str.inj (of_decide_eq_true hq)
          subst hq'
          rw [o4] at hf
          cases h with
          | none =>
            refine ⟨_, rfl, a, _, _, _, rfl, rfl, aL.of ha2, rfl, rfl, _, rfl, cB (decide_eq_true rfl) ?_⟩
            have hf' : none = floorOf q sd := hf
            have := k H2 (s1.trans s2)
            rw [← hf'] at this
            exact this
          | some h =>
            refine ⟨_, rfl, a, _, _, _, rfl, rfl, aL.of ha2, rfl, rfl, _, rfl, bT (by rw [decide_eq_true_iff]; intro e; cases e) ?_⟩
            exact ⟨_, rfl, _, rfl, a, _, _, _, rfl, rfl, aL.of ha2, rfl, acc, h, rfl, _, _, rfl, s2, hf⟩
        · have hq' : pN z (.unh q h) = false := decide_eq_false fun e => hq (decide_eq_true (congrArg V.str e))
          rw [fi hq'] at hf
          exact ⟨acc, _, rfl, s2, hf⟩
    · rintro σ H2 ⟨acc, e, rfl, s2, hf⟩
      rw [sy.1, List.drop_length] at hf
      have hf' : some acc = floorOf z sd := hf
      have := k H2 (s1.trans s2)
      rw [← hf'] at this
      exact ⟨_, rfl, this⟩
end
def gD (h : Int) : Option Int → Bool
  | none => false
  | some m => decide (m < h)
inductive y6 (vs : List V) (H : Hp) (Q : VK) : Prop
  | mk (h : Int) (f : Option Int) (e : vs = [.int h, oV f]) (k : Q (.bl (gD h f)) H)
def j0 : Sp := fun vs H Q _ => y6 vs H Q
def Ck (H : Hp) (d : Addr) (ps : List Str) (sd : List SD) : Prop := ∃ kvs : List (Key × V), H d = some (.dK kvs) ∧ ∀ z ∈ ps, dC kvs (Sum.inr z) = some (oV (floorOf z sd))
theorem Ck.mono {H H' : Hp} {d : Addr} {ps : List Str} {sd : List SD} (s : au H H') (h : Ck H d ps sd) : Ck H' d ps sd := by
  obtain ⟨kvs, e, k⟩ := h
  exact ⟨kvs, s _ _ e, k⟩
inductive xr (C : Addr) (vs : List V) (H : Hp) (Q : VK) : Prop
  | mk (x p s t y : Addr) (ps : List Str) (ss ts ys : List V) (sd : List SD) (e : vs = [.ref x]) (bk : Bk C H x p s t y ps ss ts ys) (pl : ps.length ≤ 24) (sy : Sys H ys sd) (l : ys.length ≤ 60) (k : ∀ d H', au H H' → H d = none → Ck H' d ps sd → Q (.ref d) H')
def iS (C : Addr) : Sp := fun vs H Q _ => xr C vs H Q
section
variable {P : Program} {w : World} {K : PySem.W.Frag} {mg : Str → Option Value} {base : Heap} {kw C : Addr}
theorem nE : aB ["self"] ["self"] (aa dI) := {}
theorem nM {f : Addr} {fd : FuncData} (F : lZ K "persons" "Book.persons" dI f fd) (me : Meth K C "persons" f) (bi : Binds K fd ["self"] []) (T : Txt K mg kw C) : Md P w K mg base 1 C "persons" (cn C (fun p _ _ _ => p)) := by
  refine J.i3 F me bi T.cl nE (fun vs H Q E h => ?_) (fun X H vs Q E hh h => ?_)
  · obtain ⟨x, p, s, t, y, xs, rfl, _⟩ := h
    rfl
  · obtain ⟨x, p, s, t, y, xs, rfl, ⟨dx, hx⟩, hl, k⟩ := h
    have S0 := hh.sl 0 "self"
    have B_list := hh.b T.b_list
    obtain rfl := hh.fK
    refine ⟨_, (J.ak (J.aE (J.ir B_list J.aV L2.cE (J.ai (J.fld (J.rd S0)) J.ae)))), ?_⟩
    exact ⟨_, rfl, x, C, dx, _, _, rfl, hx, T.cl, T.nP, Bl _ _ _ _, _, _, rfl, .inl (aJ.of hl), k⟩
theorem oX : aB ["hour", "floor"] ["hour", "floor"] (aa dw) := {}
theorem pF {f : Addr} {fd : FuncData} (D : Df K mg "is_above" dw ["hour", "floor"] f fd) : Gd P w K mg base 1 "is_above" j0 := by
  refine J.aP D oX (fun vs H Q E h => ?_) (fun X H vs Q E hh h => ?_)
  · obtain ⟨h, f, rfl, _⟩ := h
    rfl
  · obtain ⟨h, f, rfl, k⟩ := h
    have S0 := hh.sl 0 "hour"
    have S1 := hh.sl 1 "floor"
    refine ⟨_, (J.ak (J.aE (J.bz (J.bu J.mY (J.rd S1) J.fu (L2.aH _)) (J.bD (J.bu J.lB (J.rd S0) (J.rd S1) (L2.aH _)))))), ?_⟩
    cases f with
    | none => exact ⟨_, rfl, rfl, _, rfl, bT (by decide) k⟩
    | some m => exact ⟨_, rfl, rfl, _, rfl, cB (by rw [Bool.not_eq_true', decide_eq_false_iff_not]; intro e; cases e) ⟨_, rfl, _, rfl, _, _, rfl, rfl, k⟩⟩
theorem jr : aB ["book", "floors", "person"] ["book"] (aa bH) := {}
theorem uf {f : Addr} {fd : FuncData} (D : Df K mg "floors_of_all" bH ["book"] f fd) (T : Txt K mg kw C) (G_persons : Md P w K mg base 1 C "persons" (cn C fun p _ _ _ => p)) (G_floor_of : Gd P w K mg base 2 "floor_of" (nB C)) : Gd P w K mg base 3 "floors_of_all" (iS C) := by
  refine J.aP D jr (fun vs H Q E h => ?_) (fun X H vs Q E hh h => ?_)
  · obtain ⟨x, p, s, t, y, ps, ss, ts, ys, sd, rfl, _⟩ := h
    rfl
  · obtain ⟨x, p, s, t, y, ps, ss, ts, ys, sd, rfl, bk, pl, sy, l60, k⟩ := h
    have S0 := hh.sl 0 "book"
    have S1 := hh.sl 1 "floors"
    have S2 := hh.sl 2 "person"
    have C_floor_of := hh.c G_floor_of
    have M_persons := hh.met G_persons (by decide)
    have hu := gA hh.room
    have hsz : sizeLine = 16777216 := sizeLine_eq
    obtain ⟨⟨dx, hx⟩, hp, hs, ht, hy⟩ := id bk
    refine ⟨_, (J.ah (J.set S1 hh.nd J.iT)
 (J.ah (J.cA hh.own hh.calm (J.bh (J.nZ M_persons (J.rd S0) rfl)) (J.fE S2 hh.nd)
 (J.ak (J.dput hu (J.rd S1) (J.rd S2) (J.cF C_floor_of (J.ai (J.rd S0) (J.ai (J.rd S2) J.ae))))))
 (J.ak (J.aE (J.rd S1))))), ?_⟩
    refine fun d hdn => ?_
    have s1 := au.upd (o := .dK []) hdn
    have hd1 : upd H d (.dK []) d = some (.dK []) := af
    refine ⟨_, rfl, x, dx, _, rfl, s1 _ _ hx, gb _ _ _ _ (by decide +kernel) (by decide +kernel) (by decide +kernel) (by decide +kernel), x, p, s, t, y, _, rfl, ⟨dx, s1 _ _ hx⟩, s1 _ _ hp, fun l hl => ?_⟩
    have s2 := au.upd (o := .lst (ps.map V.str)) hl
    have ld : l ≠ d := (aj hd1 hl).symm
    refine ⟨l, rfl, ⟨_, aJ.of af⟩, cS (K := X.K) (a := l) (xs := ps.map V.str) (fun i σ H2 => ∃ (kvs : List (Key × V)) (e : Option V), σ = [some (.ref x), some (.ref d), e] ∧ au H H2 ∧ H2 l = some (.lst (ps.map V.str)) ∧ H2 d = some (.dK kvs) ∧ kvs.length ≤ i ∧ ∀ z ∈ ps.take i, dC kvs (Sum.inr z) = some (oV (floorOf z sd)))
      ⟨[], none, rfl, s1.trans s2, af, s2 _ _ hd1, Nat.le_refl 0, fun z hz => by cases hz⟩ ?_ ?_ ?_⟩
    · rintro i σ H2 hi ⟨kvs, e, rfl, s2, hl2, _⟩
      exact aJ.of hl2
    · rintro i v σ H2 hv ⟨kvs, e, rfl, s3, hl2, hd2, kl, hk⟩
      rw [List.getElem?_map] at hv
      obtain ⟨z, hz, rfl⟩ := Option.map_eq_some_iff.mp hv
      have hi : i < ps.length := (List.getElem?_eq_some_iff.mp hz).1
      refine ⟨_, rfl, _, rfl, x, p, s, t, y, ps, ss, ts, ys, z, sd, rfl, bk.mono s3, sy.mono (Tk.of s3), l60, fun H5 s5 => ?_⟩
      refine ⟨_, rfl, _, rfl, d, _, rfl, lQ.k (k := Sum.inr z) (s5 _ _ hd2) (by omega), _, _, rfl, fun b o e => ?_, ?_, af, ?_, fun z' hz' => ?_⟩
      · rw [ao (aj e hdn)]
        exact s5 _ _ (s3 _ _ e)
      · rw [ao ld]
        exact s5 _ _ hl2
      · have := ft kvs (Sum.inr z : Key) (oV (floorOf z sd))
        omega
      · rw [gI]
        by_cases c : (Sum.inr z' : Key) = Sum.inr z
        · rw [if_pos c]
          have c' : z' = z := Sum.inr.inj c
          rw [c']
        · rw [if_neg c]
          rw [List.take_add_one, hz, List.mem_append] at hz'
          rcases hz' with hz' | hz'
          · exact hk z' hz'
          · exact absurd (congrArg Sum.inr (List.mem_singleton.mp hz')) c
    · rintro σ H2 ⟨kvs, e, rfl, s3, hl2, hd2, kl, hk⟩
      rw [List.length_map, List.take_length] at hk
      exact ⟨_, rfl, k d H2 s3 hdn ⟨kvs, hd2, hk⟩⟩
end
def Lz {α : Type} (R : Hp → V → α → Prop) (H : Hp) (xs : List V) (ds : List α) : Prop := xs.length = ds.length ∧ ∀ (i : Nat) v d, xs[i]? = some v → ds[i]? = some d → R H v d
theorem Lz.mono {α : Type} {R : Hp → V → α → Prop} {H H' : Hp} {xs : List V} {ds : List α} (m : ∀ v d, R H v d → R H' v d) (h : Lz R H xs ds) : Lz R H' xs ds := ⟨h.1, fun i v d hv hd => m v d (h.2 i v d hv hd)⟩
theorem Lz.at {α : Type} {R : Hp → V → α → Prop} {H : Hp} {xs : List V} {ds : List α} {i : Nat} {v : V} (h : Lz R H xs ds) (hv : xs[i]? = some v) : ∃ d, ds[i]? = some d ∧ R H v d := by
  have hi : i < ds.length := by
    rw [← h.1]
    exact (List.getElem?_eq_some_iff.mp hv).1
  exact ⟨ds[i], List.getElem?_eq_getElem hi, h.2 i v ds[i] hv (List.getElem?_eq_getElem hi)⟩
theorem nU {α : Type} {R : Hp → V → α → Prop} {H : Hp} {Ok : α → Prop} : ∀ {xs : List V}, (∀ v ∈ xs, ∃ d, R H v d ∧ Ok d) → ∃ ds, Lz R H xs ds ∧ ∀ d ∈ ds, Ok d
  | [], _ => ⟨[], ⟨rfl, fun i v d hv => by cases hv⟩, fun d hd => by cases hd⟩
  | v :: r, h => by
    obtain ⟨ds, ⟨l, g⟩, k⟩ := nU fun u hu => h u (List.mem_cons_of_mem _ hu)
    obtain ⟨d, hd, kd⟩ := h v (List.mem_cons_self ..)
    refine ⟨d :: ds, ⟨by rw [List.length_cons, List.length_cons, l], fun i u e hu he => ?_⟩, fun e he => ?_⟩
    · cases i with
      | zero =>
        cases hu
        cases he
        exact hd
      | succ j => exact g j u e hu he
    · rcases List.mem_cons.mp he with rfl | he
      · exact kd
      · exact k e he
abbrev GD := Str × Int
inductive cI  (H : Hp) (v : V) (d : GD) : Prop
  | mk (a ta : Addr) (h0 : v = .ref a) (h1 : H a = some (.tup [.str d.1, .int d.2, .ref ta]))
theorem cI.mono {H H' : Hp} (s : Tk H H') (v : V) (d : GD) (h : cI H v d) : cI H' v d := by
  obtain ⟨a, ta, e, ha⟩ := h
  exact ⟨a, ta, e, s _ _ ha⟩
theorem jH {ps : List Str} {H : Hp} {ss : List V} (h : ∀ v ∈ ss, cY ps H v) : ∃ sg, Lz cI H ss sg ∧ ∀ d ∈ sg, d.1 ∈ ps ∧ bo d.2 :=
  nU fun v hv => by
    obtain ⟨a, z, i, ta, ws, e, ha, hz, hi, _⟩ := h v hv
    exact ⟨(z, i), ⟨a, ta, e, ha⟩, hz, hi⟩
def dR (sd : List SD) (d : GD) : Bool := gD d.2 (floorOf d.1 sd)
def fX (sg : List GD) (sd : List SD) (n : Nat) : List V := ((List.range n).filter (jd sg (dR sd))).map fun i => V.int (i : Nat)
theorem qK (sg : List GD) (sd : List SD) (n : Nat) : (fX sg sd n).length ≤ n := by
  unfold fX
  rw [List.length_map]
  have := List.length_filter_le (jd sg (dR sd)) (List.range n)
  rw [List.length_range] at this
  exact this
inductive zN (C : Addr) (vs : List V) (H : Hp) (Q : VK) : Prop
  | mk (x p s t y : Addr) (ps : List Str) (ss ts ys : List V) (sg : List GD) (sd : List SD) (e : vs = [.ref x]) (bk : Bk C H x p s t y ps ss ts ys) (pl : ps.length ≤ 24) (sl : ss.length ≤ 24) (gs : Lz cI H ss sg) (gp : ∀ d ∈ sg, d.1 ∈ ps) (sy : Sys H ys sd) (l : ys.length ≤ 60)
      (k : ∀ l H', au H H' → H l = none → H' l = some (.lst (fX sg sd sg.length)) → Q (.ref l) H')
def nq (C : Addr) : Sp := fun vs H Q _ => zN C vs H Q
section
variable {P : Program} {w : World} {K : PySem.W.Frag} {mg : Str → Option Value} {base : Heap} {kw C : Addr}
theorem oF : aB ["self"] ["self"] (aa eh) := {}
theorem pD {f : Addr} {fd : FuncData} (F : lZ K "sights" "Book.sights" eh f fd) (me : Meth K C "sights" f) (bi : Binds K fd ["self"] []) (T : Txt K mg kw C) : Md P w K mg base 1 C "sights" (cn C (fun _ s _ _ => s)) := by
  refine J.i3 F me bi T.cl oF (fun vs H Q E h => ?_) (fun X H vs Q E hh h => ?_)
  · obtain ⟨x, p, s, t, y, xs, rfl, _⟩ := h
    rfl
  · obtain ⟨x, p, s, t, y, xs, rfl, ⟨dx, hx⟩, hl, k⟩ := h
    have S0 := hh.sl 0 "self"
    have B_list := hh.b T.b_list
    obtain rfl := hh.fK
    refine ⟨_, (J.ak (J.aE (J.ir B_list J.aV L2.cE (J.ai (J.fld (J.rd S0)) J.ae)))), ?_⟩
    exact ⟨_, rfl, x, C, dx, _, _, rfl, hx, T.cl, T.nS, BY _ _ _ _, _, _, rfl, .inl (aJ.of hl), k⟩
theorem lh : aB ["book", "floors"] ["book"] (aa bM) := {}
theorem lF {f : Addr} {fd : FuncData} (D : Df K mg "open_sights" bM ["book"] f fd) (T : Txt K mg kw C) (G_sights : Md P w K mg base 1 C "sights" (cn C fun _ s _ _ => s)) (G_floors_of_all : Gd P w K mg base 3 "floors_of_all" (iS C)) (G_is_above : Gd P w K mg base 1 "is_above" j0) : Gd P w K mg base 4 "open_sights" (nq C) := by
  refine J.aP D lh (fun vs H Q E h => ?_) (fun X H vs Q E hh h => ?_)
  · obtain ⟨x, p, s, t, y, ps, ss, ts, ys, sg, sd, rfl, _⟩ := h
    rfl
  · obtain ⟨x, p, s, t, y, ps, ss, ts, ys, sg, sd, rfl, bk, pl, sl, gs, gp, sy, l60, k⟩ := h
    have S0 := hh.sl 0 "book"
    have S1 := hh.sl 1 "floors"
    have B_enumerate := hh.b T.b_enumerate
    have C_floors_of_all := hh.c G_floors_of_all
    have CI_is_above := hh.ci G_is_above
    have M_sights := hh.met G_sights (by decide)
    have hu := gA hh.room
    have hsz : sizeLine = 16777216 := sizeLine_eq
    refine ⟨_, (J.ah (J.set S1 hh.nd (J.cF C_floors_of_all (J.ai (J.rd S0) J.ae)))
 (J.ak (J.aE (J.Bp (sc := L2.aa bM) (N := ["book", "floors"]) (is := [1]) (xs := ["i", "sight"]) (ns := ["floors"]) hh.calm (J.jZ B_enumerate (J.ai (J.nZ M_sights (J.rd S0) rfl) J.ae)) {} (fun _ _ _ _ _ => (J.xh (n := 2) hh.calm (J.bO (J.vb (i := 0) (by decide +kernel) rfl rfl) (J.bO (J.vb (i := 1) (by decide +kernel) rfl rfl) J.cD)))) (fun _ _ _ _ _ => (J.fj (J.bB (J.cF (CI_is_above.lg rfl) (J.ai (J.aw J.dr (J.jG (i := 1) rfl rfl (by decide) (by decide)) J.ag J.az) (J.ai (J.sL hu (J.rM (i := 2) rfl rfl (by decide) (by decide)) (J.aw J.dr (J.jG (i := 1) rfl rfl (by decide) (by decide)) J.ag J.az) J.qB) J.ae)))))) (fun _ _ _ _ _ => (J.jG (i := 0) rfl rfl (by decide) (by decide))) hh.hsc hh.hN)))), ?_⟩
    refine ⟨_, rfl, x, p, s, t, y, ps, ss, ts, ys, sd, rfl, bk, pl, sy, l60, fun d H1 s1 dn fl => ?_⟩
    obtain ⟨⟨dx, hx⟩, hp, hs, ht, hy⟩ := bk.mono s1
    refine ⟨_, rfl, x, dx, _, rfl, hx, gb _ _ _ _ (by decide +kernel) (by decide +kernel) (by decide +kernel) (by decide +kernel), x, p, s, t, y, ss, rfl, ⟨dx, hx⟩, hs, fun l hl => ?_⟩
    have s2 := au.upd (o := .lst ss) hl
    refine ⟨l, rfl, ⟨_, aJ.of af⟩, v5 (xs := ss) (jd sg (dR sd)) (fun i => V.int (i : Nat)) (aJ.of af) (by omega) ?_ ?_⟩
    · intro i os v q H2 K1 K2 hv hos s3 hq k1 k2
      match os, hos with
      | [o1, o2], _ =>
        obtain ⟨g, hg, a, ta, rfl, ha⟩ := gs.at hv
        rw [jq hg] at k1 k2
        have s4 := au.upd (o := .tup [.int i, .ref a]) hq
        have s14 := (s2.trans s3).trans s4
        have ha4 := s14 _ _ (s1 _ _ ha)
        obtain ⟨kvs, hd4, hk⟩ := fl.mono s14
        have dg : eB (upd H2 q (.tup [.int i, .ref a])) d (.str g.1) (some (oV (floorOf g.1 sd))) := by
          rw [← hk g.1 (gp g (List.mem_of_getElem? hg))]
          exact eB.k (k := Sum.inr g.1) hd4
        refine ⟨q, _, rfl, aL.of af, rfl, _, _, rfl, _, _, rfl, rfl, ⟨[_, _], rfl, rfl⟩, ?_⟩
        refine ⟨_, rfl, a, _, _, _, rfl, rfl, aL.of ha4, rfl, _, rfl, _, rfl, a, _, _, _, rfl, rfl, aL.of ha4, rfl, d, _, rfl, dg, g.2, floorOf g.1 sd, rfl, _, rfl, cH (fun hb => ⟨_, rfl, k1 hb _ s4⟩) (fun hb => k2 (eq_false_of_ne_true hb) _ s4)⟩
    · intro D' H' hD' s' hd'
      have e : ((List.range ss.length).filter (jd sg (dR sd))).map (fun i => V.int (i : Nat)) = fX sg sd sg.length := by
        rw [gs.1]
        rfl
      rw [e] at hd'
      exact k D' H' ((s1.trans s2).trans s') ((s1.trans s2).free hD') hd'
end
def gX (z : Str) : SD → Bool
  | .sil q _ _ => decide (q = z)
  | _ => false
def jF (h : Int) : SD → Bool
  | .sil _ b e => if b ≤ h then decide (h ≤ e) else false
  | _ => false
def qO (z : Str) (h : Int) (d : SD) : Bool := gX z d && jF h d
def t6 (he te : Str) : SD → Bool
  | .bar p q => decide (p = he) && decide (q = te)
  | _ => false
theorem oM {α β : Type} {f : α → Bool} {g : β → Bool} : ∀ {xs : List α} {ds : List β}, xs.length = ds.length → (∀ (i : Nat) v d, xs[i]? = some v → ds[i]? = some d → f v = g d) → xs.any f = ds.any g
  | [], [], _, _ => rfl
  | [], _ :: _, h, _ => by cases h
  | _ :: _, [], h, _ => by cases h
  | x :: xs, d :: ds, h, k => by
    rw [List.any_cons, List.any_cons, k 0 x d rfl rfl, oM (Nat.succ.inj h) fun i v e hv he => k (i + 1) v e hv he]
theorem j9 {α β : Type} : ∀ {xs : List α} {ds : List β} {i : Nat} {p : α × β}, (xs.zip ds)[i]? = some p → xs[i]? = some p.1 ∧ ds[i]? = some p.2
  | [], _, _, _, h => by cases h
  | _ :: _, [], _, _, h => by cases h
  | x :: xs, d :: ds, i, p, h => by
    cases i with
    | zero =>
      cases h
      exact ⟨rfl, rfl⟩
    | succ j =>
      have h' : (xs.zip ds)[j]? = some p := h
      exact j9 (xs := xs) (ds := ds) (i := j) h'
theorem hE {α β : Type} : ∀ {xs : List α} {ds : List β} {i : Nat} {v : α} {d : β}, xs[i]? = some v → ds[i]? = some d → (xs.zip ds)[i]? = some (v, d)
  | [], _, _, _, _, h, _ => by cases h
  | _ :: _, [], _, _, _, _, h => by cases h
  | x :: xs, e :: ds, i, v, d, h, h' => by
    cases i with
    | zero =>
      cases h
      cases h'
      rfl
    | succ j => exact hE (xs := xs) (ds := ds) (i := j) h h'
theorem rS {α β : Type} (f : β → Bool) : ∀ {xs : List α} {ds : List β}, xs.length = ds.length → ((xs.zip ds).any fun p => f p.2) = ds.any f
  | [], [], _ => rfl
  | [], _ :: _, h => by cases h
  | _ :: _, [], h => by cases h
  | x :: xs, d :: ds, h => by
    show (f d || (xs.zip ds).any fun p => f p.2) = (f d || ds.any f)
    rw [rS f (Nat.succ.inj h)]
inductive C4 (vs : List V) (H : Hp) (Q : VK) : Prop
  | mk (y : Addr) (ys : List V) (z : Str) (h : Int) (sd : List SD) (e : vs = [.ref y, .str z, .int h]) (hy : H y = some (.lst ys)) (sy : Sys H ys sd) (l : ys.length ≤ 60) (k : ∀ H', au H H' → Q (.bl (sd.any (qO z h))) H')
def rO : Sp := fun vs H Q _ => C4 vs H Q
inductive Dg (vs : List V) (H : Hp) (Q : VK) : Prop
  | mk (y : Addr) (ys : List V) (he te : Str) (sd : List SD) (e : vs = [.ref y, .str he, .str te]) (hy : H y = some (.lst ys)) (sy : Sys H ys sd) (k : ∀ H', au H H' → Q (.bl (sd.any (t6 he te))) H')
def rA : Sp := fun vs H Q _ => Dg vs H Q
theorem oY (d : SD) : d.tup.all bK = true := by
  cases d with
  | unh q h => cases h <;> rfl
  | _ => rfl
theorem rm (he te : Str) (d : SD) : wC d.tup [.str "barred", .str he, .str te] = t6 he te d := by
  cases d with
  | knew p h => exact Bool.and_eq_false_imp.mpr (fun h => absurd h (by
      rw [List.all_eq_true]
      intro k
      exact absurd (k 0 (List.mem_range.mpr (Nat.lt_min.mpr ⟨Nat.succ_pos _, Nat.succ_pos _⟩))) (by show ¬ (("knew" : Str) == "barred") = true; decide +kernel)))
  | unh p h => exact Bool.and_eq_false_imp.mpr (fun h => absurd h (by
      rw [List.all_eq_true]
      intro k
      exact absurd (k 0 (List.mem_range.mpr (Nat.lt_min.mpr ⟨Nat.succ_pos _, Nat.succ_pos _⟩))) (by show ¬ (("unheard" : Str) == "barred") = true; decide +kernel)))
  | sil p b e => exact Bool.and_eq_false_imp.mpr (fun h => absurd h (by
      rw [List.all_eq_true]
      intro k
      exact absurd (k 0 (List.mem_range.mpr (Nat.lt_min.mpr ⟨Nat.succ_pos _, Nat.succ_pos _⟩))) (by show ¬ (("silent" : Str) == "barred") = true; decide +kernel)))
  | bar p q =>
    show ((("barred" : Str) == "barred") && ((p == he) && ((q == te) && true)) && true) = (decide (p = he) && decide (q = te))
    rw [show (("barred" : Str) == "barred") = true from beq_self_eq_true _, Bool.true_and, Bool.and_true, Bool.and_true]
    congr 1 <;> exact beq_eq_decide _ _
theorem wO {H : Hp} {v : V} {d : SD} {xs : List V} (h : qj H v d) : AW H xs v = wC d.tup xs := by
  obtain ⟨a, rfl, ha⟩ := h
  show (match H a with | some (.tup zs) => wC zs xs | _ => false) = _
  rw [ha]
section
variable {P : Program} {w : World} {K : PySem.W.Frag} {mg : Str → Option Value} {base : Heap} {kw C : Addr}
theorem oi : aB ["sayings", "person", "hour", "own"] ["sayings", "person", "hour"] (aa cb) := {}
theorem nN {f : Addr} {fd : FuncData} (D : Df K mg "is_silent" cb ["sayings", "person", "hour"] f fd) (T : Txt K mg kw C) : Gd P w K mg base 1 "is_silent" rO := by
  refine J.aP D oi (fun vs H Q E h => ?_) (fun X H vs Q E hh h => ?_)
  · obtain ⟨y, ys, z, h, sd, rfl, _⟩ := h
    rfl
  · obtain ⟨y, ys, z, h, sd, rfl, hy, sy, l60, k⟩ := h
    have S0 := hh.sl 0 "sayings"
    have S1 := hh.sl 1 "person"
    have S2 := hh.sl 2 "hour"
    have S3 := hh.sl 3 "own"
    have B_any := hh.b T.b_any
    have hsz : sizeLine = 16777216 := sizeLine_eq
    refine ⟨_, (J.ah (J.kA (sc := L2.aa cb) (N := ["sayings", "person", "hour", "own"]) (is := [1]) (xs := ["saying"]) (ns := ["person"]) S3 hh.nd hh.calm (J.bh (J.rd S0)) {} (fun _ _ _ _ _ => (J.vb (i := 0) (by decide +kernel) rfl rfl)) (fun _ _ _ _ _ => (J.fj (J.dN (J.di (J.aI J.bN (J.aw J.dr (J.jG (i := 0) rfl rfl (by decide) (by decide)) J.ag J.az) J.ba (L2.aH _)) (J.dv (J.aI J.bN (J.aw J.dr (J.jG (i := 0) rfl rfl (by decide) (by decide)) J.ag J.az) (J.rM (i := 1) rfl rfl (by decide) (by decide)) (L2.aH _))))))) (fun _ _ _ _ _ => (J.jG (i := 0) rfl rfl (by decide) (by decide))) hh.hsc hh.hN (by decide +kernel))
 (J.ak (J.aE (J.blt B_any (J.jD hh.calm) L2.zT (J.ai (J.Bp (sc := L2.aa cb) (N := ["sayings", "person", "hour", "own"]) (is := [2]) (xs := ["saying"]) (ns := ["hour"]) hh.calm (J.bh (J.rd S3)) {} (fun _ _ _ _ _ => (J.vb (i := 0) (by decide +kernel) rfl rfl)) (fun _ _ _ _ _ => J.gq) (fun _ _ _ _ _ => (J.gB J.eY J.eY (J.aw J.dr (J.jG (i := 0) rfl rfl (by decide) (by decide)) J.ag J.az) (J.rM (i := 1) rfl rfl (by decide) (by decide)) (J.aw J.dr (J.jG (i := 0) rfl rfl (by decide) (by decide)) J.ag J.az) L2.kF)) hh.hsc hh.hN) J.ae))))), ?_⟩
    have zl : (ys.zip sd).length = ys.length := by
      rw [List.length_zip, ← sy.1, Nat.min_self]
    refine ⟨_, rfl, y, rfl, ⟨_, aJ.of hy⟩, iD (xs := ys) (jd (ys.zip sd) fun p => gX z p.2) (wL (ys.zip sd) fun p => p.1) (aJ.of hy) (by omega) ?_ ?_⟩
    · intro i os v H2 K1 K2 hv hos s2 k1 k2
      match os, hos with
      | [o], _ =>
        obtain ⟨d, a, hd, rfl, ha⟩ := sy.at hv
        have ha2 := s2 _ _ ha
        rw [jq (hE hv hd)] at k1 k2
        rw [mX (hE hv hd)] at k1
        refine ⟨⟨[some (.ref a)], rfl, rfl⟩, ?_⟩
        cases d with
        | knew q h => exact ⟨_, rfl, a, _, _, _, rfl, rfl, aL.of ha2, rfl, rfl, _, rfl, bT (by decide +kernel) (bY (k2 rfl H2 (au.refl _)))⟩
        | unh q h => exact ⟨_, rfl, a, _, _, _, rfl, rfl, aL.of ha2, rfl, rfl, _, rfl, bT (by decide +kernel) (bY (k2 rfl H2 (au.refl _)))⟩
        | bar q q' => exact ⟨_, rfl, a, _, _, _, rfl, rfl, aL.of ha2, rfl, rfl, _, rfl, bT (by decide +kernel) (bY (k2 rfl H2 (au.refl _)))⟩
        | sil q b e =>
          refine ⟨_, rfl, a, _, _, _, rfl, rfl, aL.of ha2, rfl, rfl, _, rfl, cB (by decide +kernel) ⟨_, rfl, a, _, _, _, rfl, rfl, aL.of ha2, rfl, _, rfl, rfl, _, rfl, cH (fun hq => ?_) (fun hq => ?_)⟩⟩
          · have hq' : q = z := V.str.inj (of_decide_eq_true hq)
            exact ⟨_, rfl, k1 (decide_eq_true hq') H2 (au.refl _)⟩
          · exact k2 (decide_eq_false fun e => hq (decide_eq_true (congrArg V.str e))) H2 (au.refl _)
    · intro o H' ho s' hd'
      rw [← zl, gz (fun p => gX z p.2) (fun p => p.1) (ys.zip sd)] at hd'
      have om : ∀ p ∈ (ys.zip sd).filter fun p => gX z p.2, qj H p.1 p.2 ∧ gX z p.2 = true := fun p hp => by
        obtain ⟨hp1, hp2⟩ := List.mem_filter.mp hp
        obtain ⟨i, hi⟩ := List.getElem?_of_mem hp1
        obtain ⟨h1, h2⟩ := j9 hi
        exact ⟨sy.2 i _ _ h1 h2, hp2⟩
      have ol : ((ys.zip sd).filter fun p => gX z p.2).length ≤ 60 := by
        have := List.length_filter_le (fun p : V × SD => gX z p.2) (ys.zip sd)
        omega
      have ev : (((ys.zip sd).filter fun p => gX z p.2).any fun p => jF h p.2) = sd.any (qO z h) := by
        rw [List.any_filter]
        exact rS (fun d => gX z d && jF h d) sy.1
      generalize (ys.zip sd).filter (fun p => gX z p.2) = l at hd' om ol ev
      refine ⟨_, rfl, o, rfl, ⟨_, aJ.of hd'⟩, iD (xs := l.map fun p => p.1) (jd l fun _ => true) (wL l fun p => V.bl (jF h p.2)) (aJ.of hd') (by rw [List.length_map]; omega) ?_ ?_⟩
      · intro i os v H2 K1 K2 hv hos s2 k1 k2
        match os, hos with
        | [o], _ =>
          rw [List.getElem?_map] at hv
          obtain ⟨p, hp, rfl⟩ := Option.map_eq_some_iff.mp hv
          obtain ⟨⟨a, ea, ha⟩, hz⟩ := om p (List.mem_of_getElem? hp)
          have ha2 := s2 _ _ (s' _ _ ha)
          rw [jq hp] at k1
          rw [mX hp] at k1
          have kk := k1 rfl
          clear k1 k2
          refine ⟨⟨[some p.1], rfl, rfl⟩, cP (B := K2 H2) ?_⟩
          obtain ⟨v, d⟩ := p
          dsimp only at ea ha2 kk hz
          subst ea
          cases d with
          | sil q b e =>
            refine ⟨_, rfl, a, _, _, _, rfl, rfl, aL.of ha2, rfl, _, rfl, _, _, rfl, rfl, _, rfl, ?_⟩
            have k2 : K1 (V.bl (if b ≤ h then decide (h ≤ e) else false)) H2 := kk H2 (au.refl _)
            refine cH (fun hb => ?_) (fun hb => ?_)
            · rw [if_pos (of_decide_eq_true hb)] at k2
              exact ⟨_, rfl, a, _, _, _, rfl, rfl, aL.of ha2, rfl, _, _, rfl, rfl, k2⟩
            · rw [if_neg (fun e => hb (decide_eq_true e))] at k2
              exact k2
          | knew q h => exact absurd hz Bool.false_ne_true
          | unh q h => exact absurd hz Bool.false_ne_true
          | bar q q' => exact absurd hz Bool.false_ne_true
      · intro D2 H3 hD2 s3 hd3
        have e2 : ((List.range (l.map fun p => p.1).length).filter (jd l fun _ => true)).map (wL l fun p => V.bl (jF h p.2)) = (l.map fun p => jF h p.2).map V.bl := by
          rw [List.length_map, gz (fun _ => true) (fun p => V.bl (jF h p.2)) l, List.filter_eq_self.mpr (fun _ _ => rfl), List.map_map]
          rfl
        rw [e2] at hd3
        refine ⟨D2, _, rfl, aJ.of hd3, ?_⟩
        have e3 : (l.map fun p => jF h p.2).any id = sd.any (qO z h) := by
          rw [List.any_map, ← ev]
          rfl
        rw [e3]
        exact k H3 (s'.trans s3)
theorem nL : aB ["sayings", "hearer", "teller"] ["sayings", "hearer", "teller"] (aa cM) := {}
theorem nH {f : Addr} {fd : FuncData} (D : Df K mg "is_barred" cM ["sayings", "hearer", "teller"] f fd) : Gd P w K mg base 1 "is_barred" rA := by
  refine J.aP D nL (fun vs H Q E h => ?_) (fun X H vs Q E hh h => ?_)
  · obtain ⟨y, ys, he, te, sd, rfl, _⟩ := h
    rfl
  · obtain ⟨y, ys, he, te, sd, rfl, hy, sy, k⟩ := h
    have S0 := hh.sl 0 "sayings"
    have S1 := hh.sl 1 "hearer"
    have S2 := hh.sl 2 "teller"
    have hu := gA hh.room
    refine ⟨_, (J.ak (J.aE (J.bu (J.hU hu) (J.bj (J.ai J.ba (J.ai (J.rd S1) (J.ai (J.rd S2) J.ae)))) (J.rd S0) J.jL))), ?_⟩
    refine ⟨_, rfl, _, rfl, by show 3 ≤ sizeLine; decide, fun q hq => ?_⟩
    have s1 := au.upd (o := .tup [.str "barred", .str he, .str te]) hq
    have sy1 := sy.mono (Tk.of s1)
    refine ⟨_, rfl, q, y, _, ys, rfl, rfl, af, aJ.of (s1 _ _ hy), rfl, fun v hv => ?_, ?_⟩
    · obtain ⟨i, hi⟩ := List.getElem?_of_mem hv
      obtain ⟨d, a, _, e, ha⟩ := sy1.at hi
      exact ⟨a, d.tup, e, ha, oY d⟩
    · rw [oM (g := t6 he te) sy1.1 fun i v d hv hd => (wO (sy1.2 i v d hv hd)).trans (rm he te d)]
      exact k _ s1
end
abbrev QD := Int × Str × Str × Str
inductive dc  (H : Hp) (v : V) (d : QD) : Prop
  | mk (a : Addr) (h0 : v = .ref a) (h1 : H a = some (.tup [.int d.1, .str d.2.1, .str d.2.2.1, .str d.2.2.2]))
theorem dc.mono {H H' : Hp} (s : Tk H H') (v : V) (d : QD) (h : dc H v d) : dc H' v d := by
  obtain ⟨a, e, ha⟩ := h
  exact ⟨a, e, s _ _ ha⟩
def qI (ps : List Str) (d : QD) : Prop := bo d.1 ∧ d.2.1 ∈ ps ∧ d.2.2.1 ∈ ps ∧ (d.2.2.2 = "both" ∨ d.2.2.2 = "one")
theorem vt {ps : List Str} {H : Hp} {ts : List V} (h : ∀ v ∈ ts, d5 ps H v) : ∃ qd, Lz dc H ts qd ∧ ∀ d ∈ qd, qI ps d :=
  nU fun v hv => by
    obtain ⟨a, i, p, q, w, e, ha, hi, hp, hq, _, hw⟩ := h v hv
    exact ⟨(i, p, q, w), ⟨a, e, ha⟩, hi, hp, hq, hw⟩
def fR (qd : List QD) : List TD := qd.map fun d => d.2
theorem zh {H : Hp} {ts : List V} {qd : List QD} (h : Lz dc H ts qd) : BJ H ts (fR qd) := by
  refine ⟨by rw [h.1]; exact (List.length_map ..).symm, fun i v d hv hd => ?_⟩
  unfold fR at hd
  rw [List.getElem?_map] at hd
  obtain ⟨q, hq, rfl⟩ := Option.map_eq_some_iff.mp hd
  obtain ⟨a, e, ha⟩ := h.2 i v q hv hq
  exact ⟨a, q.1, e, ha⟩
def dQ (qd : List QD) (k : Nat) : Int := match qd[k]? with
  | some d => d.1
  | none => 0
theorem gN {qd : List QD} {k : Nat} {d : QD} (h : qd[k]? = some d) : dQ qd k = d.1 := by
  unfold dQ
  rw [h]
abbrev TK := Nat × Str × Str
def cj (qd : List QD) (sd : List SD) (t : TK) : Bool := gD (dQ qd t.1) (floorOf t.2.2 sd) && !(sd.any (qO t.2.1 (dQ qd t.1)) || sd.any (t6 t.2.2 t.2.1))
theorem m9 {t : TK} : ∀ {l : List TD} {k : Nat}, t ∈ fc k l → ∃ (j : Nat) (d : TD), l[j]? = some d ∧ t.1 = k + j ∧ (t.2 = (d.1, d.2.1) ∨ t.2 = (d.2.1, d.1))
  | [], _, h => by cases h
  | d :: r, k, h => by
    have h' : t ∈ cK k d ++ fc (k + 1) r := h
    rcases List.mem_append.mp h' with h | h
    · refine ⟨0, d, rfl, ?_⟩
      unfold cK at h
      split at h
      · rcases List.mem_cons.mp h with rfl | h
        · exact ⟨rfl, .inl rfl⟩
        · rw [List.mem_singleton] at h
          subst h
          exact ⟨rfl, .inr rfl⟩
      · rw [List.mem_singleton] at h
        subst h
        exact ⟨rfl, .inl rfl⟩
    · obtain ⟨j, e, he, h1, h2⟩ := m9 h
      exact ⟨j + 1, e, he, by omega, h2⟩
theorem B5 {ps : List Str} {qd : List QD} (ok : ∀ d ∈ qd, qI ps d) {t : TK} (h : t ∈ fc 0 (fR qd)) : ∃ q, qd[t.1]? = some q ∧ t.2.2 ∈ ps := by
  obtain ⟨j, d, hd, e1, e2⟩ := m9 h
  unfold fR at hd
  rw [List.getElem?_map] at hd
  obtain ⟨q, hq, rfl⟩ := Option.map_eq_some_iff.mp hd
  rw [Nat.zero_add] at e1
  have := ok q (List.mem_of_getElem? hq)
  refine ⟨q, by rw [e1]; exact hq, ?_⟩
  rcases e2 with e2 | e2
  · rw [e2]
    exact this.2.2.1
  · rw [e2]
    exact this.2.1
theorem xK {ta tb : TE} {σ : St} {H : Hp} {Q : VK} (b1 b2 : Bool) (h1 : ∀ Q' : VK, (∀ H', au H H' → Q' (.bl b1) H') → ta σ H Q') (h2 : ∀ H1 (Q' : VK), au H H1 → (∀ H', au H1 H' → Q' (.bl b2) H') → tb σ H1 Q') (q : ∀ H', au H H' → Q (.bl (b1 || b2)) H') : xR ta tb σ H Q := by
  refine h1 _ fun H1 s1 => ⟨_, rfl, ?_⟩
  cases b1 with
  | true => exact cP (q H1 s1)
  | false => exact bY (h2 H1 _ s1 fun H' s' => q H' (s1.trans s'))
theorem Al {ta tb : TE} {i j : Nat} {v : V} {u : TS} {D : Ends} {σ : St} {H : Hp} (b1 b2 : Bool) (h1 : ∀ Q' : VK, (∀ H', au H H' → Q' (.bl b1) H') → ta (σ.set i (some v)) H Q') (h2 : ∀ H1 (Q' : VK), au H H1 → (∀ H', au H1 H' → Q' (.bl b2) H') → tb (σ.set i (some v)) H1 Q')
    (q : ∀ H', au H H' → u D ((σ.set i (some v)).set j (some (.bl (b1 || b2)))) H') : dZ i v σ H (uz (oy (xR ta tb) (dZ j)) u D) := xK (ta := ta) (tb := tb) b1 b2 h1 h2 q
inductive An (C : Addr) (vs : List V) (H : Hp) (Q : VK) : Prop
  | mk (x p s t y : Addr) (ps : List Str) (ss ts ys : List V) (qd : List QD) (sd : List SD) (e : vs = [.ref x]) (bk : Bk C H x p s t y ps ss ts ys) (pl : ps.length ≤ 24) (tl : ts.length ≤ 120) (qs : Lz dc H ts qd) (qk : ∀ d ∈ qd, qI ps d) (sy : Sys H ys sd) (l : ys.length ≤ 60)
      (k : ∀ l us H', au H H' → H l = none → H' l = some (.lst us) → eF H' us ((fc 0 (fR qd)).filter (cj qd sd)) → Q (.ref l) H')
inductive AQ (x tb yb d fo : Addr) (H5 : Hp) (tl : List TK) (op : TK → Bool) (i : Nat) (σ : St) (H6 : Hp) : Prop
  | mk (us : List V) (e1 e2 e3 e4 e5 : Option V) (e : σ = [some (.ref x), some (.ref tb), some (.ref yb), some (.ref d), some (.ref fo), e1, e2, e3, e4, e5]) (kp : ∀ b o, H5 b = some o → b ≠ fo → H6 b = some o) (hf : H6 fo = some (.lst us)) (ul : us.length ≤ i) (tu : eF H6 us ((tl.take i).filter op))
def n8 (C : Addr) : Sp := fun vs H Q _ => An C vs H Q
section
variable {P : Program} {w : World} {K : PySem.W.Frag} {mg : Str → Option Value} {base : Heap} {kw C : Addr}
theorem qG : aB ["self"] ["self"] (aa eP) := {}
theorem qu {f : Addr} {fd : FuncData} (F : lZ K "talks" "Book.talks" eP f fd) (me : Meth K C "talks" f) (bi : Binds K fd ["self"] []) (T : Txt K mg kw C) : Md P w K mg base 1 C "talks" (cn C (fun _ _ t _ => t)) := by
  refine J.i3 F me bi T.cl qG (fun vs H Q E h => ?_) (fun X H vs Q E hh h => ?_)
  · obtain ⟨x, p, s, t, y, xs, rfl, _⟩ := h
    rfl
  · obtain ⟨x, p, s, t, y, xs, rfl, ⟨dx, hx⟩, hl, k⟩ := h
    have S0 := hh.sl 0 "self"
    have B_list := hh.b T.b_list
    obtain rfl := hh.fK
    refine ⟨_, (J.ak (J.aE (J.ir B_list J.aV L2.cE (J.ai (J.fld (J.rd S0)) J.ae)))), ?_⟩
    exact ⟨_, rfl, x, C, dx, _, _, rfl, hx, T.cl, T.nT, yR _ _ _ _, _, _, rfl, .inl (aJ.of hl), k⟩
theorem jg : aB ["book", "talks", "sayings", "floors", "found", "k", "teller", "hearer", "hour", "hushed"] ["book"] (aa bI) := {}
theorem jC {f : Addr} {fd : FuncData} (D : Df K mg "open_tellings" bI ["book"] f fd) (T : Txt K mg kw C) (G_talks : Md P w K mg base 1 C "talks" (cn C fun _ _ t _ => t)) (G_sayings : Md P w K mg base 1 C "sayings" (cn C fun _ _ _ y => y)) (G_tellings : Md P w K mg base 1 C "tellings" (hB C))
    (G_floors_of_all : Gd P w K mg base 3 "floors_of_all" (iS C)) (G_is_above : Gd P w K mg base 1 "is_above" j0) (G_is_silent : Gd P w K mg base 1 "is_silent" rO) (G_is_barred : Gd P w K mg base 1 "is_barred" rA) : Gd P w K mg base 4 "open_tellings" (n8 C) := by
  refine J.aP D jg (fun vs H Q E h => ?_) (fun X H vs Q E hh h => ?_)
  · obtain ⟨x, p, s, t, y, ps, ss, ts, ys, qd, sd, rfl, _⟩ := h
    rfl
  · obtain ⟨x, p, s, t, y, ps, ss, ts, ys, qd, sd, rfl, bk, pl, tl, qs, qk, sy, l60, k⟩ := h
    have S0 := hh.sl 0 "book"
    have S1 := hh.sl 1 "talks"
    have S2 := hh.sl 2 "sayings"
    have S3 := hh.sl 3 "floors"
    have S4 := hh.sl 4 "found"
    have S5 := hh.sl 5 "k"
    have S6 := hh.sl 6 "teller"
    have S7 := hh.sl 7 "hearer"
    have S8 := hh.sl 8 "hour"
    have S9 := hh.sl 9 "hushed"
    have C_floors_of_all := hh.c G_floors_of_all
    have C_is_above := hh.c G_is_above
    have C_is_barred := hh.c G_is_barred
    have C_is_silent := hh.c G_is_silent
    have M_sayings := hh.met G_sayings (by decide)
    have M_talks := hh.met G_talks (by decide)
    have M_tellings := hh.met G_tellings (by decide)
    have hu := gA hh.room
    have hsz : sizeLine = 16777216 := sizeLine_eq
    obtain ⟨⟨dx, hx⟩, hp, hs, ht, hy⟩ := id bk
    refine ⟨_, (J.ah (J.set S1 hh.nd (J.nZ M_talks (J.rd S0) rfl))
 (J.ah (J.set S2 hh.nd (J.nZ M_sayings (J.rd S0) rfl))
 (J.ah (J.set S3 hh.nd (J.cF C_floors_of_all (J.ai (J.rd S0) J.ae)))
 (J.ah (J.set S4 hh.nd (J.dS J.ae))
 (J.ah (J.cA hh.own hh.calm (J.bh (J.nZ M_tellings (J.rd S0) rfl)) (J.dX hh.calm (J.bO (J.fE S5 hh.nd) (J.bO (J.fE S6 hh.nd) (J.bO (J.fE S7 hh.nd) J.cD))))
 (J.ah (J.set S8 hh.nd (J.aw J.aD (J.aw J.aX (J.rd S1) (J.rd S5) J.bf) J.ag J.az))
 (J.ah (J.set S9 hh.nd (J.pf (J.cF C_is_silent (J.ai (J.rd S2) (J.ai (J.rd S6) (J.ai (J.rd S8) J.ae)))) (J.bD (J.cF C_is_barred (J.ai (J.rd S2) (J.ai (J.rd S7) (J.ai (J.rd S6) J.ae)))))))
 (J.ak (J.bp (J.dN (J.di (J.bB (J.cF C_is_above (J.ai (J.rd S8) (J.ai (J.sL hu (J.rd S3) (J.rd S7) J.bf) J.ae)))) (J.dv (J.cq (J.rT (J.rd S9))))))
 (J.ak (J.fh (J.bm PySem.F.plainAttrs_list PySem.F.slot_list_append PySem.F.type_list_append J.bR (J.rd S4) (J.ai (J.bj (J.ai (J.rd S5) (J.ai (J.rd S6) (J.ai (J.rd S7) J.ae)))) J.ae))))
 J.aM)))))
 (J.ak (J.aE (J.rd S4)))))))), ?_⟩
    refine ⟨_, rfl, x, dx, _, rfl, hx, gb _ _ _ _ (by decide +kernel) (by decide +kernel) (by decide +kernel) (by decide +kernel), x, p, s, t, y, ts, rfl, ⟨dx, hx⟩, ht, fun tb htb => ?_⟩
    have s1 := au.upd (o := .lst ts) htb
    have htb1 : upd H tb (.lst ts) tb = some (.lst ts) := af
    generalize upd H tb (.lst ts) = H1 at s1 htb1
    refine ⟨_, rfl, x, dx, _, rfl, s1 _ _ hx, gb _ _ _ _ (by decide +kernel) (by decide +kernel) (by decide +kernel) (by decide +kernel), x, p, s, t, y, ys, rfl, ⟨dx, s1 _ _ hx⟩, s1 _ _ hy, fun yb hyb => ?_⟩
    have s2 := au.upd (o := .lst ys) hyb
    have hyb2 : upd H1 yb (.lst ys) yb = some (.lst ys) := af
    generalize upd H1 yb (.lst ys) = H2 at s2 hyb2
    have s02 := s1.trans s2
    refine ⟨_, rfl, x, p, s, t, y, ps, ss, ts, ys, sd, rfl, bk.mono s02, pl, sy.mono (Tk.of s02), l60, fun d H3 s3 dn fl => ?_⟩
    have s03 := s02.trans s3
    refine ⟨by show 0 ≤ sizeLine; decide, fun fo hfo => ?_⟩
    have s4 := au.upd (o := .lst []) hfo
    have s04 := s03.trans s4
    have hfo4 : upd H3 fo (.lst []) fo = some (.lst []) := af
    have nfo : H fo = none := s03.free hfo
    have fl4 := fl.mono s4
    have htb4 := s4 _ _ (s3 _ _ (s2 _ _ htb1))
    have hyb4 := s4 _ _ (s3 _ _ hyb2)
    have fotb : tb ≠ fo := aj (s3 _ _ (s2 _ _ htb1)) hfo
    have foyb : yb ≠ fo := aj (s3 _ _ hyb2) hfo
    have fod : d ≠ fo := by
      obtain ⟨kvs, e, _⟩ := fl
      exact aj e hfo
    generalize upd H3 fo (.lst []) = H4 at s4 s04 hfo4 fl4 htb4 hyb4
    clear s1 htb1 s2 hyb2 s02 s3 fl s03 hfo s4
    refine ⟨_, rfl, x, dx, _, rfl, s04 _ _ hx, gb _ _ _ _ (by decide +kernel) (by decide +kernel) (by decide +kernel) (by decide +kernel), x, p, s, t, y, ps, ss, ts, ys, fR qd, rfl, bk.mono s04, (zh qs).mono (Tk.of s04), tl, fun m vs H5 s5 mn hm tm => ?_⟩
    have fom : m ≠ fo := (aj hfo4 mn).symm
    have ml : vs.length ≤ 240 := by
      have := i4 (fR qd) 0
      have := tm.1
      have := (zh qs).1
      omega
    refine ⟨m, rfl, ⟨_, aJ.of hm⟩, cS (K := X.K) (a := m) (xs := vs) (AQ x tb yb d fo H5 (fc 0 (fR qd)) (cj qd sd))
      ⟨[], none, none, none, none, none, rfl, fun b o e _ => e, s5 _ _ hfo4, Nat.le_refl 0, eF.nil⟩ ?_ ?_ ?_⟩
    · rintro i σ H6 hi ⟨us, e1, e2, e3, e4, e5, rfl, kp, _⟩
      exact aJ.of (kp _ _ hm fom)
    · rintro i v σ H6 hv ⟨us, e1, e2, e3, e4, e5, rfl, kp, hf6, ul, tu⟩
      have hi : i < vs.length := (List.getElem?_eq_some_iff.mp hv).1
      obtain ⟨tk, htk⟩ : ∃ tk, (fc 0 (fR qd))[i]? = some tk := ⟨_, List.getElem?_eq_getElem (by rw [← tm.1]; exact hi)⟩
      obtain ⟨a, rfl, ha⟩ := tm.2 i v tk hv htk
      obtain ⟨q, hq, hps⟩ := B5 qk (List.mem_of_getElem? htk)
      have kpT : ∀ b xs, H b = some (.tup xs) → H6 b = some (.tup xs) := fun b xs e => kp b _ (s5 _ _ (s04 _ _ e)) (aj e nfo)
      have ha6 := kp _ _ ha (lE ha (s5 _ _ hfo4) (by intro z; cases z))
      have htb6 := kp _ _ (s5 _ _ htb4) fotb
      have hyb6 := kp _ _ (s5 _ _ hyb4) foyb
      obtain ⟨kvs, hd6, hk⟩ := fl4
      have hd6 := kp _ _ (s5 _ _ hd6) fod
      obtain ⟨vq, hvq⟩ : ∃ vq, ts[tk.1]? = some vq := ⟨_, List.getElem?_eq_getElem (by rw [qs.1]; exact (List.getElem?_eq_some_iff.mp hq).1)⟩
      obtain ⟨aq, rfl, haq⟩ := qs.2 _ _ _ hvq hq
      have haq6 := kpT _ _ haq
      have sy6 : Sys H6 ys sd := sy.mono kpT
      refine ⟨a, _, rfl, aL.of ha6, rfl, _, _, rfl, _, _, rfl, _, _, rfl, rfl, ?_⟩
      refine ⟨_, rfl, _, rfl, tb, _, _, _, rfl, rfl, aJ.of htb6, bE hvq, aq, _, _, _, rfl, rfl, aL.of haq6, rfl, ?_⟩
      rw [← gN hq]
      refine Al (i := 8) (j := 9) (ta := oR rO [] E0 (iB (iW 2) (iB (iW 6) (iB (iW 8) tT)))) (tb := oR rA [] E0 (iB (iW 2) (iB (iW 7) (iB (iW 6) tT)))) (sd.any (qO tk.2.1 (dQ qd tk.1))) (sd.any (t6 tk.2.2 tk.2.1)) (fun Q' q' => ⟨_, rfl, _, rfl, _, rfl, yb, ys, tk.2.1, dQ qd tk.1, sd, rfl, hyb6, sy6, l60, q'⟩) (fun H7 Q' s7 q' => ⟨_, rfl, _, rfl, _, rfl, yb, ys, tk.2.2, tk.2.1, sd, rfl, s7 _ _ hyb6, sy6.mono (Tk.of s7), q'⟩) (fun H7 s7 => ?_)
      have dg : eB H7 d (.str tk.2.2) (some (oV (floorOf tk.2.2 sd))) := by
        rw [← hk _ hps]
        exact eB.k (k := Sum.inr tk.2.2) (s7 _ _ hd6)
      have et : (fc 0 (fR qd)).take (i + 1) = (fc 0 (fR qd)).take i ++ [tk] := by
        rw [List.take_add_one, htk]
        rfl
      have hf7 := s7 _ _ hf6
      have kp7 : ∀ b o, H5 b = some o → b ≠ fo → H7 b = some o := fun b o e n => s7 _ _ (kp b o e n)
      have tu7 := tu.mono (Tk.of s7)
      have no : cj qd sd tk = false → eF H7 us (((fc 0 (fR qd)).take (i + 1)).filter (cj qd sd)) := fun h => by
        rw [et, List.filter_append, List.filter_cons, if_neg (by rw [h]; exact Bool.false_ne_true), List.filter_nil, List.append_nil]
        exact tu7
      refine ⟨_, rfl, _, rfl, _, rfl, d, _, rfl, dg, dQ qd tk.1, floorOf tk.2.2 sd, rfl, _, rfl, cH (fun hab => ⟨_, rfl, _, rfl, cH (fun hs => ?_) (fun hs => ?_)⟩) (fun hab => bY ?_)⟩
      · have ot : cj qd sd tk = true := by
          unfold cj
          rw [hab, hs]
          rfl
        refine ⟨_, rfl, .inl ⟨rfl, _, aJ.of hf7⟩, _, rfl, _, rfl, _, rfl, by show 3 ≤ sizeLine; decide, fun t1 ht1 => ?_⟩
        have s8 := au.upd (o := .tup [.int tk.1, .str tk.2.1, .str tk.2.2]) ht1
        have t1f : t1 ≠ fo := (aj hf7 ht1).symm
        refine ⟨fo, us, .ref t1, rfl, rfl, s8 _ _ hf7, by omega, us ++ [.ref t1], _, _, _, _, _, rfl, fun b o e n => ?_, af, by rw [List.length_append]; show us.length + 1 ≤ i + 1; omega, ?_⟩
        · rw [ao n]
          exact s8 _ _ (kp7 b o e n)
        · rw [et, List.filter_append, List.filter_cons, if_pos ot, List.filter_nil]
          refine (tu7.mono ((Tk.of s8).trans (Tk.upd (s8 _ _ hf7)))).snoc ⟨t1, rfl, ?_⟩
          rw [ao t1f]
          exact af
      · refine ⟨us, _, _, _, _, _, rfl, kp7, hf7, by omega, no ?_⟩
        unfold cj
        rw [eq_false_of_ne_true hs, Bool.and_false]
      · refine ⟨us, _, _, _, _, _, rfl, kp7, hf7, by omega, no ?_⟩
        unfold cj
        rw [eq_false_of_ne_true hab, Bool.false_and]
    · rintro σ H6 ⟨us, e1, e2, e3, e4, e5, rfl, kp, hf6, ul, tu⟩
      rw [tm.1, List.take_length] at tu
      exact ⟨_, rfl, k fo us H6 (fun b o e => kp b o (s5 _ _ (s04 _ _ e)) (aj e nfo)) nfo hf6 tu⟩
end
end K21
namespace K21
open PySem L2
inductive zM  (vs : List V) (H : Hp) (Q : VK) : Prop
  | mk (c k : Int) (h0 : vs = [.int c, .int k]) (h1 : 0 ≤ k) (h2 : k ≤ 1000) (h3 : ∀ m : Int, 0 ≤ m → m < 2147483647 → Q (.int m) H)
def rp  : Sp := fun vs H Q _ => zM  vs H Q
structure j6 (hs : List Int) : Prop where
  len : hs.length = 21
  ok : ∀ h ∈ hs, bo h
  mono : ∀ (i j : Nat) (a b : Int), i ≤ j → hs[i]? = some a → hs[j]? = some b → a ≤ b
inductive vn  (vs : List V) (H : Hp) (Q : VK) : Prop
  | mk (c : Int) (h0 : vs = [.int c]) (h1 : ∀ (l : Addr) (hs : List Int) (H' : Hp), au H H' → H l = none → H' l = some (.lst (hs.map V.int)) → j6 hs → Q (.ref l) H')
def nG  : Sp := fun vs H Q _ => vn  vs H Q
def Dt (ps : List Str) : SD → Prop
  | .knew p h => p ∈ ps ∧ bo h
  | .unh p h => p ∈ ps ∧ ∀ i, h = some i → bo i
  | .sil p b e => p ∈ ps ∧ bo b ∧ bo e ∧ b ≤ e
  | .bar p q => p ∈ ps ∧ q ∈ ps
inductive yv  (vs : List V) (H : Hp) (Q : VK) : Prop
  | mk (n at_ : Int) (p q : Str) (cl : Addr) (hs : List Int) (ps : List Str) (h0 : vs = [.int n, .str p, .str q, .ref cl, .int at_]) (h1 : H cl = some (.lst (hs.map V.int))) (h2 : j6 hs) (h3 : 0 ≤ at_) (h4 : at_ ≤ 20) (h5 : p ∈ ps) (h6 : q ∈ ps) (h7 : ∀ (v : V) (d : SD) (H' : Hp), au H H' → qj H' v d → Dt ps d → Q v H')
def p0  : Sp := fun vs H Q _ => yv  vs H Q
inductive xj  (vs : List V) (H : Hp) (Q : VK) : Prop
  | mk (n k m : Int) (h0 : vs = [.int n, .int k, .int m]) (h1 : 0 ≤ n) (h2 : 0 ≤ k) (h3 : 1 ≤ m) (h4 : ∀ (t : Addr) (a f st : Int) (H' : Hp), au H H' → H' t = some (.tup [.int a, .int f, .int st]) → 0 ≤ a → a ≤ 20 → 0 ≤ f → f < m → 0 ≤ st → Q (.ref t) H')
def qX  : Sp := fun vs H Q _ => xj  vs H Q
theorem i8 {hs : List Int} (ok : j6 hs) {i : Int} (h0 : 0 ≤ i) (h1 : i ≤ 20) : ∃ h : Int, mZ (hs.map V.int) i = some (.int h) ∧ hs[i.toNat]? = some h ∧ bo h := by
  have hi : i.toNat < hs.length := by
    rw [ok.len]
    omega
  have e : ((i.toNat : Nat) : Int) = i := Int.toNat_of_nonneg h0
  have := bE (xs := hs.map V.int) (j := i.toNat) (v := V.int hs[i.toNat]) (by rw [List.getElem?_map, List.getElem?_eq_getElem hi]; rfl)
  rw [e] at this
  exact ⟨hs[i.toNat], this, List.getElem?_eq_getElem hi, ok.ok _ (List.getElem_mem hi)⟩
theorem both {G A : Prop} (g : G) (f : G → A) : A := f g
theorem bC (x : Int) {m : Int} (h : 0 < m) : 0 ≤ x % m ∧ x % m < m := ⟨Int.emod_nonneg _ (Int.ne_of_gt h), Int.emod_lt_of_pos _ h⟩
section
variable {P : Program} {w : World} {K : PySem.W.Frag} {mg : Str → Option Value} {base : Heap} {kw C : Addr}
theorem wI : aB ["_law_cell", "_law_k", "_law_some"] ["_law_cell", "_law_k"] (aa gd) := {}
theorem zV {f : Addr} {fd : FuncData} (D : Df K mg "_law_mix" gd ["_law_cell", "_law_k"] f fd) : Gd P w K mg base 1 "_law_mix" rp := by
  refine J.aP D wI (fun vs H Q E h => ?_) (fun X H vs Q E hh h => ?_)
  · obtain ⟨c, k, rfl, _⟩ := h
    rfl
  · obtain ⟨c, k, rfl, k0, k1, q⟩ := h
    have S0 := hh.sl 0 "_law_cell"
    have S1 := hh.sl 1 "_law_k"
    have S2 := hh.sl 2 "_law_some"
    refine ⟨_, (J.ah (J.set S2 hh.nd (J.aG J.cV (J.aG J.cV (J.aG J.bA (J.rd S0) J.ag) (J.aG J.eI (J.aG J.eI J.ag (J.rd S1)) (J.rd S1))) J.ag))
 (J.ak (J.aE (J.aG J.bA (J.aG J.eI (J.aG J.bA (J.aG J.eI (J.rd S2) (J.rd S2)) J.ag) (J.aG J.cV (J.rd S1) J.ag)) J.ag)))), ?_⟩
    refine ⟨_, rfl, _, _, rfl, rfl, (by show (0 : Int) < 1000000007; decide), _, rfl, _, _, rfl, rfl, .inl ⟨by decide, by decide⟩, _, rfl, _, _, rfl, rfl, .inr ⟨by omega, by omega⟩, _, _, rfl, rfl, _, _, rfl, rfl, ?_⟩
    have a := bC c (m := 1000000007) (by decide)
    have b : 0 ≤ 31 * k * k ∧ 31 * k * k ≤ 31000000 := by
      have h1 : 31 * k * k = 31 * (k * k) := Int.mul_assoc 31 k k
      have h2 : 0 ≤ k * k := Int.mul_nonneg k0 k0
      have h3 : k * k ≤ 1000 * 1000 := Int.mul_le_mul k1 k1 k0 (by decide)
      omega
    dsimp only
    have sb : 0 ≤ c % 1000000007 + 31 * k * k + 1 ∧ c % 1000000007 + 31 * k * k + 1 ≤ 1100000000 := by omega
    generalize c % 1000000007 + 31 * k * k + 1 = S at sb
    clear a b
    have r := bC (S * S % 2147483629 * (k + 7)) (m := 2147483647) (by decide)
    exact ⟨_, rfl, _, rfl, _, _, rfl, rfl, .inl ⟨by omega, by omega⟩, _, _, rfl, rfl, (by show (0 : Int) < 2147483629; decide), _, rfl, _, _, rfl, rfl, _, _, rfl, rfl, .inr ⟨by omega, by omega⟩, _, _, rfl, rfl, (by show (0 : Int) < 2147483647; decide), q _ r.1 r.2⟩
theorem qH : aB ["_law_cell", "_law_step", "_law_low"] ["_law_cell"] (aa dM) := {}
theorem va {f : Addr} {fd : FuncData} (D : Df K mg "_law_clock" dM ["_law_cell"] f fd) (T : Txt K mg kw C) : Gd P w K mg base 1 "_law_clock" nG := by
  refine J.aP D qH (fun vs H Q E h => ?_) (fun X H vs Q E hh h => ?_)
  · obtain ⟨c, rfl, _⟩ := h
    rfl
  · obtain ⟨c, rfl, q⟩ := h
    have S0 := hh.sl 0 "_law_cell"
    have S1 := hh.sl 1 "_law_step"
    have S2 := hh.sl 2 "_law_low"
    have B_range := hh.b T.b_range
    have hsz : sizeLine = 16777216 := sizeLine_eq
    have e16 : (10 : Int) ^ Int.toNat 16 = 10000000000000000 := by decide +kernel
    have e17 : (10 : Int) ^ Int.toNat 17 = 100000000000000000 := by decide +kernel
    have e18 : (10 : Int) ^ Int.toNat 18 = 1000000000000000000 := by decide +kernel
    refine ⟨_, (J.ah (J.set S1 hh.nd (J.aw J.aX (J.dS (J.ai J.ag (J.ai J.ag (J.ai J.ag (J.ai (J.aG J.eI J.ag (J.aG J.ju J.ag J.ag)) J.ae))))) (J.aG J.bA (J.rd S0) J.ag) J.kD))
 (J.ah (J.set S2 hh.nd (J.aw J.aX (J.dS (J.ai J.ag (J.ai (J.aG J.bA (J.aG J.bw (J.rd S0) J.ag) (J.aG J.ju J.ag J.ag)) (J.ai (J.aG J.lq (J.aG J.ju J.ag J.ag) (J.aG J.eI J.ag (J.rd S1))) J.ae)))) (J.aG J.bA (J.aG J.bw (J.rd S0) J.ag) J.ag) J.kD))
 (J.ak (J.aE (J.gn (sc := L2.aa dM) (N := ["_law_cell", "_law_step", "_law_low"]) (is := [1, 2]) (ns := ["_law_step", "_law_low"]) hh.calm (J.dG B_range (J.ai J.ag J.ae)) {} (fun _ _ _ _ _ => (J.aG J.cV (J.B3 (i := 1) rfl rfl (by decide) (by decide)) (J.aG J.eI (J.B3 (i := 0) rfl rfl (by decide) (by decide)) (J.AD rfl (by decide) (by decide))))) hh.hsc hh.hN))))), ?_⟩
    refine ⟨_, _, rfl, rfl, ⟨by decide, by decide, by decide⟩, _, _, rfl, rfl, .inl ⟨by decide, by decide⟩, by show 4 ≤ sizeLine; decide, fun l1 hl1 => ?_⟩
    have s1 := au.upd (o := .lst [.int 1, .int 1, .int 7, .int (4 * 10 ^ Int.toNat 16)]) hl1
    have m4 := bC c (m := 4) (by decide)
    obtain ⟨st, hst, st0⟩ : ∃ st : Int, mZ [V.int 1, .int 1, .int 7, .int (4 * 10 ^ Int.toNat 16)] (c % 4) = some (.int st) ∧ (st = 1 ∨ st = 7 ∨ st = 40000000000000000) := by
      have : c % 4 = 0 ∨ c % 4 = 1 ∨ c % 4 = 2 ∨ c % 4 = 3 := by omega
      rcases this with e | e | e | e <;> rw [e]
      · exact ⟨1, rfl, .inl rfl⟩
      · exact ⟨1, rfl, .inl rfl⟩
      · exact ⟨7, rfl, .inr (.inl rfl)⟩
      · exact ⟨_, rfl, .inr (.inr (by rw [e16]; rfl))⟩
    refine ⟨_, rfl, _, _, rfl, rfl, (by show (0 : Int) < 4; decide), l1, _, _, _, rfl, rfl, aJ.of af, hst, ?_⟩
    have m3 := bC (c / 4) (m := 3) (by decide)
    have m17 := bC (c / 4) (m := 10 ^ Int.toNat 17) (by rw [e17]; decide)
    obtain ⟨lw, hlw, lw0, lw1⟩ : ∃ lw : Int, mZ [V.int 0, .int (c / 4 % 10 ^ Int.toNat 17), .int (10 ^ Int.toNat 18 - 20 * st)] (c / 4 % 3) = some (.int lw) ∧ 0 ≤ lw ∧ lw + st * 20 ≤ 1000000000000000000 := by
      have : c / 4 % 3 = 0 ∨ c / 4 % 3 = 1 ∨ c / 4 % 3 = 2 := by omega
      rcases this with e | e | e <;> rw [e]
      · exact ⟨0, rfl, by decide, by rcases st0 with z | z | z <;> rw [z] <;> decide⟩
      · exact ⟨_, rfl, m17.1, by rw [e17] at *; rcases st0 with z | z | z <;> rw [z] <;> omega⟩
      · exact ⟨_, rfl, by rw [e18]; rcases st0 with z | z | z <;> rw [z] <;> decide, by rw [e18]; omega⟩
    refine ⟨_, rfl, _, _, rfl, rfl, ⟨by decide, by decide⟩, _, _, rfl, rfl, ⟨by decide, by decide, by decide⟩, _, _, rfl, rfl, (by show (0 : Int) < 10 ^ Int.toNat 17; rw [e17]; decide), _, _, rfl, rfl, ⟨by decide, by decide, by decide⟩, _, rfl, _, _, rfl, rfl, .inl ⟨by decide, by decide⟩, _, _, rfl, rfl, by show 3 ≤ sizeLine; decide, fun l2 hl2 => ?_⟩
    have s2 := s1.trans (au.upd (o := .lst [.int 0, .int (c / 4 % 10 ^ Int.toNat 17), .int (10 ^ Int.toNat 18 - 20 * st)]) hl2)
    refine ⟨_, rfl, _, _, rfl, rfl, ⟨by decide, by decide⟩, _, _, rfl, rfl, (by show (0 : Int) < 3; decide), l2, _, _, _, rfl, rfl, aJ.of af, hlw, ?_⟩
    refine ⟨21, rfl, by decide, by decide, v3 (lo := 0) (n := 21) (fun v => match v with | .int i => .int (lw + st * i) | _ => .non) (by omega) (fun i H2 Q' hi sm q' => ?_) (fun D' hD => ?_)⟩
    · exact ⟨_, rfl, _, rfl, _, rfl, _, _, rfl, rfl, .inr ⟨by omega, by omega⟩, _, _, rfl, rfl, q'⟩
    · have s3 := s2.trans (au.upd (o := .lst ((List.range 21).map fun (i : Nat) => V.int (lw + st * (0 + (i : Int))))) hD)
      have stp : 0 < st := by rcases st0 with z | z | z <;> rw [z] <;> decide
      refine q D' ((List.range 21).map fun (i : Nat) => lw + st * (0 + (i : Int))) _ s3 (s2.free hD) ?_ ⟨by rw [List.length_map, List.length_range], fun h hm => ?_, fun i j a b hij ha hb => ?_⟩
      · rw [af, List.map_map]
        rfl
      · obtain ⟨i, hi, rfl⟩ := List.mem_map.mp hm
        have hi' := List.mem_range.mp hi
        have h1 : st * (0 + (i : Int)) ≤ st * 20 := Int.mul_le_mul_of_nonneg_left (by omega) (by omega)
        have h2 : 0 ≤ st * (0 + (i : Int)) := Int.mul_nonneg (by omega) (by omega)
        exact ⟨by omega, by rw [e18]; omega⟩
      · rw [List.getElem?_map] at ha hb
        obtain ⟨i', hi', rfl⟩ := Option.map_eq_some_iff.mp ha
        obtain ⟨j', hj', rfl⟩ := Option.map_eq_some_iff.mp hb
        obtain ⟨h1, rfl⟩ := List.getElem?_eq_some_iff.mp hi'
        obtain ⟨h2, rfl⟩ := List.getElem?_eq_some_iff.mp hj'
        rw [List.getElem_range, List.getElem_range]
        have h3 : st * (0 + (i : Int)) ≤ st * (0 + (j : Int)) := Int.mul_le_mul_of_nonneg_left (by omega) (by omega)
        omega
theorem oK : aB ["_law_number", "_law_one", "_law_other", "_law_clock_here", "_law_at", "_law_way", "_law_late"] ["_law_number", "_law_one", "_law_other", "_law_clock_here", "_law_at"] (aa dB) := {}
theorem xg {f : Addr} {fd : FuncData} (D : Df K mg "_law_saying" dB ["_law_number", "_law_one", "_law_other", "_law_clock_here", "_law_at"] f fd) (T : Txt K mg kw C) : Gd P w K mg base 1 "_law_saying" p0 := by
  refine J.aP D oK (fun vs H Q E h => ?_) (fun X H vs Q E hh h => ?_)
  · obtain ⟨n, at_, p, q, cl, hs, ps, rfl, _⟩ := h
    rfl
  · obtain ⟨n, at_, p, q, cl, hs, ps, rfl, hc, ok, a0, a1, hp, hq, k⟩ := h
    have S0 := hh.sl 0 "_law_number"
    have S1 := hh.sl 1 "_law_one"
    have S2 := hh.sl 2 "_law_other"
    have S3 := hh.sl 3 "_law_clock_here"
    have S4 := hh.sl 4 "_law_at"
    have S5 := hh.sl 5 "_law_way"
    have S6 := hh.sl 6 "_law_late"
    have B_max := hh.b T.b_max
    have B_min := hh.b T.b_min
    refine ⟨_, (J.ah (J.set S5 hh.nd (J.aG J.bA (J.aG J.bw (J.rd S0) J.ag) J.ag))
 (J.ah (J.set S6 hh.nd (J.aw J.aX (J.rd S3) (J.blt B_min (J.eN hh.calm) L2.nK (J.ai J.ag (J.ai (J.aG J.cV (J.rd S4) (J.aG J.bA (J.aG J.bw (J.rd S0) J.ag) J.ag)) J.ae))) J.nC))
 (J.ah (J.bp (J.aI J.iU (J.rd S5) J.ag (L2.aH _))
 (J.ak (J.aE (J.bj (J.ai J.ba (J.ai (J.rd S1) (J.ai (J.rd S6) J.ae))))))
 J.aM)
 (J.ah (J.bp (J.dN (J.di (J.aI J.bN (J.rd S5) J.ag (L2.aH _)) (J.dv (J.aI J.bN (J.aG J.bA (J.aG J.bw (J.rd S0) J.ag) J.ag) J.ag (L2.aH _)))))
 (J.ak (J.aE (J.bj (J.ai J.ba (J.ai (J.rd S1) (J.ai J.fu J.ae))))))
 J.aM)
 (J.ah (J.bp (J.aI J.iU (J.rd S5) J.ag (L2.aH _))
 (J.ak (J.aE (J.bj (J.ai J.ba (J.ai (J.rd S1) (J.ai (J.aw J.aX (J.rd S3) (J.blt B_max (J.fJ hh.calm) L2.qq (J.ai J.ag (J.ai (J.aG J.lq (J.rd S4) (J.aG J.bA (J.aG J.bw (J.rd S0) J.ag) J.ag)) J.ae))) J.nC) J.ae))))))
 J.aM)
 (J.ah (J.bp (J.aI J.iU (J.rd S5) J.ag (L2.aH _))
 (J.ak (J.aE (J.bj (J.ai J.ba (J.ai (J.rd S1) (J.ai (J.aw J.aX (J.rd S3) (J.rd S4) J.bf) (J.ai (J.rd S6) J.ae)))))))
 J.aM)
 (J.ak (J.aE (J.bj (J.ai J.ba (J.ai (J.rd S1) (J.ai (J.rd S2) J.ae)))))))))))), ?_⟩
    have x8 := bC (n / 131072) (m := 8) (by decide)
    have x6 := bC (n / 131072) (m := 6) (by decide)
    obtain ⟨late, eL, iL, kL⟩ := i8 ok (i := if at_ + n / 131072 % 8 < 20 then at_ + n / 131072 % 8 else 20) (by split <;> omega) (by split <;> omega)
    obtain ⟨here, eH, iH, kH⟩ := i8 ok (i := at_) a0 a1
    obtain ⟨erl, eE, iE, kE⟩ := i8 ok (i := if at_ - n / 131072 % 6 > 0 then at_ - n / 131072 % 6 else 0) (by split <;> omega) (by split <;> omega)
    have le : here ≤ late := ok.mono _ _ _ _ (by split <;> omega) iH iL
    refine ⟨_, rfl, _, _, rfl, rfl, ⟨by decide, by decide⟩, _, _, rfl, rfl, (by show (0 : Int) < 8; decide), ?_⟩
    refine ⟨_, rfl, _, rfl, _, rfl, _, _, rfl, rfl, ⟨by decide, by decide⟩, _, _, rfl, rfl, (by show (0 : Int) < 8; decide), _, _, rfl, rfl, _, _, rfl, cl, _, _, _, rfl, rfl, aJ.of hc, eL, ?_⟩
    refine ⟨_, rfl, _, _, rfl, rfl, _, rfl, cH (fun _ => ?_) (fun _ => ?_)⟩
    · exact ⟨_, rfl, _, rfl, by show 3 ≤ sizeLine; decide, fun t ht => k _ (.knew p late) _ (au.upd ht) ⟨t, rfl, af⟩ ⟨hp, kL⟩⟩
    refine both ?_ fun other => ⟨_, rfl, rfl, _, rfl, cH (fun _ => ⟨_, rfl, _, _, rfl, rfl, ⟨by decide, by decide⟩, _, _, rfl, rfl, (by show (0 : Int) < 6; decide), rfl, _, rfl, cH (fun _ => ?_) (fun _ => other)⟩) (fun _ => bY other)⟩
    · refine ⟨_, rfl, _, _, rfl, rfl, _, rfl, cH (fun _ => ?_) (fun _ => ?_)⟩
      · exact ⟨_, rfl, _, rfl, _, rfl, _, rfl, _, _, rfl, rfl, ⟨by decide, by decide⟩, _, _, rfl, rfl, (by show (0 : Int) < 6; decide), _, _, rfl, rfl, _, _, rfl, cl, _, _, _, rfl, rfl, aJ.of hc, eE, by show 3 ≤ sizeLine; decide, fun t ht => k _ (.unh p (some erl)) _ (au.upd ht) ⟨t, rfl, af⟩ ⟨hp, fun i e => by cases e; exact kE⟩⟩
      refine ⟨_, rfl, _, _, rfl, rfl, _, rfl, cH (fun _ => ?_) (fun _ => ?_)⟩
      · exact ⟨_, rfl, _, rfl, _, rfl, cl, _, _, _, rfl, rfl, aJ.of hc, eH, _, rfl, by show 4 ≤ sizeLine; decide, fun t ht => k _ (.sil p here late) _ (au.upd ht) ⟨t, rfl, af⟩ ⟨hp, kH, kL, le⟩⟩
      · exact ⟨_, rfl, _, rfl, by show 3 ≤ sizeLine; decide, fun t ht => k _ (.bar p q) _ (au.upd ht) ⟨t, rfl, af⟩ ⟨hp, hq⟩⟩
    · exact ⟨_, rfl, by show 3 ≤ sizeLine; decide, fun t ht => k _ (.unh p none) _ (au.upd ht) ⟨t, rfl, af⟩ ⟨hp, fun i e => by cases e⟩⟩
theorem t8 : aB ["_law_number", "_law_k", "_law_many", "_law_at"] ["_law_number", "_law_k", "_law_many"] (aa eT) := {}
theorem yA {f : Addr} {fd : FuncData} (D : Df K mg "_law_spot" eT ["_law_number", "_law_k", "_law_many"] f fd) (T : Txt K mg kw C) : Gd P w K mg base 1 "_law_spot" qX := by
  refine J.aP D t8 (fun vs H Q E h => ?_) (fun X H vs Q E hh h => ?_)
  · obtain ⟨n, k, m, rfl, _⟩ := h
    rfl
  · obtain ⟨n, k, m, rfl, n0, k0, m1, q⟩ := h
    have S0 := hh.sl 0 "_law_number"
    have S1 := hh.sl 1 "_law_k"
    have S2 := hh.sl 2 "_law_many"
    have S3 := hh.sl 3 "_law_at"
    have B_max := hh.b T.b_max
    have B_min := hh.b T.b_min
    refine ⟨_, (J.ah (J.bp (J.aI J.lB (J.rd S2) J.ag (L2.aH _))
 (J.ak (J.aE (J.bj (J.ai (J.blt B_min (J.eN hh.calm) L2.nK (J.ai J.ag (J.ai (J.aG J.bw (J.aG J.cV (J.rd S1) J.ag) J.ag) J.ae))) (J.ai (J.aG J.bA (J.aG J.bw (J.rd S1) J.ag) (J.rd S2)) (J.ai J.ag J.ae))))))
 J.aM)
 (J.ah (J.set S3 hh.nd (J.blt B_min (J.eN hh.calm) L2.nK (J.ai J.ag (J.ai (J.aG J.cV (J.aG J.bw (J.rd S1) J.ag) (J.aG J.bA (J.aG J.bw (J.rd S0) J.ag) J.ag)) J.ae))))
 (J.ak (J.aE (J.bj (J.ai (J.rd S3) (J.ai (J.aG J.bA (J.aG J.bw (J.rd S0) J.ag) (J.rd S2)) (J.ai (J.aG J.cV J.ag (J.aG J.bA (J.aG J.bw (J.rd S0) J.ag) (J.blt B_max (J.fJ hh.calm) L2.qq (J.ai J.ag (J.ai (J.aG J.lq (J.rd S2) J.ag) J.ae))))) J.ae)))))))), ?_⟩
    refine ⟨_, rfl, _, _, rfl, rfl, _, rfl, cH (fun _ => ?_) (fun _ => ?_)⟩
    · have a := bC (k / 3) (m := m) (by omega)
      refine ⟨_, rfl, _, _, rfl, rfl, _, _, rfl, rfl, ⟨by decide, by decide⟩, _, _, rfl, _, rfl, _, _, rfl, rfl, ⟨by decide, by decide⟩, _, rfl, _, _, rfl, rfl, (by omega), by show 3 ≤ sizeLine; decide, fun t ht => q t _ _ _ _ (au.upd ht) af ?_ ?_ a.1 a.2 (by decide)⟩
      · split <;> omega
      · split <;> omega
    · have b := bC (n / 8) (m := 6) (by decide)
      have c := bC (n / 64) (m := m) (by omega)
      refine ⟨_, rfl, _, _, rfl, rfl, ⟨by decide, by decide⟩, _, rfl, _, _, rfl, rfl, ⟨by decide, by decide⟩, _, _, rfl, rfl, (by show (0 : Int) < 6; decide), _, _, rfl, rfl, _, _, rfl, ?_⟩
      refine ⟨_, rfl, _, rfl, _, _, rfl, rfl, ⟨by decide, by decide⟩, _, rfl, _, _, rfl, rfl, (by omega), _, rfl, _, _, rfl, rfl, ⟨by decide, by decide⟩, _, rfl, _, _, rfl, rfl, _, _, rfl, _, _, rfl, rfl, (by split <;> omega), _, _, rfl, rfl, by show 3 ≤ sizeLine; decide, fun t ht => q t _ _ _ _ (au.upd ht) af ?_ ?_ c.1 c.2 ?_⟩
      · split <;> omega
      · split <;> omega
      · have := Int.emod_nonneg (n / 1024) (b := if m - 1 > 1 then m - 1 else 1) (by split <;> omega)
        omega
end
def yQ (z : Str) (h : Int) : SD → Bool
  | .unh q none => decide (q = z)
  | .unh q (some i) => decide (q = z) && decide (h ≤ i)
  | _ => false
def Cn (h : Int) : Option Int → Bool
  | none => false
  | some i => decide (i < h)
theorem mJ (h : Int) : ∀ (us : List (Option Int)) (acc : Int), gD h (AM acc us) = (decide (acc < h) && us.all (Cn h))
  | [], acc => by
    show decide (acc < h) = (decide (acc < h) && true)
    rw [Bool.and_true]
  | none :: r, acc => by
    show false = (decide (acc < h) && (false && r.all (Cn h)))
    rw [Bool.false_and, Bool.and_false]
  | some i :: r, acc => by
    show gD h (AM (if i > acc then i else acc) r) = (decide (acc < h) && (decide (i < h) && r.all (Cn h)))
    rw [mJ h r, ← Bool.and_assoc]
    congr 1
    rw [Bool.eq_iff_iff, Bool.and_eq_true, decide_eq_true_iff, decide_eq_true_iff, decide_eq_true_iff]
    split <;> omega
theorem pP (z : Str) (h : Int) : ∀ sd : List SD, (jQ z sd).all (Cn h) = !(sd.any (yQ z h))
  | [] => rfl
  | d :: r => by
    have ih := pP z h r
    rw [List.any_cons, Bool.not_or, ← ih]
    cases d with
    | unh q o =>
      by_cases e : q = z
      · subst e
        rw [o4, List.all_cons]
        congr 1
        cases o with
        | none =>
          show false = !(decide (q = q))
          rw [decide_eq_true rfl]
          rfl
        | some i =>
          show decide (i < h) = !(decide (q = q) && decide (h ≤ i))
          rw [decide_eq_true rfl, Bool.true_and]
          by_cases c : i < h
          · rw [decide_eq_true c, decide_eq_false (by omega)]
            rfl
          · rw [decide_eq_false c, decide_eq_true (by omega)]
            rfl
      · rw [fi (show pN z (.unh q o) = false from decide_eq_false e)]
        have : yQ z h (.unh q o) = false := by
          cases o with
          | none => exact decide_eq_false e
          | some i =>
            show (decide (q = z) && decide (h ≤ i)) = false
            rw [decide_eq_false e, Bool.false_and]
        rw [this]
        rfl
    | knew q i =>
      rw [fi rfl]
      rfl
    | sil q b e =>
      rw [fi rfl]
      rfl
    | bar q q' =>
      rw [fi rfl]
      rfl
theorem wY {z : Str} {h : Int} {sd : List SD} (h0 : 0 ≤ h) : gD h (floorOf z sd) = !(sd.any (yQ z h)) := by
  unfold floorOf
  rw [mJ, pP, decide_eq_true (show (-1 : Int) < h by omega), Bool.true_and]
inductive xn  (vs : List V) (H : Hp) (Q : VK) : Prop
  | mk (y : Addr) (ys : List V) (z : Str) (h : Int) (sd : List SD) (h0 : vs = [.ref y, .str z, .int h]) (h1 : H y = some (.lst ys)) (h2 : Sys H ys sd) (h3 : 0 ≤ h) (h4 : ∀ H', au H H' → Q (.bl (gD h (floorOf z sd))) H')
def m6  : Sp := fun vs H Q _ => xn  vs H Q
inductive xM  (vs : List V) (H : Hp) (Q : VK) : Prop
  | mk (t : Addr) (ts : List V) (qd : List QD) (h0 : vs = [.ref t]) (h1 : H t = some (.lst ts)) (h2 : Lz dc H ts qd) (h3 : ts.length ≤ 120) (h4 : ∀ (l : Addr) (us : List V) (H' : Hp), au H H' → H l = none → H' l = some (.lst us) → eF H' us (fc 0 (fR qd)) → Q (.ref l) H')
def p6  : Sp := fun vs H Q _ => xM  vs H Q
inductive tF  (vs : List V) (H : Hp) (Q : VK) : Prop
  | mk (t y : Addr) (ts ys : List V) (v : V) (tk : TK) (qd : List QD) (sd : List SD) (q : QD) (h0 : vs = [.ref t, .ref y, v]) (h1 : H t = some (.lst ts)) (h2 : H y = some (.lst ys)) (h3 : Lz dc H ts qd) (h4 : Sys H ys sd) (h5 : kU H v tk) (h6 : qd[tk.1]? = some q) (h7 : bo q.1) (h8 : ∀ H', au H H' → Q (.bl (cj qd sd tk)) H')
def kR  : Sp := fun vs H Q _ => tF  vs H Q
theorem pK {α : Type} {f : α → Bool} {l : List α} {i : Nat} {d : α} (h : l[i]? = some d) (h0 : (l.take i).any f = false) (h1 : f d = false) : (l.take (i + 1)).any f = false := by
  rw [List.take_add_one, h, List.any_append, h0]
  show (false || (f d || false)) = false
  rw [h1]
  rfl
theorem wx {α : Type} (f g : α → Bool) : ∀ l : List α, (l.any fun d => f d || g d) = (l.any f || l.any g)
  | [] => rfl
  | d :: r => by
    rw [List.any_cons, List.any_cons, List.any_cons, wx f g r]
    cases f d <;> cases g d <;> cases r.any f <;> cases r.any g <;> rfl
section
variable {P : Program} {w : World} {K : PySem.W.Frag} {mg : Str → Option Value} {base : Heap} {kw C : Addr}
theorem sE : aB ["_law_sayings", "_law_person", "_law_when", "_law_row"] ["_law_sayings", "_law_person", "_law_when"] (aa eR) := {}
theorem xJ {f : Addr} {fd : FuncData} (D : Df K mg "_law_free" eR ["_law_sayings", "_law_person", "_law_when"] f fd) : Gd P w K mg base 1 "_law_free" m6 := by
  refine J.aP D sE (fun vs H Q E h => ?_) (fun X H vs Q E hh h => ?_)
  · obtain ⟨y, ys, z, h, sd, rfl, _⟩ := h
    rfl
  · obtain ⟨y, ys, z, h, sd, rfl, hy, sy, h0, k⟩ := h
    have S0 := hh.sl 0 "_law_sayings"
    have S1 := hh.sl 1 "_law_person"
    have S2 := hh.sl 2 "_law_when"
    have S3 := hh.sl 3 "_law_row"
    rw [wY h0] at k
    refine ⟨_, (J.ah (J.cA hh.own hh.calm (J.bh (J.rd S0)) (J.fE S3 hh.nd)
 (J.ak (J.bp (J.dN (J.di (J.aI J.bN (J.aw J.aD (J.rd S3) J.ag J.az) J.ba (L2.aH _)) (J.di (J.aI J.bN (J.aw J.aD (J.rd S3) J.ag J.az) (J.rd S1) (L2.aH _)) (J.dv (J.dN (J.fq (J.aI J.jB (J.aw J.aD (J.rd S3) J.ag J.az) J.fu (L2.aH _)) (J.d7 (J.aI J.eY (J.rd S2) (J.aw J.aD (J.rd S3) J.ag J.az) (L2.aH _)))))))))
 (J.ak (J.aE J.dk))
 J.aM)))
 (J.ak (J.aE J.dk))), ?_⟩
    refine ⟨_, rfl, y, rfl, ⟨_, aJ.of hy⟩, cS (K := X.K) (a := y) (xs := ys) (fun i σ H2 => ∃ e : Option V, σ = [some (.ref y), some (.str z), some (.int h), e] ∧ au H H2 ∧ (sd.take i).any (yQ z h) = false)
      ⟨none, rfl, au.refl _, rfl⟩ ?_ ?_ ?_⟩
    · rintro i σ H2 hi ⟨e, rfl, s2, _⟩
      exact aJ.of (s2 _ _ hy)
    · rintro i v σ H2 hv ⟨e, rfl, s2, ha0⟩
      obtain ⟨d, a, hd, rfl, ha⟩ := sy.at hv
      have ha2 := s2 _ _ ha
      have yes : yQ z h d = true → Q (.bl false) H2 := fun hk => by
        have := k H2 s2
        rw [show sd.any (yQ z h) = true from List.any_eq_true.mpr ⟨d, List.mem_of_getElem? hd, hk⟩] at this
        exact this
      have no : yQ z h d = false → (sd.take (i + 1)).any (yQ z h) = false := pK hd ha0
      cases d with
      | knew q i' => exact ⟨_, rfl, a, _, _, _, rfl, rfl, aL.of ha2, rfl, rfl, _, rfl, bT (by decide +kernel) (bY ⟨_, rfl, s2, no rfl⟩)⟩
      | sil q b e' => exact ⟨_, rfl, a, _, _, _, rfl, rfl, aL.of ha2, rfl, rfl, _, rfl, bT (by decide +kernel) (bY ⟨_, rfl, s2, no rfl⟩)⟩
      | bar q q' => exact ⟨_, rfl, a, _, _, _, rfl, rfl, aL.of ha2, rfl, rfl, _, rfl, bT (by decide +kernel) (bY ⟨_, rfl, s2, no rfl⟩)⟩
      | unh q o =>
        refine ⟨_, rfl, a, _, _, _, rfl, rfl, aL.of ha2, rfl, rfl, _, rfl, cB (by decide +kernel) ⟨_, rfl, a, _, _, _, rfl, rfl, aL.of ha2, rfl, _, rfl, rfl, _, rfl, cH (fun hq => ?_) (fun hq => bY ?_)⟩⟩
        · have hq' : q = z := V.str.inj (of_decide_eq_true hq)
          cases o with
          | none => exact ⟨_, rfl, a, _, _, _, rfl, rfl, aL.of ha2, rfl, rfl, _, rfl, cB (decide_eq_true rfl) (cP (yes (decide_eq_true hq')))⟩
          | some j =>
            refine ⟨_, rfl, a, _, _, _, rfl, rfl, aL.of ha2, rfl, rfl, _, rfl, bT (by rw [decide_eq_true_iff]; intro e; cases e) ⟨_, rfl, _, rfl, a, _, _, _, rfl, rfl, aL.of ha2, rfl, _, _, rfl, rfl, _, rfl, cH (fun hj => yes ?_) (fun hj => ⟨_, rfl, s2, no ?_⟩)⟩⟩
            · show (decide (q = z) && decide (h ≤ j)) = true
              rw [decide_eq_true hq', hj]
              rfl
            · show (decide (q = z) && decide (h ≤ j)) = false
              rw [eq_false_of_ne_true hj, Bool.and_false]
        · refine ⟨_, rfl, s2, no ?_⟩
          have hq' : ¬ q = z := fun e => hq (decide_eq_true (congrArg V.str e))
          cases o with
          | none => exact decide_eq_false hq'
          | some j =>
            show (decide (q = z) && decide (h ≤ j)) = false
            rw [decide_eq_false hq', Bool.false_and]
    · rintro σ H2 ⟨e, rfl, s2, ha0⟩
      rw [sy.1, List.take_length] at ha0
      have := k H2 s2
      rw [ha0] at this
      exact this
theorem lX : aB ["_law_talks", "_law_found", "_law_k"] ["_law_talks"] (aa cv) := {}
theorem xl {f : Addr} {fd : FuncData} (D : Df K mg "_law_tellings" cv ["_law_talks"] f fd) (T : Txt K mg kw C) : Gd P w K mg base 1 "_law_tellings" p6 := by
  refine J.aP D lX (fun vs H Q E h => ?_) (fun X H vs Q E hh h => ?_)
  · obtain ⟨t, ts, qd, rfl, _⟩ := h
    rfl
  · obtain ⟨t, ts, qd, rfl, ht, qs, l120, k⟩ := h
    have S0 := hh.sl 0 "_law_talks"
    have S1 := hh.sl 1 "_law_found"
    have S2 := hh.sl 2 "_law_k"
    have B_len := hh.b T.b_len
    have B_range := hh.b T.b_range
    have hsz : sizeLine = 16777216 := sizeLine_eq
    refine ⟨_, (J.ah (J.set S1 hh.nd (J.dS J.ae))
 (J.ah (J.cA hh.own hh.calm (J.dG B_range (J.ai (J.blt B_len J.aQ L2.df (J.ai (J.rd S0) J.ae)) J.ae)) (J.fE S2 hh.nd)
 (J.ah (J.fh (J.bm PySem.F.plainAttrs_list PySem.F.slot_list_append PySem.F.type_list_append J.bR (J.rd S1) (J.ai (J.bj (J.ai (J.rd S2) (J.ai (J.aw J.aD (J.aw J.aX (J.rd S0) (J.rd S2) J.bf) J.ag J.az) (J.ai (J.aw J.aD (J.aw J.aX (J.rd S0) (J.rd S2) J.bf) J.ag J.az) J.ae)))) J.ae)))
 (J.ak (J.bp (J.aI J.bN (J.aw J.aD (J.aw J.aX (J.rd S0) (J.rd S2) J.bf) J.ag J.az) J.ba (L2.aH _))
 (J.ak (J.fh (J.bm PySem.F.plainAttrs_list PySem.F.slot_list_append PySem.F.type_list_append J.bR (J.rd S1) (J.ai (J.bj (J.ai (J.rd S2) (J.ai (J.aw J.aD (J.aw J.aX (J.rd S0) (J.rd S2) J.bf) J.ag J.az) (J.ai (J.aw J.aD (J.aw J.aX (J.rd S0) (J.rd S2) J.bf) J.ag J.az) J.ae)))) J.ae))))
 J.aM))))
 (J.ak (J.aE (J.rd S1))))), ?_⟩
    refine ⟨by show 0 ≤ sizeLine; decide, fun l hl => ?_⟩
    have s1 := au.upd (o := .lst []) hl
    refine ⟨_, rfl, t, _, rfl, .inl (aJ.of (s1 _ _ ht)), (ts.length : Int), rfl, by omega, by omega, gR (lo := 0) (n := ((ts.length : Nat) : Int).toNat) (fun i σ H2 => ∃ (us : List V) (e1 : Option V), σ = [some (.ref t), some (.ref l), e1] ∧ au H H2 ∧ H2 l = some (.lst us) ∧ us.length ≤ 2 * i ∧ eF H2 us (fc 0 ((fR qd).take i)))
      ⟨[], none, rfl, s1, af, Nat.le_refl 0, eF.nil⟩ ?_ ?_⟩
    · rintro i σ H2 hi ⟨us, e1, rfl, s2, hl2, ul, tl⟩
      rw [Int.toNat_natCast] at hi
      have hv : ts[i]? = some ts[i] := List.getElem?_eq_getElem hi
      generalize ts[i] = v at hv
      obtain ⟨d, hd, a, rfl, ha⟩ := qs.at hv
      have hd' : (fR qd)[i]? = some d.2 := by
        unfold fR
        rw [List.getElem?_map, hd]
        rfl
      have ha2 := s2 _ _ ha
      have ht2 := s2 _ _ ht
      have av : mZ ts ((0 : Int) + (i : Int)) = some (.ref a) := by rw [Int.zero_add]; exact bE hv
      refine ⟨_, rfl, .inl ⟨rfl, _, aJ.of hl2⟩, _, rfl, _, rfl, _, rfl, t, _, _, _, rfl, rfl, aJ.of ht2, av, a, _, _, _, rfl, rfl, aL.of ha2, rfl, _, rfl, _, rfl, t, _, _, _, rfl, rfl, aJ.of ht2, av, a, _, _, _, rfl, rfl, aL.of ha2, rfl, by show 3 ≤ sizeLine; decide, fun t1 ht1 => ?_⟩
      rw [Int.zero_add]
      have s4 := au.upd (o := .tup [.int i, .str d.2.1, .str d.2.2.1]) ht1
      refine ⟨l, us, .ref t1, rfl, rfl, s4 _ _ hl2, by omega, ?_⟩
      have t1l : t1 ≠ l := (aj hl2 ht1).symm
      have tv5 : kU (upd (upd H2 t1 (.tup [.int i, .str d.2.1, .str d.2.2.1])) l (.lst (us ++ [.ref t1]))) (.ref t1) (i, d.2.1, d.2.2.1) := ⟨t1, rfl, by rw [ao t1l]; exact af⟩
      have tk5 := (Tk.of s4).trans (Tk.upd (s4 _ _ hl2) (ys := us ++ [.ref t1]))
      have tl5 := tl.mono tk5
      have hl5 : upd (upd H2 t1 (.tup [.int i, .str d.2.1, .str d.2.2.1])) l (.lst (us ++ [.ref t1])) l = some (.lst (us ++ [.ref t1])) := af
      have s05 : au H (upd (upd H2 t1 (.tup [.int i, .str d.2.1, .str d.2.2.1])) l (.lst (us ++ [.ref t1]))) := fun b o e => by
        rw [ao (aj e hl)]
        exact s4 _ _ (s2 _ _ e)
      generalize upd (upd H2 t1 (.tup [.int i, .str d.2.1, .str d.2.2.1])) l (.lst (us ++ [.ref t1])) = H5 at tv5 tl5 hl5 s05
      have ha5 := s05 _ _ ha
      have ht5 := s05 _ _ ht
      have av' : mZ ts (i : Int) = some (.ref a) := bE hv
      refine ⟨_, rfl, _, rfl, t, _, _, _, rfl, rfl, aJ.of ht5, av', a, _, _, _, rfl, rfl, aL.of ha5, rfl, rfl, _, rfl, cH (fun hb => ?_) (fun hb => ?_)⟩
      · have hb' : d.2.2.2 = "both" := V.str.inj (of_decide_eq_true hb)
        refine ⟨_, rfl, .inl ⟨rfl, _, aJ.of hl5⟩, _, rfl, _, rfl, _, rfl, t, _, _, _, rfl, rfl, aJ.of ht5, av', a, _, _, _, rfl, rfl, aL.of ha5, rfl, _, rfl, _, rfl, t, _, _, _, rfl, rfl, aJ.of ht5, av', a, _, _, _, rfl, rfl, aL.of ha5, rfl, by show 3 ≤ sizeLine; decide, fun t2 ht2' => ?_⟩
        have s6 := au.upd (o := .tup [.int i, .str d.2.2.1, .str d.2.1]) ht2'
        refine ⟨l, _, .ref t2, rfl, rfl, s6 _ _ hl5, by rw [List.length_append]; show us.length + 1 < _; omega, ?_⟩
        have t2l : t2 ≠ l := (aj hl5 ht2').symm
        have tk7 := (Tk.of s6).trans (Tk.upd (s6 _ _ hl5) (ys := (us ++ [.ref t1]) ++ [.ref t2]))
        refine ⟨_, _, rfl, fun b o e => ?_, af, ?_, (j5 hd' (tl5.mono tk7)).1 hb' _ _ (tv5.mono tk7) ⟨t2, rfl, ?_⟩⟩
        · rw [ao (aj e hl)]
          exact s6 _ _ (s05 _ _ e)
        · rw [List.length_append, List.length_append]
          show us.length + 1 + 1 ≤ 2 * (i + 1)
          omega
        · rw [ao t2l]
          exact af
      · have hb' : d.2.2.2 ≠ "both" := fun e => hb (decide_eq_true (congrArg V.str e))
        exact ⟨_, _, rfl, s05, hl5, by rw [List.length_append]; show us.length + 1 ≤ 2 * (i + 1); omega, (j5 hd' tl5).2 hb' _ tv5⟩
    · rintro σ H2 ⟨us, e1, rfl, s2, hl2, ul, tl⟩
      rw [Int.toNat_natCast, qs.1, show qd.length = (fR qd).length from (List.length_map ..).symm, List.take_length] at tl
      exact ⟨_, rfl, k l us H2 s2 hl hl2 tl⟩
theorem yw {i : Nat} {v : V} {tc : TT} {u t2 : TS} {D : Ends} {σ : St} {H : Hp} (b : Bool) (hc : ∀ Q : Bool → Hp → Prop, Q b H → tc (σ.set i (some v)) H Q) (h1 : b = true → u { D with nx := t2 D } (σ.set i (some v)) H) (h2 : b = false → t2 D (σ.set i (some v)) H) :
    dZ i v σ H (fun σ2 H2 => uz (uP tc u pH) t2 D σ2 H2) := by
  refine hc _ ?_
  cases b with
  | true => exact cP (h1 rfl)
  | false => exact bY (h2 rfl)
def qN (te he : Str) (h : Int) (d : SD) : Bool := qO te h d || t6 he te d
theorem nF : aB ["_law_talks", "_law_sayings", "_law_telling", "_law_k", "_law_teller", "_law_hearer", "_law_when", "_law_row"] ["_law_talks", "_law_sayings", "_law_telling"] (aa cQ) := {}
theorem ql {f : Addr} {fd : FuncData} (D : Df K mg "_law_is_open" cQ ["_law_talks", "_law_sayings", "_law_telling"] f fd) (T : Txt K mg kw C) (G__law_free : Gd P w K mg base 1 "_law_free" m6) : Gd P w K mg base 2 "_law_is_open" kR := by
  refine J.aP D nF (fun vs H Q E h => ?_) (fun X H vs Q E hh h => ?_)
  · obtain ⟨t, y, ts, ys, v, tk, qd, sd, q, rfl, _⟩ := h
    rfl
  · obtain ⟨t, y, ts, ys, v, tk, qd, sd, q, rfl, ht, hy, qs, sy, ⟨a, rfl, ha⟩, hq, hk, k⟩ := h
    have S0 := hh.sl 0 "_law_talks"
    have S1 := hh.sl 1 "_law_sayings"
    have S2 := hh.sl 2 "_law_telling"
    have S3 := hh.sl 3 "_law_k"
    have S4 := hh.sl 4 "_law_teller"
    have S5 := hh.sl 5 "_law_hearer"
    have S6 := hh.sl 6 "_law_when"
    have S7 := hh.sl 7 "_law_row"
    have C__law_free := hh.c G__law_free
    have hu := gA hh.room
    obtain ⟨vq, hvq⟩ : ∃ vq, ts[tk.1]? = some vq := ⟨_, List.getElem?_eq_getElem (by rw [qs.1]; exact (List.getElem?_eq_some_iff.mp hq).1)⟩
    obtain ⟨aq, rfl, haq⟩ := qs.2 _ _ _ hvq hq
    have ok : ∀ H', au H H' → Q (.bl (gD q.1 (floorOf tk.2.2 sd) && !(sd.any (qN tk.2.1 tk.2.2 q.1)))) H' := fun H' s' => by
      have := k H' s'
      unfold cj at this
      rw [gN hq, ← wx] at this
      exact this
    refine ⟨_, (J.ah (J.asg (J.rd S2) (J.dX hh.calm (J.bO (J.fE S3 hh.nd) (J.bO (J.fE S4 hh.nd) (J.bO (J.fE S5 hh.nd) J.cD)))))
 (J.ah (J.set S6 hh.nd (J.aw J.aD (J.aw J.aX (J.rd S0) (J.rd S3) J.bf) J.ag J.az))
 (J.ah (J.cA hh.own hh.calm (J.bh (J.rd S1)) (J.fE S7 hh.nd)
 (J.ah (J.bp (J.dN (J.di (J.aI J.bN (J.aw J.aD (J.rd S7) J.ag J.az) J.ba (L2.aH _)) (J.di (J.aI J.bN (J.aw J.aD (J.rd S7) J.ag J.az) (J.rd S4) (L2.aH _)) (J.di (J.aI J.eY (J.aw J.aD (J.rd S7) J.ag J.az) (J.rd S6) (L2.aH _)) (J.dv (J.aI J.eY (J.rd S6) (J.aw J.aD (J.rd S7) J.ag J.az) (L2.aH _)))))))
 (J.ak (J.aE J.dk))
 J.aM)
 (J.ak (J.bp (J.aI (J.oo hu) (J.rd S7) (J.bj (J.ai J.ba (J.ai (J.rd S5) (J.ai (J.rd S4) J.ae)))) (L2.aH _))
 (J.ak (J.aE J.dk))
 J.aM))))
 (J.ak (J.aE (J.cF C__law_free (J.ai (J.rd S1) (J.ai (J.rd S5) (J.ai (J.rd S6) J.ae))))))))), ?_⟩
    refine ⟨_, rfl, a, _, rfl, aL.of ha, rfl, _, _, rfl, _, _, rfl, _, _, rfl, rfl, ?_⟩
    refine ⟨_, rfl, _, rfl, t, _, _, _, rfl, rfl, aJ.of ht, bE hvq, aq, _, _, _, rfl, rfl, aL.of haq, rfl, ?_⟩
    refine ⟨_, rfl, y, rfl, ⟨_, aJ.of hy⟩, cS (K := X.K) (a := y) (xs := ys) (fun i σ H2 => ∃ e : Option V, σ = [some (.ref t), some (.ref y), some (.ref a), some (.int tk.1), some (.str tk.2.1), some (.str tk.2.2), some (.int q.1), e] ∧ au H H2 ∧ (sd.take i).any (qN tk.2.1 tk.2.2 q.1) = false)
      ⟨none, rfl, au.refl _, rfl⟩ ?_ ?_ ?_⟩
    · rintro i σ H2 hi ⟨e, rfl, s2, _⟩
      exact aJ.of (s2 _ _ hy)
    · rintro i v σ H2 hv ⟨e, rfl, s2, ha0⟩
      obtain ⟨d, b, hd, rfl, hb⟩ := sy.at hv
      have hb2 := s2 _ _ hb
      have yes : qN tk.2.1 tk.2.2 q.1 d = true → ∀ H3, au H2 H3 → Q (.bl false) H3 := fun hk H3 s3 => by
        have := ok H3 (s2.trans s3)
        rw [show sd.any (qN tk.2.1 tk.2.2 q.1) = true from List.any_eq_true.mpr ⟨d, List.mem_of_getElem? hd, hk⟩, Bool.not_true, Bool.and_false] at this
        exact this
      refine yw (qO tk.2.1 q.1 d) (fun Q' q' => ?_) (fun e => yes ?_ H2 (au.refl _)) (fun e => ?_)
      · cases d with
        | knew z i' => exact ⟨_, rfl, b, _, _, _, rfl, rfl, aL.of hb2, rfl, rfl, _, rfl, bT (by decide +kernel) q'⟩
        | unh z i' => exact ⟨_, rfl, b, _, _, _, rfl, rfl, aL.of hb2, rfl, rfl, _, rfl, bT (by decide +kernel) q'⟩
        | bar z z' => exact ⟨_, rfl, b, _, _, _, rfl, rfl, aL.of hb2, rfl, rfl, _, rfl, bT (by decide +kernel) q'⟩
        | sil z c c' =>
          have q2 : Q' (decide (z = tk.2.1) && (if c ≤ q.1 then decide (q.1 ≤ c') else false)) H2 := q'
          refine ⟨_, rfl, b, _, _, _, rfl, rfl, aL.of hb2, rfl, rfl, _, rfl, cB (by decide +kernel) ⟨_, rfl, b, _, _, _, rfl, rfl, aL.of hb2, rfl, _, rfl, rfl, _, rfl, cH (fun hz => ⟨_, rfl, b, _, _, _, rfl, rfl, aL.of hb2, rfl, _, rfl, _, _, rfl, rfl, _, rfl, cH (fun hc => ⟨_, rfl, _, rfl, b, _, _, _, rfl, rfl, aL.of hb2, rfl, _, _, rfl, rfl, _, rfl, ?_⟩) (fun hc => ?_)⟩) (fun hz => ?_)⟩⟩
          · rw [if_pos (of_decide_eq_true hc), decide_eq_true (V.str.inj (of_decide_eq_true hz)), Bool.true_and] at q2
            exact q2
          · rw [if_neg (fun e => hc (decide_eq_true e)), Bool.and_false] at q2
            exact q2
          · rw [decide_eq_false (fun e => hz (decide_eq_true (congrArg V.str e))), Bool.false_and] at q2
            exact q2
      · unfold qN
        rw [e]
        rfl
      · refine ⟨_, rfl, _, rfl, _, rfl, by show 3 ≤ sizeLine; decide, fun c2 hc2 => ?_⟩
        have s3 := au.upd (o := .tup [.str "barred", .str tk.2.2, .str tk.2.1]) hc2
        refine ⟨b, c2, _, _, rfl, rfl, s3 _ _ hb2, af, oY d, rfl, _, rfl, ?_⟩
        have ek : qN tk.2.1 tk.2.2 q.1 d = wC d.tup [.str "barred", .str tk.2.2, .str tk.2.1] := by
          unfold qN
          rw [e, Bool.false_or, rm]
        rw [← ek]
        exact cH (fun hk => yes hk _ s3) (fun hk => ⟨_, rfl, s2.trans s3, pK hd ha0 (eq_false_of_ne_true hk)⟩)
    · rintro σ H2 ⟨e, rfl, s2, ha0⟩
      rw [sy.1, List.take_length] at ha0
      refine ⟨_, rfl, _, rfl, _, rfl, y, ys, tk.2.2, q.1, sd, rfl, s2 _ _ hy, sy.mono (Tk.of s2), hk.1, fun H3 s3 => ?_⟩
      have := ok H3 (s2.trans s3)
      rw [ha0, Bool.not_false, Bool.and_true] at this
      exact this
theorem oT {H : Hp} {us : List V} {ks : List TK} (p : TK → Bool) (h : eF H us ks) : eF H (((us.zip ks).filter fun x => p x.2).map fun x => x.1) (ks.filter p) := by
  have e : ks.filter p = ((us.zip ks).filter fun x => p x.2).map (fun x => x.2) := by
    have : (us.zip ks).map Prod.snd = ks := List.map_snd_zip (by rw [h.1]; exact Nat.le_refl _)
    have e2 : ks.filter p = ((us.zip ks).map Prod.snd).filter p := by rw [this]
    rw [e2, List.filter_map]
    rfl
  rw [e]
  refine ⟨by rw [List.length_map, List.length_map], fun i u t hu ht => ?_⟩
  rw [List.getElem?_map] at hu ht
  obtain ⟨x, hx, rfl⟩ := Option.map_eq_some_iff.mp hu
  rw [hx] at ht
  cases ht
  obtain ⟨j, hj⟩ := List.getElem?_of_mem (List.mem_filter.mp (List.mem_of_getElem? hx)).1
  obtain ⟨h1, h2⟩ := j9 hj
  exact h.2 j _ _ h1 h2
inductive Ak (vs : List V) (H : Hp) (Q : VK) : Prop
  | mk (tt s t y : Addr) (ps : List Str) (ss ts ys : List V) (sg : List GD) (qd : List QD) (sd : List SD) (e : vs = [.ref tt]) (htt : H tt = some (.tup [.ref s, .ref t, .ref y])) (hs : H s = some (.lst ss)) (ht : H t = some (.lst ts)) (hy : H y = some (.lst ys)) (sl : ss.length ≤ 24) (tl : ts.length ≤ 120)
      (gs : Lz cI H ss sg) (gh : ∀ d ∈ sg, bo d.2) (qs : Lz dc H ts qd) (qk : ∀ d ∈ qd, qI ps d) (sy : Sys H ys sd)
      (k : ∀ (r nl tl : Addr) (us : List V) (H' : Hp), au H H' → H r = none → H nl = none → H tl = none → H' r = some (.tup [.ref nl, .ref tl]) → H' nl = some (.lst (fX sg sd sg.length)) → H' tl = some (.lst us) → eF H' us ((fc 0 (fR qd)).filter (cj qd sd)) → Q (.ref r) H')
def j3 : Sp := fun vs H Q _ => Ak vs H Q
theorem sW : aB ["_law_things_here", "_law_sights", "_law_talks", "_law_sayings", "_law_numbers"] ["_law_things_here"] (aa dU) := {}
theorem yx {f : Addr} {fd : FuncData} (D : Df K mg "_law_open" dU ["_law_things_here"] f fd) (T : Txt K mg kw C) (G__law_free : Gd P w K mg base 1 "_law_free" m6) (G__law_tellings : Gd P w K mg base 1 "_law_tellings" p6) (G__law_is_open : Gd P w K mg base 2 "_law_is_open" kR) : Gd P w K mg base 3 "_law_open" j3 := by
  refine J.aP D sW (fun vs H Q E h => ?_) (fun X H vs Q E hh h => ?_)
  · obtain ⟨tt, s, t, y, ps, ss, ts, ys, sg, qd, sd, rfl, _⟩ := h
    rfl
  · obtain ⟨tt, s, t, y, ps, ss, ts, ys, sg, qd, sd, rfl, htt, hs, ht, hy, sl, tl, gs, gh, qs, qk, sy, k⟩ := h
    have S0 := hh.sl 0 "_law_things_here"
    have S1 := hh.sl 1 "_law_sights"
    have S2 := hh.sl 2 "_law_talks"
    have S3 := hh.sl 3 "_law_sayings"
    have S4 := hh.sl 4 "_law_numbers"
    have B_len := hh.b T.b_len
    have B_range := hh.b T.b_range
    have C__law_tellings := hh.c G__law_tellings
    have CI__law_free := hh.ci G__law_free
    have CI__law_is_open := hh.ci G__law_is_open
    have hsz : sizeLine = 16777216 := sizeLine_eq
    refine ⟨_, (J.ah (J.asg (J.rd S0) (J.dX hh.calm (J.bO (J.fE S1 hh.nd) (J.bO (J.fE S2 hh.nd) (J.bO (J.fE S3 hh.nd) J.cD)))))
 (J.ah (J.kA (sc := L2.aa dU) (N := ["_law_things_here", "_law_sights", "_law_talks", "_law_sayings", "_law_numbers"]) (is := [1, 3]) (xs := ["_law_i"]) (ns := ["_law_sights", "_law_sayings"]) S4 hh.nd hh.calm (J.dG B_range (J.ai (J.blt B_len J.aQ L2.df (J.ai (J.rd S1) J.ae)) J.ae)) {} (fun _ _ _ _ _ => (J.vb (i := 0) (by decide +kernel) rfl rfl)) (fun _ _ _ _ _ => (J.fj (J.bB (J.cF (CI__law_free.lg rfl) (J.ai (J.rM (i := 2) rfl rfl (by decide) (by decide)) (J.ai (J.aw J.dr (J.aw J.i6 (J.rM (i := 1) rfl rfl (by decide) (by decide)) (J.jG (i := 0) rfl rfl (by decide) (by decide)) J.bf) J.ag J.az) (J.ai (J.aw J.dr (J.aw J.i6 (J.rM (i := 1) rfl rfl (by decide) (by decide)) (J.jG (i := 0) rfl rfl (by decide) (by decide)) J.bf) J.ag J.az) J.ae))))))) (fun _ _ _ _ _ => (J.jG (i := 0) rfl rfl (by decide) (by decide))) hh.hsc hh.hN (by decide +kernel))
 (J.ak (J.aE (J.bj (J.ai (J.rd S4) (J.ai (J.Bp (sc := L2.aa dU) (N := ["_law_things_here", "_law_sights", "_law_talks", "_law_sayings", "_law_numbers"]) (is := [2, 3]) (xs := ["_law_telling"]) (ns := ["_law_talks", "_law_sayings"]) hh.calm (J.bh (J.cF C__law_tellings (J.ai (J.rd S2) J.ae))) {} (fun _ _ _ _ _ => (J.vb (i := 0) (by decide +kernel) rfl rfl)) (fun _ _ _ _ _ => (J.fj (J.bB (J.cF (CI__law_is_open.lg rfl) (J.ai (J.rM (i := 1) rfl rfl (by decide) (by decide)) (J.ai (J.rM (i := 2) rfl rfl (by decide) (by decide)) (J.ai (J.jG (i := 0) rfl rfl (by decide) (by decide)) J.ae))))))) (fun _ _ _ _ _ => (J.jG (i := 0) rfl rfl (by decide) (by decide))) hh.hsc hh.hN) J.ae))))))), ?_⟩
    refine ⟨_, rfl, tt, _, rfl, aL.of htt, rfl, _, _, rfl, _, _, rfl, _, _, rfl, rfl, ?_⟩
    refine ⟨_, rfl, s, _, rfl, .inl (aJ.of hs), (ss.length : Int), rfl, by omega, by omega, tD (lo := 0) (N := ((ss.length : Nat) : Int).toNat) (jd sg (dR sd)) (fun i => V.int (0 + (i : Int))) (by omega) ?_ ?_⟩
    · intro i os H2 K1 K2 hi hos s2 k1 k2
      match os, hos with
      | [o], _ =>
        rw [Int.toNat_natCast] at hi
        have hv : ss[i]? = some ss[i] := List.getElem?_eq_getElem hi
        generalize ss[i] = v at hv
        obtain ⟨g, hg, a, ta, rfl, ha⟩ := gs.at hv
        rw [jq hg] at k1 k2
        have ha2 := s2 _ _ ha
        have av : mZ ss ((0 : Int) + (i : Int)) = some (.ref a) := by rw [Int.zero_add]; exact bE hv
        have g0 := gh g (List.mem_of_getElem? hg)
        exact ⟨⟨[_], rfl, rfl⟩, _, rfl, _, rfl, _, rfl, s, _, _, _, rfl, rfl, aJ.of (s2 _ _ hs), av, a, _, _, _, rfl, rfl, aL.of ha2, rfl, _, rfl, _, rfl, s, _, _, _, rfl, rfl, aJ.of (s2 _ _ hs), av, a, _, _, _, rfl, rfl, aL.of ha2, rfl, y, ys, g.1, g.2, sd, rfl, s2 _ _ hy, sy.mono (Tk.of s2), g0.1, fun H3 s3 => ⟨_, rfl, cH (fun hb => ⟨_, rfl, k1 hb H3 s3⟩) (fun hb => k2 (eq_false_of_ne_true hb) H3 s3)⟩⟩
    · intro nl H1 nln s1 hnl
      have e : ((List.range ((ss.length : Nat) : Int).toNat).filter (jd sg (dR sd))).map (fun (i : Nat) => V.int (0 + (i : Int))) = fX sg sd sg.length := by
        rw [Int.toNat_natCast, gs.1]
        unfold fX
        exact List.map_congr_left fun i _ => by rw [Int.zero_add]
      rw [e] at hnl
      refine ⟨_, rfl, _, rfl, t, ts, qd, rfl, s1 _ _ ht, qs.mono (dc.mono (Tk.of s1)), tl, fun l us H2 s2 ln hl tus => ?_⟩
      have s12 := s1.trans s2
      have ul : us.length ≤ 240 := by
        have := i4 (fR qd) 0
        have := tus.1
        have := (zh qs).1
        omega
      refine ⟨l, rfl, ⟨_, aJ.of hl⟩, iD (xs := us) (jd (us.zip (fc 0 (fR qd))) fun x => cj qd sd x.2) (wL (us.zip (fc 0 (fR qd))) fun x => x.1) (aJ.of hl) (by omega) ?_ ?_⟩
      · intro i os v H3 K1 K2 hv hos s3 k1 k2
        match os, hos with
        | [o], _ =>
          have hi : i < us.length := (List.getElem?_eq_some_iff.mp hv).1
          obtain ⟨tk, htk⟩ : ∃ tk, (fc 0 (fR qd))[i]? = some tk := ⟨_, List.getElem?_eq_getElem (by rw [← tus.1]; exact hi)⟩
          rw [jq (hE hv htk)] at k1 k2
          rw [mX (hE hv htk)] at k1
          obtain ⟨q, hq, _⟩ := B5 qk (List.mem_of_getElem? htk)
          have s13 := s12.trans s3
          exact ⟨⟨[_], rfl, rfl⟩, _, rfl, _, rfl, _, rfl, t, y, ts, ys, v, tk, qd, sd, q, rfl, s13 _ _ ht, s13 _ _ hy, qs.mono (dc.mono (Tk.of s13)), sy.mono (Tk.of s13), (tus.2 i v tk hv htk).mono (Tk.of s3), hq, (qk q (List.mem_of_getElem? hq)).1, fun H4 s4 => ⟨_, rfl, cH (fun hb => ⟨_, rfl, k1 hb H4 s4⟩) (fun hb => k2 (eq_false_of_ne_true hb) H4 s4)⟩⟩
      · intro m H3 mn s3 hm
        have zl : (us.zip (fc 0 (fR qd))).length = us.length := by
          rw [List.length_zip, ← tus.1, Nat.min_self]
        rw [← zl, gz (fun x => cj qd sd x.2) (fun x => x.1) (us.zip (fc 0 (fR qd)))] at hm
        refine ⟨by show 2 ≤ sizeLine; decide, fun r hr => ?_⟩
        have s4 := au.upd (o := .tup [.ref nl, .ref m]) hr
        have s13 := s12.trans s3
        exact k r nl m _ _ (s13.trans s4) (s13.free hr) nln (s12.free mn) af (s4 _ _ (s3 _ _ (s2 _ _ hnl))) (s4 _ _ hm) ((oT (cj qd sd) tus).mono (Tk.of (s3.trans s4)))
end
def lD : Str := "bcdfghjklmnpqrstvwxz"
def nR (i : Int) : Nat := lD.cps.toList.getD i.toNat 0
theorem wB : ∀ i : Fin 20, mZ lD.cps.toList ((i.val : Nat) : Int) = some (nR (i.val : Nat)) ∧ nR (i.val : Nat) ∈ lets.cps.toList := by decide +kernel
theorem pk : ∀ i j : Fin 20, nR (i.val : Nat) = nR (j.val : Nat) → i = j := by decide +kernel
theorem rZ {i : Int} (h0 : 0 ≤ i) (h1 : i < 20) : mZ lD.cps.toList i = some (nR i) ∧ nR i ∈ lets.cps.toList := by
  have e : ((i.toNat : Nat) : Int) = i := Int.toNat_of_nonneg h0
  have := wB ⟨i.toNat, by omega⟩
  rw [e] at this
  exact this
theorem vd {i j : Int} (h0 : 0 ≤ i) (h1 : i < 20) (g0 : 0 ≤ j) (g1 : j < 20) (h : nR i = nR j) : i = j := by
  have e : ((i.toNat : Nat) : Int) = i := Int.toNat_of_nonneg h0
  have f : ((j.toNat : Nat) : Int) = j := Int.toNat_of_nonneg g0
  have := pk ⟨i.toNat, by omega⟩ ⟨j.toNat, by omega⟩ (by rw [e, f]; exact h)
  have := congrArg Fin.val this
  dsimp only at this
  omega
def lf (c a k : Int) (j : Nat) : Nat := nR ((c + ((j : Int) * j + 3 * k * (if decide (V.int (j : Int) = V.int a) = true then 1 else 0))) % 20)
def wordOf (c a k : Int) : Nat → Str
  | 0 => ""
  | j + 1 => wordOf c a k j ++ ⟨#[lf c a k j]⟩
theorem eU (c a k : Int) : ∀ n, (wordOf c a k n).cps.toList = (List.range n).map (lf c a k)
  | 0 => rfl
  | n + 1 => by
    show (wordOf c a k n ++ ⟨#[lf c a k n]⟩).cps.toList = _
    rw [j8, eU c a k n, List.range_succ, List.map_append]
    rfl
theorem eQ (c a k : Int) (n : Nat) : (wordOf c a k n).length = n := by
  rw [← i7, eU, List.length_map, List.length_range]
theorem BA (c a k : Int) (j : Nat) : lf c a k j ∈ lets.cps.toList := (rZ (bC _ (by decide)).1 (bC _ (by decide)).2).2
theorem qe (c a k : Int) (n : Nat) : qQ (wordOf c a k n) := fun x hx => by
  rw [eU] at hx
  obtain ⟨j, _, rfl⟩ := List.mem_map.mp hx
  exact BA c a k j
def Cc (n : Int) : Str := Txt.mul "m" n
def nameOf (c a : Int) (n : Nat) (k : Nat) : Str := wordOf c a k n ++ Cc ((k : Int) / 20)
theorem oq {k : Nat} (h : k < 24) : ((k : Int) / 20 = 0 ∨ (k : Int) / 20 = 1) ∧ (Cc ((k : Int) / 20)).length = k / 20 ∧ qQ (Cc ((k : Int) / 20)) := by
  by_cases c : k < 20
  · have e : (k : Int) / 20 = 0 := by omega
    rw [e]
    exact ⟨.inl rfl, by rw [show k / 20 = 0 by omega]; rfl, fun x hx => by have : x ∈ ([] : List Nat) := hx; cases this⟩
  · have e : (k : Int) / 20 = 1 := by omega
    rw [e]
    refine ⟨.inr rfl, by rw [show k / 20 = 1 by omega]; decide +kernel, ?_⟩
    show qQ "m"
    intro x hx
    revert x
    decide +kernel
theorem xA {c a : Int} {n k : Nat} (n1 : 1 ≤ n) (n2 : n ≤ 11) (hk : k < 24) : cC (nameOf c a n k) = true := by
  obtain ⟨_, hl, hL⟩ := oq hk
  have e : (nameOf c a n k).length = n + k / 20 := by
    unfold nameOf
    rw [x9, eQ, hl]
  exact uT (x3 (qe c a k n) hL) (by omega) (by omega)
theorem xo {c a : Int} {n i j : Nat} (a0 : 0 ≤ a) (an : a < n) (hij : i < j) (hj : j < 24) : nameOf c a n i ≠ nameOf c a n j := by
  intro e
  obtain ⟨_, li, _⟩ := oq (k := i) (by omega)
  obtain ⟨_, lj, _⟩ := oq hj
  have e1 := congrArg (fun z : Str => z.cps.toList) e
  unfold nameOf at e1
  rw [j8, j8] at e1
  have hl : (wordOf c a i n).cps.toList.length = (wordOf c a j n).cps.toList.length := by rw [i7, i7, eQ, eQ]
  obtain ⟨w, m⟩ := List.append_inj e1 hl
  have m2 := congrArg List.length m
  rw [i7, i7, li, lj] at m2
  rw [eU, eU] at w
  have aN : a.toNat < n := by omega
  have w2 := congrArg (fun l : List Nat => l[a.toNat]?) w
  rw [List.getElem?_map, List.getElem?_map, List.getElem?_range aN] at w2
  have w3 : lf c a i a.toNat = lf c a j a.toNat := Option.some.inj w2
  have ea : ((a.toNat : Nat) : Int) = a := Int.toNat_of_nonneg a0
  unfold lf at w3
  rw [ea, decide_eq_true rfl] at w3
  have w4 := vd (bC _ (by decide)).1 (bC _ (by decide)).2 (bC _ (by decide)).1 (bC _ (by decide)).2 w3
  simp only [if_true, Int.mul_one] at w4
  generalize a * a = A at w4
  omega
theorem nodup_range {f : Nat → Str} {n : Nat} (h : ∀ i j, i < j → j < n → f i ≠ f j) : ((List.range n).map f).Nodup := by
  unfold List.Nodup
  rw [List.pairwise_map]
  exact List.Pairwise.imp_of_mem (fun {a b} _ hb hab => h a b hab (List.mem_range.mp hb)) List.pairwise_lt_range
inductive ua  (vs : List V) (H : Hp) (Q : VK) : Prop
  | mk (c m : Int) (h0 : vs = [.int c, .int m]) (h1 : 0 ≤ c) (h2 : 1 ≤ m) (h3 : m ≤ 24) (h4 : ∀ (l : Addr) (us : List Str) (H' : Hp), au H H' → H l = none → H' l = some (.lst (us.map V.str)) → eD us → Q (.ref l) H')
def ku  : Sp := fun vs H Q _ => ua  vs H Q
section
variable {P : Program} {w : World} {K : PySem.W.Frag} {mg : Str → Option Value} {base : Heap} {kw C : Addr}
theorem qh : aB ["_law_cell", "_law_many", "_law_letters", "_law_size", "_law_at", "_law_names_here", "_law_k", "_law_word", "_law_j", "_law_step"] ["_law_cell", "_law_many"] (aa d8) := {}
theorem uu {f : Addr} {fd : FuncData} (D : Df K mg "_law_names" d8 ["_law_cell", "_law_many"] f fd) (T : Txt K mg kw C) : Gd P w K mg base 1 "_law_names" ku := by
  refine J.aP D qh (fun vs H Q E h => ?_) (fun X H vs Q E hh h => ?_)
  · obtain ⟨c, m, rfl, _⟩ := h
    rfl
  · obtain ⟨c, m, rfl, c0, m1, m24, k⟩ := h
    have S0 := hh.sl 0 "_law_cell"
    have S1 := hh.sl 1 "_law_many"
    have S2 := hh.sl 2 "_law_letters"
    have S3 := hh.sl 3 "_law_size"
    have S4 := hh.sl 4 "_law_at"
    have S5 := hh.sl 5 "_law_names_here"
    have S6 := hh.sl 6 "_law_k"
    have S7 := hh.sl 7 "_law_word"
    have S8 := hh.sl 8 "_law_j"
    have S9 := hh.sl 9 "_law_step"
    have B_int := hh.b T.b_int
    have B_range := hh.b T.b_range
    have hsz : sizeLine = 16777216 := sizeLine_eq
    refine ⟨_, (J.ah (J.set S2 hh.nd J.ba)
 (J.ah (J.set S3 hh.nd (J.aG J.cV J.ag (J.aG J.bA (J.rd S0) J.ag)))
 (J.ah (J.set S4 hh.nd (J.aG J.bA (J.aG J.bw (J.rd S0) J.ag) (J.rd S3)))
 (J.ah (J.set S5 hh.nd (J.dS J.ae))
 (J.ah (J.cA hh.own hh.calm (J.dG B_range (J.ai (J.rd S1) J.ae)) (J.fE S6 hh.nd)
 (J.ah (J.set S7 hh.nd J.ba)
 (J.ah (J.cA hh.own hh.calm (J.dG B_range (J.ai (J.rd S3) J.ae)) (J.fE S8 hh.nd)
 (J.ah (J.set S9 hh.nd (J.aG J.cV (J.aG J.eI (J.rd S8) (J.rd S8)) (J.aG J.eI (J.aG J.eI J.ag (J.rd S6)) (J.ir B_int J.gP L2.mU (J.ai (J.bu J.bN (J.rd S8) (J.rd S4) (L2.aH _)) J.ae)))))
 (J.ak (J.set S7 hh.nd (J.aG J.fZ (J.rd S7) (J.aw J.pT (J.rd S2) (J.aG J.bA (J.aG J.cV (J.aG J.bw (J.rd S0) J.ag) (J.rd S9)) J.ag) J.kD))))))
 (J.ak (J.fh (J.bm PySem.F.plainAttrs_list PySem.F.slot_list_append PySem.F.type_list_append J.bR (J.rd S5) (J.ai (J.aG J.fZ (J.rd S7) (J.aG J.oj J.ba (J.aG J.bw (J.rd S6) J.ag))) J.ae)))))))
 (J.ak (J.aE (J.rd S5)))))))), ?_⟩
    have m11 := bC c (m := 11) (by decide)
    refine ⟨_, rfl, _, _, rfl, rfl, (by show (0 : Int) < 11; decide), _, _, rfl, rfl, ?_⟩
    dsimp only
    have sb : 1 ≤ 1 + c % 11 ∧ 1 + c % 11 ≤ 11 := by omega
    generalize 1 + c % 11 = S at sb
    clear m11
    refine ⟨_, rfl, _, _, rfl, rfl, ⟨by decide, by decide⟩, _, rfl, _, _, rfl, rfl, (by omega), ?_⟩
    have ab := bC (c / 11) (m := S) (by omega)
    dsimp only
    generalize c / 11 % S = A at ab
    refine ⟨by show 0 ≤ sizeLine; decide, fun l hl => ?_⟩
    refine ⟨_, rfl, m, rfl, by omega, by omega, gR (lo := 0) (n := m.toNat) (fun i σ H2 => ∃ e1 e2 e3 e4 : Option V, σ = [some (.int c), some (.int m), some (.str lD), some (.int S), some (.int A), some (.ref l), e1, e2, e3, e4] ∧ au H H2 ∧ H2 l = some (.lst ((List.range i).map fun j => V.str (nameOf (c / 121) A S.toNat j))))
      ⟨none, none, none, none, rfl, au.upd hl, af⟩ ?_ ?_⟩
    · rintro i σ H2 hi ⟨e1, e2, e3, e4, rfl, s2, hl2⟩
      rw [Int.zero_add]
      refine ⟨_, rfl, S, rfl, by omega, by omega, gR (lo := 0) (n := S.toNat) (fun j σ H3 => ∃ e3 e4 : Option V, σ = [some (.int c), some (.int m), some (.str lD), some (.int S), some (.int A), some (.ref l), some (.int i), some (.str (wordOf (c / 121) A i j)), e3, e4] ∧ H3 = H2)
        ⟨_, _, rfl, rfl⟩ ?_ ?_⟩
      · rintro j σ H3 hj ⟨e3, e4, rfl, rfl⟩
        rw [Int.zero_add]
        have jb : (j : Int) < S := by omega
        refine ⟨_, rfl, _, rfl, _, _, rfl, rfl, .inl ⟨by omega, by omega⟩, _, rfl, _, _, rfl, rfl, .inl ⟨by decide, by decide⟩, _, rfl, _, rfl, rfl, .inr ⟨_, rfl, _, _, rfl, rfl, .inl ⟨by omega, by omega⟩, _, _, rfl, rfl, ?_⟩⟩
        have am := bC (c / 121 + ((j : Int) * j + 3 * (i : Int) * (if decide (V.int (j : Int) = V.int A) = true then 1 else 0))) (m := 20) (by decide)
        have wl := eQ (c / 121) A i j
        refine ⟨_, rfl, _, rfl, _, rfl, _, _, rfl, rfl, ⟨by decide, by decide⟩, _, rfl, _, _, rfl, rfl, _, _, rfl, rfl, (by show (0 : Int) < 20; decide), lD, _, _, rfl, rfl, (by show lD.length ≤ sizeLine; decide +kernel), (rZ am.1 am.2).1, _, _, rfl, rfl, (by show _ + 1 ≤ _; omega), _, _, rfl, rfl⟩
      · rintro σ H3 ⟨e3, e4, rfl, rfl⟩
        have wl := eQ (c / 121) A i S.toNat
        obtain ⟨h01, el, _⟩ := oq (k := i) (by omega)
        refine ⟨_, rfl, .inl ⟨rfl, _, aJ.of hl2⟩, _, rfl, _, rfl, _, _, rfl, rfl, ⟨by decide, by decide⟩, _, _, rfl, rfl, h01, _, _, rfl, rfl, (by show _ + (Cc _).length ≤ _; omega), l, _, _, rfl, rfl, hl2, (by rw [List.length_map, List.length_range]; omega), _, _, _, _, rfl, fun b o e => ?_, ?_⟩
        · rw [ao (aj e hl)]
          exact s2 _ _ e
        · rw [af, List.range_succ, List.map_append]
          rfl
    · rintro σ H2 ⟨e1, e2, e3, e4, rfl, s2, hl2⟩
      refine ⟨_, rfl, k l ((List.range m.toNat).map fun j => nameOf (c / 121) A S.toNat j) H2 s2 hl (by rw [List.map_map]; exact hl2) ⟨by rw [List.length_map, List.length_range]; omega, by rw [List.length_map, List.length_range]; omega, nodup_range fun i j hij hj => xo ab.1 (by omega) hij (by omega), fun z hz => ?_⟩⟩
      obtain ⟨j, hj, rfl⟩ := List.mem_map.mp hz
      have := List.mem_range.mp hj
      exact xA (by omega) (by omega) (by omega)
end
theorem zF {ps : List Str} {H : Hp} {v : V} {d : SD} (h : qj H v d) (k : yo ps d) : eX ps H v := by
  obtain ⟨a, e, ha⟩ := h
  refine ⟨a, e, ?_⟩
  cases d with
  | knew p h => exact .inl ⟨p, h, ha, k.1, k.2⟩
  | unh p h =>
    refine .inr (.inl ⟨p, oV h, ha, k.1, ?_⟩)
    cases h with
    | none => exact .inl rfl
    | some i => exact .inr ⟨i, rfl, k.2 i rfl⟩
  | sil p b e => exact .inr (.inr (.inl ⟨p, b, e, ha, k.1, k.2.1, k.2.2.1, k.2.2.2⟩))
  | bar p q => exact .inr (.inr (.inr ⟨p, q, ha, k.1, k.2.1, k.2.2⟩))
inductive yS (c nl cl tt S Tt Y : Addr) (H5 : Hp) (ps : List Str) (i : Nat) (σ : St) (H' : Hp) : Prop
  | mk (ss ts ys : List V) (e1 e2 e3 e4 e5 e6 e7 e8 e9 : Option V) (e : σ = [some (.ref c), some (.ref nl), some (.ref cl), some (.ref tt), e1, e2, e3, e4, e5, e6, e7, e8, e9])
      (hs : H' S = some (.lst ss)) (ht : H' Tt = some (.lst ts)) (hy : H' Y = some (.lst ys)) (kp : ∀ b o, H5 b = some o → b ≠ S → b ≠ Tt → b ≠ Y → H' b = some o)
      (ls : ss.length ≤ 24) (li : ss.length ≤ i) (lt : ts.length ≤ i) (ly : ys.length ≤ i) (gs : ∀ v ∈ ss, cY ps H' v) (gt : ∀ v ∈ ts, d5 ps H' v) (gy : ∀ v ∈ ys, eX ps H' v)
inductive xu (vs : List V) (H : Hp) (Q : VK) : Prop
  | mk (c nl cl : Addr) (ns : List Int) (ps : List Str) (hs : List Int) (e : vs = [.ref c, .ref nl, .ref cl]) (hc : H c = some (.lst (ns.map V.int))) (n60 : ns.length ≤ 60) (hn : H nl = some (.lst (ps.map V.str))) (po : eD ps) (hcl : H cl = some (.lst (hs.map V.int))) (ck : j6 hs)
      (k : ∀ (tt s t y : Addr) (ss ts ys : List V) (H' : Hp), au H H' → H tt = none → H s = none → H t = none → H y = none → [tt, s, t, y].Nodup → H' tt = some (.tup [.ref s, .ref t, .ref y]) → H' s = some (.lst ss) → H' t = some (.lst ts) → H' y = some (.lst ys) → ss.length ≤ 24 → ts.length ≤ 60 → ys.length ≤ 60 →
        (∀ v ∈ ss, cY ps H' v) → (∀ v ∈ ts, d5 ps H' v) → (∀ v ∈ ys, eX ps H' v) → Q (.ref tt) H')
def kO : Sp := fun vs H Q _ => xu vs H Q
theorem rR {ps : List Str} {i : Int} (h0 : 0 ≤ i) (h1 : i < ps.length) : ∃ z, mZ (ps.map V.str) i = some (.str z) ∧ z ∈ ps := by
  have hi : i.toNat < ps.length := by omega
  have e : ((i.toNat : Nat) : Int) = i := Int.toNat_of_nonneg h0
  have := bE (xs := ps.map V.str) (j := i.toNat) (v := V.str ps[i.toNat]) (by rw [List.getElem?_map, List.getElem?_eq_getElem hi]; rfl)
  rw [e] at this
  exact ⟨_, this, List.getElem_mem hi⟩
theorem BR {ps : List Str} {d : SD} (w : Dt ps d) : ∃ v1 v2 : V, mZ d.tup 1 = some v1 ∧ mZ d.tup 2 = some v2 ∧ y9 v1 v2 = true ∧ (v1 ≠ v2 → yo ps d) := by
  cases d with
  | knew p h => exact ⟨_, _, rfl, rfl, rfl, fun _ => w⟩
  | unh p h =>
    cases h with
    | none => exact ⟨_, _, rfl, rfl, rfl, fun _ => w⟩
    | some i => exact ⟨_, _, rfl, rfl, rfl, fun _ => w⟩
  | sil p b e => exact ⟨_, _, rfl, rfl, rfl, fun _ => w⟩
  | bar p q => exact ⟨_, _, rfl, rfl, rfl, fun n => ⟨w.1, w.2, fun e => n (congrArg V.str e)⟩⟩
theorem zq : cC "red" = true := by decide +kernel
section
variable {P : Program} {w : World} {K : PySem.W.Frag} {mg : Str → Option Value} {base : Heap} {kw C : Addr}
theorem oG : aB ["_law_cells", "_law_names_here", "_law_clock_here", "_law_things_here", "_law_k", "_law_number", "_law_at", "_law_first", "_law_steps", "_law_one", "_law_other", "_law_saying_here", "_law_way"] ["_law_cells", "_law_names_here", "_law_clock_here"] (aa dD) := {}
theorem tH {f : Addr} {fd : FuncData} (D : Df K mg "_law_things" dD ["_law_cells", "_law_names_here", "_law_clock_here"] f fd) (T : Txt K mg kw C) (G__law_mix : Gd P w K mg base 1 "_law_mix" rp) (G__law_spot : Gd P w K mg base 1 "_law_spot" qX) (G__law_saying : Gd P w K mg base 1 "_law_saying" p0) : Gd P w K mg base 2 "_law_things" kO := by
  refine J.aP D oG (fun vs H Q E h => ?_) (fun X H vs Q E hh h => ?_)
  · obtain ⟨c, nl, cl, ns, ps, hs, rfl, _⟩ := h
    rfl
  · obtain ⟨c, nl, cl, ns, ps, hs, rfl, hc, n60, hn, po, hcl, ck, k⟩ := h
    have S0 := hh.sl 0 "_law_cells"
    have S1 := hh.sl 1 "_law_names_here"
    have S2 := hh.sl 2 "_law_clock_here"
    have S3 := hh.sl 3 "_law_things_here"
    have S4 := hh.sl 4 "_law_k"
    have S5 := hh.sl 5 "_law_number"
    have S6 := hh.sl 6 "_law_at"
    have S7 := hh.sl 7 "_law_first"
    have S8 := hh.sl 8 "_law_steps"
    have S9 := hh.sl 9 "_law_one"
    have S10 := hh.sl 10 "_law_other"
    have S11 := hh.sl 11 "_law_saying_here"
    have S12 := hh.sl 12 "_law_way"
    have B_len := hh.b T.b_len
    have B_range := hh.b T.b_range
    have C__law_mix := hh.c G__law_mix
    have C__law_saying := hh.c G__law_saying
    have C__law_spot := hh.c G__law_spot
    have hsz : sizeLine = 16777216 := sizeLine_eq
    have pl : (ps.map V.str).length = ps.length := List.length_map ..
    have plo := po.lo
    have nln : (ns.map V.int).length = ns.length := List.length_map ..
    refine ⟨_, (J.ah (J.set S3 hh.nd (J.bj (J.ai (J.dS J.ae) (J.ai (J.dS J.ae) (J.ai (J.dS J.ae) J.ae)))))
 (J.ah (J.cA hh.own hh.calm (J.dG B_range (J.ai (J.blt B_len J.aQ L2.df (J.ai (J.rd S0) J.ae)) J.ae)) (J.fE S4 hh.nd)
 (J.ah (J.set S5 hh.nd (J.cF C__law_mix (J.ai (J.aw J.aX (J.rd S0) (J.rd S4) J.bf) (J.ai (J.rd S4) J.ae))))
 (J.ah (J.asg (J.cF C__law_spot (J.ai (J.rd S5) (J.ai (J.rd S4) (J.ai (J.blt B_len J.aQ L2.df (J.ai (J.rd S1) J.ae)) J.ae)))) (J.dX hh.calm (J.bO (J.fE S6 hh.nd) (J.bO (J.fE S7 hh.nd) (J.bO (J.fE S8 hh.nd) J.cD)))))
 (J.ah (J.set S9 hh.nd (J.aw J.aX (J.rd S1) (J.rd S7) J.bf))
 (J.ah (J.set S10 hh.nd (J.aw J.aX (J.rd S1) (J.aG J.bA (J.aG J.cV (J.rd S7) (J.rd S8)) (J.blt B_len J.aQ L2.df (J.ai (J.rd S1) J.ae))) J.kD))
 (J.ak (J.bp (J.dN (J.fq (J.aI J.bN (J.rd S4) J.ag (L2.aH _)) (J.d7 (J.dN (J.di (J.aI J.bN (J.aG J.bA (J.rd S5) J.ag) J.ag (L2.aH _)) (J.dv (J.aI J.iU (J.blt B_len J.aQ L2.df (J.ai (J.aw J.aD (J.rd S3) J.ag J.az) J.ae)) J.ag (L2.aH _))))))))
 (J.ak (J.fh (J.bm PySem.F.plainAttrs_list PySem.F.slot_list_append PySem.F.type_list_append J.bR (J.aw J.aD (J.rd S3) J.ag J.az) (J.ai (J.bj (J.ai (J.rd S9) (J.ai (J.aw J.aX (J.rd S2) (J.rd S6) J.bf) (J.ai (J.bj (J.ai J.ba J.ae)) J.ae)))) J.ae))))
 (J.ak (J.bp (J.dN (J.fq (J.aI J.iU (J.aG J.bA (J.rd S5) J.ag) J.ag (L2.aH _)) (J.d7 (J.aI J.bN (J.rd S9) (J.rd S10) (L2.aH _)))))
 (J.ah (J.set S11 hh.nd (J.cF C__law_saying (J.ai (J.rd S5) (J.ai (J.rd S9) (J.ai (J.rd S10) (J.ai (J.rd S2) (J.ai (J.rd S6) J.ae)))))))
 (J.ak (J.bp (J.aI J.mz (J.aw J.aD (J.rd S11) J.ag J.az) (J.aw J.aD (J.rd S11) J.ag J.az) (L2.aH _))
 (J.ak (J.fh (J.bm PySem.F.plainAttrs_list PySem.F.slot_list_append PySem.F.type_list_append J.bR (J.aw J.aD (J.rd S3) J.ag J.az) (J.ai (J.rd S11) J.ae))))
 J.aM)))
 (J.ah (J.set S12 hh.nd (J.aw J.aX (J.dS (J.ai J.ba (J.ai J.ba J.ae))) (J.aG J.bA (J.aG J.bw (J.rd S5) J.ag) J.ag) J.kD))
 (J.ak (J.fh (J.bm PySem.F.plainAttrs_list PySem.F.slot_list_append PySem.F.type_list_append J.bR (J.aw J.aD (J.rd S3) J.ag J.az) (J.ai (J.bj (J.ai (J.aw J.aX (J.rd S2) (J.rd S6) J.bf) (J.ai (J.rd S9) (J.ai (J.rd S10) (J.ai (J.rd S12) J.ae))))) J.ae))))))))))))))
 (J.ak (J.aE (J.rd S3))))), ?_⟩
    refine ⟨by show 0 ≤ sizeLine; decide, fun S hSn => ⟨by show 0 ≤ sizeLine; decide, fun Tt hTn => ⟨by show 0 ≤ sizeLine; decide, fun Y hYn => ⟨by show 3 ≤ sizeLine; decide, fun tt httn => ?_⟩⟩⟩⟩
    have sS := au.upd (o := .lst []) hSn
    have sT := au.upd (o := .lst []) hTn
    have sY := au.upd (o := .lst []) hYn
    have sU := au.upd (o := .tup [.ref S, .ref Tt, .ref Y]) httn
    have nST : S ≠ Tt := aj af hTn
    have nSY : S ≠ Y := aj (sT _ _ af) hYn
    have nTY : Tt ≠ Y := aj af hYn
    have nuS : tt ≠ S := (aj (sY _ _ (sT _ _ af)) httn).symm
    have nuT : tt ≠ Tt := (aj (sY _ _ af) httn).symm
    have nuY : tt ≠ Y := (aj af httn).symm
    have s05 := ((sS.trans sT).trans sY).trans sU
    have fS : H S = none := hSn
    have fT : H Tt = none := sS.free hTn
    have fY : H Y = none := (sS.trans sT).free hYn
    have fU : H tt = none := ((sS.trans sT).trans sY).free httn
    have hS5 := sU _ _ (sY _ _ (sT _ _ (show upd H S (.lst []) S = some (.lst []) from af)))
    have hT5 := sU _ _ (sY _ _ (show upd (upd H S (.lst [])) Tt (.lst []) Tt = some (.lst []) from af))
    have hY5 := sU _ _ (show upd (upd (upd H S (.lst [])) Tt (.lst [])) Y (.lst []) Y = some (.lst []) from af)
    have hU5 : upd (upd (upd (upd H S (.lst [])) Tt (.lst [])) Y (.lst [])) tt (.tup [.ref S, .ref Tt, .ref Y]) tt = some (.tup [.ref S, .ref Tt, .ref Y]) := af
    generalize upd (upd (upd (upd H S (.lst [])) Tt (.lst [])) Y (.lst [])) tt (.tup [.ref S, .ref Tt, .ref Y]) = H5 at s05 hS5 hT5 hY5 hU5
    have hc5 := s05 _ _ hc
    have hn5 := s05 _ _ hn
    have hcl5 := s05 _ _ hcl
    have keep : ∀ {b : Addr} {o : HO} {H6 : Hp}, (∀ b o, H5 b = some o → b ≠ S → b ≠ Tt → b ≠ Y → H6 b = some o) → H b = some o → H6 b = some o := fun kp e => kp _ _ (s05 _ _ e) (aj e fS) (aj e fT) (aj e fY)
    clear sS sT sY sU hSn hTn hYn httn
    refine ⟨_, rfl, c, _, rfl, .inl (aJ.of hc5), (ns.length : Int), (by rw [nln]), by omega, by omega, gR (lo := 0) (n := ((ns.length : Nat) : Int).toNat) (yS c nl cl tt S Tt Y H5 ps)
      ⟨[], [], [], none, none, none, none, none, none, none, none, none, rfl, hS5, hT5, hY5, fun b o e _ _ _ => e, by decide, Nat.le_refl 0, Nat.le_refl 0, Nat.le_refl 0, (fun v hv => by cases hv), (fun v hv => by cases hv), (fun v hv => by cases hv)⟩ ?_ ?_⟩
    · rintro i σ H6 hi ⟨ss, ts, ys, e1, e2, e3, e4, e5, e6, e7, e8, e9, rfl, hs6, ht6, hy6, kp, ls, li, lt, ly, gs, gt, gy⟩
      rw [Int.toNat_natCast] at hi
      have hc6 := keep kp hc
      have hn6 := keep kp hn
      have hcl6 := keep kp hcl
      have hu6 := kp _ _ hU5 nuS nuT nuY
      have av : mZ (ns.map V.int) ((0 : Int) + (i : Int)) = some (.int ns[i]) := by
        rw [Int.zero_add]
        exact bE (by rw [List.getElem?_map, List.getElem?_eq_getElem hi]; rfl)
      refine ⟨_, rfl, _, rfl, c, _, _, _, rfl, rfl, aJ.of hc6, av, _, rfl, _, _, rfl, by omega, by omega, fun N n0 n1 => ?_⟩
      refine ⟨_, rfl, _, rfl, _, rfl, nl, _, rfl, .inl (aJ.of hn6), _, _, _, rfl, n0, by omega, by rw [pl]; omega, fun t a f st H7 s7 htp a0 a20 f0 fm st0 => ?_⟩
      rw [pl] at fm
      obtain ⟨y1, ay1, my1⟩ := rR f0 fm
      have om := bC (f + st) (m := (ps.length : Int)) (by omega)
      obtain ⟨y2, ay2, my2⟩ := rR om.1 om.2
      have hn7 := s7 _ _ hn6
      have hcl7 := s7 _ _ hcl6
      have hu7 := s7 _ _ hu6
      have hs7 := s7 _ _ hs6
      have ht7 := s7 _ _ ht6
      have hy7 := s7 _ _ hy6
      have kp7 : ∀ b o, H5 b = some o → b ≠ S → b ≠ Tt → b ≠ Y → H7 b = some o := fun b o e n1 n2 n3 => s7 _ _ (kp b o e n1 n2 n3)
      have gs7 : ∀ v ∈ ss, cY ps H7 v := fun v hv => (gs v hv).mono (Tk.of s7)
      have gt7 : ∀ v ∈ ts, d5 ps H7 v := fun v hv => (gt v hv).mono (Tk.of s7)
      have gy7 : ∀ v ∈ ys, eX ps H7 v := fun v hv => (gy v hv).mono (Tk.of s7)
      refine ⟨t, _, rfl, aL.of htp, rfl, _, _, rfl, _, _, rfl, _, _, rfl, rfl, ?_⟩
      refine ⟨_, rfl, _, rfl, nl, _, _, _, rfl, rfl, aJ.of hn7, ay1, ?_⟩
      refine ⟨_, rfl, _, rfl, _, rfl, _, _, rfl, rfl, _, rfl, nl, _, rfl, .inl (aJ.of hn7), _, _, rfl, rfl, (by rw [pl]; omega), nl, _, _, _, rfl, rfl, aJ.of hn7, (by rw [pl]; exact ay2), ?_⟩
      obtain ⟨hr, eH, iH, kH⟩ := i8 ck (i := a) a0 a20
      clear htp s7 gs gt gy hs6 ht6 hy6 kp hu6 hn6 hcl6 hc6
      refine both (G := ss.length < 24 → _) ?_ fun put => both (G := _) ?_ fun other => ⟨_, rfl, rfl, _, rfl, cH (fun hk => cP (put ?_)) (fun _ => ⟨_, rfl, _, _, rfl, rfl, (by show (0 : Int) < 8; decide), rfl, _, rfl, cH (fun _ => ⟨_, rfl, tt, _, _, _, rfl, rfl, aL.of hu7, rfl, S, _, rfl, .inl (aJ.of hs7), _, _, rfl, rfl, _, rfl, cH (fun h24 => put ?_) (fun _ => other)⟩) (fun _ => bY other)⟩)⟩
      · intro h24
        refine ⟨_, rfl, tt, _, _, _, rfl, rfl, aL.of hu7, rfl, .inl ⟨rfl, _, aJ.of hs7⟩, _, rfl, _, rfl, _, rfl, cl, _, _, _, rfl, rfl, aJ.of hcl7, eH, by show 1 ≤ sizeLine; decide, fun ta hta => ⟨by show 3 ≤ sizeLine; decide, fun tp htp => ?_⟩⟩
        have s8 := au.upd (o := .tup [.str "red"]) hta
        have s9 := s8.trans (au.upd (o := .tup [.str y1, .int hr, .ref ta]) htp)
        refine ⟨S, ss, .ref tp, rfl, rfl, s9 _ _ hs7, by omega, ?_⟩
        have tk := (Tk.of s9).trans (Tk.upd (s9 _ _ hs7) (ys := ss ++ [.ref tp]))
        have n1 : tp ≠ S := (aj (s8 _ _ hs7) htp).symm
        have n2 : ta ≠ S := (aj hs7 hta).symm
        refine ⟨ss ++ [.ref tp], ts, ys, _, _, _, _, _, _, _, _, _, rfl, af, (by rw [ao nST.symm]; exact s9 _ _ ht7), (by rw [ao nSY.symm]; exact s9 _ _ hy7), fun b o e n1 n2 n3 => (by rw [ao n1]; exact s9 _ _ (kp7 b o e n1 n2 n3)), (by rw [List.length_append]; show ss.length + 1 ≤ 24; omega), (by rw [List.length_append]; show ss.length + 1 ≤ i + 1; omega), by omega, by omega, fun v hv => ?_, fun v hv => (gt7 v hv).mono tk, fun v hv => (gy7 v hv).mono tk⟩
        rw [List.mem_append, List.mem_singleton] at hv
        rcases hv with hv | rfl
        · exact (gs7 v hv).mono tk
        · exact ⟨tp, y1, hr, ta, ["red"], rfl, (by rw [ao n1]; exact af), my1, kH, (by rw [ao n2]; exact (au.upd htp) _ _ af), by decide, by decide, fun x hx => by rw [List.mem_singleton] at hx; rw [hx]; exact zq⟩
      · refine both (G := _) ?_ fun saying => ⟨_, rfl, _, _, rfl, rfl, (by show (0 : Int) < 8; decide), _, _, rfl, rfl, _, rfl, cH (fun _ => cP saying) (fun _ => ⟨_, rfl, _, rfl, rfl, _, rfl, cH (fun _ => saying) (fun hne => ?_)⟩)⟩
        · refine ⟨_, rfl, _, rfl, _, rfl, _, rfl, _, rfl, N, a, y1, y2, cl, hs, ps, rfl, hcl7, ck, a0, a20, my1, my2, fun v d H8 s8 sd8 w8 => ?_⟩
          obtain ⟨b, rfl, hb⟩ := sd8
          have keep8 : ∀ {b : Addr} {o : HO}, H7 b = some o → H8 b = some o := fun e => s8 _ _ e
          have fw : yS c nl cl tt S Tt Y H5 ps (i + 1) [some (.ref c), some (.ref nl), some (.ref cl), some (.ref tt), some (.int (0 + (i : Int))), some (.int N), some (.int a), some (.int f), some (.int st), some (.str y1), some (.str y2), some (.ref b), e9] H8 :=
            ⟨ss, ts, ys, _, _, _, _, _, _, _, _, _, rfl, s8 _ _ hs7, s8 _ _ ht7, s8 _ _ hy7, fun b o e n1 n2 n3 => s8 _ _ (kp7 b o e n1 n2 n3), ls, by omega, by omega, by omega, fun v hv => (gs7 v hv).mono (Tk.of s8), fun v hv => (gt7 v hv).mono (Tk.of s8), fun v hv => (gy7 v hv).mono (Tk.of s8)⟩
          obtain ⟨v1, v2, av1, av2, sc12, ok12⟩ := BR w8
          refine ⟨_, rfl, b, _, _, _, rfl, rfl, aL.of hb, av1, _, rfl, b, _, _, _, rfl, rfl, aL.of hb, av2, sc12, _, rfl, cH (fun hne => ?_) (fun _ => fw)⟩
          have ok := ok12 fun e => by rw [decide_eq_true e] at hne; cases hne
          have si := zF ⟨b, rfl, hb⟩ ok
          refine ⟨_, rfl, tt, _, _, _, rfl, rfl, aL.of (s8 _ _ hu7), rfl, .inl ⟨rfl, _, aJ.of (s8 _ _ hy7)⟩, _, rfl, Y, ys, .ref b, rfl, rfl, s8 _ _ hy7, by omega, ?_⟩
          have tk := (Tk.of s8).trans (Tk.upd (s8 _ _ hy7) (ys := ys ++ [.ref b]))
          refine ⟨ss, ts, ys ++ [.ref b], _, _, _, _, _, _, _, _, _, rfl, (by rw [ao nSY]; exact s8 _ _ hs7), (by rw [ao nTY]; exact s8 _ _ ht7), af, fun b o e n1 n2 n3 => (by rw [ao n3]; exact s8 _ _ (kp7 b o e n1 n2 n3)), ls, by omega, by omega, (by rw [List.length_append]; show ys.length + 1 ≤ i + 1; omega), fun v hv => (gs7 v hv).mono tk, fun v hv => (gt7 v hv).mono tk, fun v hv => ?_⟩
          rw [List.mem_append, List.mem_singleton] at hv
          rcases hv with hv | rfl
          · exact (gy7 v hv).mono tk
          · exact si.mono (Tk.upd (s8 _ _ hy7))
        · obtain ⟨wv, hw, hwm⟩ := yK (xs := [V.str "both", V.str "one"]) (i := N / 8192 % 2) (Int.emod_nonneg _ (by decide)) (by
            have : N / 8192 % 2 < 2 := Int.emod_lt_of_pos _ (by decide)
            show _ < (2 : Int)
            omega)
          have hwy : ∃ wy : Str, wv = .str wy ∧ (wy = "both" ∨ wy = "one") := by
            simp only [List.mem_cons, List.not_mem_nil, or_false] at hwm
            rcases hwm with rfl | rfl
            · exact ⟨_, rfl, .inl rfl⟩
            · exact ⟨_, rfl, .inr rfl⟩
          obtain ⟨wy, rfl, hwy⟩ := hwy
          refine ⟨by show 2 ≤ sizeLine; decide, fun b3 hb3 => ?_⟩
          have s8 := au.upd (o := .lst [.str "both", .str "one"]) hb3
          refine ⟨_, rfl, _, _, rfl, rfl, ⟨by decide, by decide⟩, _, _, rfl, rfl, (by show (0 : Int) < 2; decide), b3, _, _, _, rfl, rfl, aJ.of af, hw, ?_⟩
          refine ⟨_, rfl, tt, _, _, _, rfl, rfl, aL.of (s8 _ _ hu7), rfl, .inl ⟨rfl, _, aJ.of (s8 _ _ ht7)⟩, _, rfl, _, rfl, cl, _, _, _, rfl, rfl, aJ.of (s8 _ _ hcl7), eH, _, rfl, _, rfl, _, rfl, by show 4 ≤ sizeLine; decide, fun tp htp => ?_⟩
          have s9 := s8.trans (au.upd (o := .tup [.int hr, .str y1, .str y2, .str wy]) htp)
          refine ⟨Tt, ts, .ref tp, rfl, rfl, s9 _ _ ht7, by omega, ?_⟩
          have tk := (Tk.of s9).trans (Tk.upd (s9 _ _ ht7) (ys := ts ++ [.ref tp]))
          have n1 : tp ≠ Tt := (aj (s8 _ _ ht7) htp).symm
          refine ⟨ss, ts ++ [.ref tp], ys, _, _, _, _, _, _, _, _, _, rfl, (by rw [ao nST]; exact s9 _ _ hs7), af, (by rw [ao nTY.symm]; exact s9 _ _ hy7), fun b o e n1 n2 n3 => (by rw [ao n2]; exact s9 _ _ (kp7 b o e n1 n2 n3)), ls, by omega, (by rw [List.length_append]; show ts.length + 1 ≤ i + 1; omega), by omega, fun v hv => (gs7 v hv).mono tk, fun v hv => ?_, fun v hv => (gy7 v hv).mono tk⟩
          rw [List.mem_append, List.mem_singleton] at hv
          rcases hv with hv | rfl
          · exact (gt7 v hv).mono tk
          · exact ⟨tp, hr, y1, y2, wy, rfl, (by rw [ao n1]; exact af), kH, my1, my2, fun e => hne (decide_eq_true (congrArg V.str e)), hwy⟩
      · have : ((0 : Int) + (i : Int)) = 0 := by injection of_decide_eq_true hk
        omega
      · rw [decide_eq_true_iff] at h24
        omega
    · rintro σ H6 ⟨ss, ts, ys, e1, e2, e3, e4, e5, e6, e7, e8, e9, rfl, hs6, ht6, hy6, kp, ls, li, lt, ly, gs, gt, gy⟩
      rw [Int.toNat_natCast] at li lt ly
      refine ⟨_, rfl, k tt S Tt Y ss ts ys H6 (fun b o e => keep kp e) fU fS fT fY ?_ (kp _ _ hU5 nuS nuT nuY) hs6 ht6 hy6 ls (by omega) (by omega) gs gt gy⟩
      simp only [List.nodup_cons, List.mem_cons, List.not_mem_nil, or_false, not_or, List.nodup_nil, and_true, not_false_eq_true]
      exact ⟨⟨nuS, nuT, nuY⟩, ⟨nST, nSY⟩, nTY⟩
end
def BF (kvs : List (Key × V)) : Prop := ∀ (z : Str) (v : V), dC kvs (Sum.inr z) = some v → ∃ i : Int, v = .int i
inductive tX  (vs : List V) (H : Hp) (Q : VK) : Prop
  | mk (y d : Addr) (ys : List V) (sd : List SD) (kvs : List (Key × V)) (h0 : vs = [.ref y, .ref d]) (h1 : H y = some (.lst ys)) (h2 : Sys H ys sd) (h3 : H d = some (.dK kvs)) (h4 : BF kvs) (h5 : ∀ (b : Bool) H', au H H' → Q (.bl b) H')
def kB  : Sp := fun vs H Q _ => tX  vs H Q
section
variable {P : Program} {w : World} {K : PySem.W.Frag} {mg : Str → Option Value} {base : Heap} {kw C : Addr}
theorem ni : aB ["_law_sayings", "_law_found", "_law_row"] ["_law_sayings", "_law_found"] (aa cO) := {}
theorem qD {f : Addr} {fd : FuncData} (D : Df K mg "_law_knew_so" cO ["_law_sayings", "_law_found"] f fd) : Gd P w K mg base 1 "_law_knew_so" kB := by
  refine J.aP D ni (fun vs H Q E h => ?_) (fun X H vs Q E hh h => ?_)
  · obtain ⟨y, d, ys, sd, kvs, rfl, _⟩ := h
    rfl
  · obtain ⟨y, m, ys, sd, kvs, rfl, hy, sy, hm, id, k⟩ := h
    have S0 := hh.sl 0 "_law_sayings"
    have S1 := hh.sl 1 "_law_found"
    have S2 := hh.sl 2 "_law_row"
    have hu := gA hh.room
    refine ⟨_, (J.ah (J.cA hh.own hh.calm (J.bh (J.rd S0)) (J.fE S2 hh.nd)
 (J.ak (J.bp (J.dN (J.di (J.aI J.bN (J.aw J.aD (J.rd S2) J.ag J.az) J.ba (L2.aH _)) (J.dv (J.dN (J.fq (J.mD hu (J.aw J.aD (J.rd S2) J.ag J.az) (J.rd S1)) (J.d7 (J.aI J.lB (J.sL hu (J.rd S1) (J.aw J.aD (J.rd S2) J.ag J.az) J.qB) (J.aw J.aD (J.rd S2) J.ag J.az) (L2.aH _))))))))
 (J.ak (J.aE J.dk))
 J.aM)))
 (J.ak (J.aE J.dk))), ?_⟩
    refine ⟨_, rfl, y, rfl, ⟨_, aJ.of hy⟩, cS (K := X.K) (a := y) (xs := ys) (fun i σ H2 => ∃ e : Option V, σ = [some (.ref y), some (.ref m), e] ∧ au H H2)
      ⟨none, rfl, au.refl _⟩ ?_ ?_ ?_⟩
    · rintro i σ H2 hi ⟨e, rfl, s2⟩
      exact aJ.of (s2 _ _ hy)
    · rintro i v σ H2 hv ⟨e, rfl, s2⟩
      obtain ⟨d, a, hd, rfl, ha⟩ := sy.at hv
      have ha2 := s2 _ _ ha
      have hm2 := s2 _ _ hm
      cases d with
      | unh q i' => exact ⟨_, rfl, a, _, _, _, rfl, rfl, aL.of ha2, rfl, rfl, _, rfl, bT (by decide +kernel) (bY ⟨_, rfl, s2⟩)⟩
      | sil q b e' => exact ⟨_, rfl, a, _, _, _, rfl, rfl, aL.of ha2, rfl, rfl, _, rfl, bT (by decide +kernel) (bY ⟨_, rfl, s2⟩)⟩
      | bar q q' => exact ⟨_, rfl, a, _, _, _, rfl, rfl, aL.of ha2, rfl, rfl, _, rfl, bT (by decide +kernel) (bY ⟨_, rfl, s2⟩)⟩
      | knew q h =>
        have dg := eB.k (k := Sum.inr q) hm2
        have iv := id q
        generalize dC kvs (Sum.inr q) = o at dg iv
        refine ⟨_, rfl, a, _, _, _, rfl, rfl, aL.of ha2, rfl, rfl, _, rfl, cB (by decide +kernel) ⟨_, rfl, a, _, _, _, rfl, rfl, aL.of ha2, rfl, _, rfl, m, _, rfl, dg, _, rfl, ?_⟩⟩
        cases o with
        | none => exact cB rfl (cP (k false _ s2))
        | some v =>
          obtain ⟨j, rfl⟩ := iv v rfl
          exact bT Bool.false_ne_true ⟨_, rfl, _, rfl, a, _, _, _, rfl, rfl, aL.of ha2, rfl, m, _, rfl, dg, _, rfl, a, _, _, _, rfl, rfl, aL.of ha2, rfl, _, _, rfl, rfl, _, rfl, cH (fun _ => k false _ s2) (fun _ => ⟨_, rfl, s2⟩)⟩
    · rintro σ H2 ⟨e, rfl, s2⟩
      exact k true _ s2
end
abbrev FH := Str → Option Int
def mv : Option Int → Nat
  | none => 1000000000000000002
  | some i => i.toNat
def nv : Option Int → Nat
  | none => 1
  | some _ => 0
def mu (g : Option Int → Nat) (F : FH) : List Str → Nat
  | [] => 0
  | z :: r => g (F z) + mu g F r
def iQ (F : FH) (z : Str) (h : Int) : FH := fun y => if y = z then some h else F y
theorem da {F : FH} {z : Str} {h : Int} : iQ F z h z = some h := if_pos rfl
theorem dq {F : FH} {z y : Str} {h : Int} (n : ¬ y = z) : iQ F z h y = F y := if_neg n
theorem vP {g : Option Int → Nat} {F : FH} {z : Str} {h : Int} (l : g (some h) ≤ g (F z)) : ∀ ps : List Str, mu g (iQ F z h) ps ≤ mu g F ps
  | [] => Nat.le_refl _
  | y :: r => by
    have ih := vP l r
    show g (iQ F z h y) + mu g (iQ F z h) r ≤ g (F y) + mu g F r
    by_cases e : y = z
    · subst e
      rw [da]
      omega
    · rw [dq e]
      omega
theorem vc {g : Option Int → Nat} {F : FH} {z : Str} {h : Int} (l : g (some h) < g (F z)) : ∀ ps : List Str, z ∈ ps → mu g (iQ F z h) ps < mu g F ps
  | [], m => by cases m
  | y :: r, m => by
    have ih := vP (Nat.le_of_lt l) r
    show g (iQ F z h y) + mu g (iQ F z h) r < g (F y) + mu g F r
    by_cases e : y = z
    · subst e
      rw [da]
      omega
    · rw [dq e]
      rcases List.mem_cons.mp m with e' | m'
      · exact absurd e'.symm e
      · have := vc l r m'
        omega
theorem rY : ∀ ps : List Str, mu nv (fun _ => none) ps = ps.length
  | [] => rfl
  | z :: r => by
    show 1 + mu nv (fun _ => none) r = r.length + 1
    rw [rY r]
    omega
structure vH (R : Str → Int → Prop) (ps : List Str) (kvs : List (Key × V)) (F : FH) : Prop where
  get : ∀ z, dC kvs (Sum.inr z) = (F z).map V.int
  ok : ∀ z i, F z = some i → bo i
  rc : ∀ z i, F z = some i → R z i
  len : kvs.length + mu nv F ps ≤ ps.length
theorem vH.new {R : Str → Int → Prop} {ps : List Str} : vH R ps [] (fun _ => none) := ⟨fun _ => rfl, (fun _ _ e => by cases e), (fun _ _ e => by cases e), by rw [rY]; show 0 + _ ≤ _; omega⟩
theorem vH.put {R : Str → Int → Prop} {ps : List Str} {kvs : List (Key × V)} {F : FH} {z : Str} {h : Int} (d : vH R ps kvs F) (hz : z ∈ ps) (hh : bo h) (hc : R z h) : vH R ps (putK kvs (Sum.inr z) (.int h)) (iQ F z h) := by
  refine ⟨fun y => ?_, fun y i e => ?_, fun y i e => ?_, ?_⟩
  · rw [gI]
    by_cases e : y = z
    · subst e
      rw [if_pos rfl, da]
      rfl
    · rw [if_neg (fun q => e (Sum.inr.inj q)), dq e]
      exact d.get y
  · by_cases q : y = z
    · subst q
      rw [da] at e
      cases e
      exact hh
    · rw [dq q] at e
      exact d.ok y i e
  · by_cases q : y = z
    · subst q
      rw [da] at e
      cases e
      exact hc
    · rw [dq q] at e
      exact d.rc y i e
  · have dl := d.len
    unfold putK
    rw [gC, d.get z]
    cases hF : F z with
    | none =>
      have := vc (g := nv) (F := F) (z := z) (h := h) (by rw [hF]; exact Nat.zero_lt_one) ps hz
      show (kvs ++ [_]).length + _ ≤ _
      rw [List.length_append]
      show kvs.length + 1 + _ ≤ _
      omega
    | some j =>
      have := vP (g := nv) (F := F) (z := z) (h := h) (Nat.zero_le _) ps
      show (kvs.map _).length + _ ≤ _
      rw [List.length_map]
      omega
def Cm (F : FH) (g : GD) : Prop := ∃ j, F g.1 = some j ∧ j ≤ g.2
def Bx (qd : List QD) (F : FH) (t : TK) : Prop := ∀ a, F t.2.1 = some a → a < dQ qd t.1 → ∃ b, F t.2.2 = some b ∧ b ≤ dQ qd t.1
theorem Cm.set {F : FH} {g : GD} {z : Str} {m : Int} (h : Cm F g) (l : ∀ j, F z = some j → m ≤ j) : Cm (iQ F z m) g := by
  obtain ⟨j, e, k⟩ := h
  by_cases q : g.1 = z
  · have := l j (by rw [← q]; exact e)
    exact ⟨m, (by rw [q]; exact da), by omega⟩
  · exact ⟨j, (by rw [dq q]; exact e), k⟩
def oW (sg : List GD) (F : FH) (ix : List Nat) : Prop := ∀ i ∈ ix, ∀ g, sg[i]? = some g → Cm F g
theorem oW.set {sg : List GD} {F : FH} {ix : List Nat} {z : Str} {m : Int} (h : oW sg F ix) (l : ∀ j, F z = some j → m ≤ j) : oW sg (iQ F z m) ix := fun i hi g hg => (h i hi g hg).set l
theorem mP {α : Type} {l : List α} {i : Nat} {x y : α} (h : l[i]? = some x) (m : y ∈ l.take (i + 1)) : y ∈ l.take i ∨ y = x := by
  rw [List.take_add_one, h, List.mem_append] at m
  rcases m with m | m
  · exact .inl m
  · exact .inr (List.mem_singleton.mp m)
inductive gw (sg : List GD) (qd : List QD) (ix : List Nat) (ks : List TK) : Str → Int → Prop
  | saw {i : Nat} {g : GD} (m : i ∈ ix) (e : sg[i]? = some g) : gw sg qd ix ks g.1 g.2
  | hrd {t : TK} {h' : Int} (m : t ∈ ks) (r : gw sg qd ix ks t.2.1 h') (l : h' < dQ qd t.1) : gw sg qd ix ks t.2.2 (dQ qd t.1)
inductive Dp (vs : List V) (H : Hp) (Q : VK) : Prop
  | mk (th nb tl s t y : Addr) (ps : List Str) (ss ts us : List V) (sg : List GD) (qd : List QD) (ix : List Nat) (ks : List TK) (e : vs = [.ref th, .ref nb, .ref tl]) (hth : H th = some (.tup [.ref s, .ref t, .ref y])) (hs : H s = some (.lst ss)) (ht : H t = some (.lst ts)) (hnb : H nb = some (.lst (ix.map fun i => V.int (i : Nat)))) (htl : H tl = some (.lst us))
      (gs : Lz cI H ss sg) (gk : ∀ d ∈ sg, d.1 ∈ ps ∧ bo d.2) (qs : Lz dc H ts qd) (qk : ∀ d ∈ qd, bo d.1) (tu : eF H us ks) (kk : ∀ t ∈ ks, t.1 < qd.length ∧ t.2.2 ∈ ps) (ik : ∀ i ∈ ix, i < sg.length) (pl : ps.length ≤ 24)
      (k : ∀ (d : Addr) (kvs : List (Key × V)) (F : FH) (H' : Hp), au H H' → H d = none → H' d = some (.dK kvs) → vH (gw sg qd ix ks) ps kvs F → oW sg F ix → (∀ t ∈ ks, Bx qd F t) → Q (.ref d) H')
def rq : Sp := fun vs H Q _ => Dp vs H Q
inductive DC (R : Str → Int → Prop) (th nb tl s t y d : Addr) (H1 : Hp) (ps : List Str) (sg : List GD) (ix : List Nat) (i : Nat) (σ : St) (H2 : Hp) : Prop
  | mk (e1 : Option V) (kvs : List (Key × V)) (F : FH) (e : σ = [some (.ref th), some (.ref nb), some (.ref tl), some (.ref s), some (.ref t), some (.ref y), some (.ref d), e1, none, none, none, none, none]) (kp : ∀ b o, H1 b = some o → b ≠ d → H2 b = some o) (hd : H2 d = some (.dK kvs)) (hr : vH R ps kvs F) (so : oW sg F (ix.take i))
inductive DH (R : Str → Int → Prop) (th nb tl s t y d : Addr) (H1 : Hp) (ps : List Str) (sg : List GD) (qd : List QD) (ix : List Nat) (ks : List TK) (m : Nat) (σ : St) (H2 : Hp) : Prop
  | mk (b : Bool) (e1 e2 e3 e4 e5 : Option V) (kvs : List (Key × V)) (F : FH) (e : σ = [some (.ref th), some (.ref nb), some (.ref tl), some (.ref s), some (.ref t), some (.ref y), some (.ref d), e1, some (.bl b), e2, e3, e4, e5]) (kp : ∀ b o, H1 b = some o → b ≠ d → H2 b = some o) (hd : H2 d = some (.dK kvs)) (hr : vH R ps kvs F) (so : oW sg F ix) (to : b = false → ∀ t ∈ ks, Bx qd F t) (me : m = 2 * mu mv F ps + b.toNat)
inductive C9 (R : Str → Int → Prop) (th nb tl s t y d : Addr) (H1 : Hp) (ps : List Str) (sg : List GD) (qd : List QD) (ix : List Nat) (ks : List TK) (F0 : FH) (i : Nat) (σ : St) (H2 : Hp) : Prop
  | mk (b : Bool) (e1 e2 e3 e4 e5 : Option V) (kvs : List (Key × V)) (F : FH) (e : σ = [some (.ref th), some (.ref nb), some (.ref tl), some (.ref s), some (.ref t), some (.ref y), some (.ref d), e1, some (.bl b), e2, e3, e4, e5]) (kp : ∀ b o, H1 b = some o → b ≠ d → H2 b = some o) (hd : H2 d = some (.dK kvs)) (hr : vH R ps kvs F) (so : oW sg F ix) (to : b = false → F = F0 ∧ ∀ t ∈ ks.take i, Bx qd F t) (me : b = true → mu mv F ps < mu mv F0 ps)
section
variable {P : Program} {w : World} {K : PySem.W.Frag} {mg : Str → Option Value} {base : Heap} {kw C : Addr}
theorem pU : aB ["_law_things_here", "_law_numbers", "_law_tellings_here", "_law_sights", "_law_talks", "_law_sayings", "_law_found", "_law_i", "_law_changing", "_law_k", "_law_teller", "_law_hearer", "_law_when"] ["_law_things_here", "_law_numbers", "_law_tellings_here"] (aa d3) := {}
theorem uX {f : Addr} {fd : FuncData} (D : Df K mg "_law_hours" d3 ["_law_things_here", "_law_numbers", "_law_tellings_here"] f fd) (T : Txt K mg kw C) : Gd P w K mg base 1 "_law_hours" rq := by
  refine J.aP D pU (fun vs H Q E h => ?_) (fun X H vs Q E hh h => ?_)
  · obtain ⟨th, nb, tl, s, t, y, ps, ss, ts, us, sg, qd, ix, ks, rfl, _⟩ := h
    rfl
  · obtain ⟨th, nb, tl, s, t, y, ps, ss, ts, us, sg, qd, ix, ks, rfl, hth, hs, ht, hnb, htl, gs, gk, qs, qk, tu, kk, ik, pl, k⟩ := h
    have S0 := hh.sl 0 "_law_things_here"
    have S1 := hh.sl 1 "_law_numbers"
    have S2 := hh.sl 2 "_law_tellings_here"
    have S3 := hh.sl 3 "_law_sights"
    have S4 := hh.sl 4 "_law_talks"
    have S5 := hh.sl 5 "_law_sayings"
    have S6 := hh.sl 6 "_law_found"
    have S7 := hh.sl 7 "_law_i"
    have S8 := hh.sl 8 "_law_changing"
    have S9 := hh.sl 9 "_law_k"
    have S10 := hh.sl 10 "_law_teller"
    have S11 := hh.sl 11 "_law_hearer"
    have S12 := hh.sl 12 "_law_when"
    have B_min := hh.b T.b_min
    have hu := gA hh.room
    have hsz : sizeLine = 16777216 := sizeLine_eq
    have small : ∀ {kvs : List (Key × V)} {F : FH}, vH (gw sg qd ix ks) ps kvs F → kvs.length < sizeLine := fun hr => by
      have := hr.len
      omega
    clear hsz
    refine ⟨_, (J.ah (J.asg (J.rd S0) (J.dX hh.calm (J.bO (J.fE S3 hh.nd) (J.bO (J.fE S4 hh.nd) (J.bO (J.fE S5 hh.nd) J.cD)))))
 (J.ah (J.set S6 hh.nd J.iT)
 (J.ah (J.cA hh.own hh.calm (J.bh (J.rd S1)) (J.fE S7 hh.nd)
 (J.ak (J.dput hu (J.rd S6) (J.aw J.aD (J.aw J.aX (J.rd S3) (J.rd S7) J.bf) J.ag J.az) (J.blt B_min (J.eN hh.calm) L2.nK (J.ai (J.aw J.aD (J.aw J.aX (J.rd S3) (J.rd S7) J.bf) J.ag J.az) (J.ai (J.BQ hu (J.rd S6) (J.aw J.aD (J.aw J.aX (J.rd S3) (J.rd S7) J.bf) J.ag J.az) (J.aw J.aD (J.aw J.aX (J.rd S3) (J.rd S7) J.bf) J.ag J.az)) J.ae))))))
 (J.ah (J.set S8 hh.nd J.dk)
 (J.ah (J.CH hh.own (J.rT (J.rd S8))
 (J.ah (J.set S8 hh.nd J.dk)
 (J.ak (J.cA hh.own hh.calm (J.bh (J.rd S2)) (J.dX hh.calm (J.bO (J.fE S9 hh.nd) (J.bO (J.fE S10 hh.nd) (J.bO (J.fE S11 hh.nd) J.cD))))
 (J.ah (J.set S12 hh.nd (J.aw J.aD (J.aw J.aX (J.rd S4) (J.rd S9) J.bf) J.ag J.az))
 (J.ak (J.bp (J.dN (J.di (J.ve hu (J.rd S10) (J.rd S6)) (J.di (J.aI J.iU (J.sL hu (J.rd S6) (J.rd S10) J.bf) (J.rd S12) (L2.aH _)) (J.dv (J.aI J.lB (J.BQ hu (J.rd S6) (J.rd S11) (J.aG J.cV (J.rd S12) J.ag)) (J.rd S12) (L2.aH _))))))
 (J.ah (J.dput hu (J.rd S6) (J.rd S11) (J.rd S12))
 (J.ak (J.set S8 hh.nd J.dk)))
 J.aM)))))))
 (J.ak (J.aE (J.rd S6)))))))), ?_⟩
    refine ⟨_, rfl, th, _, rfl, aL.of hth, rfl, _, _, rfl, _, _, rfl, _, _, rfl, rfl, fun d hdn => ?_⟩
    have s1 := au.upd (o := .dK []) hdn
    have hd1 : upd H d (.dK []) d = some (.dK []) := af
    generalize upd H d (.dK []) = H1 at s1 hd1
    have keep : ∀ {b : Addr} {o : HO} {H2 : Hp}, (∀ b o, H1 b = some o → b ≠ d → H2 b = some o) → H b = some o → H2 b = some o := fun kp e => kp _ _ (s1 _ _ e) (aj e hdn)
    refine ⟨_, rfl, nb, rfl, ⟨_, aJ.of (s1 _ _ hnb)⟩, cS (K := X.K) (a := nb) (xs := ix.map fun i => V.int (i : Nat)) (DC (gw sg qd ix ks) th nb tl s t y d H1 ps sg ix)
      ⟨none, [], _, rfl, fun b o e _ => e, hd1, vH.new, (fun i hi => by cases hi)⟩ ?_ ?_ ?_⟩
    · rintro i σ H2 hi ⟨e1, kvs, F, rfl, kp, hd, hr, so⟩
      exact aJ.of (keep kp hnb)
    · rintro i v σ H2 hv ⟨e1, kvs, F, rfl, kp, hd, hr, so⟩
      rw [List.getElem?_map] at hv
      obtain ⟨n, hn, rfl⟩ := Option.map_eq_some_iff.mp hv
      have hnl := ik n (List.mem_of_getElem? hn)
      obtain ⟨g, hg⟩ : ∃ g, sg[n]? = some g := ⟨_, List.getElem?_eq_getElem hnl⟩
      obtain ⟨vg, hvg⟩ : ∃ vg, ss[n]? = some vg := ⟨_, List.getElem?_eq_getElem (by rw [gs.1]; exact hnl)⟩
      obtain ⟨a, ta, rfl, ha⟩ := gs.2 _ _ _ hvg hg
      have gk' := gk g (List.mem_of_getElem? hg)
      have hs2 := keep kp hs
      have ha2 := keep kp ha
      have dg := eB.k (k := Sum.inr g.1) hd
      rw [hr.get] at dg
      have put : ∀ m : Int, bo m → gw sg qd ix ks g.1 m → m ≤ g.2 → (∀ j, F g.1 = some j → m ≤ j) → DC (gw sg qd ix ks) th nb tl s t y d H1 ps sg ix (i + 1) [some (.ref th), some (.ref nb), some (.ref tl), some (.ref s), some (.ref t), some (.ref y), some (.ref d), some (.int (n : Nat)), none, none, none, none, none] (upd H2 d (.dK (putK kvs (Sum.inr g.1) (.int m)))) := fun m mo mc ml mj =>
        ⟨_, _, _, rfl, (fun b o e n' => by rw [ao n']; exact kp b o e n'), af, hr.put gk'.1 mo mc, fun q hq g' hg' => by
          rcases mP hn hq with hq | rfl
          · exact (so q hq g' hg').set mj
          · rw [hg] at hg'
            cases hg'
            exact ⟨m, da, ml⟩⟩
      have lk : kvs.length < sizeLine := small hr
      cases hF : F g.1 with
      | none =>
        rw [hF] at dg
        exact ⟨_, rfl, _, rfl, s, _, _, _, rfl, rfl, aJ.of hs2, bE hvg, a, _, _, _, rfl, rfl, aL.of ha2, rfl, _, rfl, d, rfl, .inl ⟨_, .inl hd⟩, _, rfl, _, rfl, s, _, _, _, rfl, rfl, aJ.of hs2, bE hvg, a, _, _, _, rfl, rfl, aL.of ha2, rfl, _, rfl, _, rfl, s, _, _, _, rfl, rfl, aJ.of hs2, bE hvg, a, _, _, _, rfl, rfl, aL.of ha2, rfl, _, dg, g.2, g.2, rfl, _, rfl, _, rfl, _, rfl, s, _, _, _, rfl, rfl, aJ.of hs2, bE hvg, a, _, _, _, rfl, rfl, aL.of ha2, rfl, d, _, rfl, lQ.k (k := Sum.inr g.1) hd lk, put _ (by split <;> exact gk'.2) (by split <;> exact .saw (List.mem_of_getElem? hn) hg) (by split <;> omega) (fun j e => by rw [hF] at e; cases e)⟩
      | some j =>
        rw [hF] at dg
        have jo := hr.ok _ _ hF
        exact ⟨_, rfl, _, rfl, s, _, _, _, rfl, rfl, aJ.of hs2, bE hvg, a, _, _, _, rfl, rfl, aL.of ha2, rfl, _, rfl, d, rfl, .inl ⟨_, .inl hd⟩, _, rfl, _, rfl, s, _, _, _, rfl, rfl, aJ.of hs2, bE hvg, a, _, _, _, rfl, rfl, aL.of ha2, rfl, _, rfl, _, rfl, s, _, _, _, rfl, rfl, aJ.of hs2, bE hvg, a, _, _, _, rfl, rfl, aL.of ha2, rfl, _, dg, g.2, j, rfl, _, rfl, _, rfl, _, rfl, s, _, _, _, rfl, rfl, aJ.of hs2, bE hvg, a, _, _, _, rfl, rfl, aL.of ha2, rfl, d, _, rfl, lQ.k (k := Sum.inr g.1) hd lk, put _ (by split; exact jo; exact gk'.2) (by split; exact hr.rc _ _ hF; exact .saw (List.mem_of_getElem? hn) hg) (by split <;> omega) (fun j' e => by rw [hF] at e; cases e; split <;> omega)⟩
    · rintro σ H2 ⟨e1, kvs, F, rfl, kp, hd, hr, so⟩
      rw [List.length_map, List.take_length] at so
      refine ⟨DH (gw sg qd ix ks) th nb tl s t y d H1 ps sg qd ix ks, ⟨_, true, _, _, _, _, _, _, _, rfl, kp, hd, hr, so, (fun e => by cases e), rfl⟩, ?_⟩
      clear kp hd hr so
      rintro m σ H3 ⟨b, e1, e2, e3, e4, e5, kvs, F, rfl, kp, hd, hr, so, to, me⟩
      refine ⟨_, rfl, b, rfl, ?_⟩
      cases b with
      | false => exact bY ⟨_, rfl, k d kvs F H3 (fun b o e => keep kp e) hdn hd hr so (to rfl)⟩
      | true =>
        refine cP ⟨fun σ' H' => ∃ m', m' < m ∧ DH (gw sg qd ix ks) th nb tl s t y d H1 ps sg qd ix ks m' σ' H', fun _ _ h => h, ?_⟩
        refine ⟨_, rfl, tl, rfl, ⟨_, aJ.of (keep kp htl)⟩, cS (K := X.K) (a := tl) (xs := us) (C9 (gw sg qd ix ks) th nb tl s t y d H1 ps sg qd ix ks F)
          ⟨false, _, _, _, _, _, kvs, F, rfl, kp, hd, hr, so, (fun _ => ⟨rfl, fun t ht => by cases ht⟩), fun e => by cases e⟩ ?_ ?_ ?_⟩
        · rintro i σ H4 hi ⟨b, e1, e2, e3, e4, e5, kvs, F', rfl, kp, hd, hr, so, to, me'⟩
          exact aJ.of (keep kp htl)
        · rintro i v σ H4 hv ⟨b, f1, f2, f3, f4, f5, kvs', F', rfl, kp', hd', hr', so', to', me'⟩
          obtain ⟨tk, htk⟩ : ∃ tk, ks[i]? = some tk := ⟨_, List.getElem?_eq_getElem (by rw [← tu.1]; exact (List.getElem?_eq_some_iff.mp hv).1)⟩
          obtain ⟨a, rfl, ha⟩ := tu.2 _ _ _ hv htk
          have kt := kk tk (List.mem_of_getElem? htk)
          obtain ⟨q, hq⟩ : ∃ q, qd[tk.1]? = some q := ⟨_, List.getElem?_eq_getElem kt.1⟩
          obtain ⟨vq, hvq⟩ : ∃ vq, ts[tk.1]? = some vq := ⟨_, List.getElem?_eq_getElem (by rw [qs.1]; exact kt.1)⟩
          obtain ⟨aq, rfl, haq⟩ := qs.2 _ _ _ hvq hq
          have qo := qk q (List.mem_of_getElem? hq)
          have ha4 := keep kp' ha
          have haq4 := keep kp' haq
          have ht4 := keep kp' ht
          have dt := eB.k (k := Sum.inr tk.2.1) hd'
          have dh := eB.k (k := Sum.inr tk.2.2) hd'
          rw [hr'.get] at dt dh
          have lk : kvs'.length < sizeLine := small hr'
          have fw : Bx qd F' tk → C9 (gw sg qd ix ks) th nb tl s t y d H1 ps sg qd ix ks F (i + 1) [some (.ref th), some (.ref nb), some (.ref tl), some (.ref s), some (.ref t), some (.ref y), some (.ref d), f1, some (.bl b), some (.int (tk.1 : Nat)), some (.str tk.2.1), some (.str tk.2.2), some (.int q.1)] H4 := fun ok =>
            ⟨b, _, _, _, _, _, kvs', F', rfl, kp', hd', hr', so', (fun e => ⟨(to' e).1, fun t' ht' => by
              rcases mP htk ht' with ht' | rfl
              · exact (to' e).2 t' ht'
              · exact ok⟩), me'⟩
          have put : gw sg qd ix ks tk.2.2 q.1 → mv (some q.1) < mv (F' tk.2.2) → (∀ j, F' tk.2.2 = some j → q.1 ≤ j) → C9 (gw sg qd ix ks) th nb tl s t y d H1 ps sg qd ix ks F (i + 1) [some (.ref th), some (.ref nb), some (.ref tl), some (.ref s), some (.ref t), some (.ref y), some (.ref d), f1, some (.bl true), some (.int (tk.1 : Nat)), some (.str tk.2.1), some (.str tk.2.2), some (.int q.1)] (upd H4 d (.dK (putK kvs' (Sum.inr tk.2.2) (.int q.1)))) := fun rc lt mj =>
            ⟨true, _, _, _, _, _, _, _, rfl, (fun b o e n' => by rw [ao n']; exact kp' b o e n'), af, hr'.put kt.2 qo rc, so'.set mj, (fun e => by cases e), fun _ => by
              have l1 := vc lt ps kt.2
              cases b with
              | false =>
                rw [(to' rfl).1] at l1
                rw [(to' rfl).1]
                exact l1
              | true =>
                have := me' rfl
                omega⟩
          have hh1 := gN hq
          refine ⟨a, _, rfl, aL.of ha4, rfl, _, _, rfl, _, _, rfl, _, _, rfl, rfl, ?_⟩
          refine ⟨_, rfl, _, rfl, t, _, _, _, rfl, rfl, aJ.of ht4, bE hvq, aq, _, _, _, rfl, rfl, aL.of haq4, rfl, ?_⟩
          refine ⟨_, rfl, _, rfl, d, _, rfl, dt, _, rfl, ?_⟩
          cases hT : F' tk.2.1 with
          | none => exact bT Bool.false_ne_true (bY (fw fun x e => by rw [hT] at e; cases e))
          | some x =>
            rw [hT] at dt
            refine cB rfl ⟨_, rfl, _, rfl, d, _, rfl, dt, _, rfl, _, _, rfl, rfl, _, rfl, cH (fun lt => ?_) (fun nlt => bY (fw fun x' e l => ?_))⟩
            · have rc : gw sg qd ix ks tk.2.2 q.1 := by
                have := gw.hrd (List.mem_of_getElem? htk) (hr'.rc _ _ hT) (by rw [hh1]; exact of_decide_eq_true lt)
                rwa [hh1] at this
              cases hF : F' tk.2.2 with
              | none =>
                rw [hF] at dh
                refine ⟨_, rfl, d, rfl, .inl ⟨_, .inl hd'⟩, _, rfl, _, rfl, _, _, rfl, rfl, _, dh, _, rfl, q.1 + 1, q.1, rfl, rfl, _, rfl, cB (decide_eq_true (by omega)) ⟨_, rfl, _, rfl, _, rfl, d, _, rfl, lQ.k (k := Sum.inr tk.2.2) hd' lk, put rc ?_ (fun j e => by rw [hF] at e; cases e)⟩⟩
                rw [hF]
                show q.1.toNat < 1000000000000000002
                have h18 : (10 : Int) ^ Int.toNat 18 = 1000000000000000000 := by decide
                have := qo.2
                rw [h18] at this
                omega
              | some j =>
                rw [hF] at dh
                have jo := hr'.ok _ _ hF
                refine ⟨_, rfl, d, rfl, .inl ⟨_, .inl hd'⟩, _, rfl, _, rfl, _, _, rfl, rfl, _, dh, _, rfl, j, q.1, rfl, rfl, _, rfl, cH (fun gt => ⟨_, rfl, _, rfl, _, rfl, d, _, rfl, lQ.k (k := Sum.inr tk.2.2) hd' lk, put rc ?_ ?_⟩) (fun ngt => fw fun x' e l => ?_)⟩
                · rw [hF]
                  rw [decide_eq_true_iff] at gt
                  show q.1.toNat < j.toNat
                  have := qo.1
                  omega
                · intro j' e
                  rw [hF] at e
                  cases e
                  rw [decide_eq_true_iff] at gt
                  omega
                · rw [decide_eq_true_iff] at ngt
                  exact ⟨j, hF, by rw [hh1]; omega⟩
            · rw [hT] at e
              cases e
              rw [hh1] at l
              exact absurd (decide_eq_true l) nlt
        · rintro σ H4 ⟨b, f1, f2, f3, f4, f5, kvs', F', rfl, kp', hd', hr', so', to', me'⟩
          rw [tu.1, List.take_length] at to'
          refine ⟨_, ?_, b, _, _, _, _, _, kvs', F', rfl, kp', hd', hr', so', fun e => (to' e).2, rfl⟩
          cases b with
          | false =>
            rw [(to' rfl).1, me]
            exact Nat.lt_succ_self _
          | true =>
            have := me' rfl
            rw [me]
            show 2 * _ + 1 < 2 * _ + 1
            omega
end
theorem xD {J : It} {n : Nat} {is : List Nat} {g : TG} {te : TE} {σ : St} {H : Hp} {Q : VK} {N : Nat} (R : Nat → Hp → V → Prop) (mono : ∀ j v H H', Tk H H' → R j H v → R j H' v) (hz : N ≤ sizeLine) (hgo : ∀ i H2, au H H2 → i < N → J.go i H2) (hstop : ∀ H2, au H H2 → J.stop N H2)
    (he : ∀ (i : Nat) (os : St) v H2 H3 (K1 : VK), i < N → os.length = n → au H H2 → J.yld i H2 v H3 → (∀ y H6, au H2 H6 → R i H6 y → K1 y H6) →
      g v (os ++ dE is σ) H3 fun σ' H4 => (∃ os' : St, os'.length = n ∧ σ' = os' ++ dE is σ) ∧ te σ' H4 K1)
    (gm : ∀ v σ H (Q1 Q2 : St → Hp → Prop), (∀ σ' H', Q1 σ' H' → Q2 σ' H') → g v σ H Q1 → g v σ H Q2)
    (q : ∀ D ys H', H D = none → au H H' → H' D = some (.lst ys) → ys.length = N → (∀ (j : Nat) v, ys[j]? = some v → R j H' v) → Q (.ref D) H') : ej J n is g tJ te σ H Q := by
  intro D hDn
  refine ⟨fun i m ys H2 => m = N - i ∧ i ≤ N ∧ au H H2 ∧ H2 D = some (.lst ys) ∧ ys.length = i ∧ ∀ (j : Nat) v, ys[j]? = some v → R j H2 v, ⟨_, rfl, Nat.zero_le _, au.upd hDn, af, rfl, fun j v h => by cases h⟩, ?_⟩
  rintro i m ys H2 ⟨rfl, hi, sm, hd, rfl, ra⟩
  refine ⟨hd, ?_⟩
  by_cases hlt : ys.length < N
  · refine .inr ⟨hgo _ H2 sm hlt, fun os v H3 hos y => ?_⟩
    refine gm _ _ _ _ _ (fun σ' H' h => ⟨h.1, cP (B := ∃ m', m' < N - ys.length ∧ m' = N - (ys.length + 1) ∧ ys.length + 1 ≤ N ∧ au H H' ∧ H' D = some (.lst ys) ∧ ys.length = ys.length + 1 ∧ ∀ (j : Nat) v, ys[j]? = some v → R j H' v) h.2⟩) (he _ os v H2 H3 _ hlt hos sm y fun z H6 s6 rz => ⟨s6 _ _ hd, by omega, N - (ys.length + 1), by omega, rfl, hlt, fun b o e => ?_, af, by rw [List.length_append]; rfl, fun j u hu => ?_⟩)
    · rw [ao (aj e hDn)]
      exact s6 _ _ (sm _ _ e)
    · have tk := Tk.upd (s6 _ _ hd) (ys := ys ++ [z])
      by_cases hj : j < ys.length
      · rw [List.getElem?_append_left hj] at hu
        exact mono _ _ _ _ ((Tk.of s6).trans tk) (ra j u hu)
      · have e : j = ys.length := by
          have := (List.getElem?_eq_some_iff.mp hu).1
          rw [List.length_append] at this
          have : j < ys.length + 1 := this
          omega
        subst e
        rw [List.getElem?_append_right (Nat.le_refl _), Nat.sub_self] at hu
        cases hu
        exact mono _ _ _ _ tk rz
  · have e : ys.length = N := by omega
    exact .inl ⟨by rw [e]; exact hstop H2 sm, q D ys H2 hDn sm hd e ra⟩
theorem kK {K : PySem.W.Frag} {is : List Nat} {te : TE} {σ : St} {H : Hp} {Q : VK} {a : Addr} {xs : List V} (R : Nat → Hp → V → Prop) (mono : ∀ j v H H', Tk H H' → R j H v → R j H' v) (hq : aJ K H a xs) (hz : xs.length ≤ sizeLine)
    (he : ∀ (i : Nat) v H2 (K1 : VK), xs[i]? = some v → au H H2 → (∀ y H6, au H2 H6 → R i H6 y → K1 y H6) → te ([some v] ++ dE is σ) H2 K1)
    (q : ∀ D ys H', H D = none → au H H' → H' D = some (.lst ys) → ys.length = xs.length → (∀ (j : Nat) v, ys[j]? = some v → R j H' v) → Q (.ref D) H') : ej (xF K a) 1 is (dZ 0) tJ te σ H Q :=
  xD R mono hz (fun i H2 sm hi => ⟨xs, xs[i], sm.seq hq, by simp [hi]⟩) (fun H2 sm => ⟨xs, sm.seq hq, Nat.le_refl _⟩) (fun i os v H2 H3 K1 hi hos sm y k1 => by
    obtain ⟨rfl, y⟩ := y
    match os, hos with
    | [o], _ => exact ⟨⟨[some v], rfl, rfl⟩, he i v _ K1 (y xs (sm.seq hq)) sm k1⟩) (fun _ _ _ _ _ h k => h _ _ k) q
theorem wQ {i : Nat} {v : V} {tc : TT} {u t2 : TS} {D : Ends} {σ : St} {H : Hp} (R : St → Hp → Prop) (hR : ∀ σ' H', R σ' H' → t2 D σ' H') (b : Bool) (hc : ∀ Q : Bool → Hp → Prop, Q b H → tc (σ.set i (some v)) H Q) (h1 : b = true → (∀ σ' H', R σ' H' → t2 D σ' H') → u { D with nx := t2 D } (σ.set i (some v)) H) (h2 : b = false → R (σ.set i (some v)) H) :
    dZ i v σ H (fun σ2 H2 => uz (uP tc u pH) t2 D σ2 H2) := by
  refine hc _ ?_
  cases b with
  | true => exact cP (h1 rfl hR)
  | false => exact bY (hR _ _ (h2 rfl))
theorem Lz.snoc {α : Type} {R : Hp → V → α → Prop} {H : Hp} {xs : List V} {ds : List α} {v : V} {d : α} (h : Lz R H xs ds) (hv : R H v d) : Lz R H (xs ++ [v]) (ds ++ [d]) := by
  refine ⟨by rw [List.length_append, List.length_append, h.1]; rfl, fun i u e hu he => ?_⟩
  by_cases hi : i < xs.length
  · rw [List.getElem?_append_left hi] at hu
    rw [List.getElem?_append_left (by rw [← h.1]; exact hi)] at he
    exact h.2 i u e hu he
  · rw [List.getElem?_append_right (by omega)] at hu
    rw [List.getElem?_append_right (by rw [← h.1]; omega), ← h.1] at he
    obtain ⟨h1, h2⟩ := List.getElem?_eq_some_iff.mp hu
    have h0 : i - xs.length = 0 := by
      have : i - xs.length < 1 := h1
      omega
    rw [h0] at hu he
    cases hu
    cases he
    exact hv
theorem qR {ps : List Str} {qd : List QD} (qk : ∀ d ∈ qd, qI ps d) {tk : TK} (h : tk ∈ fc 0 (fR qd)) : ∃ q, qd[tk.1]? = some q ∧ tk.2.1 ∈ ps ∧ tk.2.2 ∈ ps := by
  obtain ⟨j, d', hj, e1, e2⟩ := m9 h
  unfold fR at hj
  rw [List.getElem?_map] at hj
  obtain ⟨q, hq, rfl⟩ := Option.map_eq_some_iff.mp hj
  have qo := qk q (List.mem_of_getElem? hq)
  rw [Nat.zero_add] at e1
  refine ⟨q, (by rw [e1]; exact hq), ?_⟩
  rcases e2 with e2 | e2
  · rw [e2]
    exact ⟨qo.2.1, qo.2.2.1⟩
  · rw [e2]
    exact ⟨qo.2.2.1, qo.2.1⟩
section
variable {P : Program} {w : World} {K : PySem.W.Frag} {mg : Str → Option Value} {base : Heap} {kw C : Addr}
inductive CU (C : Addr) (vs : List V) (H : Hp) (Q : VK) : Prop
  | mk (nl th s t y : Addr) (ps : List Str) (ss ts ys : List V) (e : vs = [.ref nl, .ref th]) (hn : H nl = some (.lst (ps.map V.str))) (hth : H th = some (.tup [.ref s, .ref t, .ref y])) (hs : H s = some (.lst ss)) (ht : H t = some (.lst ts)) (hy : H y = some (.lst ys)) (pa : Parts H ps ss ts ys)
      (k : ∀ (x p' s' t' y' : Addr) (H' : Hp), au H H' → H x = none → Bk C H' x p' s' t' y' ps ss ts ys → Q (.ref x) H')
def vp (C : Addr) : Sp := fun vs H Q _ => CU C vs H Q
theorem tV : aB ["_law_names_here", "_law_things_here"] ["_law_names_here", "_law_things_here"] (aa fb) := {}
theorem wV {f : Addr} {fd : FuncData} (D : Df K mg "_law_book" fb ["_law_names_here", "_law_things_here"] f fd) (T : Txt K mg kw C) (G_Book : Kd P w K mg base 7 "Book" C (qY C)) : Gd P w K mg base 9 "_law_book" (vp C) := by
  refine J.aP D tV (fun vs H Q E h => ?_) (fun X H vs Q E hh h => ?_)
  · obtain ⟨nl, th, s, t, y, ps, ss, ts, ys, rfl, _⟩ := h
    rfl
  · obtain ⟨nl, th, s, t, y, ps, ss, ts, ys, rfl, hn, hth, hs, ht, hy, pa, k⟩ := h
    have S0 := hh.sl 0 "_law_names_here"
    have S1 := hh.sl 1 "_law_things_here"
    have B_list := hh.b T.b_list
    have K_Book := hh.CP G_Book rfl (by decide) (by decide)
    refine ⟨_, (J.ak (J.aE (J.CP K_Book (J.ai (J.ir B_list J.aV L2.cE (J.ai (J.rd S0) J.ae)) (J.ai (J.ir B_list J.aV L2.cE (J.ai (J.aw J.aD (J.rd S1) J.ag J.az) J.ae)) (J.ai (J.ir B_list J.aV L2.cE (J.ai (J.aw J.aD (J.rd S1) J.ag J.az) J.ae)) (J.ai (J.ir B_list J.aV L2.cE (J.ai (J.aw J.aD (J.rd S1) J.ag J.az) J.ae)) J.ae))))))), ?_⟩
    refine ⟨_, rfl, nl, _, rfl, .inl (aJ.of hn), fun l1 n1 => ?_⟩
    have s1 := au.upd (o := .lst (ps.map V.str)) n1
    have k1 : upd H l1 (.lst (ps.map V.str)) l1 = some (.lst (ps.map V.str)) := af
    generalize upd H l1 (.lst (ps.map V.str)) = H1 at s1 k1
    refine ⟨_, rfl, th, _, _, _, rfl, rfl, aL.of (s1 _ _ hth), rfl, s, _, rfl, .inl (aJ.of (s1 _ _ hs)), fun l2 n2 => ?_⟩
    have s2 := au.upd (o := .lst ss) n2
    have k2 : upd H1 l2 (.lst ss) l2 = some (.lst ss) := af
    generalize upd H1 l2 (.lst ss) = H2 at s2 k2
    have t2 := s1.trans s2
    refine ⟨_, rfl, th, _, _, _, rfl, rfl, aL.of (t2 _ _ hth), rfl, t, _, rfl, .inl (aJ.of (t2 _ _ ht)), fun l3 n3 => ?_⟩
    have s3 := au.upd (o := .lst ts) n3
    have k3 : upd H2 l3 (.lst ts) l3 = some (.lst ts) := af
    generalize upd H2 l3 (.lst ts) = H3 at s3 k3
    have t3 := t2.trans s3
    refine ⟨_, rfl, th, _, _, _, rfl, rfl, aL.of (t3 _ _ hth), rfl, y, _, rfl, .inl (aJ.of (t3 _ _ hy)), fun l4 n4 => ?_⟩
    have s4 := au.upd (o := .lst ys) n4
    have k4 : upd H3 l4 (.lst ys) l4 = some (.lst ys) := af
    generalize upd H3 l4 (.lst ys) = H4 at s4 k4
    have t4 := t3.trans s4
    intro x dx nx ndx nex
    have s5 : au H4 (upd (upd H4 dx (.own x)) x (.ins C dx [])) := fun b o e => by
      rw [ao (aj e nx), ao (aj e ndx)]
      exact e
    have t5 := t4.trans s5
    refine ⟨x, dx, l1, l2, l3, l4, ps, ss, ts, ys, rfl, af, s5 _ _ (s4 _ _ (s3 _ _ (s2 _ _ k1))), s5 _ _ (s4 _ _ (s3 _ _ k2)), s5 _ _ (s4 _ _ k3), s5 _ _ k4, pa.mono (Tk.of t5), fun p' s' t' y' H6 _ _ _ _ bk kp => ⟨rfl, ?_⟩⟩
    exact k x p' s' t' y' H6 (fun b o e => kp b o (t5 _ _ e) (aj e (t4.free nx))) (t4.free nx) bk
end
structure qg (ps : List Str) (H : Hp) (th s t y : Addr) (ss ts ys : List V) : Prop where
  hth : H th = some (.tup [.ref s, .ref t, .ref y])
  hs : H s = some (.lst ss)
  ht : H t = some (.lst ts)
  hy : H y = some (.lst ys)
  ls : ss.length ≤ 24
  lt : ts.length ≤ 60
  ly : ys.length ≤ 60
  gs : ∀ v ∈ ss, cY ps H v
  gt : ∀ v ∈ ts, d5 ps H v
  gy : ∀ v ∈ ys, eX ps H v
theorem qg.mono {ps : List Str} {H H' : Hp} {th s t y : Addr} {ss ts ys : List V} (sm : au H H') (o : qg ps H th s t y ss ts ys) : qg ps H' th s t y ss ts ys :=
  ⟨sm _ _ o.hth, sm _ _ o.hs, sm _ _ o.ht, sm _ _ o.hy, o.ls, o.lt, o.ly, fun v hv => (o.gs v hv).mono (Tk.of sm), fun v hv => (o.gt v hv).mono (Tk.of sm), fun v hv => (o.gy v hv).mono (Tk.of sm)⟩
theorem tO (us : List Int) (lo hi : Option Int) : gZ (us.map V.int) lo hi = (((us.drop (HT.jY us.length 0 lo)).take (HT.jY us.length us.length hi - HT.jY us.length 0 lo))).map V.int := by
  unfold gZ
  rw [List.length_map, List.map_take, List.map_drop]
theorem pE (us : List Int) {k : Int} (h0 : 0 ≤ k) : ∃ vs : List Int, gZ (us.map V.int) none (some k) = vs.map V.int ∧ vs.length ≤ k.toNat := by
  refine ⟨_, tO .., ?_⟩
  have e : HT.jY us.length us.length (some k) = min k.toNat us.length := by
    show (if k < 0 then (k + (us.length : Int)).toNat else min k.toNat us.length) = _
    rw [if_neg (Int.not_lt.mpr h0)]
  rw [List.length_take, List.length_drop, HT.vR, e]
  exact Nat.le_trans (Nat.min_le_left _ _) (Nat.le_trans (Nat.sub_le _ _) (Nat.min_le_left _ _))
theorem vJ {K : PySem.W.Frag} {is : List Nat} {tc : TT} {te : TE} {σ : St} {H : Hp} {Q : VK} {a : Addr} {xs : List V} (hq : aJ K H a xs) (hz : xs.length ≤ sizeLine)
    (he : ∀ (i : Nat) v H2 (K1 : VK) (K2 : Hp → Prop), xs[i]? = some v → au H H2 → (∀ H6, au H2 H6 → K1 v H6) → (∀ H5, au H2 H5 → K2 H5) → tc ([some v] ++ dE is σ) H2 fun b H5 => if b = true then te ([some v] ++ dE is σ) H5 K1 else K2 H5)
    (q : ∀ D ys H', H D = none → au H H' → H' D = some (.lst ys) → ys.length ≤ xs.length → (∀ v ∈ ys, v ∈ xs) → Q (.ref D) H') : ej (xF K a) 1 is (dZ 0) tc te σ H Q := by
  intro D hDn
  refine ⟨fun i m ys H2 => m = xs.length - i ∧ i ≤ xs.length ∧ au H H2 ∧ H2 D = some (.lst ys) ∧ ys.length ≤ i ∧ ∀ v ∈ ys, v ∈ xs, ⟨_, rfl, Nat.zero_le _, au.upd hDn, af, Nat.le_refl 0, fun v h => by cases h⟩, ?_⟩
  rintro i m ys H2 ⟨rfl, hi, sm, hd, yl, ya⟩
  refine ⟨hd, ?_⟩
  by_cases hlt : i < xs.length
  · refine .inr ⟨⟨xs, xs[i], sm.seq hq, by simp [hlt]⟩, fun os v H3 hos y => ?_⟩
    obtain ⟨rfl, y⟩ := y
    have hv := y xs (sm.seq hq)
    match os, hos with
    | [o], _ =>
      refine ⟨⟨[some v], rfl, rfl⟩, he i v _ _ _ hv sm (fun H6 s6 => ⟨s6 _ _ hd, by omega, xs.length - (i + 1), by omega, rfl, hlt, fun b o e => ?_, af, ?_, fun u hu => ?_⟩) (fun H5 s5 => ⟨xs.length - (i + 1), by omega, rfl, hlt, sm.trans s5, s5 _ _ hd, by omega, ya⟩)⟩
      · rw [ao (aj e hDn)]
        exact s6 _ _ (sm _ _ e)
      · rw [List.length_append]
        show ys.length + 1 ≤ i + 1
        omega
      · rcases List.mem_append.mp hu with hu | hu
        · exact ya u hu
        · rw [List.mem_singleton.mp hu]
          exact List.mem_of_getElem? hv
  · have e : i = xs.length := by omega
    subst e
    exact .inl ⟨⟨xs, sm.seq hq, Nat.le_refl _⟩, q D ys H2 hDn sm hd yl ya⟩
theorem xv {tc : TT} {u t2 : TS} {D : Ends} {σ : St} {H : Hp} (R : St → Hp → Prop) (hR : ∀ σ' H', R σ' H' → t2 D σ' H') (b : Bool) (hc : ∀ Q : Bool → Hp → Prop, Q b H → tc σ H Q) (h1 : b = true → (∀ σ' H', R σ' H' → t2 D σ' H') → u { D with nx := t2 D } σ H) (h2 : b = false → R σ H) :
    uz (uP tc u pH) t2 D σ H := by
  refine hc _ ?_
  cases b with
  | true => exact cP (h1 rfl hR)
  | false => exact bY (hR _ _ (h2 rfl))
theorem CM {H : Hp} {v : V} {d : SD} (h : qj H v d) : Sys H [v] [d] := ⟨rfl, fun i u e hu he => by
  cases i with
  | zero =>
    cases hu
    cases he
    exact h
  | succ i => cases hu⟩
inductive Cv (K : PySem.W.Frag) (vs : List V) (H : Hp) (Q : VK) : Prop
  | mk (sc : Addr) (ns : List Int) (e : vs = [.ref sc, .int 60]) (hsc : aJ K H sc (ns.map V.int)) (n63 : ns.length ≤ 63)
      (k : ∀ (r nl th s t y : Addr) (W : Int) (ps : List Str) (ss ts ys : List V) (H' : Hp), au H H' → H' r = some (.tup [.int W, .ref nl, .ref th]) → 0 ≤ W → W < 2147483647 → H' nl = some (.lst (ps.map V.str)) → eD ps → qg ps H' th s t y ss ts ys → Q (.ref r) H')
def vA (K : PySem.W.Frag) : Sp := fun vs H Q _ => Cv K vs H Q
section
variable {P : Program} {w : World} {K : PySem.W.Frag} {mg : Str → Option Value} {base : Heap} {kw C : Addr}
theorem qc : aB ["_law_script", "_law_most", "_law_whole_here", "_law_names_here", "_law_things_here", "_law_numbers", "_law_tellings_here", "_law_found", "_law_kept"] ["_law_script", "_law_most"] (aa dP) := {}
theorem wo {f : Addr} {fd : FuncData} (D : Df K mg "_law_drawn" dP ["_law_script", "_law_most"] f fd) (T : Txt K mg kw C) (G__law_mix : Gd P w K mg base 1 "_law_mix" rp) (G__law_names : Gd P w K mg base 1 "_law_names" ku) (G__law_clock : Gd P w K mg base 1 "_law_clock" nG) (G__law_things : Gd P w K mg base 2 "_law_things" kO) (G__law_open : Gd P w K mg base 3 "_law_open" j3) (G__law_hours : Gd P w K mg base 1 "_law_hours" rq) (G__law_knew_so : Gd P w K mg base 1 "_law_knew_so" kB) : Gd P w K mg base 4 "_law_drawn" (vA K) := by
  refine J.aP D qc (fun vs H Q E h => ?_) (fun X H vs Q E hh h => ?_)
  · obtain ⟨sc, ns, rfl, _⟩ := h
    rfl
  · obtain ⟨sc, ns, rfl, hsc, n63, k⟩ := h
    rw [← hh.fK] at hsc
    have S0 := hh.sl 0 "_law_script"
    have S1 := hh.sl 1 "_law_most"
    have S2 := hh.sl 2 "_law_whole_here"
    have S3 := hh.sl 3 "_law_names_here"
    have S4 := hh.sl 4 "_law_things_here"
    have S5 := hh.sl 5 "_law_numbers"
    have S6 := hh.sl 6 "_law_tellings_here"
    have S7 := hh.sl 7 "_law_found"
    have S8 := hh.sl 8 "_law_kept"
    have B_int := hh.b T.b_int
    have B_sum := hh.b T.b_sum
    have C__law_clock := hh.c G__law_clock
    have C__law_hours := hh.c G__law_hours
    have C__law_mix := hh.c G__law_mix
    have C__law_names := hh.c G__law_names
    have C__law_open := hh.c G__law_open
    have C__law_things := hh.c G__law_things
    have CI__law_knew_so := hh.ci G__law_knew_so
    have hsz : sizeLine = 16777216 := sizeLine_eq
    refine ⟨_, (J.ah (J.set S2 hh.nd (J.cF C__law_mix (J.ai (J.blt B_sum (J.gL hh.calm) L2.wm (J.ai (J.gJ J.iO (J.rd S0) J.i9 (J.iG J.ag)) J.ae)) (J.ai J.ag J.ae))))
 (J.ah (J.set S3 hh.nd (J.cF C__law_names (J.ai (J.rd S2) (J.ai (J.aw J.aX (J.dS (J.ai (J.aG J.cV J.ag (J.aG J.bA (J.aG J.bw (J.rd S2) J.ag) J.ag)) (J.ai (J.aG J.cV J.ag (J.aG J.bA (J.aG J.bw (J.rd S2) J.ag) J.ag)) J.ae))) (J.ir B_int J.gP L2.mU (J.ai (J.bu J.bN (J.aG J.bA (J.aG J.bw (J.rd S2) J.ag) J.ag) J.ag (L2.aH _)) J.ae)) J.nC) J.ae))))
 (J.ah (J.set S4 hh.nd (J.cF C__law_things (J.ai (J.gJ J.iO (J.rd S0) J.i9 (J.iG (J.rd S1))) (J.ai (J.rd S3) (J.ai (J.cF C__law_clock (J.ai (J.cF C__law_mix (J.ai (J.blt B_sum (J.gL hh.calm) L2.wm (J.ai (J.gJ J.iO (J.rd S0) J.i9 (J.iG J.ag)) J.ae)) (J.ai J.ag J.ae))) J.ae)) J.ae)))))
 (J.ah (J.bp (J.aI J.bN (J.aG J.bA (J.aG J.bw (J.rd S2) J.ag) J.ag) J.ag (L2.aH _))
 (J.ak (J.fh (J.Dr PySem.F.plainAttrs_list PySem.F.slot_list_reverse PySem.F.type_list_reverse J.iw (J.aw J.aD (J.rd S4) J.ag J.az))))
 J.aM)
 (J.ah (J.bp (J.aI J.lB (J.aG J.bA (J.aG J.bw (J.rd S2) J.ag) J.ag) J.ag (L2.aH _))
 (J.ah (J.asg (J.cF C__law_open (J.ai (J.rd S4) J.ae)) (J.dX hh.calm (J.bO (J.fE S5 hh.nd) (J.bO (J.fE S6 hh.nd) J.cD))))
 (J.ah (J.set S7 hh.nd (J.cF C__law_hours (J.ai (J.rd S4) (J.ai (J.rd S5) (J.ai (J.rd S6) J.ae)))))
 (J.ah (J.kA (sc := L2.aa dP) (N := ["_law_script", "_law_most", "_law_whole_here", "_law_names_here", "_law_things_here", "_law_numbers", "_law_tellings_here", "_law_found", "_law_kept"]) (is := [7]) (xs := ["_law_row"]) (ns := ["_law_found"]) S8 hh.nd hh.calm (J.bh (J.aw J.aD (J.rd S4) J.ag J.az)) {} (fun _ _ _ _ _ => (J.vb (i := 0) (by decide +kernel) rfl rfl)) (fun _ _ _ _ _ => (J.fj (J.dN (J.fq (J.aI J.mz (J.aw J.dr (J.jG (i := 0) rfl rfl (by decide) (by decide)) J.ag J.az) J.ba (L2.aH _)) (J.d7 (J.bB (J.cF (CI__law_knew_so.lg rfl) (J.ai (J.dS (J.ai (J.jG (i := 0) rfl rfl (by decide) (by decide)) J.ae)) (J.ai (J.rM (i := 1) rfl rfl (by decide) (by decide)) J.ae))))))))) (fun _ _ _ _ _ => (J.jG (i := 0) rfl rfl (by decide) (by decide))) hh.hsc hh.hN (by decide +kernel))
 (J.ak (J.set S4 hh.nd (J.bj (J.ai (J.aw J.aD (J.rd S4) J.ag J.az) (J.ai (J.aw J.aD (J.rd S4) J.ag J.az) (J.ai (J.rd S8) J.ae)))))))))
 J.aM)
 (J.ak (J.aE (J.bj (J.ai (J.rd S2) (J.ai (J.rd S3) (J.ai (J.rd S4) J.ae))))))))))), ?_⟩
    obtain ⟨n1, c1, _⟩ := pE ns (k := 63) (by decide)
    obtain ⟨n2, c2, l2⟩ := pE ns (k := 60) (by decide)
    refine ⟨_, rfl, _, rfl, sc, _, rfl, hsc, fun p1 np1 => ?_⟩
    have s1 := au.upd (o := .lst (gZ (ns.map V.int) none (some 63))) np1
    refine ⟨p1, n1, rfl, aJ.of (by rw [← c1]; exact af), _, _, rfl, by decide, by decide, fun W W0 W1 => ?_⟩
    generalize upd H p1 (.lst (gZ (ns.map V.int) none (some 63))) = H1 at s1
    have a6 := bC (W / 7) (m := 6) (by decide)
    have a24 := bC (W / 42) (m := 24) (by decide)
    refine ⟨_, rfl, _, rfl, _, _, rfl, rfl, ⟨by decide, by decide⟩, _, _, rfl, rfl, (by show (0 : Int) < 6; decide), _, _, rfl, rfl, _, rfl, _, _, rfl, rfl, ⟨by decide, by decide⟩, _, _, rfl, rfl, (by show (0 : Int) < 24; decide), _, _, rfl, rfl, by show 2 ≤ sizeLine; decide, fun b1 nb1 => ?_⟩
    obtain ⟨bv, hb, hbm⟩ := yK (xs := [V.int (2 + W / 7 % 6), V.int (1 + W / 42 % 24)]) (i := if decide (V.int (W / 1008 % 4) = V.int 0) then 1 else 0) (by split <;> decide) (by show _ < (2 : Int); split <;> decide)
    have hbv : ∃ m : Int, bv = .int m ∧ 1 ≤ m ∧ m ≤ 24 := by
      simp only [List.mem_cons, List.not_mem_nil, or_false] at hbm
      rcases hbm with rfl | rfl
      · exact ⟨_, rfl, by omega, by omega⟩
      · exact ⟨_, rfl, by omega, by omega⟩
    obtain ⟨m, rfl, m1, m24⟩ := hbv
    clear hbm a6 a24
    have s2 := s1.trans (au.upd (o := .lst [V.int (2 + W / 7 % 6), V.int (1 + W / 42 % 24)]) nb1)
    refine ⟨_, rfl, _, _, rfl, rfl, ⟨by decide, by decide⟩, _, _, rfl, rfl, (by show (0 : Int) < 4; decide), rfl, .inr ⟨_, rfl, b1, _, _, _, rfl, rfl, aJ.of af, hb, W, m, rfl, W0, m1, m24, fun nl ps H3 s3 nln hnl po => ?_⟩⟩
    have s03 := s2.trans s3
    clear s2 s3 hb nb1
    refine ⟨_, rfl, _, rfl, _, rfl, sc, _, rfl, s03.seq hsc, fun p2 np2 => ?_⟩
    have s4 := s03.trans (au.upd (o := .lst (gZ (ns.map V.int) none (some 60))) np2)
    have hp2 : upd H3 p2 (.lst (gZ (ns.map V.int) none (some 60))) p2 = some (.lst (n2.map V.int)) := by
      rw [← c2]
      exact af
    have hnl4 := au.upd (o := .lst (gZ (ns.map V.int) none (some 60))) np2 _ _ hnl
    generalize upd H3 p2 (.lst (gZ (ns.map V.int) none (some 60))) = H4 at s4 hp2 hnl4
    refine ⟨_, rfl, _, rfl, _, rfl, sc, _, rfl, s4.seq hsc, fun p3 np3 => ?_⟩
    have s45 := au.upd (o := .lst (gZ (ns.map V.int) none (some 63))) np3
    refine ⟨p3, n1, rfl, aJ.of (by rw [← c1]; exact af), _, _, rfl, by decide, by decide, fun Z Z0 Z1 => ?_⟩
    refine ⟨_, rfl, fun cl hs H6 s6 ncl hcl ck => ?_⟩
    have s46 := s45.trans s6
    refine ⟨p2, nl, cl, n2, ps, hs, rfl, s46 _ _ hp2, (by omega), s46 _ _ hnl4, po, hcl, ck, fun tt s t y ss ts ys H7 s7 ntt ns' nt ny nd htt hs7 ht7 hy7 ls lt ly gs gt gy => ?_⟩
    have s07 := (s4.trans s46).trans s7
    have hnl7 := s7 _ _ (s46 _ _ hnl4)
    have ok7 : qg ps H7 tt s t y ss ts ys := ⟨htt, hs7, ht7, hy7, ls, lt, ly, gs, gt, gy⟩
    have ntd : t ≠ nl ∧ t ≠ s ∧ t ≠ y := by
      simp only [List.nodup_cons, List.mem_cons, List.not_mem_nil, or_false, not_or, List.nodup_nil, and_true, not_false_eq_true] at nd
      refine ⟨fun e => ?_, fun e => nd.2.1.1 e.symm, nd.2.2⟩
      rw [e, s46 _ _ hnl4] at nt
      cases nt
    have t0 : H t = none := (s4.trans s46).free nt
    clear s46 s6 s45 s4 hp2 hnl4 hcl ck ntt ns' nt ny nd htt hs7 ht7 hy7 gs gt gy ls lt ly np3 np2 s03 s7
    dsimp only
    refine wQ (fun σ' H' => ∃ ts', σ' = [some (.ref sc), some (.int 60), some (.int W), some (.ref nl), some (.ref tt), none, none, none, none] ∧ au H H' ∧ H' nl = some (.lst (ps.map V.str)) ∧ qg ps H' tt s t y ss ts' ys) ?_ (decide (V.int (W / 5 % 3) = V.int 0)) (fun Q' q' => ?_) (fun _ hR => ?_) (fun _ => ?_)
    · rintro σ' H8 ⟨ts', rfl, s08, hnl8, ok8⟩
      clear ok7 hnl7 s07 ntd
      refine xv (fun σ' H' => ∃ (th s' t' y' : Addr) (ss' ts' ys' : List V) (e5 e6 e7 e8 : Option V), σ' = [some (.ref sc), some (.int 60), some (.int W), some (.ref nl), some (.ref th), e5, e6, e7, e8] ∧ au H H' ∧ H' nl = some (.lst (ps.map V.str)) ∧ qg ps H' th s' t' y' ss' ts' ys') ?_ (decide (W / 3 % 3 > 0)) (fun Q' q' => ?_) (fun _ hR => ?_) (fun _ => ?_)
      · rintro σ' H9 ⟨th, s', t', y', ss', ts', ys', e5, e6, e7, e8, rfl, s9, hnl9, ok9⟩
        refine ⟨_, rfl, _, rfl, _, rfl, by show 3 ≤ sizeLine; decide, fun r nr => ?_⟩
        exact k r nl th s' t' y' W ps ss' ts' ys' _ (s9.trans (au.upd nr)) af W0 W1 (au.upd nr _ _ hnl9) po (ok9.mono (au.upd nr))
      · exact ⟨_, rfl, _, _, rfl, rfl, ⟨by decide, by decide⟩, _, _, rfl, rfl, (by show (0 : Int) < 3; decide), _, _, rfl, rfl, _, rfl, q'⟩
      · obtain ⟨sg, gs, gk⟩ := jH ok8.gs
        obtain ⟨qd, qs, qk⟩ := vt ok8.gt
        obtain ⟨sd, sy, sk⟩ := js ok8.gy
        refine ⟨_, rfl, tt, s, t, y, ps, ss, ts', ys, sg, qd, sd, rfl, ok8.hth, ok8.hs, ok8.ht, ok8.hy, ok8.ls, (by have := ok8.lt; omega), gs, (fun d hd => (gk d hd).2), qs, qk, sy, fun r nb tl us H9 s9 _ _ _ hr hnb htl tu => ?_⟩
        refine ⟨r, _, rfl, aL.of hr, rfl, _, _, rfl, _, _, rfl, rfl, ?_⟩
        have ok9 := ok8.mono s9
        refine ⟨_, rfl, _, rfl, _, rfl, tt, nb, tl, s, t, y, ps, ss, ts', us, sg, qd, (List.range sg.length).filter (jd sg (dR sd)), (fc 0 (fR qd)).filter (cj qd sd), rfl, ok9.hth, ok9.hs, ok9.ht, hnb, htl, gs.mono (cI.mono (Tk.of s9)), gk, qs.mono (dc.mono (Tk.of s9)), (fun d hd => (qk d hd).1), tu, (fun tk hk => ?_), (fun i hi => List.mem_range.mp (List.mem_filter.mp hi).1), po.hi, fun fo kvs F H10 s10 nfo hfo hrd _ _ => ?_⟩
        · obtain ⟨q, hq, _, m2⟩ := qR qk (List.mem_filter.mp hk).1
          exact ⟨(List.getElem?_eq_some_iff.mp hq).1, m2⟩
        · have s810 := s9.trans s10
          have ok10 := ok9.mono s10
          have idk : BF kvs := fun z v e => by
            rw [hrd.get z] at e
            obtain ⟨i, _, rfl⟩ := Option.map_eq_some_iff.mp e
            exact ⟨i, rfl⟩
          refine ⟨_, rfl, tt, _, _, _, rfl, rfl, aL.of ok10.hth, rfl, y, rfl, ⟨_, aJ.of ok10.hy⟩, vJ (aJ.of ok10.hy) (by have := ok10.ly; omega) ?_ ?_⟩
          · intro i v H11 K1 K2 hv s11 k1 k2
            obtain ⟨e, ⟨a, rfl, ha⟩, _⟩ := pO (ok10.gy v (List.mem_of_getElem? hv))
            have ha11 := s11 _ _ ha
            cases e with
            | unh q i' => exact ⟨_, rfl, a, _, _, _, rfl, rfl, aL.of ha11, rfl, rfl, _, rfl, cB (by decide +kernel) (cP (B := K2 H11) ⟨_, rfl, k1 H11 (au.refl _)⟩)⟩
            | sil q b e' => exact ⟨_, rfl, a, _, _, _, rfl, rfl, aL.of ha11, rfl, rfl, _, rfl, cB (by decide +kernel) (cP (B := K2 H11) ⟨_, rfl, k1 H11 (au.refl _)⟩)⟩
            | bar q q' => exact ⟨_, rfl, a, _, _, _, rfl, rfl, aL.of ha11, rfl, rfl, _, rfl, cB (by decide +kernel) (cP (B := K2 H11) ⟨_, rfl, k1 H11 (au.refl _)⟩)⟩
            | knew q h =>
              refine ⟨_, rfl, a, _, _, _, rfl, rfl, aL.of ha11, rfl, rfl, _, rfl, bT (by decide +kernel) ⟨_, rfl, by show 1 ≤ sizeLine; decide, fun l1 nl1 => ?_⟩⟩
              have s12 := au.upd (o := .lst [.ref a]) nl1
              exact ⟨_, rfl, l1, fo, [.ref a], [SD.knew q h], kvs, rfl, af, CM ⟨a, rfl, s12 _ _ ha11⟩, s12 _ _ (s11 _ _ hfo), idk, fun b H13 s13 => ⟨b, rfl, cH (fun _ => ⟨_, rfl, k1 H13 (s12.trans s13)⟩) (fun _ => k2 H13 (s12.trans s13))⟩⟩
          · intro ke zs H11 nke s11 hke zl zi
            have ok11 := ok10.mono s11
            refine ⟨_, rfl, tt, _, _, _, rfl, rfl, aL.of ok11.hth, rfl, _, rfl, tt, _, _, _, rfl, rfl, aL.of ok11.hth, rfl, _, rfl, by show 3 ≤ sizeLine; decide, fun t3 nt3 => ?_⟩
            have s12 := au.upd (o := .tup [.ref s, .ref t, .ref ke]) nt3
            have s813 := (s810.trans s11).trans s12
            refine hR _ _ ⟨t3, s, t, ke, ss, ts', zs, _, _, _, _, rfl, s08.trans s813, s813 _ _ hnl8, af, s12 _ _ ok11.hs, s12 _ _ ok11.ht, s12 _ _ hke, ok11.ls, ok11.lt, (by have := ok11.ly; omega), ?_, ?_, ?_⟩
            · exact fun v hv => (ok11.gs v hv).mono (Tk.of s12)
            · exact fun v hv => (ok11.gt v hv).mono (Tk.of s12)
            · exact fun v hv => (ok11.gy v (zi v hv)).mono (Tk.of s12)
      · exact ⟨tt, s, t, y, ss, ts', ys, none, none, none, none, rfl, s08, hnl8, ok8⟩
    · exact ⟨_, rfl, _, _, rfl, rfl, ⟨by decide, by decide⟩, _, _, rfl, rfl, (by show (0 : Int) < 3; decide), rfl, _, rfl, q'⟩
    · refine ⟨_, rfl, tt, _, _, _, rfl, rfl, aL.of ok7.hth, rfl, .inl ⟨rfl, _, aJ.of ok7.ht⟩, t, ts, rfl, rfl, ok7.ht, hR _ _ ⟨ts.reverse, rfl, fun b o e => ?_, ?_, ?_⟩⟩
      · rw [ao (aj e t0)]
        exact s07 _ _ e
      · rw [ao ntd.1.symm]
        exact hnl7
      · have tk := Tk.upd ok7.ht (ys := ts.reverse)
        exact ⟨tk _ _ ok7.hth, (by rw [ao ntd.2.1.symm]; exact ok7.hs), af, (by rw [ao ntd.2.2.symm]; exact ok7.hy), ok7.ls, (by rw [List.length_reverse]; exact ok7.lt), ok7.ly, fun v hv => (ok7.gs v hv).mono tk, fun v hv => (ok7.gt v (List.mem_reverse.mp hv)).mono tk, fun v hv => (ok7.gy v hv).mono tk⟩
    · exact ⟨ts, rfl, s07, hnl7, ok7⟩
end
inductive EW
  | saw (i : Nat)
  | hrd (k : Nat) (te : Str)
abbrev ED := Str × Int × EW
def t7 (H : Hp) (wa : Addr) : EW → Prop
  | .saw i => H wa = some (.tup [.str "saw", .int (i : Nat)])
  | .hrd k te => H wa = some (.tup [.str "heard", .int (k : Nat), .str te])
def ic (H : Hp) (a : Addr) (d : ED) : Prop := ∃ wa, H a = some (.tup [.str d.1, .int d.2.1, .ref wa]) ∧ t7 H wa d.2.2
theorem t7.mono {H H' : Hp} (s : Tk H H') {wa : Addr} {w : EW} (h : t7 H wa w) : t7 H' wa w := by
  cases w with
  | saw i => exact s _ _ h
  | hrd k te => exact s _ _ h
theorem ic.mono {H H' : Hp} (s : Tk H H') {a : Addr} {d : ED} (h : ic H a d) : ic H' a d := by
  obtain ⟨wa, h1, h2⟩ := h
  exact ⟨wa, s _ _ h1, h2.mono s⟩
structure Cw (H : Hp) (kvs : List (Key × V)) (F : FH) : Prop where
  no : ∀ z, F z = none → dC kvs (Sum.inr z) = none
  yes : ∀ z h, F z = some h → ∃ a w, dC kvs (Sum.inr z) = some (.ref a) ∧ H a = some (.tup [.str z, .int h, w])
def zp (F : FH) (d : ED) : Bool := match d.2.2 with
  | .saw _ => true
  | .hrd _ te => match F te with
    | none => false
    | some a => decide (a < d.2.1)
inductive AV  (vs : List V) (H : Hp) (Q : VK) : Prop
  | mk (a : Addr) (z : Str) (h : Int) (w : V) (h0 : vs = [.ref a]) (h1 : H a = some (.tup [.str z, .int h, w])) (h2 : Q (.int h) H)
def vM  : Sp := fun vs H Q _ => AV  vs H Q
inductive BK  (vs : List V) (H : Hp) (Q : VK) : Prop
  | mk (kn a : Addr) (kvs : List (Key × V)) (F : FH) (d : ED) (h0 : vs = [.ref kn, .ref a]) (h1 : H kn = some (.dK kvs)) (h2 : Cw H kvs F) (h3 : ic H a d) (h4 : Q (.bl (zp F d)) H)
def zk  : Sp := fun vs H Q _ => BK  vs H Q
section
variable {P : Program} {w : World} {K : PySem.W.Frag} {mg : Str → Option Value} {base : Heap} {kw C : Addr}
theorem qA : aB ["entry"] ["entry"] (aa d6) := {}
theorem Bn {f : Addr} {fd : FuncData} (D : Df K mg "hour_of" d6 ["entry"] f fd) : Gd P w K mg base 1 "hour_of" vM := by
  refine J.aP D qA (fun vs H Q E h => ?_) (fun X H vs Q E hh h => ?_)
  · obtain ⟨a, z, h, w, rfl, _⟩ := h
    rfl
  · obtain ⟨a, z, h, w, rfl, ha, k⟩ := h
    have S0 := hh.sl 0 "entry"
    exact ⟨_, (J.ak (J.aE (J.aw J.aD (J.rd S0) J.ag J.az))), _, rfl, a, _, _, _, rfl, rfl, aL.of ha, rfl, k⟩
theorem lU : aB ["known", "entry", "way"] ["known", "entry"] (aa cw) := {}
theorem Bq {f : Addr} {fd : FuncData} (D : Df K mg "can_follow" cw ["known", "entry"] f fd) (G_hour_of : Gd P w K mg base 1 "hour_of" vM) : Gd P w K mg base 2 "can_follow" zk := by
  refine J.aP D lU (fun vs H Q E h => ?_) (fun X H vs Q E hh h => ?_)
  · obtain ⟨kn, a, kvs, F, d, rfl, _⟩ := h
    rfl
  · obtain ⟨kn, a, kvs, F, d, rfl, hkn, kd, ⟨wa, ha, hw⟩, k⟩ := h
    have S0 := hh.sl 0 "known"
    have S1 := hh.sl 1 "entry"
    have S2 := hh.sl 2 "way"
    have C_hour_of := hh.c G_hour_of
    have hu := gA hh.room
    refine ⟨_, (J.ah (J.set S2 hh.nd (J.aw J.aD (J.rd S1) J.ag J.az))
 (J.ah (J.bp (J.aI J.bN (J.aw J.aD (J.rd S2) J.ag J.az) J.ba (L2.aH _))
 (J.ak (J.aE J.dk))
 J.aM)
 (J.ak (J.aE (J.bz (J.rf hu (J.aw J.aD (J.rd S2) J.ag J.az) (J.rd S0)) (J.bD (J.bu J.iU (J.cF C_hour_of (J.ai (J.sL hu (J.rd S0) (J.aw J.aD (J.rd S2) J.ag J.az) J.qB) J.ae)) (J.cF C_hour_of (J.ai (J.rd S1) J.ae)) (L2.aH _)))))))), ?_⟩
    refine ⟨_, rfl, a, _, _, _, rfl, rfl, aL.of ha, rfl, ?_⟩
    obtain ⟨z, h, way⟩ := d
    cases way with
    | saw i => exact ⟨_, rfl, wa, _, _, _, rfl, rfl, aL.of hw, rfl, rfl, _, rfl, cB (by decide +kernel) k⟩
    | hrd kk te =>
      refine ⟨_, rfl, wa, _, _, _, rfl, rfl, aL.of hw, rfl, rfl, _, rfl, bT (by decide +kernel) ?_⟩
      have dg := eB.k (k := Sum.inr te) hkn
      have k' : Q (.bl (match F te with | none => false | some a => decide (a < h))) H := k
      cases hF : F te with
      | none =>
        rw [hF] at k'
        rw [kd.no te hF] at dg
        exact ⟨_, rfl, wa, _, _, _, rfl, rfl, aL.of hw, rfl, _, rfl, kn, _, rfl, dg, _, rfl, bY k'⟩
      | some b =>
        rw [hF] at k'
        obtain ⟨ea, w2, e1, e2⟩ := kd.yes te b hF
        rw [e1] at dg
        exact ⟨_, rfl, wa, _, _, _, rfl, rfl, aL.of hw, rfl, _, rfl, kn, _, rfl, dg, _, rfl, cP ⟨_, rfl, _, rfl, wa, _, _, _, rfl, rfl, aL.of hw, rfl, kn, _, rfl, dg, ea, te, b, w2, rfl, e2, _, rfl, a, z, h, _, rfl, ha, _, _, rfl, rfl, k'⟩⟩
end
inductive uB (ds : List ED) : Str → Int → Prop
  | saw {z : Str} {h : Int} {i : Nat} (m : (z, h, EW.saw i) ∈ ds) : uB ds z h
  | hrd {z te : Str} {h h' : Int} {k : Nat} (m : (z, h, EW.hrd k te) ∈ ds) (r : uB ds te h') (l : h' < h) : uB ds z h
def AB (H : Hp) (a : Addr) : Int := match H a with
  | some (.tup [_, .int h, _]) => h
  | _ => 0
theorem pZ {H : Hp} {a : Addr} {d : ED} (h : ic H a d) : AB H a = d.2.1 := by
  obtain ⟨wa, h1, _⟩ := h
  unfold AB
  rw [h1]
theorem xq {H : Hp} {wa : Addr} {w w' : EW} (h : t7 H wa w) (h' : t7 H wa w') : w = w' := by
  cases w with
  | saw i =>
    cases w' with
    | saw j =>
      have e := (show H wa = _ from h).symm.trans (show H wa = _ from h')
      simp only [Option.some.injEq, HO.tup.injEq, List.cons.injEq, V.int.injEq, and_true, true_and] at e
      rw [show i = j by omega]
    | hrd k te =>
      have e := (show H wa = _ from h).symm.trans (show H wa = _ from h')
      simp at e
  | hrd k te =>
    cases w' with
    | saw j =>
      have e := (show H wa = _ from h).symm.trans (show H wa = _ from h')
      simp at e
    | hrd k' te' =>
      have e := (show H wa = _ from h).symm.trans (show H wa = _ from h')
      simp only [Option.some.injEq, HO.tup.injEq, List.cons.injEq, V.int.injEq, V.str.injEq, and_true, true_and] at e
      rw [show k = k' by omega, e.2]
theorem se {H : Hp} {a : Addr} {d d' : ED} (h : ic H a d) (h' : ic H a d') : d = d' := by
  obtain ⟨wa, h1, h2⟩ := h
  obtain ⟨wa', h1', h2'⟩ := h'
  have e := h1.symm.trans h1'
  simp only [Option.some.injEq, HO.tup.injEq, List.cons.injEq, V.int.injEq, V.str.injEq, V.ref.injEq, and_true] at e
  obtain ⟨e1, e2, rfl⟩ := e
  exact Prod.ext e1 (Prod.ext e2 (xq h2 h2'))
theorem Av {F : FH} {d e : ED} {z : Str} {h : Int} (h1 : zp (iQ F z h) e = true) (le : e.2.1 ≤ h) : zp F e = true := by
  obtain ⟨y, i, w⟩ := e
  cases w with
  | saw _ => rfl
  | hrd k te =>
    have h1' : (match iQ F z h te with | none => false | some a => decide (a < i)) = true := h1
    show (match F te with | none => false | some a => decide (a < i)) = true
    by_cases c : te = z
    · subst c
      rw [da] at h1'
      have h2 : decide (h < i) = true := h1'
      rw [decide_eq_true_iff] at h2
      have : i ≤ h := le
      omega
    · rw [dq c] at h1'
      exact h1'
structure Ai (ds : List ED) (F : FH) : Prop where
  cl : ∀ d ∈ ds, zp F d = true → ∃ b, b ≤ d.2.1 ∧ F d.1 = some b
  so : ∀ z h, F z = some h → uB ds z h
inductive yF (H : Hp) (en kn l : Addr) (zs : List Addr) (ds : List ED) (i : Nat) (σ : St) (H2 : Hp) : Prop
  | mk (e2 : Option V) (kvs : List (Key × V)) (F : FH) (e : σ = [some (.ref en), some (.ref kn), e2]) (s : au H H2) (hl : H2 l = some (.lst (zs.map V.ref))) (hk : H2 kn = some (.dK kvs)) (kl : kvs.length ≤ i) (kd : Cw H2 kvs F) (c : ∀ j a d, j < i → zs[j]? = some a → ic H a d → zp F d = true → ∃ b, b ≤ d.2.1 ∧ F d.1 = some b) (so : ∀ z h, F z = some h → uB ds z h) (m : ∀ z h, F z = some h → ∀ j a, i ≤ j → zs[j]? = some a → h ≤ AB H a)
inductive Ew (vs : List V) (H : Hp) (Q : VK) : Prop
  | mk (en : Addr) (as : List Addr) (ds : List ED) (e : vs = [.ref en]) (he : H en = some (.lst (as.map V.ref))) (al : as.length ≤ 400) (ed : ∀ a ∈ as, ∃ d ∈ ds, ic H a d) (de : ∀ d ∈ ds, ∃ a ∈ as, ic H a d)
      (k : ∀ (kn : Addr) (kvs : List (Key × V)) (F : FH) (H' : Hp), au H H' → H kn = none → H' kn = some (.dK kvs) → Cw H' kvs F → Ai ds F → Q (.ref kn) H')
def zO : Sp := fun vs H Q _ => Ew vs H Q
section
variable {P : Program} {w : World} {K : PySem.W.Frag} {mg : Str → Option Value} {base : Heap} {kw C : Addr}
theorem jy : aB ["entries", "known", "entry"] ["entries"] (aa bG) := {}
theorem B4 {f : Addr} {fd : FuncData} (D : Df K mg "first_entries" bG ["entries"] f fd) (T : Txt K mg kw C) (G_hour_of : Gd P w K mg base 1 "hour_of" vM) (G_can_follow : Gd P w K mg base 2 "can_follow" zk) : Gd P w K mg base 4 "first_entries" zO := by
  refine J.aP D jy (fun vs H Q E h => ?_) (fun X H vs Q E hh h => ?_)
  · obtain ⟨en, as, ds, rfl, _⟩ := h
    rfl
  · obtain ⟨en, as, ds, rfl, he, al, ed, de, k⟩ := h
    have S0 := hh.sl 0 "entries"
    have S1 := hh.sl 1 "known"
    have S2 := hh.sl 2 "entry"
    have B_sorted := hh.b T.b_sorted
    have C_can_follow := hh.c G_can_follow
    have CS_hour_of := hh.Cz G_hour_of rfl (by first | decide | exact Nat.le_refl _) (by decide)
    have hu := gA hh.room
    have hsz : sizeLine = 16777216 := sizeLine_eq
    refine ⟨_, (J.ah (J.set S1 hh.nd J.iT)
 (J.ah (J.cA hh.own hh.calm (J.bh (J.B7 B_sorted CS_hour_of (J.ai (J.rd S0) J.ae))) (J.fE S2 hh.nd)
 (J.ak (J.bp (J.dN (J.di (J.mD hu (J.aw J.aD (J.rd S2) J.ag J.az) (J.rd S1)) (J.dv (J.bB (J.cF C_can_follow (J.ai (J.rd S1) (J.ai (J.rd S2) J.ae)))))))
 (J.ak (J.dput hu (J.rd S1) (J.aw J.aD (J.rd S2) J.ag J.az) (J.rd S2)))
 J.aM)))
 (J.ak (J.aE (J.rd S1))))), ?_⟩
    intro kn nkn
    have s1 := au.upd (o := .dK []) nkn
    have hk1 : upd H kn (.dK []) kn = some (.dK []) := af
    generalize upd H kn (.dK []) = H1 at s1 hk1
    refine ⟨_, rfl, en, as, AB H, rfl, aJ.of (s1 _ _ he), fun a ha Q' q' => ?_, fun l zs nl pm pw _ => ?_⟩
    · obtain ⟨d, _, en'⟩ := ed a ha
      rw [pZ en'] at q'
      obtain ⟨wa, h1, _⟩ := en'
      exact ⟨a, _, _, _, rfl, s1 _ _ h1, q'⟩
    have s2 := s1.trans (au.upd (o := .lst (zs.map V.ref)) nl)
    have hl2 : upd H1 l (.lst (zs.map V.ref)) l = some (.lst (zs.map V.ref)) := af
    have hk2 := au.upd (o := .lst (zs.map V.ref)) nl _ _ hk1
    generalize upd H1 l (.lst (zs.map V.ref)) = H2 at s2 hl2 hk2
    have zl : zs.length ≤ 400 := by rw [pm.length_eq]; exact al
    have ent : ∀ {i : Nat} {a : Addr}, zs[i]? = some a → ∃ d ∈ ds, ic H a d := fun h => ed _ (pm.mem_iff.mp (List.mem_of_getElem? h))
    have lO : ∀ {i j : Nat} {a b : Addr}, i < j → zs[i]? = some a → zs[j]? = some b → AB H a ≤ AB H b := fun {i j a b} ij ha hb => by
      obtain ⟨h1, e1⟩ := List.getElem?_eq_some_iff.mp ha
      obtain ⟨h2, e2⟩ := List.getElem?_eq_some_iff.mp hb
      have := List.pairwise_iff_getElem.mp pw i j h1 h2 ij
      rwa [e1, e2] at this
    refine ⟨l, rfl, ⟨_, aJ.of hl2⟩, cS (K := X.K) (a := l) (xs := zs.map V.ref) (yF H en kn l zs ds) ⟨none, [], fun _ => none, rfl, s2, hl2, hk2, Nat.le_refl 0, ⟨fun _ _ => rfl, fun _ _ e => by cases e⟩, (fun j a d hj => by omega), (fun _ _ e => by cases e), (fun _ _ e => by cases e)⟩ ?_ ?_ ?_⟩
    · rintro i σ H3 hi ⟨e2, kvs, F, rfl, s3, hl3, hk3, kl, kd, c, so, m⟩
      exact aJ.of hl3
    · rintro i v σ H3 hv ⟨e2, kvs, F, rfl, s3, hl3, hk3, kl, kd, c, so, m⟩
      rw [List.getElem?_map] at hv
      obtain ⟨a, ha, rfl⟩ := Option.map_eq_some_iff.mp hv
      have il := (List.getElem?_eq_some_iff.mp ha).1
      obtain ⟨d, md, ev⟩ := ent ha
      have hra := pZ ev
      obtain ⟨wa, h1, h2⟩ := id ev
      have h3 := s3 _ _ h1
      have dg := eB.k (k := Sum.inr d.1) hk3
      have fw : (zp F d = true → ∃ b, b ≤ d.2.1 ∧ F d.1 = some b) → yF H en kn l zs ds (i + 1) [some (.ref en), some (.ref kn), some (.ref a)] H3 := fun cd =>
        ⟨_, kvs, F, rfl, s3, hl3, hk3, by omega, kd, fun j a' d' hj ha' ev' cf => by
          by_cases e : j = i
          · subst e
            rw [ha] at ha'
            cases ha'
            rw [← se ev ev'] at cf ⊢
            exact cd cf
          · exact c j a' d' (by omega) ha' ev' cf, so, fun z h e j a' hj ha' => m z h e j a' (by omega) ha'⟩
      cases hF : F d.1 with
      | some b =>
        obtain ⟨ea, w2, e1, _⟩ := kd.yes _ _ hF
        rw [e1] at dg
        exact ⟨_, rfl, a, _, _, _, rfl, rfl, aL.of h3, rfl, _, rfl, kn, _, rfl, dg, _, rfl, bY (bY (fw fun _ => ⟨b, by rw [← hra]; exact m _ _ hF i a (Nat.le_refl _) ha, hF⟩))⟩
      | none =>
        rw [kd.no _ hF] at dg
        refine ⟨_, rfl, a, _, _, _, rfl, rfl, aL.of h3, rfl, _, rfl, kn, _, rfl, dg, _, rfl, cP ⟨_, rfl, _, rfl, kn, a, kvs, F, d, rfl, hk3, kd, ev.mono (Tk.of s3), _, rfl, ?_⟩⟩
        cases hc : zp F d with
        | false => exact bY (fw fun h => by rw [hc] at h; cases h)
        | true =>
          refine cP ⟨_, rfl, _, rfl, _, rfl, a, _, _, _, rfl, rfl, aL.of h3, rfl, kn, _, rfl, lQ.k (k := Sum.inr d.1) hk3 (by omega), ?_⟩
          have nka : a ≠ kn := fun e => by rw [e, hk3] at h3; cases h3
          have nkl : l ≠ kn := fun e => by rw [e, hk3] at hl3; cases hl3
          have kp : ∀ b o, b ≠ kn → H3 b = some o → upd H3 kn (.dK (putK kvs (Sum.inr d.1) (.ref a))) b = some o := fun b o n e => by rw [ao n]; exact e
          refine ⟨_, putK kvs (Sum.inr d.1) (.ref a), iQ F d.1 d.2.1, rfl, fun b o e => kp b o (aj e nkn) (s3 _ _ e), kp _ _ nkl hl3, af, Nat.le_trans (ft _ _ _) (by omega), ⟨fun z e => ?_, fun z h e => ?_⟩, fun j a' d' hj ha' ev' cf => ?_, fun z h e => ?_, fun z h e j a' hj ha' => ?_⟩
          · by_cases c' : z = d.1
            · rw [c', da] at e
              cases e
            · rw [dq c'] at e
              rw [gI, if_neg (fun x => c' (Sum.inr.inj x))]
              exact kd.no z e
          · by_cases c' : z = d.1
            · rw [c', da] at e
              cases e
              exact ⟨a, .ref wa, by rw [gI, if_pos (by rw [c'])], by rw [c']; exact kp _ _ nka h3⟩
            · rw [dq c'] at e
              obtain ⟨ea, w2, e1, e2'⟩ := kd.yes z h e
              exact ⟨ea, w2, by rw [gI, if_neg (fun x => c' (Sum.inr.inj x))]; exact e1, kp _ _ (fun x => by rw [x, hk3] at e2'; cases e2') e2'⟩
          · by_cases e : j = i
            · subst e
              rw [ha] at ha'
              cases ha'
              rw [← se ev ev']
              exact ⟨_, Int.le_refl _, da⟩
            · have le : d'.2.1 ≤ d.2.1 := by
                rw [← pZ ev', ← hra]
                exact lO (by omega) ha' ha
              obtain ⟨b, b1, b2⟩ := c j a' d' (by omega) ha' ev' (Av (d := d) cf le)
              exact ⟨b, b1, by rw [dq (fun x => by rw [x, hF] at b2; cases b2)]; exact b2⟩
          · by_cases c' : z = d.1
            · rw [c', da] at e
              cases e
              rw [c']
              obtain ⟨y, i', w'⟩ := d
              cases w' with
              | saw _ => exact .saw md
              | hrd kk te =>
                have hc' : (match F te with | none => false | some a => decide (a < i')) = true := hc
                cases hT : F te with
                | none => rw [hT] at hc'; cases hc'
                | some x =>
                  rw [hT] at hc'
                  exact .hrd md (so _ _ hT) (of_decide_eq_true hc')
            · rw [dq c'] at e
              exact so z h e
          · by_cases c' : z = d.1
            · rw [c', da] at e
              cases e
              rw [← hra]
              exact lO (by omega) ha ha'
            · rw [dq c'] at e
              exact m z h e j a' (by omega) ha'
    · rintro σ H3 ⟨e2, kvs, F, rfl, s3, hl3, hk3, kl, kd, c, so, m⟩
      refine ⟨_, rfl, k kn kvs F H3 s3 nkn hk3 kd ⟨fun d hd cf => ?_, so⟩⟩
      obtain ⟨a, ha, ev⟩ := de d hd
      obtain ⟨j, hj⟩ := List.getElem?_of_mem (pm.mem_iff.mpr ha)
      have jl := (List.getElem?_eq_some_iff.mp hj).1
      exact c j a d (by rw [List.length_map]; exact jl) hj ev cf
end
def lN (H : Hp) (v : V) (d : ED) : Prop := ∃ a, v = .ref a ∧ ic H a d
theorem lN.mono {H H' : Hp} (s : Tk H H') (v : V) (d : ED) (h : lN H v d) : lN H' v d := by
  obtain ⟨a, e, h⟩ := h
  exact ⟨a, e, h.mono s⟩
def xm (sg : List GD) (i : Nat) : ED := match sg[i]? with
  | some g => (g.1, g.2, .saw i)
  | none => ("", 0, .saw i)
def wM (qd : List QD) (t : TK) : ED := (t.2.2, dQ qd t.1, .hrd t.1 t.2.1)
def pS (sg : List GD) (qd : List QD) (sd : List SD) : List ED := ((List.range sg.length).filter (jd sg (dR sd))).map (xm sg) ++ ((fc 0 (fR qd)).filter (cj qd sd)).map (wM qd)
inductive AH (x sb tb l : Addr) (H5 : Hp) (d0 : List ED) (td : List ED) (i : Nat) (σ : St) (H6 : Hp) : Prop
  | mk (us : List V) (e4 e5 e6 : Option V) (e : σ = [some (.ref x), some (.ref sb), some (.ref tb), some (.ref l), e4, e5, e6]) (kp : ∀ b o, H5 b = some o → b ≠ l → H6 b = some o) (hl : H6 l = some (.lst us)) (ul : us.length ≤ 24 + i) (lz : Lz lN H6 us (d0 ++ td.take i))
inductive Ee (C : Addr) (vs : List V) (H : Hp) (Q : VK) : Prop
  | mk (x p s t y : Addr) (ps : List Str) (ss ts ys : List V) (sg : List GD) (qd : List QD) (sd : List SD) (e : vs = [.ref x]) (bk : Bk C H x p s t y ps ss ts ys) (pl : ps.length ≤ 24) (sl : ss.length ≤ 24) (tl : ts.length ≤ 120) (gs : Lz cI H ss sg) (gp : ∀ d ∈ sg, d.1 ∈ ps) (qs : Lz dc H ts qd) (qk : ∀ d ∈ qd, qI ps d) (sy : Sys H ys sd) (l : ys.length ≤ 60)
      (k : ∀ (l : Addr) (us : List V) (H' : Hp), au H H' → H l = none → H' l = some (.lst us) → Lz lN H' us (pS sg qd sd) → us.length ≤ 400 → Q (.ref l) H')
def Am (C : Addr) : Sp := fun vs H Q _ => Ee C vs H Q
section
variable {P : Program} {w : World} {K : PySem.W.Frag} {mg : Str → Option Value} {base : Heap} {kw C : Addr}
theorem jS : aB ["book", "sights", "talks", "entries", "k", "teller", "hearer"] ["book"] (aa bF) := {}
theorem Bi {f : Addr} {fd : FuncData} (D : Df K mg "open_entries" bF ["book"] f fd) (T : Txt K mg kw C) (G_sights : Md P w K mg base 1 C "sights" (cn C fun _ s _ _ => s)) (G_talks : Md P w K mg base 1 C "talks" (cn C fun _ _ t _ => t)) (G_open_sights : Gd P w K mg base 4 "open_sights" (nq C)) (G_open_tellings : Gd P w K mg base 4 "open_tellings" (n8 C)) : Gd P w K mg base 5 "open_entries" (Am C) := by
  refine J.aP D jS (fun vs H Q E h => ?_) (fun X H vs Q E hh h => ?_)
  · obtain ⟨x, p, s, t, y, ps, ss, ts, ys, sg, qd, sd, rfl, _⟩ := h
    rfl
  · obtain ⟨x, p, s, t, y, ps, ss, ts, ys, sg, qd, sd, rfl, bk, pl, sl, tl, gs, gp, qs, qk, sy, l60, k⟩ := h
    have S0 := hh.sl 0 "book"
    have S1 := hh.sl 1 "sights"
    have S2 := hh.sl 2 "talks"
    have S3 := hh.sl 3 "entries"
    have S4 := hh.sl 4 "k"
    have S5 := hh.sl 5 "teller"
    have S6 := hh.sl 6 "hearer"
    have C_open_sights := hh.c G_open_sights
    have C_open_tellings := hh.c G_open_tellings
    have M_sights := hh.met G_sights (by decide)
    have M_talks := hh.met G_talks (by decide)
    have hsz : sizeLine = 16777216 := sizeLine_eq
    refine ⟨_, (J.ah (J.set S1 hh.nd (J.nZ M_sights (J.rd S0) rfl))
 (J.ah (J.set S2 hh.nd (J.nZ M_talks (J.rd S0) rfl))
 (J.ah (J.kA (sc := L2.aa bF) (N := ["book", "sights", "talks", "entries", "k", "teller", "hearer"]) (is := [1]) (xs := ["i"]) (ns := ["sights"]) S3 hh.nd hh.calm (J.bh (J.cF C_open_sights (J.ai (J.rd S0) J.ae))) {} (fun _ _ _ _ _ => (J.vb (i := 0) (by decide +kernel) rfl rfl)) (fun _ _ _ _ _ => J.gq) (fun _ _ _ _ _ => (J.bj (J.ai (J.aw J.dr (J.aw J.i6 (J.rM (i := 1) rfl rfl (by decide) (by decide)) (J.jG (i := 0) rfl rfl (by decide) (by decide)) J.bf) J.ag J.az) (J.ai (J.aw J.dr (J.aw J.i6 (J.rM (i := 1) rfl rfl (by decide) (by decide)) (J.jG (i := 0) rfl rfl (by decide) (by decide)) J.bf) J.ag J.az) (J.ai (J.bj (J.ai J.ba (J.ai (J.jG (i := 0) rfl rfl (by decide) (by decide)) J.ae))) J.ae))))) hh.hsc hh.hN (by decide +kernel))
 (J.ah (J.cA hh.own hh.calm (J.bh (J.cF C_open_tellings (J.ai (J.rd S0) J.ae))) (J.dX hh.calm (J.bO (J.fE S4 hh.nd) (J.bO (J.fE S5 hh.nd) (J.bO (J.fE S6 hh.nd) J.cD))))
 (J.ak (J.fh (J.bm PySem.F.plainAttrs_list PySem.F.slot_list_append PySem.F.type_list_append J.bR (J.rd S3) (J.ai (J.bj (J.ai (J.rd S6) (J.ai (J.aw J.aD (J.aw J.aX (J.rd S2) (J.rd S4) J.bf) J.ag J.az) (J.ai (J.bj (J.ai J.ba (J.ai (J.rd S4) (J.ai (J.rd S5) J.ae)))) J.ae)))) J.ae)))))
 (J.ak (J.aE (J.rd S3))))))), ?_⟩
    obtain ⟨⟨dx, hx⟩, hp, hs, ht, hy⟩ := id bk
    refine ⟨_, rfl, x, dx, _, rfl, hx, gb _ _ _ _ (by decide +kernel) (by decide +kernel) (by decide +kernel) (by decide +kernel), x, p, s, t, y, ss, rfl, ⟨dx, hx⟩, hs, fun sb nsb => ?_⟩
    have s1 := au.upd (o := .lst ss) nsb
    have hsb1 : upd H sb (.lst ss) sb = some (.lst ss) := af
    generalize upd H sb (.lst ss) = H1 at s1 hsb1
    refine ⟨_, rfl, x, dx, _, rfl, s1 _ _ hx, gb _ _ _ _ (by decide +kernel) (by decide +kernel) (by decide +kernel) (by decide +kernel), x, p, s, t, y, ts, rfl, ⟨dx, s1 _ _ hx⟩, s1 _ _ ht, fun tb ntb => ?_⟩
    have s2 := s1.trans (au.upd (o := .lst ts) ntb)
    have hsb2 := au.upd (o := .lst ts) ntb _ _ hsb1
    have htb2 : upd H1 tb (.lst ts) tb = some (.lst ts) := af
    generalize upd H1 tb (.lst ts) = H2 at s2 hsb2 htb2
    refine ⟨_, rfl, x, p, s, t, y, ps, ss, ts, ys, sg, sd, rfl, bk.mono s2, pl, sl, gs.mono (cI.mono (Tk.of s2)), gp, sy.mono (Tk.of s2), l60, fun lo H3 s3 nlo hlo => ?_⟩
    have s03 := s2.trans s3
    have hsb3 := s3 _ _ hsb2
    have htb3 := s3 _ _ htb2
    have gl := gs.1
    have ol := qK sg sd sg.length
    refine ⟨lo, rfl, ⟨_, aJ.of hlo⟩, kK (fun j H' v => ∃ i, ((List.range sg.length).filter (jd sg (dR sd)))[j]? = some i ∧ lN H' v (xm sg i)) (fun j v H H' tk ⟨i, e, h⟩ => ⟨i, e, h.mono tk⟩) (aJ.of hlo) (by omega) ?_ ?_⟩
    · intro j v H4 K1 hv s4 k1
      unfold fX at hv
      rw [List.getElem?_map] at hv
      obtain ⟨i, hi, rfl⟩ := Option.map_eq_some_iff.mp hv
      have il : i < sg.length := List.mem_range.mp (List.mem_filter.mp (List.mem_of_getElem? hi)).1
      obtain ⟨vg, hvg⟩ : ∃ vg, ss[i]? = some vg := ⟨_, List.getElem?_eq_getElem (by omega)⟩
      have hg : sg[i]? = some sg[i] := List.getElem?_eq_getElem il
      obtain ⟨ga, tale, rfl, hga⟩ := gs.2 _ _ _ hvg hg
      have ga4 := s4 _ _ (s03 _ _ hga)
      have sb4 := s4 _ _ hsb3
      have sdE : xm sg i = (sg[i].1, sg[i].2, .saw i) := by
        unfold xm
        rw [hg]
      refine ⟨_, rfl, _, rfl, sb, _, _, _, rfl, rfl, aJ.of sb4, bE hvg, ga, _, _, _, rfl, rfl, aL.of ga4, rfl, _, rfl, _, rfl, sb, _, _, _, rfl, rfl, aJ.of sb4, bE hvg, ga, _, _, _, rfl, rfl, aL.of ga4, rfl, _, rfl, by show 2 ≤ sizeLine; decide, fun wa nwa => ⟨by show 3 ≤ sizeLine; decide, fun ta nta => ?_⟩⟩
      refine k1 _ _ ((au.upd nwa).trans (au.upd nta)) ⟨i, hi, ta, rfl, ?_⟩
      rw [sdE]
      exact ⟨wa, af, au.upd nta _ _ af⟩
    · intro l us0 H4 nl s4 hl ul0 ur
      have s04 := s03.trans s4
      have lz0 : Lz lN H4 us0 (((List.range sg.length).filter (jd sg (dR sd))).map (xm sg)) := by
        refine ⟨by rw [ul0, List.length_map]; unfold fX; rw [List.length_map], fun j v d hv hd => ?_⟩
        obtain ⟨i, hi, he⟩ := ur j v hv
        rw [List.getElem?_map, hi] at hd
        cases hd
        exact he
      have ul24 : us0.length ≤ 24 := by omega
      clear ur
      refine ⟨_, rfl, x, p, s, t, y, ps, ss, ts, ys, qd, sd, rfl, bk.mono s04, pl, tl, qs.mono (dc.mono (Tk.of s04)), qk, sy.mono (Tk.of s04), l60, fun m vs H5 s5 nm hm tu => ?_⟩
      have s05 := s04.trans s5
      have hl5 := s5 _ _ hl
      have htb5 := s5 _ _ (s4 _ _ htb3)
      have tll := tu.1
      have tlen := i4 (fR qd) 0
      have qle : (fR qd).length = qd.length := List.length_map _
      have qsl := qs.1
      have fl := List.length_filter_le (cj qd sd) (fc 0 (fR qd))
      have nml : m ≠ l := fun e => by rw [e, hl] at nm; cases nm
      have nlt : tb ≠ l := fun e => by rw [← e, htb3] at nl; cases nl
      refine ⟨m, rfl, ⟨_, aJ.of hm⟩, cS (K := X.K) (a := m) (xs := vs) (AH x sb tb l H5 (((List.range sg.length).filter (jd sg (dR sd))).map (xm sg)) (((fc 0 (fR qd)).filter (cj qd sd)).map (wM qd))) ⟨us0, none, none, none, rfl, fun b o e _ => e, hl5, by omega, by rw [List.take_zero, List.append_nil]; exact lz0.mono (lN.mono (Tk.of s5))⟩ ?_ ?_ ?_⟩
      · rintro i σ H6 hi ⟨us, e4, e5, e6, rfl, kp, hl6, ul, lz⟩
        exact aJ.of (kp _ _ hm nml)
      · rintro i v σ H6 hv ⟨us, e4, e5, e6, rfl, kp, hl6, ul, lz⟩
        have il := (List.getElem?_eq_some_iff.mp hv).1
        obtain ⟨tk, htk⟩ : ∃ tk, ((fc 0 (fR qd)).filter (cj qd sd))[i]? = some tk := ⟨_, List.getElem?_eq_getElem (by rw [← tu.1]; exact il)⟩
        obtain ⟨a, rfl, ha⟩ := tu.2 _ _ _ hv htk
        obtain ⟨q, hq, _⟩ := qR qk (List.mem_filter.mp (List.mem_of_getElem? htk)).1
        obtain ⟨vq, hvq⟩ : ∃ vq, ts[tk.1]? = some vq := ⟨_, List.getElem?_eq_getElem (by rw [qs.1]; exact (List.getElem?_eq_some_iff.mp hq).1)⟩
        obtain ⟨aq, rfl, haq⟩ := qs.2 _ _ _ hvq hq
        have ntup : ∀ {b : Addr} {zs : List V}, H5 b = some (.tup zs) → b ≠ l := fun h e => by rw [e, hl5] at h; cases h
        have haq5 := s05 _ _ haq
        have ha6 := kp _ _ ha (ntup ha)
        have haq6 := kp _ _ haq5 (ntup haq5)
        have htb6 := kp _ _ htb5 nlt
        refine ⟨a, _, rfl, aL.of ha6, rfl, _, _, rfl, _, _, rfl, _, _, rfl, rfl, ?_⟩
        refine ⟨_, rfl, .inl ⟨rfl, _, aJ.of hl6⟩, _, rfl, _, rfl, _, rfl, tb, _, _, _, rfl, rfl, aJ.of htb6, bE hvq, aq, _, _, _, rfl, rfl, aL.of haq6, rfl, _, rfl, _, rfl, by show 3 ≤ sizeLine; decide, fun wa nwa => ⟨by show 3 ≤ sizeLine; decide, fun ta nta => ?_⟩⟩
        have sA := au.upd (o := .tup [.str "heard", .int (tk.1 : Nat), .str tk.2.1]) nwa
        have sB := au.upd (o := .tup [.str tk.2.2, .int q.1, .ref wa]) nta
        have sAB := sA.trans sB
        have hl7 := sAB _ _ hl6
        refine ⟨l, us, .ref ta, rfl, rfl, hl7, by omega, ?_⟩
        have tkU := Tk.upd hl7 (ys := us ++ [.ref ta])
        have tdE : wM qd tk = (tk.2.2, q.1, .hrd tk.1 tk.2.1) := by
          unfold wM
          rw [gN hq]
        have tt : (((fc 0 (fR qd)).filter (cj qd sd)).map (wM qd)).take (i + 1) = (((fc 0 (fR qd)).filter (cj qd sd)).map (wM qd)).take i ++ [wM qd tk] := by
          rw [List.take_add_one, List.getElem?_map, htk]
          rfl
        refine ⟨us ++ [.ref ta], _, _, _, rfl, fun b o e n => by rw [ao n]; exact sAB _ _ (kp b o e n), af, by rw [List.length_append]; show us.length + 1 ≤ _; omega, ?_⟩
        rw [tt, ← List.append_assoc]
        refine Lz.snoc ((lz.mono (lN.mono (Tk.of sAB))).mono (lN.mono tkU)) ⟨ta, rfl, ?_⟩
        rw [tdE]
        exact ic.mono tkU ⟨wa, af, sB _ _ af⟩
      · rintro σ H6 ⟨us, e4, e5, e6, rfl, kp, hl6, ul, lz⟩
        refine ⟨_, rfl, k l us H6 (fun b o e => kp b o (s05 _ _ e) (aj e (s03.free nl))) (s03.free nl) hl6 ?_ (by omega)⟩
        rw [List.take_of_length_le (by rw [List.length_map]; omega)] at lz
        exact lz
end
abbrev RD := Str × Option Int
def jT (H : Hp) (v : V) (d : RD) : Prop := ∃ a : Addr, v = .ref a ∧ H a = some (.tup [.str d.1, oV d.2])
theorem jT.mono {H H' : Hp} (s : Tk H H') (v : V) (d : RD) (h : jT H v d) : jT H' v d := by
  obtain ⟨a, e, ha⟩ := h
  exact ⟨a, e, s _ _ ha⟩
def lO (ps : List Str) : List Str := ps.mergeSort fun a b => !PySem.Spec.ltCps b.cps.toList a.cps.toList
theorem lu (ps : List Str) : (lO ps).Perm ps := List.mergeSort_perm ..
theorem qv (ps : List Str) : PyProof.Rows.sortedS (lO ps) = true := by
  refine PyProof.Rows.sortedS_of_pairwise _ ((List.pairwise_mergeSort (le := fun a b => !PySem.Spec.ltCps b.cps.toList a.cps.toList) (fun a b c h1 h2 => ?_) (fun a b => ?_) ps).imp fun {a b} h => ?_)
  · rw [Bool.not_eq_true'] at *
    exact le_trans' h1 h2
  · rw [Bool.or_eq_true, Bool.not_eq_true', Bool.not_eq_true', PyProof.Rows.ltCps_eq, PyProof.Rows.ltCps_eq, decide_eq_false_iff_not, decide_eq_false_iff_not, List.not_lt, List.not_lt]
    exact List.le_total _ _
  · rw [Bool.not_eq_true'] at h
    exact h
theorem vV {zs ps : List Str} (h : zs.Perm ps) (s : PyProof.Rows.sortedS zs = true) : zs = lO ps := lJ (h.trans (lu ps).symm) s (qv ps)
theorem sv : ∀ {us : List V}, (∀ v ∈ us, ∃ a, v = V.ref a) → ∃ as : List Addr, us = as.map V.ref
  | [], _ => ⟨[], rfl⟩
  | v :: r, h => by
    obtain ⟨a, rfl⟩ := h v List.mem_cons_self
    obtain ⟨as, e⟩ := sv fun u hu => h u (List.mem_cons_of_mem _ hu)
    exact ⟨a :: as, by rw [e]; rfl⟩
theorem yu {H : Hp} {us : List V} {ds : List ED} (lz : Lz lN H us ds) : ∃ as : List Addr, us = as.map V.ref ∧ (∀ a ∈ as, ∃ d ∈ ds, ic H a d) ∧ ∀ d ∈ ds, ∃ a ∈ as, ic H a d := by
  have ix : ∀ {i : Nat} {v : V}, us[i]? = some v → ∃ d, ds[i]? = some d := fun {i v} h => ⟨_, List.getElem?_eq_getElem (by rw [← lz.1]; exact (List.getElem?_eq_some_iff.mp h).1)⟩
  obtain ⟨as, rfl⟩ := sv (us := us) fun v hv => by
    obtain ⟨i, hi⟩ := List.getElem?_of_mem hv
    obtain ⟨d, hd⟩ := ix hi
    obtain ⟨a, e, _⟩ := lz.2 _ _ _ hi hd
    exact ⟨a, e⟩
  refine ⟨as, rfl, fun a ha => ?_, fun d hd => ?_⟩
  · obtain ⟨i, hi⟩ := List.getElem?_of_mem ha
    have hi' : (as.map V.ref)[i]? = some (.ref a) := by rw [List.getElem?_map, hi]; rfl
    obtain ⟨d, hd⟩ := ix hi'
    obtain ⟨a', e, h⟩ := lz.2 _ _ _ hi' hd
    cases e
    exact ⟨d, List.mem_of_getElem? hd, h⟩
  · obtain ⟨i, hi⟩ := List.getElem?_of_mem hd
    have il : i < (as.map V.ref).length := by rw [lz.1]; exact (List.getElem?_eq_some_iff.mp hi).1
    obtain ⟨a', e, h⟩ := lz.2 i _ d (List.getElem?_eq_getElem il) hi
    rw [List.length_map] at il
    rw [List.getElem_map] at e
    cases e
    exact ⟨_, List.getElem_mem il, h⟩
section
variable {P : Program} {w : World} {K : PySem.W.Frag} {mg : Str → Option Value} {base : Heap} {kw C : Addr}
inductive C6 (C : Addr) (vs : List V) (H : Hp) (Q : VK) : Prop
  | mk (x p s t y : Addr) (ps : List Str) (ss ts ys : List V) (sg : List GD) (qd : List QD) (sd : List SD) (e : vs = [.ref x]) (bk : Bk C H x p s t y ps ss ts ys) (pl : ps.length ≤ 24) (sl : ss.length ≤ 24) (tl : ts.length ≤ 120) (gs : Lz cI H ss sg) (gp : ∀ d ∈ sg, d.1 ∈ ps) (qs : Lz dc H ts qd) (qk : ∀ d ∈ qd, qI ps d) (sy : Sys H ys sd) (l : ys.length ≤ 60)
      (k : ∀ (l : Addr) (us : List V) (F : FH) (H' : Hp), au H H' → H l = none → H' l = some (.lst us) → Lz jT H' us ((lO ps).map fun z => (z, F z)) → Ai (pS sg qd sd) F → Q (.ref l) H')
def wc (C : Addr) : Sp := fun vs H Q _ => C6 C vs H Q
theorem oJ : aB ["book", "known"] ["book"] (aa cJ) := {}
theorem Ae {f : Addr} {fd : FuncData} (D : Df K mg "earliest" cJ ["book"] f fd) (T : Txt K mg kw C) (G_persons : Md P w K mg base 1 C "persons" (cn C fun p _ _ _ => p)) (G_open_entries : Gd P w K mg base 5 "open_entries" (Am C)) (G_first_entries : Gd P w K mg base 4 "first_entries" zO) (G_hour_of : Gd P w K mg base 1 "hour_of" vM) : Gd P w K mg base 6 "earliest" (wc C) := by
  refine J.aP D oJ (fun vs H Q E h => ?_) (fun X H vs Q E hh h => ?_)
  · obtain ⟨x, p, s, t, y, ps, ss, ts, ys, sg, qd, sd, rfl, _⟩ := h
    rfl
  · obtain ⟨x, p, s, t, y, ps, ss, ts, ys, sg, qd, sd, rfl, bk, pl, sl, tl, gs, gp, qs, qk, sy, l60, k⟩ := h
    have S0 := hh.sl 0 "book"
    have S1 := hh.sl 1 "known"
    have B_sorted := hh.b T.b_sorted
    have C_first_entries := hh.c G_first_entries
    have C_open_entries := hh.c G_open_entries
    have CI_hour_of := hh.ci G_hour_of
    have M_persons := hh.met G_persons (by decide)
    have hu := gA hh.room
    have hsz : sizeLine = 16777216 := sizeLine_eq
    refine ⟨_, (J.ah (J.set S1 hh.nd (J.cF C_first_entries (J.ai (J.cF C_open_entries (J.ai (J.rd S0) J.ae)) J.ae)))
 (J.ak (J.aE (J.Bp (sc := L2.aa cJ) (N := ["book", "known"]) (is := [1]) (xs := ["person"]) (ns := ["known"]) hh.calm (J.bh (J.blt B_sorted J.eJ L2.jm (J.ai (J.nZ M_persons (J.rd S0) rfl) J.ae))) {} (fun _ _ _ _ _ => (J.vb (i := 0) (by decide +kernel) rfl rfl)) (fun _ _ _ _ _ => J.gq) (fun _ _ _ _ _ => (J.bj (J.ai (J.jG (i := 0) rfl rfl (by decide) (by decide)) (J.ai (J.BX (J.ve hu (J.jG (i := 0) rfl rfl (by decide) (by decide)) (J.rM (i := 1) rfl rfl (by decide) (by decide))) (J.cF (CI_hour_of.lg rfl) (J.ai (J.sL hu (J.rM (i := 1) rfl rfl (by decide) (by decide)) (J.jG (i := 0) rfl rfl (by decide) (by decide)) J.bf) J.ae)) J.fu) J.ae)))) hh.hsc hh.hN)))), ?_⟩
    obtain ⟨⟨dx, hx⟩, hp, hs, ht, hy⟩ := id bk
    refine ⟨_, rfl, x, p, s, t, y, ps, ss, ts, ys, sg, qd, sd, rfl, bk, pl, sl, tl, gs, gp, qs, qk, sy, l60, fun en us H1 s1 nen hen lz ul => ?_⟩
    obtain ⟨as, rfl, ed, de⟩ := yu lz
    rw [List.length_map] at ul
    refine ⟨en, as, pS sg qd sd, rfl, hen, ul, ed, de, fun kn kvs F H2 s2 nkn hkn kd fo => ?_⟩
    have s02 := s1.trans s2
    refine ⟨_, rfl, x, dx, _, rfl, s02 _ _ hx, gb _ _ _ _ (by decide +kernel) (by decide +kernel) (by decide +kernel) (by decide +kernel), x, p, s, t, y, ps.map V.str, rfl, ⟨dx, s02 _ _ hx⟩, s02 _ _ hp, fun pb npb => ?_⟩
    have s3 := au.upd (o := .lst (ps.map V.str)) npb
    have hpb : upd H2 pb (.lst (ps.map V.str)) pb = some (.lst (ps.map V.str)) := af
    generalize upd H2 pb (.lst (ps.map V.str)) = H3 at s3 hpb
    refine ⟨pb, ps, rfl, aJ.of hpb, by omega, fun l1 zs nl1 pm zo => ?_⟩
    cases vV pm zo
    have srl : (lO ps).length = ps.length := (lu ps).length_eq
    have s4 := s3.trans (au.upd (o := .lst ((lO ps).map V.str)) nl1)
    have hl1 : upd H3 l1 (.lst ((lO ps).map V.str)) l1 = some (.lst ((lO ps).map V.str)) := af
    generalize upd H3 l1 (.lst ((lO ps).map V.str)) = H4 at s4 hl1
    refine ⟨l1, rfl, ⟨_, aJ.of hl1⟩, kK (fun j H v => ∃ z, (lO ps)[j]? = some z ∧ jT H v (z, F z)) (fun _ _ _ _ tk ⟨z, e, h⟩ => ⟨z, e, h.mono tk⟩) (aJ.of hl1) (by rw [List.length_map]; omega) ?_ ?_⟩
    · intro i v H5 K1 hv s5 k1
      rw [List.getElem?_map] at hv
      obtain ⟨z, hz, rfl⟩ := Option.map_eq_some_iff.mp hv
      have hkn5 := s5 _ _ (s4 _ _ hkn)
      have dg := eB.k (k := Sum.inr z) hkn5
      cases hF : F z with
      | none =>
        rw [kd.no z hF] at dg
        exact ⟨_, rfl, _, rfl, _, rfl, kn, _, rfl, dg, _, rfl, bY ⟨by show 2 ≤ sizeLine; decide, fun t2 nt2 => k1 _ _ (au.upd nt2) ⟨z, hz, t2, rfl, by rw [hF]; exact af⟩⟩⟩
      | some h =>
        obtain ⟨ea, w2, e1, e2⟩ := kd.yes z h hF
        rw [e1] at dg
        exact ⟨_, rfl, _, rfl, _, rfl, kn, _, rfl, dg, _, rfl, cP ⟨_, rfl, _, rfl, kn, _, rfl, dg, ea, z, h, w2, rfl, s5 _ _ (s4 _ _ e2), by show 2 ≤ sizeLine; decide, fun t2 nt2 => k1 _ _ (au.upd nt2) ⟨z, hz, t2, rfl, by rw [hF]; exact af⟩⟩⟩
    · intro rw' ws H5 nrw s5 hrw wl wr
      refine k rw' ws F H5 ((s02.trans s4).trans s5) ((s02.trans s4).free nrw) hrw ⟨by rw [wl, List.length_map, List.length_map], fun j v d hv hd => ?_⟩ fo
      obtain ⟨z, hz, h⟩ := wr j v hv
      rw [List.getElem?_map, hz] at hd
      cases hd
      exact h
end
theorem xW {sg : List GD} {qd : List QD} {sd : List SD} {z : Str} {h : Int} {i : Nat} (m : (z, h, EW.saw i) ∈ pS sg qd sd) : ∃ g, i ∈ (List.range sg.length).filter (jd sg (dR sd)) ∧ sg[i]? = some g ∧ g = (z, h) := by
  unfold pS at m
  rcases List.mem_append.mp m with m | m
  · obtain ⟨j, mj, e⟩ := List.mem_map.mp m
    have jl := List.mem_range.mp (List.mem_filter.mp mj).1
    have hg : sg[j]? = some sg[j] := List.getElem?_eq_getElem jl
    unfold xm at e
    rw [hg] at e
    have e' : (sg[j].1, sg[j].2, EW.saw j) = (z, h, EW.saw i) := e
    cases e'
    exact ⟨_, mj, hg, rfl⟩
  · obtain ⟨t, _, e⟩ := List.mem_map.mp m
    unfold wM at e
    cases e
theorem xk {sg : List GD} {qd : List QD} {sd : List SD} {z te : Str} {h : Int} {k : Nat} (m : (z, h, EW.hrd k te) ∈ pS sg qd sd) : ∃ t, t ∈ (fc 0 (fR qd)).filter (cj qd sd) ∧ t.2.1 = te ∧ t.2.2 = z ∧ dQ qd t.1 = h := by
  unfold pS at m
  rcases List.mem_append.mp m with m | m
  · obtain ⟨j, mj, e⟩ := List.mem_map.mp m
    unfold xm at e
    cases hg : sg[j]? with
    | none => rw [hg] at e; cases e
    | some g => rw [hg] at e; cases e
  · obtain ⟨t, mt, e⟩ := List.mem_map.mp m
    unfold wM at e
    cases e
    exact ⟨t, mt, rfl, rfl, rfl⟩
theorem ie {sg : List GD} {qd : List QD} {sd : List SD} {F G : FH} (so : oW sg F ((List.range sg.length).filter (jd sg (dR sd)))) (to : ∀ t ∈ (fc 0 (fR qd)).filter (cj qd sd), Bx qd F t)
    (rc : ∀ z i, F z = some i → gw sg qd ((List.range sg.length).filter (jd sg (dR sd))) ((fc 0 (fR qd)).filter (cj qd sd)) z i) (fo : Ai (pS sg qd sd) G) : ∀ z, F z = G z := by
  have a1 : ∀ {z : Str} {h : Int}, gw sg qd ((List.range sg.length).filter (jd sg (dR sd))) ((fc 0 (fR qd)).filter (cj qd sd)) z h → ∃ b, b ≤ h ∧ G z = some b := fun r => by
    induction r with
    | saw m e =>
      rename_i i g
      have md : (g.1, g.2, EW.saw i) ∈ pS sg qd sd := by
        unfold pS
        refine List.mem_append_left _ (List.mem_map.mpr ⟨i, m, ?_⟩)
        unfold xm
        rw [e]
      exact fo.cl _ md rfl
    | hrd m r l ih =>
      rename_i t h'
      obtain ⟨b, b1, b2⟩ := ih
      have md : wM qd t ∈ pS sg qd sd := by
        unfold pS
        exact List.mem_append_right _ (List.mem_map.mpr ⟨t, m, rfl⟩)
      refine fo.cl _ md ?_
      show (match G t.2.1 with | none => false | some a => decide (a < dQ qd t.1)) = true
      rw [b2]
      exact decide_eq_true (by omega)
  have a2 : ∀ {z : Str} {h : Int}, uB (pS sg qd sd) z h → ∃ b, b ≤ h ∧ F z = some b := fun r => by
    induction r with
    | saw m =>
      obtain ⟨g, mi, hg, e⟩ := xW m
      obtain ⟨j, j1, j2⟩ := so _ mi g hg
      rw [e] at j1 j2
      exact ⟨j, j2, j1⟩
    | hrd m r l ih =>
      obtain ⟨b, b1, b2⟩ := ih
      obtain ⟨t, mt, e1, e2, e3⟩ := xk m
      obtain ⟨c, c1, c2⟩ := to t mt b (by rw [e1]; exact b2) (by rw [e3]; omega)
      rw [e2] at c1
      rw [e3] at c2
      exact ⟨c, c2, c1⟩
  intro z
  cases hF : F z with
  | none =>
    cases hG : G z with
    | none => rfl
    | some b =>
      obtain ⟨c, _, e⟩ := a2 (fo.so z b hG)
      rw [hF] at e
      cases e
  | some a =>
    obtain ⟨b, b1, b2⟩ := a1 (rc z a hF)
    obtain ⟨c, c1, c2⟩ := a2 (fo.so z b b2)
    rw [hF] at c2
    cases c2
    rw [b2, show a = b by omega]
end K21
namespace K21
open PySem L2
inductive zS  (K : PySem.W.Frag) (vs : List V) (H : Hp) (Q : VK) : Prop
  | mk (a : Addr) (ns : List Int) (h0 : vs = [.ref a]) (h1 : aJ K H a (ns.map V.int)) (h2 : ns.length ≤ 63) (h3 : ∀ H', Q (.bl true) H')
def rW  (K : PySem.W.Frag) : Sp := fun vs H Q _ => zS K vs H Q
inductive BD  (vs : List V) (H : Hp) (Q : VK) : Prop
  | mk (o : Option Int) (h0 : vs = [oV o]) (h1 : Q (.bl true) H)
def Ab  : Sp := fun vs H Q _ => BD  vs H Q
def nk : SD → Bool
  | .knew _ _ => false
  | _ => true
theorem rH (z : Str) (sd : List SD) : jQ z (sd.filter nk) = jQ z sd := by
  unfold jQ
  rw [List.filter_filter]
  congr 1
  refine List.filter_congr fun d _ => ?_
  cases d with
  | knew q h => rfl
  | unh q o => exact Bool.and_true _
  | sil q b e => exact Bool.and_true _
  | bar q q' => exact Bool.and_true _
theorem uQ {f : SD → Bool} (hf : ∀ q h, f (.knew q h) = false) (sd : List SD) : (sd.filter nk).any f = sd.any f := by
  rw [List.any_filter]
  congr 1
  funext d
  cases d with
  | knew q h => rw [hf]; rfl
  | unh q o => rfl
  | sil q b e => rfl
  | bar q q' => rfl
theorem vU (sd : List SD) : dR (sd.filter nk) = dR sd := by
  funext d
  unfold dR floorOf
  rw [rH]
theorem wj (qd : List QD) (sd : List SD) : cj qd (sd.filter nk) = cj qd sd := by
  funext t
  unfold cj floorOf
  rw [rH, uQ (fun _ _ => rfl), uQ (fun _ _ => rfl)]
theorem zx (sg : List GD) (qd : List QD) (sd : List SD) : pS sg qd (sd.filter nk) = pS sg qd sd := by
  unfold pS
  rw [vU, wj]
theorem yZ {H : Hp} {ys : List V} {sd : List SD} (sy : Sys H ys sd) : Sys H (((ys.zip sd).filter fun p => nk p.2).map fun p => p.1) (sd.filter nk) := by
  have e : sd.filter nk = ((ys.zip sd).filter fun p => nk p.2).map fun p => p.2 := by
    have e1 : (ys.zip sd).map Prod.snd = sd := List.map_snd_zip (by rw [sy.1]; exact Nat.le_refl _)
    have e2 := List.filter_map (f := Prod.snd) (p := nk) (l := ys.zip sd)
    rw [e1] at e2
    exact e2
  refine ⟨by rw [e, List.length_map, List.length_map], fun i v d hv hd => ?_⟩
  rw [e, List.getElem?_map] at hd
  rw [List.getElem?_map] at hv
  obtain ⟨p, hp, rfl⟩ := Option.map_eq_some_iff.mp hv
  rw [hp] at hd
  cases hd
  obtain ⟨hp1, _⟩ := List.mem_filter.mp (List.mem_of_getElem? hp)
  obtain ⟨j, hj⟩ := List.getElem?_of_mem hp1
  obtain ⟨h1, h2⟩ := j9 hj
  exact sy.2 j _ _ h1 h2
theorem sI (d : RD) : ∀ z ∈ [V.str d.1, oV d.2], jN z z = some true := fun z hz => by
  rcases List.mem_cons.mp hz with rfl | hz
  · show (if bK (V.str d.1) = true ∧ bK (V.str d.1) = true then some (ou (V.str d.1) (V.str d.1)) else none) = some true
    rw [if_pos ⟨rfl, rfl⟩]
    show some (d.1 == d.1) = some true
    rw [beq_self_eq_true]
  · cases List.mem_singleton.mp hz
    cases d.2 with
    | none => rfl
    | some i =>
      show (if bK (V.int i) = true ∧ bK (V.int i) = true then some (ou (V.int i) (V.int i)) else none) = some true
      rw [if_pos ⟨rfl, rfl⟩]
      show some (i == i) = some true
      rw [beq_self_eq_true]
theorem nV {K : PySem.W.Frag} {H : Hp} {a b : Addr} {us ws : List V} {rd : List RD} {q : Prop} (ha : H a = some (.lst us)) (hb : H b = some (.lst ws)) (h1 : Lz jT H us rd) (h2 : Lz jT H ws rd) (k : q) : oH K (.ref a) (.ref b) H q := by
  refine ⟨a, b, us, ws, rfl, rfl, aJ.of ha, aJ.of hb, h1.1.trans h2.1.symm, fun i u v hu hv => ?_, k⟩
  obtain ⟨d, hd⟩ : ∃ d, rd[i]? = some d := ⟨_, List.getElem?_eq_getElem (by rw [← h1.1]; exact (List.getElem?_eq_some_iff.mp hu).1)⟩
  obtain ⟨p, e1, hp⟩ := h1.2 _ _ _ hu hd
  obtain ⟨p', e2, hp'⟩ := h2.2 _ _ _ hv hd
  exact ⟨p, p', _, e1, e2, aL.of hp, aL.of hp', sI d⟩
section
variable {P : Program} {w : World} {K : PySem.W.Frag} {mg : Str → Option Value} {base : Heap} {kw C : Addr}
theorem qU : aB ["_law_found"] ["_law_found"] (aa ee) := {}
theorem BW {f : Addr} {fd : FuncData} (D : Df K mg "_law_whole" ee ["_law_found"] f fd) (T : Txt K mg kw C) : Gd P w K mg base 1 "_law_whole" Ab := by
  refine J.aP D qU (fun vs H Q E h => ?_) (fun X H vs Q E hh h => ?_)
  · obtain ⟨o, rfl, _⟩ := h
    rfl
  · obtain ⟨o, rfl, k⟩ := h
    have S0 := hh.sl 0 "_law_found"
    have B_bool := hh.b T.b_bool
    have B_int := hh.b T.b_int
    have B_isinstance := hh.b T.b_isinstance
    refine ⟨_, (J.ak (J.aE (J.pf (J.bu J.jB (J.rd S0) J.fu (L2.aH _)) (J.bD (J.bz (J.blt B_isinstance J.bS L2.aT (J.ai (J.rd S0) (J.ai (J.ty B_int L2.mU) J.ae))) (J.bD (J.oh (J.blt B_isinstance J.bS L2.aT (J.ai (J.rd S0) (J.ai (J.ty B_bool L2.sf) J.ae)))))))))), ?_⟩
    cases o with
    | none => exact ⟨_, rfl, rfl, _, rfl, cP k⟩
    | some i =>
      exact ⟨_, rfl, rfl, _, rfl, bY ⟨_, rfl, _, _, _, _, rfl, eC.int _, bL (by decide) (by decide), _, rfl, cP ⟨_, rfl, _, _, _, _, rfl, eC.int _, bL (by decide) (by decide), _, rfl, k⟩⟩⟩
theorem ze : aB ["_law_script", "_law_whole_here", "_law_names_here", "_law_things_here", "_law_numbers", "_law_tellings_here", "_law_found", "_law_due", "_law_book_here", "_law_told", "_law_row", "_law_less"] ["_law_script"] (aa gE) := {}
theorem Aj {f : Addr} {fd : FuncData} (F : lZ K "law" "law" gE f fd) (T : Txt K mg kw C) (G__law_drawn : Gd P w K mg base 4 "_law_drawn" (vA K)) (G__law_open : Gd P w K mg base 3 "_law_open" j3) (G__law_hours : Gd P w K mg base 1 "_law_hours" rq)
    (G__law_book : Gd P w K mg base 9 "_law_book" (vp C)) (G_earliest : Gd P w K mg base 6 "earliest" (wc C)) (G__law_whole : Gd P w K mg base 1 "_law_whole" Ab) : dW P w K mg base jP 10 f fd ["_law_script"] (rW K) := by
  refine J.kf F ze (fun vs H Q E h => ?_) (fun X H vs Q E hh h => ?_)
  · obtain ⟨a, ns, rfl, _⟩ := h
    rfl
  · obtain ⟨sc, ns, rfl, hsc, n63, q⟩ := h
    have S0 := hh.sl 0 "_law_script"
    have S1 := hh.sl 1 "_law_whole_here"
    have S2 := hh.sl 2 "_law_names_here"
    have S3 := hh.sl 3 "_law_things_here"
    have S4 := hh.sl 4 "_law_numbers"
    have S5 := hh.sl 5 "_law_tellings_here"
    have S6 := hh.sl 6 "_law_found"
    have S7 := hh.sl 7 "_law_due"
    have S8 := hh.sl 8 "_law_book_here"
    have S9 := hh.sl 9 "_law_told"
    have S10 := hh.sl 10 "_law_row"
    have S11 := hh.sl 11 "_law_less"
    have B_isinstance := hh.b T.b_isinstance
    have B_list := hh.b T.b_list
    have B_sorted := hh.b T.b_sorted
    have B_tuple := hh.b T.b_tuple
    have C__law_book := hh.c G__law_book
    have C__law_drawn := hh.c G__law_drawn
    have C__law_hours := hh.c G__law_hours
    have C__law_open := hh.c G__law_open
    have C__law_whole := hh.c G__law_whole
    have C_earliest := hh.c G_earliest
    have hu := gA hh.room
    obtain rfl := hh.fK
    have hsz : sizeLine = 16777216 := sizeLine_eq
    refine ⟨_, (J.ah (J.asg (J.cF C__law_drawn (J.ai (J.rd S0) (J.ai J.ag J.ae))) (J.dX hh.calm (J.bO (J.fE S1 hh.nd) (J.bO (J.fE S2 hh.nd) (J.bO (J.fE S3 hh.nd) J.cD)))))
 (J.ah (J.asg (J.cF C__law_open (J.ai (J.rd S3) J.ae)) (J.dX hh.calm (J.bO (J.fE S4 hh.nd) (J.bO (J.fE S5 hh.nd) J.cD))))
 (J.ah (J.set S6 hh.nd (J.cF C__law_hours (J.ai (J.rd S3) (J.ai (J.rd S4) (J.ai (J.rd S5) J.ae)))))
 (J.ah (J.kA (sc := L2.aa gE) (N := ["_law_script", "_law_whole_here", "_law_names_here", "_law_things_here", "_law_numbers", "_law_tellings_here", "_law_found", "_law_due", "_law_book_here", "_law_told", "_law_row", "_law_less"]) (is := [6]) (xs := ["_law_person"]) (ns := ["_law_found"]) S7 hh.nd hh.calm (J.bh (J.blt B_sorted J.eJ L2.jm (J.ai (J.rd S2) J.ae))) {} (fun _ _ _ _ _ => (J.vb (i := 0) (by decide +kernel) rfl rfl)) (fun _ _ _ _ _ => J.gq) (fun _ _ _ _ _ => (J.bj (J.ai (J.jG (i := 0) rfl rfl (by decide) (by decide)) (J.ai (J.Dj hu (J.rM (i := 1) rfl rfl (by decide) (by decide)) (J.jG (i := 0) rfl rfl (by decide) (by decide))) J.ae)))) hh.hsc hh.hN (by decide +kernel))
 (J.ah (J.set S8 hh.nd (J.cF C__law_book (J.ai (J.rd S2) (J.ai (J.rd S3) J.ae))))
 (J.ah (J.set S9 hh.nd (J.cF C_earliest (J.ai (J.rd S8) J.ae)))
 (J.ah (J.bp (J.dN (J.fq (J.cq (J.bB (J.blt B_isinstance J.bS L2.aT (J.ai (J.rd S9) (J.ai (J.ty B_list L2.cE) J.ae))))) (J.d7 (J.aI (J.jh (L2.q9 hh.room)) (J.rd S9) (J.rd S7) (L2.aH _)))))
 (J.ak (J.aE J.dk))
 J.aM)
 (J.ah (J.cA hh.own hh.calm (J.bh (J.rd S9)) (J.fE S10 hh.nd)
 (J.ak (J.bp (J.dN (J.fq (J.cq (J.bB (J.blt B_isinstance J.bS L2.aT (J.ai (J.rd S10) (J.ai (J.ty B_tuple L2.iY) J.ae))))) (J.d7 (J.cq (J.bB (J.cF C__law_whole (J.ai (J.aw J.aD (J.rd S10) J.ag J.az) J.ae)))))))
 (J.ak (J.aE J.dk))
 J.aM)))
 (J.ah (J.fh (J.Dr PySem.F.plainAttrs_list PySem.F.slot_list_clear PySem.F.type_list_clear J.kI (J.rd S9)))
 (J.ah (J.set S11 hh.nd (J.bj (J.ai (J.aw J.aD (J.rd S3) J.ag J.az) (J.ai (J.aw J.aD (J.rd S3) J.ag J.az) (J.ai (J.Bp (sc := L2.aa gE) (N := ["_law_script", "_law_whole_here", "_law_names_here", "_law_things_here", "_law_numbers", "_law_tellings_here", "_law_found", "_law_due", "_law_book_here", "_law_told", "_law_row", "_law_less"]) (is := []) (xs := ["_law_row"]) (ns := []) hh.calm (J.bh (J.aw J.aD (J.rd S3) J.ag J.az)) {} (fun _ _ _ _ _ => (J.vb (i := 0) (by decide +kernel) rfl rfl)) (fun _ _ _ _ _ => (J.fj (J.aI J.mz (J.aw J.dr (J.jG (i := 0) rfl rfl (by decide) (by decide)) J.ag J.az) J.ba (L2.aH _)))) (fun _ _ _ _ _ => (J.jG (i := 0) rfl rfl (by decide) (by decide))) hh.hsc hh.hN) J.ae)))))
 (J.ak (J.aE (J.bz (J.bu (J.gO (L2.q9 hh.room)) (J.cF C_earliest (J.ai (J.rd S8) J.ae)) (J.rd S7) (L2.aH _)) (J.bD (J.bu (J.gO (L2.q9 hh.room)) (J.cF C_earliest (J.ai (J.cF C__law_book (J.ai (J.rd S2) (J.ai (J.rd S11) J.ae))) J.ae)) (J.rd S7) (L2.aH _)))))))))))))))), ?_⟩
    refine ⟨_, rfl, sc, ns, rfl, hsc, n63, fun r nl th s t y W ps ss ts ys H1 s1 hr W0 W1 hnl po ok => ?_⟩
    refine ⟨r, _, rfl, aL.of hr, rfl, _, _, rfl, _, _, rfl, _, _, rfl, rfl, ?_⟩
    clear hr
    obtain ⟨sg, gs, gk⟩ := jH ok.gs
    obtain ⟨qd, qs, qk⟩ := vt ok.gt
    obtain ⟨sd, sy, sk⟩ := js ok.gy
    have ll := ok.lt
    refine ⟨_, rfl, th, s, t, y, ps, ss, ts, ys, sg, qd, sd, rfl, ok.hth, ok.hs, ok.ht, ok.hy, ok.ls, (by omega), gs, (fun d hd => (gk d hd).2), qs, qk, sy, fun r2 nb tl us H4 s4 _ _ _ hr2 hnb htl tu => ?_⟩
    refine ⟨r2, _, rfl, aL.of hr2, rfl, _, _, rfl, _, _, rfl, rfl, ?_⟩
    have ok4 := ok.mono s4
    refine ⟨_, rfl, _, rfl, _, rfl, th, nb, tl, s, t, y, ps, ss, ts, us, sg, qd, (List.range sg.length).filter (jd sg (dR sd)), (fc 0 (fR qd)).filter (cj qd sd), rfl, ok4.hth, ok4.hs, ok4.ht, hnb, htl, gs.mono (cI.mono (Tk.of s4)), gk, qs.mono (dc.mono (Tk.of s4)), (fun d hd => (qk d hd).1), tu, (fun tk hk => ?_), (fun i hi => List.mem_range.mp (List.mem_filter.mp hi).1), po.hi, fun fo kvs F H5 s5 nfo hfo hrd sso tso => ?_⟩
    · obtain ⟨q, hq, _, m2⟩ := qR qk (List.mem_filter.mp hk).1
      exact ⟨(List.getElem?_eq_some_iff.mp hq).1, m2⟩
    have s35 := s4.trans s5
    have ok5 := ok.mono s35
    have hnl5 := s35 _ _ hnl
    have gs5 := gs.mono (cI.mono (Tk.of s35))
    have qs5 := qs.mono (dc.mono (Tk.of s35))
    have sy5 := sy.mono (Tk.of s35)
    clear hr2 hnb htl tu s4 s5 s35 ok ok4 hnl gs qs sy nfo
    have srl : (lO ps).length = ps.length := (lu ps).length_eq
    have plo := po.lo
    have phi := po.hi
    refine ⟨_, rfl, nl, ps, rfl, aJ.of hnl5, by omega, fun l1 zs nl1 pm zo => ?_⟩
    cases vV pm zo
    have s6 := au.upd (o := .lst ((lO ps).map V.str)) nl1
    have hl1 : upd H5 l1 (.lst ((lO ps).map V.str)) l1 = some (.lst ((lO ps).map V.str)) := af
    generalize upd H5 l1 (.lst ((lO ps).map V.str)) = H6 at s6 hl1
    refine ⟨l1, rfl, ⟨_, aJ.of hl1⟩, kK (fun j H v => ∃ z, (lO ps)[j]? = some z ∧ jT H v (z, F z)) (fun _ _ _ _ tk ⟨z, e, h⟩ => ⟨z, e, h.mono tk⟩) (aJ.of hl1) (by rw [List.length_map]; omega) ?_ ?_⟩
    · intro i v H7 K1 hv s7 k1
      rw [List.getElem?_map] at hv
      obtain ⟨z, hz, rfl⟩ := Option.map_eq_some_iff.mp hv
      have dg := eB.k (k := Sum.inr z) (s7 _ _ (s6 _ _ hfo))
      rw [hrd.get] at dg
      have ov : ((F z).map V.int).getD .non = oV (F z) := by cases F z <;> rfl
      refine ⟨_, rfl, _, rfl, fo, rfl, .inl ⟨_, .inl (s7 _ _ (s6 _ _ hfo))⟩, _, rfl, _, dg, by show 2 ≤ sizeLine; decide, fun t2 nt2 => k1 _ _ (au.upd nt2) ⟨z, hz, t2, rfl, ?_⟩⟩
      rw [ov]
      exact af
    · intro du ws H7 ndu s7 hdu wl wr
      have s57 := s6.trans s7
      have rz : Lz jT H7 ws ((lO ps).map fun z => (z, F z)) := by
        refine ⟨by rw [wl, List.length_map, List.length_map], fun j v d hv hd => ?_⟩
        obtain ⟨z, hz, h⟩ := wr j v hv
        rw [List.getElem?_map, hz] at hd
        cases hd
        exact h
      have ok7 := ok5.mono s57
      have hnl7 := s57 _ _ hnl5
      have gs7 := gs5.mono (cI.mono (Tk.of s57))
      have qs7 := qs5.mono (dc.mono (Tk.of s57))
      have sy7 := sy5.mono (Tk.of s57)
      clear s6 s7 s57 ok5 hnl5 gs5 qs5 sy5 hfo hl1 wr wl ndu
      have lly := ok7.ly
      have gp : ∀ d ∈ sg, d.1 ∈ ps := fun d hd => (gk d hd).1
      refine ⟨_, rfl, _, rfl, nl, th, s, t, y, ps, ss, ts, ys, rfl, hnl7, ok7.hth, ok7.hs, ok7.ht, ok7.hy, ⟨po, ok7.ls, ok7.gs, by omega, ok7.gt, ok7.ly, ok7.gy⟩, fun x p' s' t' y' H8 s8 nx bk => ?_⟩
      refine ⟨_, rfl, x, p', s', t', y', ps, ss, ts, ys, sg, qd, sd, rfl, bk, phi, ok7.ls, by omega, gs7.mono (cI.mono (Tk.of s8)), gp, qs7.mono (dc.mono (Tk.of s8)), qk, sy7.mono (Tk.of s8), lly, fun to us2 G H9 s9 nto hto rt fe => ?_⟩
      obtain rfl : F = G := funext (ie sso tso hrd.rc fe)
      have s79 := s8.trans s9
      have rz9 := rz.mono (jT.mono (Tk.of s79))
      have hdu9 := s79 _ _ hdu
      refine ⟨_, rfl, _, _, _, _, rfl, eC.lst hto, bL (by decide) (by decide), _, rfl, bT (by decide) ⟨_, rfl, _, rfl, nV hto hdu9 rt rz9 ⟨_, rfl, bY ?_⟩⟩⟩
      refine ⟨_, rfl, to, rfl, ⟨_, aJ.of hto⟩, cS (K := X.K) (a := to) (xs := us2) (fun i σ H' => ∃ e10 : Option V, σ = [some (.ref sc), some (.int W), some (.ref nl), some (.ref th), some (.ref nb), some (.ref tl), some (.ref fo), some (.ref du), some (.ref x), some (.ref to), e10, none] ∧ H' = H9) ⟨none, rfl, rfl⟩ ?_ ?_ ?_⟩
      · rintro i σ H' hi ⟨e10, rfl, rfl⟩
        exact aJ.of hto
      · rintro i v σ H' hv ⟨e10, rfl, rfl⟩
        obtain ⟨d, hd⟩ : ∃ d, ((lO ps).map fun z => (z, F z))[i]? = some d := ⟨_, List.getElem?_eq_getElem (by rw [← rt.1]; exact (List.getElem?_eq_some_iff.mp hv).1)⟩
        obtain ⟨a, rfl, ha⟩ := rt.2 _ _ _ hv hd
        exact ⟨_, rfl, _, _, _, _, rfl, eC.tup ha, bL (by decide) (by decide), _, rfl, bT (by decide) ⟨_, rfl, a, _, _, _, rfl, rfl, aL.of ha, rfl, d.2, rfl, _, rfl, bY ⟨_, rfl, rfl⟩⟩⟩
      · rintro σ H' ⟨e10, rfl, rfl⟩
        refine ⟨_, rfl, .inl ⟨rfl, _, aJ.of hto⟩, to, us2, rfl, rfl, hto, ?_⟩
        have s10 : au H8 (upd H' to (.lst [])) := fun b o e => by rw [ao (aj e nto)]; exact s9 _ _ e
        generalize upd H' to (.lst []) = H10 at s10
        have s710 := s8.trans s10
        have ok10 := ok7.mono s710
        refine ⟨_, rfl, th, _, _, _, rfl, rfl, aL.of ok10.hth, rfl, _, rfl, th, _, _, _, rfl, rfl, aL.of ok10.hth, rfl, _, rfl, th, _, _, _, rfl, rfl, aL.of ok10.hth, rfl, y, rfl, ⟨_, aJ.of ok10.hy⟩, iD (xs := ys) (jd (ys.zip sd) fun p => nk p.2) (wL (ys.zip sd) fun p => p.1) (aJ.of ok10.hy) (by omega) ?_ ?_⟩
        · intro i os v H11 K1 K2 hv hos s11 k1 k2
          match os, hos with
          | [o], _ =>
            obtain ⟨d, a, hd, rfl, ha⟩ := (sy7.mono (Tk.of s710)).at hv
            have ha2 := s11 _ _ ha
            rw [jq (hE hv hd)] at k1 k2
            rw [mX (hE hv hd)] at k1
            refine ⟨⟨[some (.ref a)], rfl, rfl⟩, ?_⟩
            cases d with
            | knew q h => exact ⟨_, rfl, a, _, _, _, rfl, rfl, aL.of ha2, rfl, rfl, _, rfl, bT (by decide +kernel) (k2 rfl H11 (au.refl _))⟩
            | unh q h => exact ⟨_, rfl, a, _, _, _, rfl, rfl, aL.of ha2, rfl, rfl, _, rfl, cB (by decide +kernel) ⟨_, rfl, k1 rfl H11 (au.refl _)⟩⟩
            | bar q q' => exact ⟨_, rfl, a, _, _, _, rfl, rfl, aL.of ha2, rfl, rfl, _, rfl, cB (by decide +kernel) ⟨_, rfl, k1 rfl H11 (au.refl _)⟩⟩
            | sil q b e => exact ⟨_, rfl, a, _, _, _, rfl, rfl, aL.of ha2, rfl, rfl, _, rfl, cB (by decide +kernel) ⟨_, rfl, k1 rfl H11 (au.refl _)⟩⟩
        · intro yk H11 nyk s11 hyk
          have zl : (ys.zip sd).length = ys.length := by
            rw [List.length_zip, ← sy7.1, Nat.min_self]
          rw [← zl, gz (fun p => nk p.2) (fun p => p.1) (ys.zip sd)] at hyk
          have ykl : (((ys.zip sd).filter fun p => nk p.2).map fun p => p.1).length ≤ 60 := by
            have := List.length_filter_le (fun p : V × SD => nk p.2) (ys.zip sd)
            rw [List.length_map]
            omega
          have ykm : ∀ v ∈ ((ys.zip sd).filter fun p => nk p.2).map fun p => p.1, v ∈ ys := fun v hv => by
            obtain ⟨p, hp, rfl⟩ := List.mem_map.mp hv
            exact (List.of_mem_zip (show (p.1, p.2) ∈ ys.zip sd from (List.mem_filter.mp hp).1)).1
          refine ⟨by show 3 ≤ sizeLine; decide, fun ls nls => ?_⟩
          have s12 := s11.trans (au.upd (o := .tup [.ref s, .ref t, .ref yk]) nls)
          have hls : upd H11 ls (.tup [.ref s, .ref t, .ref yk]) ls = some (.tup [.ref s, .ref t, .ref yk]) := af
          have hyk12 := au.upd (o := .tup [.ref s, .ref t, .ref yk]) nls _ _ hyk
          generalize upd H11 ls (.tup [.ref s, .ref t, .ref yk]) = H12 at s12 hls hyk12
          have s812 := s10.trans s12
          have s712 := s8.trans s812
          refine ⟨_, rfl, x, p', s', t', y', ps, ss, ts, ys, sg, qd, sd, rfl, bk.mono s812, phi, ok7.ls, by omega, gs7.mono (cI.mono (Tk.of s712)), gp, qs7.mono (dc.mono (Tk.of s712)), qk, sy7.mono (Tk.of s712), lly, fun to2 us3 G2 H13 s13 _ hto2 rt2 fe2 => ?_⟩
          obtain rfl : F = G2 := funext (ie sso tso hrd.rc fe2)
          have s713 := s712.trans s13
          refine ⟨_, rfl, nV hto2 (s713 _ _ hdu) rt2 (rz.mono (jT.mono (Tk.of s713))) ⟨_, rfl, cP ?_⟩⟩
          have ok13 := ok7.mono s713
          refine ⟨_, rfl, _, rfl, nl, ls, s, t, yk, ps, ss, ts, _, rfl, s713 _ _ hnl7, s13 _ _ hls, ok13.hs, ok13.ht, s13 _ _ hyk12, ⟨po, ok13.ls, ok13.gs, by omega, ok13.gt, ykl, fun v hv => ok13.gy v (ykm v hv)⟩, fun x2 p2 s2 t2 y2 H14 s14 _ bk2 => ?_⟩
          have s714 := s713.trans s14
          refine ⟨x2, p2, s2, t2, y2, ps, ss, ts, _, sg, qd, sd.filter nk, rfl, bk2, phi, ok7.ls, by omega, gs7.mono (cI.mono (Tk.of s714)), gp, qs7.mono (dc.mono (Tk.of s714)), qk, yZ (sy7.mono (Tk.of s714)), ykl, fun to3 us4 G3 H15 s15 _ hto3 rt3 fe3 => ?_⟩
          rw [zx] at fe3
          obtain rfl : F = G3 := funext (ie sso tso hrd.rc fe3)
          have s715 := s714.trans s15
          exact ⟨_, rfl, nV hto3 (s715 _ _ hdu) rt3 (rz.mono (jT.mono (Tk.of s715))) (q _)⟩
end
end K21
namespace K21
open PySem L2
theorem len0 (us : List Value) (h : us.length = 0) : us = [] := List.eq_nil_of_length_eq_zero h
theorem sR {n : Nat} (us : List Value) (h : us.length = n + 1) : ∃ a r, us = a :: r ∧ r.length = n := by
  cases us with
  | nil => cases h
  | cons a r => exact ⟨a, r, rfl, Nat.succ.inj h⟩
theorem eW (us : List Value) (h : us.length = 1) : ∃ a, us = [a] := by
  obtain ⟨a, r, rfl, h'⟩ := sR us h
  exact ⟨a, by rw [len0 r h']⟩
theorem gj (us : List Value) (h : us.length = 2) : ∃ a b, us = [a, b] := by
  obtain ⟨a, r, rfl, h'⟩ := sR us h
  obtain ⟨b, rfl⟩ := eW r h'
  exact ⟨a, b, rfl⟩
theorem nJ (us : List Value) (h : us.length = 3) : ∃ a b c, us = [a, b, c] := by
  obtain ⟨a, r, rfl, h'⟩ := sR us h
  obtain ⟨b, c, rfl⟩ := gj r h'
  exact ⟨a, b, c, rfl⟩
theorem AU (us : List Value) (h : us.length = 4) : ∃ a b c d, us = [a, b, c, d] := by
  obtain ⟨a, r, rfl, h'⟩ := sR us h
  obtain ⟨b, c, d, rfl⟩ := nJ r h'
  exact ⟨a, b, c, d, rfl⟩
theorem y3 (us : List Value) (h : us.length = 5) : ∃ a b c d e, us = [a, b, c, d, e] := by
  obtain ⟨a, r, rfl, h'⟩ := sR us h
  obtain ⟨b, c, d, e, rfl⟩ := AU r h'
  exact ⟨a, b, c, d, e, rfl⟩
theorem Eu (us : List Value) (h : us.length = 6) : ∃ a b c d e f, us = [a, b, c, d, e, f] := by
  obtain ⟨a, r, rfl, h'⟩ := sR us h
  obtain ⟨b, c, d, e, f, rfl⟩ := y3 r h'
  exact ⟨a, b, c, d, e, f, rfl⟩
theorem iR : ∀ {zs : List Str} {us : List Value}, strsOf us = zs.map some → Vals (zs.map V.str) us
  | [], [], _ => .nil
  | [], _ :: _, h => by cases h
  | _ :: _, [], h => by cases h
  | z :: zs, u :: us, h => by
    have h1 : oneOf u :: strsOf us = some z :: zs.map some := h
    injection h1 with e1 e2
    refine .cons ?_ (iR e2)
    cases u with
    | str x t =>
      cases e1
      exact ⟨t, rfl⟩
    | _ => cases e1
theorem all_mk {l : PySem.W.OpenLaw} {w : World} {K : PySem.W.Frag} {h : Heap} {mg : Str → Option Value} {fa : Addr} (X : K.In h) (G : h.Ns mainGlobals mg) (hfa : mg "law" = some (.ref fa)) (FX : Facts K) :
    ∃ fd : FuncData, (∀ (s : Shared) (v : Value), BindsTo s fd ⟨[v], []⟩ [("_law_script", v)]) ∧ ∀ base : Heap, K.In base → base.Ns mainGlobals mg → dW l.prog w K mg base jP 10 fa fd ["_law_script"] (rW K) := by
  obtain @⟨kw, C, f1, f2, f3, f4, f5, f6, f7, f8, f9, f10, f11, f12, f13, f14, f15, f16, f17, f18, f19, f20, f21, f22, f23, f24, f25, f26, f27, f28, f29, f30, f31, f32, f33, f34, f35, f36, f37, f38, f39, f40, f41, f42, f43, f44, f45, f46, f47, f48, f49, f50, f51, f52, odw, od1, an1, od2, an2, od3, an3, od4, an4, od5, an5, od6, an6, od7, an7, od8, an8, od9, an9, od10, an10, od11, an11, od12, an12, od13, an13, od14, an14, od15, an15, od16, an16, od17, an17, od18, an18, od19, an19, od20, an20, od21, an21, od22, an22, od23, an23, od24, an24, od25, an25, od26, an26, od27, an27, od28, an28, od29, an29, od30, an30, od31, an31, od32, an32, od33, an33, od34, an34, od35, an35, od36, an36, od37, an37, od38, an38, od39, an39, od40, an40, od41, an41, od42, an42, od43, an43, od44, an44, od45, an45, od46, an46, od47, an47, od48, an48, od49, an49, od50, an50, od51, an51, od52, an52, slw, sl1, sl2, sl3, sl4, sl5, sl6, sl7, sl8, sl9, sl10, sl11, sl12, sl13, sl14, sl15, sl16, sl17, sl18, sl19, sl20, sl21, sl22, sl23, sl24, sl25, sl26, sl27, sl28, sl29, sl30, sl31, sl32, sl33, sl34, sl35, sl36, sl37, sl38, sl39, sl40, sl41, sl42, sl43, sl44, sl45, sl46, sl47, sl48, sl49, sl50, sl51, sl52, oc1, kV1, dc1, pm1, cd1, ct1, oc2, kV2, dc2, pm2, cd2, ct2, oc3, kV3, dc3, pm3, cd3, ct3, oc4, kV4, dc4, pm4, cd4, ct4, oc5, kV5, dc5, pm5, cd5, ct5, oc6, kV6, dc6, pm6, cd6, ct6, oc7, kV7, dc7, pm7, cd7, ct7, oc8, kV8, dc8, pm8, cd8, ct8, oc9, kV9, dc9, pm9, cd9, ct9, oc10, kV10, dc10, pm10, cd10, ct10, oc11, kV11, dc11, pm11, cd11, ct11, oc12, kV12, dc12, pm12, cd12, ct12, oc13, kV13, dc13, pm13, cd13, ct13, oc14, kV14, dc14, pm14, cd14, ct14, oc15, kV15, dc15, pm15, cd15, ct15, oc16, kV16, dc16, pm16, cd16, ct16, oc17, kV17, dc17, pm17, cd17, ct17, oc18, kV18, dc18, pm18, cd18, ct18, oc19, kV19, dc19, pm19, cd19, ct19, oc20, kV20, dc20, pm20, cd20, ct20, oc21, kV21, dc21, pm21, cd21, ct21, oc22, kV22, dc22, pm22, cd22, ct22, oc23, kV23, dc23, pm23, cd23, ct23, oc24, kV24, dc24, pm24, cd24, ct24, oc25, kV25, dc25, pm25, cd25, ct25, oc26, kV26, dc26, pm26, cd26, ct26, oc27, kV27, dc27, pm27, cd27, ct27, oc28, kV28, dc28, pm28, cd28, ct28, oc29, kV29, dc29, pm29, cd29, ct29, oc30, kV30, dc30, pm30, cd30, ct30, oc31, kV31, dc31, pm31, cd31, ct31, oc32, kV32, dc32, pm32, cd32, ct32, oc33, kV33, dc33, pm33, cd33, ct33, oc34, kV34, dc34, pm34, cd34, ct34, oc35, kV35, dc35, pm35, cd35, ct35, oc36, kV36, dc36, pm36, cd36, ct36, oc37, kV37, dc37, pm37, cd37, ct37, oc38, kV38, dc38, pm38, cd38, ct38, oc39, kV39, dc39, pm39, cd39, ct39, oc40, kV40, dc40, pm40, cd40, ct40, oc41, kV41, dc41, pm41, cd41, ct41, oc42, kV42, dc42, pm42, cd42, ct42, oc43, kV43, dc43, pm43, cd43, ct43, oc44, kV44, dc44, pm44, cd44, ct44, oc45, kV45, dc45, pm45, cd45, ct45, oc46, kV46, dc46, pm46, cd46, ct46, oc47, kV47, dc47, pm47, cd47, ct47, oc48, kV48, dc48, pm48, cd48, ct48, oc49, kV49, dc49, pm49, cd49, ct49, oc50, kV50, dc50, pm50, cd50, ct50, oc51, kV51, dc51, pm51, cd51, ct51, oc52, kV52, dc52, pm52, cd52, ct52, its, nW, tk1, tk2, tk3, tk4, tk5, aW, lW, vW, a1, l1, c1, k1, a2, l2, c2, k2, a3, l3, c3, k3, a4, l4, c4, k4, a5, l5, c5, k5, a6, l6, c6, k6, a7, l7, c7, k7, a8, l8, c8, k8, a9, l9, c9, k9, a10, l10, c10, k10, a11, l11, c11, k11, a12, l12, c12, k12, a13, l13, c13, k13, a14, l14, c14, k14, a15, l15, c15, k15, a16, l16, c16, k16, a17, l17, c17, k17, a18, l18, c18, k18, a19, l19, c19, k19, a20, l20, c20, k20, a21, l21, c21, k21, a22, l22, c22, k22, a23, l23, c23, k23, a24, l24, c24, k24, a25, l25, c25, k25, a26, l26, c26, k26, a27, l27, c27, k27, a28, l28, c28, k28, a29, l29, c29, k29, a30, l30, c30, k30, a31, l31, c31, k31, a32, l32, c32, k32, a33, l33, c33, k33, a34, l34, c34, k34, a35, l35, c35, k35, a36, l36, c36, k36, a37, l37, c37, k37, a38, l38, c38, k38, a39, l39, c39, k39, a40, l40, c40, k40, a41, l41, c41, k41, a42, l42, c42, k42, a43, l43, c43, k43, a44, l44, c44, k44, a45, l45, c45, k45, a46, l46, c46, k46, aC, pg, hd, po, sa, mk, kc, nP, nS, nT, nY, a47, i47, l47, c47, k47, a48, i48, l48, c48, k48, a49, i49, l49, c49, k49, a50, i50, l50, c50, k50, a51, i51, l51, c51, k51, a52, i52, l52, c52, k52, z1, z2, z3, z4, z5, z6, z7, z8, z9, z10, z11, z12, z13, z14, z15, z16, z17, z18, z19, g1, g2, g3, g4, g5⟩ := FX
  have vW := iR (zs := kept) vW
  have e := hfa.symm.trans (PySem.W.mg_of X G a46)
  cases e
  have hsz : its.size ≤ sizeLine := by
    have e := vW.length
    have e2 : (kept.map V.str).length = 12 := by decide +kernel
    rw [e2, Array.length_toList] at e
    have : sizeLine = 16777216 := sizeLine_eq
    omega
  have T : Txt K mg kw C := ⟨PySem.W.mg_none_of X G z1, PySem.W.mg_none_of X G z2, PySem.W.mg_none_of X G z3, PySem.W.mg_none_of X G z4, PySem.W.mg_none_of X G z5, PySem.W.mg_none_of X G z6, PySem.W.mg_none_of X G z7, PySem.W.mg_none_of X G z8, PySem.W.mg_none_of X G z9, PySem.W.mg_none_of X G z10, PySem.W.mg_none_of X G z11, PySem.W.mg_none_of X G z12, PySem.W.mg_none_of X G z13, PySem.W.mg_none_of X G z14, PySem.W.mg_none_of X G z15, PySem.W.mg_none_of X G z16, PySem.W.mg_none_of X G z17, PySem.W.mg_none_of X G z18, PySem.W.mg_none_of X G z19, PySem.W.mg_of X G aW, ⟨_, its, nW, lW, rfl, rfl, hsz, vW⟩, ⟨_, PySem.W.mg_of X G g1, ⟨_, rfl⟩⟩, ⟨_, PySem.W.mg_of X G g2, ⟨_, rfl⟩⟩, ⟨_, PySem.W.mg_of X G g3, ⟨_, rfl⟩⟩, ⟨_, PySem.W.mg_of X G g4, ⟨_, rfl⟩⟩, ⟨_, PySem.W.mg_of X G g5, ⟨_, rfl⟩⟩, ⟨pg, hd, po, sa⟩, nP, nS, nT, nY⟩
  have F1 := aK (st := cU) l1 c1 k1
  have F2 := aK (st := d9) l2 c2 k2
  have F3 := aK (st := dF) l3 c3 k3
  have F4 := aK (st := bJ) l4 c4 k4
  have F5 := aK (st := cm) l5 c5 k5
  have F6 := aK (st := cW) l6 c6 k6
  have F7 := aK (st := aZ) l7 c7 k7
  have F8 := aK (st := dO) l8 c8 k8
  have F9 := aK (st := dy) l9 c9 k9
  have F10 := aK (st := eS) l10 c10 k10
  have F11 := aK (st := d4) l11 c11 k11
  have F12 := aK (st := ef) l12 c12 k12
  have F13 := aK (st := br) l13 c13 k13
  have F14 := aK (st := cL) l14 c14 k14
  have F15 := aK (st := bQ) l15 c15 k15
  have F16 := aK (st := bZ) l16 c16 k16
  have F17 := aK (st := cu) l17 c17 k17
  have F18 := aK (st := bP) l18 c18 k18
  have F19 := aK (st := dz) l19 c19 k19
  have F20 := aK (st := bH) l20 c20 k20
  have F21 := aK (st := dw) l21 c21 k21
  have F22 := aK (st := cb) l22 c22 k22
  have F23 := aK (st := cM) l23 c23 k23
  have F24 := aK (st := bM) l24 c24 k24
  have F25 := aK (st := bI) l25 c25 k25
  have F26 := aK (st := bF) l26 c26 k26
  have F27 := aK (st := d6) l27 c27 k27
  have F28 := aK (st := cw) l28 c28 k28
  have F29 := aK (st := bG) l29 c29 k29
  have F30 := aK (st := cJ) l30 c30 k30
  have F31 := aK (st := gd) l31 c31 k31
  have F32 := aK (st := d8) l32 c32 k32
  have F33 := aK (st := dM) l33 c33 k33
  have F34 := aK (st := dB) l34 c34 k34
  have F35 := aK (st := eT) l35 c35 k35
  have F36 := aK (st := dD) l36 c36 k36
  have F37 := aK (st := eR) l37 c37 k37
  have F38 := aK (st := cv) l38 c38 k38
  have F39 := aK (st := cQ) l39 c39 k39
  have F40 := aK (st := dU) l40 c40 k40
  have F41 := aK (st := d3) l41 c41 k41
  have F42 := aK (st := cO) l42 c42 k42
  have F43 := aK (st := dP) l43 c43 k43
  have F44 := aK (st := fb) l44 c44 k44
  have F45 := aK (st := ee) l45 c45 k45
  have F46 := aK (st := gE) l46 c46 k46
  have F47 := aK (st := fG) l47 c47 k47
  have F48 := aK (st := dI) l48 c48 k48
  have F49 := aK (st := eh) l49 c49 k49
  have F50 := aK (st := eP) l50 c50 k50
  have F51 := aK (st := dJ) l51 c51 k51
  have F52 := aK (st := cZ) l52 c52 k52
  have b1 := F1.binds (ps := ["thing"]) fun _ _ _ _ _ _ us hl => by
    obtain ⟨_, rfl⟩ := eW us hl
    rfl
  have D_is_whole : Df K mg "is_whole" cU ["thing"] f1 _ := ⟨F1, PySem.W.mg_of X G a1, b1⟩
  have b2 := F2.binds (ps := ["thing"]) fun _ _ _ _ _ _ us hl => by
    obtain ⟨_, rfl⟩ := eW us hl
    rfl
  have D_is_hour : Df K mg "is_hour" d9 ["thing"] f2 _ := ⟨F2, PySem.W.mg_of X G a2, b2⟩
  have b3 := F3.binds (ps := ["thing"]) fun _ _ _ _ _ _ us hl => by
    obtain ⟨_, rfl⟩ := eW us hl
    rfl
  have D_is_name : Df K mg "is_name" dF ["thing"] f3 _ := ⟨F3, PySem.W.mg_of X G a3, b3⟩
  have b4 := F4.binds (ps := ["thing", "most"]) fun _ _ _ _ _ _ us hl => by
    obtain ⟨_, _, rfl⟩ := gj us hl
    rfl
  have D_is_list_up_to : Df K mg "is_list_up_to" bJ ["thing", "most"] f4 _ := ⟨F4, PySem.W.mg_of X G a4, b4⟩
  have b5 := F5.binds (ps := ["thing", "length"]) fun _ _ _ _ _ _ us hl => by
    obtain ⟨_, _, rfl⟩ := gj us hl
    rfl
  have D_is_tuple_of : Df K mg "is_tuple_of" cm ["thing", "length"] f5 _ := ⟨F5, PySem.W.mg_of X G a5, b5⟩
  have b6 := F6.binds (ps := ["persons", "thing"]) fun _ _ _ _ _ _ us hl => by
    obtain ⟨_, _, rfl⟩ := gj us hl
    rfl
  have D_is_person : Df K mg "is_person" cW ["persons", "thing"] f6 _ := ⟨F6, PySem.W.mg_of X G a6, b6⟩
  have b7 := F7.binds (ps := ["persons", "one", "other"]) fun _ _ _ _ _ _ us hl => by
    obtain ⟨_, _, _, rfl⟩ := nJ us hl
    rfl
  have D_are_unlike_persons : Df K mg "are_unlike_persons" aZ ["persons", "one", "other"] f7 _ := ⟨F7, PySem.W.mg_of X G a7, b7⟩
  have b8 := F8.binds (ps := ["thing"]) fun _ _ _ _ _ _ us hl => by
    obtain ⟨_, rfl⟩ := eW us hl
    rfl
  have D_is_tale : Df K mg "is_tale" dO ["thing"] f8 _ := ⟨F8, PySem.W.mg_of X G a8, b8⟩
  have b9 := F9.binds (ps := ["persons", "thing"]) fun _ _ _ _ _ _ us hl => by
    obtain ⟨_, _, rfl⟩ := gj us hl
    rfl
  have D_is_sight : Df K mg "is_sight" dy ["persons", "thing"] f9 _ := ⟨F9, PySem.W.mg_of X G a9, b9⟩
  have b10 := F10.binds (ps := ["thing"]) fun _ _ _ _ _ _ us hl => by
    obtain ⟨_, rfl⟩ := eW us hl
    rfl
  have D_is_way : Df K mg "is_way" eS ["thing"] f10 _ := ⟨F10, PySem.W.mg_of X G a10, b10⟩
  have b11 := F11.binds (ps := ["persons", "thing"]) fun _ _ _ _ _ _ us hl => by
    obtain ⟨_, _, rfl⟩ := gj us hl
    rfl
  have D_is_talk : Df K mg "is_talk" d4 ["persons", "thing"] f11 _ := ⟨F11, PySem.W.mg_of X G a11, b11⟩
  have b12 := F12.binds (ps := ["begin", "end"]) fun _ _ _ _ _ _ us hl => by
    obtain ⟨_, _, rfl⟩ := gj us hl
    rfl
  have D_is_span : Df K mg "is_span" ef ["begin", "end"] f12 _ := ⟨F12, PySem.W.mg_of X G a12, b12⟩
  have b13 := F13.binds (ps := ["persons", "kind", "person", "behind"]) fun _ _ _ _ _ _ us hl => by
    obtain ⟨_, _, _, _, rfl⟩ := AU us hl
    rfl
  have D_is_short_saying : Df K mg "is_short_saying" br ["persons", "kind", "person", "behind"] f13 _ := ⟨F13, PySem.W.mg_of X G a13, b13⟩
  have b14 := F14.binds (ps := ["persons", "thing"]) fun _ _ _ _ _ _ us hl => by
    obtain ⟨_, _, rfl⟩ := gj us hl
    rfl
  have D_is_saying : Df K mg "is_saying" cL ["persons", "thing"] f14 _ := ⟨F14, PySem.W.mg_of X G a14, b14⟩
  have b15 := F15.binds (ps := ["thing"]) fun _ _ _ _ _ _ us hl => by
    obtain ⟨_, rfl⟩ := eW us hl
    rfl
  have D_are_persons : Df K mg "are_persons" bQ ["thing"] f15 _ := ⟨F15, PySem.W.mg_of X G a15, b15⟩
  have b16 := F16.binds (ps := ["persons", "thing"]) fun _ _ _ _ _ _ us hl => by
    obtain ⟨_, _, rfl⟩ := gj us hl
    rfl
  have D_are_sights : Df K mg "are_sights" bZ ["persons", "thing"] f16 _ := ⟨F16, PySem.W.mg_of X G a16, b16⟩
  have b17 := F17.binds (ps := ["persons", "thing"]) fun _ _ _ _ _ _ us hl => by
    obtain ⟨_, _, rfl⟩ := gj us hl
    rfl
  have D_are_talks : Df K mg "are_talks" cu ["persons", "thing"] f17 _ := ⟨F17, PySem.W.mg_of X G a17, b17⟩
  have b18 := F18.binds (ps := ["persons", "thing"]) fun _ _ _ _ _ _ us hl => by
    obtain ⟨_, _, rfl⟩ := gj us hl
    rfl
  have D_are_sayings : Df K mg "are_sayings" bP ["persons", "thing"] f18 _ := ⟨F18, PySem.W.mg_of X G a18, b18⟩
  have b19 := F19.binds (ps := ["book", "person"]) fun _ _ _ _ _ _ us hl => by
    obtain ⟨_, _, rfl⟩ := gj us hl
    rfl
  have D_floor_of : Df K mg "floor_of" dz ["book", "person"] f19 _ := ⟨F19, PySem.W.mg_of X G a19, b19⟩
  have b20 := F20.binds (ps := ["book"]) fun _ _ _ _ _ _ us hl => by
    obtain ⟨_, rfl⟩ := eW us hl
    rfl
  have D_floors_of_all : Df K mg "floors_of_all" bH ["book"] f20 _ := ⟨F20, PySem.W.mg_of X G a20, b20⟩
  have b21 := F21.binds (ps := ["hour", "floor"]) fun _ _ _ _ _ _ us hl => by
    obtain ⟨_, _, rfl⟩ := gj us hl
    rfl
  have D_is_above : Df K mg "is_above" dw ["hour", "floor"] f21 _ := ⟨F21, PySem.W.mg_of X G a21, b21⟩
  have b22 := F22.binds (ps := ["sayings", "person", "hour"]) fun _ _ _ _ _ _ us hl => by
    obtain ⟨_, _, _, rfl⟩ := nJ us hl
    rfl
  have D_is_silent : Df K mg "is_silent" cb ["sayings", "person", "hour"] f22 _ := ⟨F22, PySem.W.mg_of X G a22, b22⟩
  have b23 := F23.binds (ps := ["sayings", "hearer", "teller"]) fun _ _ _ _ _ _ us hl => by
    obtain ⟨_, _, _, rfl⟩ := nJ us hl
    rfl
  have D_is_barred : Df K mg "is_barred" cM ["sayings", "hearer", "teller"] f23 _ := ⟨F23, PySem.W.mg_of X G a23, b23⟩
  have b24 := F24.binds (ps := ["book"]) fun _ _ _ _ _ _ us hl => by
    obtain ⟨_, rfl⟩ := eW us hl
    rfl
  have D_open_sights : Df K mg "open_sights" bM ["book"] f24 _ := ⟨F24, PySem.W.mg_of X G a24, b24⟩
  have b25 := F25.binds (ps := ["book"]) fun _ _ _ _ _ _ us hl => by
    obtain ⟨_, rfl⟩ := eW us hl
    rfl
  have D_open_tellings : Df K mg "open_tellings" bI ["book"] f25 _ := ⟨F25, PySem.W.mg_of X G a25, b25⟩
  have b26 := F26.binds (ps := ["book"]) fun _ _ _ _ _ _ us hl => by
    obtain ⟨_, rfl⟩ := eW us hl
    rfl
  have D_open_entries : Df K mg "open_entries" bF ["book"] f26 _ := ⟨F26, PySem.W.mg_of X G a26, b26⟩
  have b27 := F27.binds (ps := ["entry"]) fun _ _ _ _ _ _ us hl => by
    obtain ⟨_, rfl⟩ := eW us hl
    rfl
  have D_hour_of : Df K mg "hour_of" d6 ["entry"] f27 _ := ⟨F27, PySem.W.mg_of X G a27, b27⟩
  have b28 := F28.binds (ps := ["known", "entry"]) fun _ _ _ _ _ _ us hl => by
    obtain ⟨_, _, rfl⟩ := gj us hl
    rfl
  have D_can_follow : Df K mg "can_follow" cw ["known", "entry"] f28 _ := ⟨F28, PySem.W.mg_of X G a28, b28⟩
  have b29 := F29.binds (ps := ["entries"]) fun _ _ _ _ _ _ us hl => by
    obtain ⟨_, rfl⟩ := eW us hl
    rfl
  have D_first_entries : Df K mg "first_entries" bG ["entries"] f29 _ := ⟨F29, PySem.W.mg_of X G a29, b29⟩
  have b30 := F30.binds (ps := ["book"]) fun _ _ _ _ _ _ us hl => by
    obtain ⟨_, rfl⟩ := eW us hl
    rfl
  have D_earliest : Df K mg "earliest" cJ ["book"] f30 _ := ⟨F30, PySem.W.mg_of X G a30, b30⟩
  have b31 := F31.binds (ps := ["_law_cell", "_law_k"]) fun _ _ _ _ _ _ us hl => by
    obtain ⟨_, _, rfl⟩ := gj us hl
    rfl
  have D_l_mix : Df K mg "_law_mix" gd ["_law_cell", "_law_k"] f31 _ := ⟨F31, PySem.W.mg_of X G a31, b31⟩
  have b32 := F32.binds (ps := ["_law_cell", "_law_many"]) fun _ _ _ _ _ _ us hl => by
    obtain ⟨_, _, rfl⟩ := gj us hl
    rfl
  have D_l_names : Df K mg "_law_names" d8 ["_law_cell", "_law_many"] f32 _ := ⟨F32, PySem.W.mg_of X G a32, b32⟩
  have b33 := F33.binds (ps := ["_law_cell"]) fun _ _ _ _ _ _ us hl => by
    obtain ⟨_, rfl⟩ := eW us hl
    rfl
  have D_l_clock : Df K mg "_law_clock" dM ["_law_cell"] f33 _ := ⟨F33, PySem.W.mg_of X G a33, b33⟩
  have b34 := F34.binds (ps := ["_law_number", "_law_one", "_law_other", "_law_clock_here", "_law_at"]) fun _ _ _ _ _ _ us hl => by
    obtain ⟨_, _, _, _, _, rfl⟩ := y3 us hl
    rfl
  have D_l_saying : Df K mg "_law_saying" dB ["_law_number", "_law_one", "_law_other", "_law_clock_here", "_law_at"] f34 _ := ⟨F34, PySem.W.mg_of X G a34, b34⟩
  have b35 := F35.binds (ps := ["_law_number", "_law_k", "_law_many"]) fun _ _ _ _ _ _ us hl => by
    obtain ⟨_, _, _, rfl⟩ := nJ us hl
    rfl
  have D_l_spot : Df K mg "_law_spot" eT ["_law_number", "_law_k", "_law_many"] f35 _ := ⟨F35, PySem.W.mg_of X G a35, b35⟩
  have b36 := F36.binds (ps := ["_law_cells", "_law_names_here", "_law_clock_here"]) fun _ _ _ _ _ _ us hl => by
    obtain ⟨_, _, _, rfl⟩ := nJ us hl
    rfl
  have D_l_things : Df K mg "_law_things" dD ["_law_cells", "_law_names_here", "_law_clock_here"] f36 _ := ⟨F36, PySem.W.mg_of X G a36, b36⟩
  have b37 := F37.binds (ps := ["_law_sayings", "_law_person", "_law_when"]) fun _ _ _ _ _ _ us hl => by
    obtain ⟨_, _, _, rfl⟩ := nJ us hl
    rfl
  have D_l_free : Df K mg "_law_free" eR ["_law_sayings", "_law_person", "_law_when"] f37 _ := ⟨F37, PySem.W.mg_of X G a37, b37⟩
  have b38 := F38.binds (ps := ["_law_talks"]) fun _ _ _ _ _ _ us hl => by
    obtain ⟨_, rfl⟩ := eW us hl
    rfl
  have D_l_tellings : Df K mg "_law_tellings" cv ["_law_talks"] f38 _ := ⟨F38, PySem.W.mg_of X G a38, b38⟩
  have b39 := F39.binds (ps := ["_law_talks", "_law_sayings", "_law_telling"]) fun _ _ _ _ _ _ us hl => by
    obtain ⟨_, _, _, rfl⟩ := nJ us hl
    rfl
  have D_l_is_open : Df K mg "_law_is_open" cQ ["_law_talks", "_law_sayings", "_law_telling"] f39 _ := ⟨F39, PySem.W.mg_of X G a39, b39⟩
  have b40 := F40.binds (ps := ["_law_things_here"]) fun _ _ _ _ _ _ us hl => by
    obtain ⟨_, rfl⟩ := eW us hl
    rfl
  have D_l_open : Df K mg "_law_open" dU ["_law_things_here"] f40 _ := ⟨F40, PySem.W.mg_of X G a40, b40⟩
  have b41 := F41.binds (ps := ["_law_things_here", "_law_numbers", "_law_tellings_here"]) fun _ _ _ _ _ _ us hl => by
    obtain ⟨_, _, _, rfl⟩ := nJ us hl
    rfl
  have D_l_hours : Df K mg "_law_hours" d3 ["_law_things_here", "_law_numbers", "_law_tellings_here"] f41 _ := ⟨F41, PySem.W.mg_of X G a41, b41⟩
  have b42 := F42.binds (ps := ["_law_sayings", "_law_found"]) fun _ _ _ _ _ _ us hl => by
    obtain ⟨_, _, rfl⟩ := gj us hl
    rfl
  have D_l_knew_so : Df K mg "_law_knew_so" cO ["_law_sayings", "_law_found"] f42 _ := ⟨F42, PySem.W.mg_of X G a42, b42⟩
  have b43 := F43.binds (ps := ["_law_script", "_law_most"]) fun _ _ _ _ _ _ us hl => by
    obtain ⟨_, _, rfl⟩ := gj us hl
    rfl
  have D_l_drawn : Df K mg "_law_drawn" dP ["_law_script", "_law_most"] f43 _ := ⟨F43, PySem.W.mg_of X G a43, b43⟩
  have b44 := F44.binds (ps := ["_law_names_here", "_law_things_here"]) fun _ _ _ _ _ _ us hl => by
    obtain ⟨_, _, rfl⟩ := gj us hl
    rfl
  have D_l_book : Df K mg "_law_book" fb ["_law_names_here", "_law_things_here"] f44 _ := ⟨F44, PySem.W.mg_of X G a44, b44⟩
  have b45 := F45.binds (ps := ["_law_found"]) fun _ _ _ _ _ _ us hl => by
    obtain ⟨_, rfl⟩ := eW us hl
    rfl
  have D_l_whole : Df K mg "_law_whole" ee ["_law_found"] f45 _ := ⟨F45, PySem.W.mg_of X G a45, b45⟩
  have b_m_init := F47.binds (ps := ["self", "persons", "sights", "talks", "sayings"]) fun _ _ _ _ _ _ us hl => by
    obtain ⟨_, _, _, _, _, rfl⟩ := y3 us hl
    rfl
  have F_m_init := F47
  have mk_m_init : Mk K C f47 := ⟨mk, a47, i47, kc⟩
  have b_m_persons := F48.binds (ps := ["self"]) fun _ _ _ _ _ _ us hl => by
    obtain ⟨_, rfl⟩ := eW us hl
    rfl
  have F_m_persons := F48
  have me_m_persons : Meth K C "persons" f48 := ⟨a48, i48, k48⟩
  have b_m_sights := F49.binds (ps := ["self"]) fun _ _ _ _ _ _ us hl => by
    obtain ⟨_, rfl⟩ := eW us hl
    rfl
  have F_m_sights := F49
  have me_m_sights : Meth K C "sights" f49 := ⟨a49, i49, k49⟩
  have b_m_talks := F50.binds (ps := ["self"]) fun _ _ _ _ _ _ us hl => by
    obtain ⟨_, rfl⟩ := eW us hl
    rfl
  have F_m_talks := F50
  have me_m_talks : Meth K C "talks" f50 := ⟨a50, i50, k50⟩
  have b_m_sayings := F51.binds (ps := ["self"]) fun _ _ _ _ _ _ us hl => by
    obtain ⟨_, rfl⟩ := eW us hl
    rfl
  have F_m_sayings := F51
  have me_m_sayings : Meth K C "sayings" f51 := ⟨a51, i51, k51⟩
  have b_m_tellings := F52.binds (ps := ["self"]) fun _ _ _ _ _ _ us hl => by
    obtain ⟨_, rfl⟩ := eW us hl
    rfl
  have F_m_tellings := F52
  have me_m_tellings : Meth K C "tellings" f52 := ⟨a52, i52, k52⟩
  have nmB := PySem.W.mg_of X G aC
  refine ⟨PySem.W.fnOf "law" "law" (aF gE) (aA gE) (aa gE) .none kV46 dc46 pm46 an46 cd46 ct46, fun s v => .of_eq rfl, fun base _ _ => ?_⟩
  have G1 : Gd l.prog w K mg base 2 "is_hour" (jA K) := ⟨_, _, _, xx D_is_hour.fn D_is_whole T, D_is_hour.nm, D_is_hour.fn.kp, D_is_hour.bi⟩
  have G2 : Gd l.prog w K mg base 1 "is_name" (lx K) := ⟨_, _, _, yj D_is_name.fn T, D_is_name.nm, D_is_name.fn.kp, D_is_name.bi⟩
  have G3 : Gd l.prog w K mg base 1 "is_list_up_to" fM := rg D_is_list_up_to T
  have G4 : Gd l.prog w K mg base 1 "is_tuple_of" kg := tP D_is_tuple_of T
  have G5 : Gd l.prog w K mg base 2 "is_person" fO := tK D_is_person G2
  have G6 : Gd l.prog w K mg base 3 "are_unlike_persons" iI := tf D_are_unlike_persons G5
  have G7 : Gd l.prog w K mg base 2 "is_tale" qL := yr D_is_tale T G2
  have G8 : Gd l.prog w K mg base 3 "is_sight" nQ := uO D_is_sight G4 G5 G1 G7
  have G9 : Gd l.prog w K mg base 1 "is_way" vf := y8 D_is_way T
  have G10 : Gd l.prog w K mg base 4 "is_talk" qa := wW D_is_talk G4 G6 G1 G9
  have G11 : Gd l.prog w K mg base 3 "is_span" qC := yd D_is_span G1
  have G12 : Gd l.prog w K mg base 4 "is_short_saying" nu := vT D_is_short_saying G6 G5 G1
  have G13 : Gd l.prog w K mg base 5 "is_saying" lM := uh D_is_saying T G5 G11 G12
  have G14 : Gd l.prog w K mg base 2 "are_persons" jk := qE D_are_persons T G3 G2
  have G15 : Gd l.prog w K mg base 4 "are_sights" (gr cY 24) := ma D_are_sights T G3 G8
  have G16 : Gd l.prog w K mg base 5 "are_talks" (gr d5 120) := nz D_are_talks T G3 G10
  have G17 : Gd l.prog w K mg base 6 "are_sayings" (gr eX 60) := lH D_are_sayings T G3 G13
  have GB : Kd l.prog w K mg base 7 "Book" C (qY C) := xw F_m_init mk_m_init b_m_init nmB T G14 G15 G16 G17
  have M1 : Md l.prog w K mg base 1 C "persons" (cn C fun p _ _ _ => p) := nM F_m_persons me_m_persons b_m_persons T
  have M2 : Md l.prog w K mg base 1 C "sights" (cn C fun _ s _ _ => s) := pD F_m_sights me_m_sights b_m_sights T
  have M3 : Md l.prog w K mg base 1 C "talks" (cn C fun _ _ t _ => t) := qu F_m_talks me_m_talks b_m_talks T
  have M4 : Md l.prog w K mg base 1 C "sayings" (cn C fun _ _ _ y => y) := n9 F_m_sayings me_m_sayings b_m_sayings T
  have M5 : Md l.prog w K mg base 1 C "tellings" (hB C) := oS F_m_tellings me_m_tellings b_m_tellings T
  have G26 : Gd l.prog w K mg base 2 "floor_of" (nB C) := pj D_floor_of T M4
  have G27 : Gd l.prog w K mg base 3 "floors_of_all" (iS C) := uf D_floors_of_all T M1 G26
  have G28 : Gd l.prog w K mg base 1 "is_above" j0 := pF D_is_above
  have G33 : Gd l.prog w K mg base 1 "is_silent" rO := nN D_is_silent T
  have G34 : Gd l.prog w K mg base 1 "is_barred" rA := nH D_is_barred
  have G29 : Gd l.prog w K mg base 4 "open_tellings" (n8 C) := jC D_open_tellings T M3 M4 M5 G27 G28 G33 G34
  have G30 : Gd l.prog w K mg base 4 "open_sights" (nq C) := lF D_open_sights T M2 G27 G28
  have P1 : Gd l.prog w K mg base 1 "hour_of" vM := Bn D_hour_of
  have P2 : Gd l.prog w K mg base 2 "can_follow" zk := Bq D_can_follow P1
  have P3 : Gd l.prog w K mg base 4 "first_entries" zO := B4 D_first_entries T P1 P2
  have P4 : Gd l.prog w K mg base 5 "open_entries" (Am C) := Bi D_open_entries T M2 M3 G30 G29
  have P5 : Gd l.prog w K mg base 6 "earliest" (wc C) := Ae D_earliest T M1 P4 P3 P1
  have A1 : Gd l.prog w K mg base 1 "_law_mix" rp := zV D_l_mix
  have A2 : Gd l.prog w K mg base 1 "_law_names" ku := uu D_l_names T
  have A3 : Gd l.prog w K mg base 1 "_law_clock" nG := va D_l_clock T
  have A4 : Gd l.prog w K mg base 1 "_law_saying" p0 := xg D_l_saying T
  have A5 : Gd l.prog w K mg base 1 "_law_spot" qX := yA D_l_spot T
  have A6 : Gd l.prog w K mg base 2 "_law_things" kO := tH D_l_things T A1 A5 A4
  have A7 : Gd l.prog w K mg base 1 "_law_free" m6 := xJ D_l_free
  have A8 : Gd l.prog w K mg base 1 "_law_tellings" p6 := xl D_l_tellings T
  have A9 : Gd l.prog w K mg base 2 "_law_is_open" kR := ql D_l_is_open T A7
  have A10 : Gd l.prog w K mg base 3 "_law_open" j3 := yx D_l_open T A7 A8 A9
  have A11 : Gd l.prog w K mg base 1 "_law_hours" rq := uX D_l_hours T
  have A12 : Gd l.prog w K mg base 1 "_law_knew_so" kB := qD D_l_knew_so
  have A13 : Gd l.prog w K mg base 4 "_law_drawn" (vA K) := wo D_l_drawn T A1 A2 A3 A6 A10 A11 A12
  have A14 : Gd l.prog w K mg base 9 "_law_book" (vp C) := wV D_l_book T GB
  have A15 : Gd l.prog w K mg base 1 "_law_whole" Ab := BW D_l_whole T
  exact Aj F46 T A13 A10 A11 A14 P5 A15
theorem walk {l : PySem.W.OpenLaw} {q : Program} {loose : List Str} {XP : (Str → Option Value) → Heap → Prop} {YP : World → Heap → Prop} {d : DefRec} {K : Params → PySem.W.Frag} (hn : l.most = some 63) (hdf : d.params.defaults = [])
    (hY : ∀ (w : World) (h : Heap), YP w h → (K w.params).In h)
    (F : ∀ (w : World) (mg : Str → Option Value) (fa : Addr) (h : Heap), (K w.params).In h → h.Ns mainGlobals mg → mg d.name = some (.ref fa) →
      ∃ fd : FuncData, (∀ (s : Shared) (u : Value), BindsTo s fd ⟨[u], []⟩ [("_law_script", u)]) ∧ ∀ base : Heap, (K w.params).In base → base.Ns mainGlobals mg → dW l.prog w (K w.params) mg base jP 10 fa fd ["_law_script"] (rW (K w.params))) :
    PySem.W.WalkO q loose XP YP l.row.toRowW d [] (fun f vs => PySem.call f vs) :=
  L2.xE (n := 63) (k := 10) (x := "_law_script") (CX := fun _ => jP) (sp := fun w => rW (K w.params)) hn (by decide) hdf ⟨rfl, by decide, by decide⟩ hY F (fun _ _ a ns hl _ hS => ⟨a, ns, rfl, hS, hl, fun _ => rfl⟩) fun _ _ _ _ _ z => z
end K21
open PySem PySem.W PyProof.Rows
theorem PySem.Challenge.cw_knewby_k21_earliest_hours_holds : PySem.Challenge.rw_knewby_k21_earliest_hours.Holds :=
  K21.closing fun hdn hdf hY hF => K21.walk (l := PySem.Challenge.rw_knewby_k21_earliest_hours) rfl hdf hY fun w mg fa h KX G hmg => K21.all_mk KX G (by rw [← hdn]; exact hmg) (hF w mg fa h KX G hmg)
