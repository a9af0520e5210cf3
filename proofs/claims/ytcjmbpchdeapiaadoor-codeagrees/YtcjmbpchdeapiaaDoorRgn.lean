/- A region that draws its order, inside a round of a loop over a function: walked by the laws for a region outside of one. -/
import Derived.Test.YtcjmbpchdeapiaaDoorRows
import Derived.RangeFuncCalls
import Derived.Deep.RegionHeld3
import Derived.WalkKit
namespace Go.Proofs.YtcjmbpchdeapiaaDoor
open Go.RowKit
theorem op0 {x : Oper} {r : List Oper} : (x :: r).toArray[0]? = some x := rfl
theorem op1 {q0 x : Oper} {r : List Oper} : (q0 :: x :: r).toArray[1]? = some x := rfl
theorem op2 {q0 q1 x : Oper} {r : List Oper} : (q0 :: q1 :: x :: r).toArray[2]? = some x := rfl
theorem op3 {q0 q1 q2 x : Oper} {r : List Oper} : (q0 :: q1 :: q2 :: x :: r).toArray[3]? = some x := rfl
theorem op4 {q0 q1 q2 q3 x : Oper} {r : List Oper} : (q0 :: q1 :: q2 :: q3 :: x :: r).toArray[4]? = some x := rfl
theorem op5 {q0 q1 q2 q3 q4 x : Oper} {r : List Oper} : (q0 :: q1 :: q2 :: q3 :: q4 :: x :: r).toArray[5]? = some x := rfl
theorem op6 {q0 q1 q2 q3 q4 q5 x : Oper} {r : List Oper} : (q0 :: q1 :: q2 :: q3 :: q4 :: q5 :: x :: r).toArray[6]? = some x := rfl
theorem op7 {q0 q1 q2 q3 q4 q5 q6 x : Oper} {r : List Oper} : (q0 :: q1 :: q2 :: q3 :: q4 :: q5 :: q6 :: x :: r).toArray[7]? = some x := rfl
theorem op8 {q0 q1 q2 q3 q4 q5 q6 q7 x : Oper} {r : List Oper} : (q0 :: q1 :: q2 :: q3 :: q4 :: q5 :: q6 :: q7 :: x :: r).toArray[8]? = some x := rfl
theorem op9 {q0 q1 q2 q3 q4 q5 q6 q7 q8 x : Oper} {r : List Oper} : (q0 :: q1 :: q2 :: q3 :: q4 :: q5 :: q6 :: q7 :: q8 :: x :: r).toArray[9]? = some x := rfl
theorem op10 {q0 q1 q2 q3 q4 q5 q6 q7 q8 q9 x : Oper} {r : List Oper} : (q0 :: q1 :: q2 :: q3 :: q4 :: q5 :: q6 :: q7 :: q8 :: q9 :: x :: r).toArray[10]? = some x := rfl
theorem op11 {q0 q1 q2 q3 q4 q5 q6 q7 q8 q9 q10 x : Oper} {r : List Oper} : (q0 :: q1 :: q2 :: q3 :: q4 :: q5 :: q6 :: q7 :: q8 :: q9 :: q10 :: x :: r).toArray[11]? = some x := rfl
theorem op12 {q0 q1 q2 q3 q4 q5 q6 q7 q8 q9 q10 q11 x : Oper} {r : List Oper} : (q0 :: q1 :: q2 :: q3 :: q4 :: q5 :: q6 :: q7 :: q8 :: q9 :: q10 :: q11 :: x :: r).toArray[12]? = some x := rfl
theorem op13 {q0 q1 q2 q3 q4 q5 q6 q7 q8 q9 q10 q11 q12 x : Oper} {r : List Oper} : (q0 :: q1 :: q2 :: q3 :: q4 :: q5 :: q6 :: q7 :: q8 :: q9 :: q10 :: q11 :: q12 :: x :: r).toArray[13]? = some x := rfl
theorem op14 {q0 q1 q2 q3 q4 q5 q6 q7 q8 q9 q10 q11 q12 q13 x : Oper} {r : List Oper} : (q0 :: q1 :: q2 :: q3 :: q4 :: q5 :: q6 :: q7 :: q8 :: q9 :: q10 :: q11 :: q12 :: q13 :: x :: r).toArray[14]? = some x := rfl
theorem op15 {q0 q1 q2 q3 q4 q5 q6 q7 q8 q9 q10 q11 q12 q13 q14 x : Oper} {r : List Oper} : (q0 :: q1 :: q2 :: q3 :: q4 :: q5 :: q6 :: q7 :: q8 :: q9 :: q10 :: q11 :: q12 :: q13 :: q14 :: x :: r).toArray[15]? = some x := rfl
theorem op16 {q0 q1 q2 q3 q4 q5 q6 q7 q8 q9 q10 q11 q12 q13 q14 q15 x : Oper} {r : List Oper} : (q0 :: q1 :: q2 :: q3 :: q4 :: q5 :: q6 :: q7 :: q8 :: q9 :: q10 :: q11 :: q12 :: q13 :: q14 :: q15 :: x :: r).toArray[16]? = some x := rfl
theorem results_one {fn : Func} {p : Tmp} {ty : TypeId} (h : fn.results = #[.cell p ty]) (tmps : Array Value) (P : Program) (w : World) (a : Addr) (ha : tmps.getD p undef = .pointer (some a)) {v : Value} (hl : (loadVar ty a).run P w = .ok v w) : (results fn tmps).run P w = .ok v w := by
  have ha' : tmps[p]?.getD undef = .pointer (some a) := by simpa using ha
  simp only [results, h]
  simp [ha', hl, asAddr]
theorem upon_round {P : Program} {o : Oper} {a : Act} {next next' : Act → World → Prop} {Q : Exit → Act → World → Prop} (r n : Nat) (hn : ∀ a w, next a w → next' a w) (x : Result Next) (h : o.upon P a next Q x) : o.uponIn (Fence.wide.inRound r) n P a next' Q x := by
  cases x with
  | ok v w =>
    cases v with
    | value v => exact hn _ _ h
    | skip => exact hn _ _ h
    | defer d => exact hn _ _ h
    | enter f args =>
      refine ⟨fun hh => (by cases hh), CallsIn.inRound r (callsIn_wide.2 (Calls.mono h ?_))⟩
      intro e w' he
      cases e with
      | returned v => exact hn _ _ he
      | panicked ch => exact he
      | outgrown => exact he
    | row row args =>
      refine ⟨fun hh => (by cases hh), fun c cs _ => ?_⟩
      obtain ⟨v, w', hv, hs⟩ := h c cs
      exact ⟨v, w', hn _ _ hv, stepsIn_wide.2 hs⟩
    | _ => exact h.elim
  | halt e w =>
    cases e with
    | panic v => exact h
    | _ => exact h.elim
theorem ops_round {P : Program} {ops : Array Oper} {Q : Exit → Act → World → Prop} (hd : ∀ o ∈ ops.toList, ∀ c, o.op ≠ .defer c) (hQ : ¬ LetsOut Q) (r n : Nat) :
    ∀ (l : List Nat) (a : Act) (w : World), wpOps P ops Q l a w → wpOpsIn (Fence.wide.inRound r) n P ops Q l a w
  | [], _, _, h => h
  | i :: rest, a, w, h => by
    unfold wpOps at h
    unfold wpOpsIn
    cases ho : ops[i]? with
    | none => rw [ho] at h; exact ops_round hd hQ r n rest a w h
    | some o =>
      rw [ho] at h
      dsimp only at h ⊢
      have hm : ∀ c, o.op ≠ .defer c := hd o (by rw [← Array.getElem?_toList] at ho; exact List.mem_of_getElem? ho)
      split
      · rename_i hw
        rw [if_pos hw] at h
        refine ⟨fun _ _ => trivial, ?_⟩
        rw [Oper.semAt_eq _ _ _ hm]
        rcases h with h | h
        · exact upon_round r n (fun a w => ops_round hd hQ r n rest a w) _ h
        · exact absurd h.2 hQ
      · rename_i hw
        rw [if_neg hw] at h
        exact ⟨fun _ _ => trivial, ops_round hd hQ r n rest _ w h⟩
theorem wpIn_region_heldR {P : Program} {ops : Array Oper} {Q : Exit → Act → World → Prop} {S : World → Prop} {id : Nat} {a : Act} {w : World} {r n : Nat} (hm : P.follows .mixedOrders = true) (hd : ∀ o ∈ ops.toList, ∀ c, o.op ≠ .defer c) (hQ : ¬ LetsOut Q) (hS : S w.drew)
    (h : S w.drew → wpAnyH P .any ops Q S ops.size (Array.replicate ops.size false) a w.drew) : (Code.region id ops true).wpIn (Fence.wide.inRound r) n P Q a w :=
  wpIn_region_draw fun t => by
    simp only [Region.schedule, hm, Bool.true_or, if_true]
    exact ops_round hd hQ r n _ _ _ (wpAny_sound ops.size t _ a _ (wpAny_of_held _ _ _ _ (h hS)))
end Go.Proofs.YtcjmbpchdeapiaaDoor
