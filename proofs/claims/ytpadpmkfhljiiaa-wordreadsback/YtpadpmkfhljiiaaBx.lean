/- A law's own boxes: words in blocks of the law's own, all old memory as it was. -/
import Derived.Test.YtpadpmkfhljiiaaEb
import Derived.Deep.CutRange
import Derived.Deep.DeepCutAuto
import Derived.Deep.QuietTactic
import Derived.BigQuiet
import Derived.Deep.RegionHeld3
namespace Go.Proofs.Ytpadpmkfhljiiaa
open Go.RowKit
structure Bx (w : World) (l : List (Nat × Int × Int × Int × Int)) (W : World) : Prop where
  bel : Below w.heap.size w W
  low : ∀ p ∈ l, w.heap.size ≤ p.1
  box : ∀ p ∈ l, Box W p.1 p.2.1 p.2.2.1 p.2.2.2.1 p.2.2.2.2
theorem Bx.past {w W W' : World} {l : List (Nat × Int × Int × Int × Int)} (h : Bx w l W) (k : Below W.heap.size W W') : Bx w l W' :=
  ⟨h.bel.trans (k.mono h.bel.size), h.low, fun p hp => (h.box p hp).below k (h.box p hp).lt⟩
theorem Bx.drew {w W : World} {l : List (Nat × Int × Int × Int × Int)} (h : Bx w l W) : Bx w l W.drew := ⟨h.bel.drew, h.low, fun p hp => (h.box p hp).drew⟩
theorem Bx.start (w : World) : Bx w [] w := ⟨Below.refl _ _, (fun _ h => by cases h), (fun _ h => by cases h)⟩
theorem Bx.alloc {w W : World} {l : List (Nat × Int × Int × Int × Int)} (h : Bx w l W) (a0 a1 a2 a3 : Int) : Bx w ((W.heap.size, a0, a1, a2, a3) :: l) (W.alloc (.cells #[.int .u64 a0, .int .u64 a1, .int .u64 a2, .int .u64 a3] 24)) := by
  refine ⟨h.bel.alloc h.bel.size _, fun p hp => ?_, fun p hp => ?_⟩
  · rcases List.mem_cons.1 hp with rfl | hp
    · exact h.bel.size
    · exact h.low p hp
  · rcases List.mem_cons.1 hp with rfl | hp
    · exact Box.new W 24 a0 a1 a2 a3
    · exact (h.box p hp).alloc _
theorem Bx.sub {w W : World} {l m : List (Nat × Int × Int × Int × Int)} (h : Bx w l W) (k : ∀ p ∈ m, p ∈ l) : Bx w m W := ⟨h.bel, fun p hp => h.low p (k p hp), fun p hp => h.box p (k p hp)⟩
theorem Bx.put {w W : World} {l : List (Nat × Int × Int × Int × Int)} {b : Nat} {s0 s1 s2 s3 : Int} (h : Bx w ((b, s0, s1, s2, s3) :: l) W) (hn : ∀ p ∈ l, p.1 ≠ b) (a0 a1 a2 a3 : Int) : Bx w ((b, a0, a1, a2, a3) :: l) (put4 W b a0 a1 a2 a3) := by
  have hb : w.heap.size ≤ b := h.low _ (List.Mem.head _)
  refine ⟨below_put h.bel hb _ _ _ _, fun p hp => ?_, fun p hp => ?_⟩
  · rcases List.mem_cons.1 hp with rfl | hp
    · exact hb
    · exact h.low p (List.Mem.tail _ hp)
  · rcases List.mem_cons.1 hp with rfl | hp
    · exact (h.box _ (List.Mem.head _)).put a0 a1 a2 a3
    · exact (h.box p (List.Mem.tail _ hp)).put_other (fun e => hn p hp e.symm) _ _ _ _
theorem Bx.lt {w W : World} {l : List (Nat × Int × Int × Int × Int)} (h : Bx w l W) (p : Nat × Int × Int × Int × Int) (hp : p ∈ l) : p.1 < W.heap.size := (h.box p hp).lt
theorem Bx.f0 {w W : World} {b : Nat} {a0 a1 a2 a3 : Int} {l : List (Nat × Int × Int × Int × Int)} (h : Bx w l W) (hp : (b, a0, a1, a2, a3) ∈ l) : W.cell? ⟨b, 0, none⟩ = some (.int .u64 a0) ∧ W.cell? ⟨b, 1, none⟩ = some (.int .u64 a1) ∧ W.cell? ⟨b, 2, none⟩ = some (.int .u64 a2) ∧ W.cell? ⟨b, 3, none⟩ = some (.int .u64 a3) ∧
    W.frozen? ⟨b, 0, none⟩ = false ∧ W.frozen? ⟨b, 1, none⟩ = false ∧ W.frozen? ⟨b, 2, none⟩ = false ∧ W.frozen? ⟨b, 3, none⟩ = false := Box.facts (h.box _ hp)
theorem op16 {q0 q1 q2 q3 q4 q5 q6 q7 q8 q9 q10 q11 q12 q13 q14 q15 x : Oper} {r : List Oper} : (q0 :: q1 :: q2 :: q3 :: q4 :: q5 :: q6 :: q7 :: q8 :: q9 :: q10 :: q11 :: q12 :: q13 :: q14 :: q15 :: x :: r).toArray[16]? = some x := rfl
theorem op17 {q0 q1 q2 q3 q4 q5 q6 q7 q8 q9 q10 q11 q12 q13 q14 q15 q16 x : Oper} {r : List Oper} : (q0 :: q1 :: q2 :: q3 :: q4 :: q5 :: q6 :: q7 :: q8 :: q9 :: q10 :: q11 :: q12 :: q13 :: q14 :: q15 :: q16 :: x :: r).toArray[17]? = some x := rfl
theorem op18 {q0 q1 q2 q3 q4 q5 q6 q7 q8 q9 q10 q11 q12 q13 q14 q15 q16 q17 x : Oper} {r : List Oper} : (q0 :: q1 :: q2 :: q3 :: q4 :: q5 :: q6 :: q7 :: q8 :: q9 :: q10 :: q11 :: q12 :: q13 :: q14 :: q15 :: q16 :: q17 :: x :: r).toArray[18]? = some x := rfl
theorem op19 {q0 q1 q2 q3 q4 q5 q6 q7 q8 q9 q10 q11 q12 q13 q14 q15 q16 q17 q18 x : Oper} {r : List Oper} : (q0 :: q1 :: q2 :: q3 :: q4 :: q5 :: q6 :: q7 :: q8 :: q9 :: q10 :: q11 :: q12 :: q13 :: q14 :: q15 :: q16 :: q17 :: q18 :: x :: r).toArray[19]? = some x := rfl
theorem op20 {q0 q1 q2 q3 q4 q5 q6 q7 q8 q9 q10 q11 q12 q13 q14 q15 q16 q17 q18 q19 x : Oper} {r : List Oper} : (q0 :: q1 :: q2 :: q3 :: q4 :: q5 :: q6 :: q7 :: q8 :: q9 :: q10 :: q11 :: q12 :: q13 :: q14 :: q15 :: q16 :: q17 :: q18 :: q19 :: x :: r).toArray[20]? = some x := rfl
theorem op21 {q0 q1 q2 q3 q4 q5 q6 q7 q8 q9 q10 q11 q12 q13 q14 q15 q16 q17 q18 q19 q20 x : Oper} {r : List Oper} : (q0 :: q1 :: q2 :: q3 :: q4 :: q5 :: q6 :: q7 :: q8 :: q9 :: q10 :: q11 :: q12 :: q13 :: q14 :: q15 :: q16 :: q17 :: q18 :: q19 :: q20 :: x :: r).toArray[21]? = some x := rfl
theorem op22 {q0 q1 q2 q3 q4 q5 q6 q7 q8 q9 q10 q11 q12 q13 q14 q15 q16 q17 q18 q19 q20 q21 x : Oper} {r : List Oper} : (q0 :: q1 :: q2 :: q3 :: q4 :: q5 :: q6 :: q7 :: q8 :: q9 :: q10 :: q11 :: q12 :: q13 :: q14 :: q15 :: q16 :: q17 :: q18 :: q19 :: q20 :: q21 :: x :: r).toArray[22]? = some x := rfl
theorem op23 {q0 q1 q2 q3 q4 q5 q6 q7 q8 q9 q10 q11 q12 q13 q14 q15 q16 q17 q18 q19 q20 q21 q22 x : Oper} {r : List Oper} : (q0 :: q1 :: q2 :: q3 :: q4 :: q5 :: q6 :: q7 :: q8 :: q9 :: q10 :: q11 :: q12 :: q13 :: q14 :: q15 :: q16 :: q17 :: q18 :: q19 :: q20 :: q21 :: q22 :: x :: r).toArray[23]? = some x := rfl
theorem op24 {q0 q1 q2 q3 q4 q5 q6 q7 q8 q9 q10 q11 q12 q13 q14 q15 q16 q17 q18 q19 q20 q21 q22 q23 x : Oper} {r : List Oper} : (q0 :: q1 :: q2 :: q3 :: q4 :: q5 :: q6 :: q7 :: q8 :: q9 :: q10 :: q11 :: q12 :: q13 :: q14 :: q15 :: q16 :: q17 :: q18 :: q19 :: q20 :: q21 :: q22 :: q23 :: x :: r).toArray[24]? = some x := rfl
theorem op25 {q0 q1 q2 q3 q4 q5 q6 q7 q8 q9 q10 q11 q12 q13 q14 q15 q16 q17 q18 q19 q20 q21 q22 q23 q24 x : Oper} {r : List Oper} : (q0 :: q1 :: q2 :: q3 :: q4 :: q5 :: q6 :: q7 :: q8 :: q9 :: q10 :: q11 :: q12 :: q13 :: q14 :: q15 :: q16 :: q17 :: q18 :: q19 :: q20 :: q21 :: q22 :: q23 :: q24 :: x :: r).toArray[25]? = some x := rfl
theorem op26 {q0 q1 q2 q3 q4 q5 q6 q7 q8 q9 q10 q11 q12 q13 q14 q15 q16 q17 q18 q19 q20 q21 q22 q23 q24 q25 x : Oper} {r : List Oper} : (q0 :: q1 :: q2 :: q3 :: q4 :: q5 :: q6 :: q7 :: q8 :: q9 :: q10 :: q11 :: q12 :: q13 :: q14 :: q15 :: q16 :: q17 :: q18 :: q19 :: q20 :: q21 :: q22 :: q23 :: q24 :: q25 :: x :: r).toArray[26]? = some x := rfl
theorem op27 {q0 q1 q2 q3 q4 q5 q6 q7 q8 q9 q10 q11 q12 q13 q14 q15 q16 q17 q18 q19 q20 q21 q22 q23 q24 q25 q26 x : Oper} {r : List Oper} : (q0 :: q1 :: q2 :: q3 :: q4 :: q5 :: q6 :: q7 :: q8 :: q9 :: q10 :: q11 :: q12 :: q13 :: q14 :: q15 :: q16 :: q17 :: q18 :: q19 :: q20 :: q21 :: q22 :: q23 :: q24 :: q25 :: q26 :: x :: r).toArray[27]? = some x := rfl
theorem op28 {q0 q1 q2 q3 q4 q5 q6 q7 q8 q9 q10 q11 q12 q13 q14 q15 q16 q17 q18 q19 q20 q21 q22 q23 q24 q25 q26 q27 x : Oper} {r : List Oper} : (q0 :: q1 :: q2 :: q3 :: q4 :: q5 :: q6 :: q7 :: q8 :: q9 :: q10 :: q11 :: q12 :: q13 :: q14 :: q15 :: q16 :: q17 :: q18 :: q19 :: q20 :: q21 :: q22 :: q23 :: q24 :: q25 :: q26 :: q27 :: x :: r).toArray[28]? = some x := rfl
theorem op29 {q0 q1 q2 q3 q4 q5 q6 q7 q8 q9 q10 q11 q12 q13 q14 q15 q16 q17 q18 q19 q20 q21 q22 q23 q24 q25 q26 q27 q28 x : Oper} {r : List Oper} : (q0 :: q1 :: q2 :: q3 :: q4 :: q5 :: q6 :: q7 :: q8 :: q9 :: q10 :: q11 :: q12 :: q13 :: q14 :: q15 :: q16 :: q17 :: q18 :: q19 :: q20 :: q21 :: q22 :: q23 :: q24 :: q25 :: q26 :: q27 :: q28 :: x :: r).toArray[29]? = some x := rfl
end Go.Proofs.Ytpadpmkfhljiiaa
