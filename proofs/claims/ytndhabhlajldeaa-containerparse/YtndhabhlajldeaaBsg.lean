/- ContainerParse: the walk. -/
import Derived.Test.YtndhabhlajldeaaBsf
namespace Go.Proofs.Ytndhabhlajldeaa
open Go.RowKit
set_option maxHeartbeats 4000000 in
set_option maxRecDepth 100000 in
theorem containerParse_walk (w : World) (v : Value) (b : List Nat) (opn : Bool) (h : BL (fun _ => True) w v b) (hb : Byt b) (hl : b.length ≤ 140737488355328) : Calls Try.prog 3 #[v, .bool opn] w fun e w' => e = .returned (.bool true) ∧ Below w.heap.size w w' := by
  obtain ⟨ad, cap, rfl, _, _⟩ := h.len
  have RD : Hid (b.length ≤ 2097152 → ∀ W, Below w.heap.size w W → Calls Try.prog 17 #[.slice ad b.length cap, .bool opn] W fun e w' => e = .returned (.bool true) ∧ Below W.heap.size W w') := fun q W hW => read_is W _ b opn (h.past hW) hb q
  have nI : (b.length : Int) ≤ 140737488355328 := by omega
  clear h hb hl
  generalize b.length = n at *
  by_cases e : n ≤ 2097152
  · have q1 : ¬ (2097152 : Int) < (n : Int) := by omega
    have RD2 : Hid (∀ W, Below w.heap.size w W → Calls Try.prog 17 #[.slice ad n cap, .bool opn] W fun e w' => e = .returned (.bool true) ∧ Below W.heap.size W w') := RD.out e
    clear RD e
    go_enter Try.func3, Try.ntmps3
    go_wp2_with (first | (go_at_call 16; refine (able_is _).mono ?_; rintro e w1 ⟨rfl, hB⟩; (have B1 : Hid (Below w.heap.size w w1) := hB); (clear hB)) | (go_at_call 17; refine (RD2.out _ B1.out).mono ?_; rintro e w2 ⟨rfl, hB⟩; (have B2 : Hid (Below w.heap.size w w2) := B1.out.trans (hB.mono B1.out.size)); (clear hB)))
    go_ret
    exact ⟨rfl, B2.out⟩
  · have q1 : (2097152 : Int) < (n : Int) := by omega
    clear RD e
    go_enter Try.func3, Try.ntmps3
    go_wp2_with (go_at_call 16; refine (able_is _).mono ?_; rintro e w1 ⟨rfl, hB⟩; (have B1 : Hid (Below w.heap.size w w1) := hB); (clear hB))
    go_ret
    exact ⟨rfl, B1.out⟩
end Go.Proofs.Ytndhabhlajldeaa
