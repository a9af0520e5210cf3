/- Stacks of package mach: new ones, and the calls that do not look. -/
import Derived.Test.YtdddmebihkdkjaaQa
namespace Go.Proofs.Ytdddmebihkdkjaa
open Go.RowKit
theorem buildS (w : World) : (Instr.build 82 #[]).run Try.prog w = .ok (.agg stkL.toArray) w := by kernel_rfl
theorem buildR (w : World) : (Instr.build 85 #[]).run Try.prog w = .ok (.agg stkR.toArray) w := by kernel_rfl
/-- 'a new struct' of any make: built and boxed -/
theorem new_any {ops : Array Oper} {rest : List Oper} {op1 op2 : Oper} {a : Act} {w : World} {Q : Exit → Act → World → Prop} (T : TypeId) (L : List Value) (hT : ∀ w, (Instr.build T #[]).run Try.prog w = .ok (.agg L.toArray) w) (h1 : op1.guard = none) (o1 : op1.op = .build T #[]) (t : Tmp) (d1 : op1.dst = some t) (h2 : op2.guard = none) (o2 : op2.op = .box T (.tmp t))
    (hx : ∀ v, (a.put (some t) v).eval (.tmp t) = v)
    (h : wpList Try.prog ops Q rest ((a.put (some t) (.agg L.toArray)).put op2.dst (.pointer (some ⟨w.heap.size, 0, none⟩))) (w.alloc (.cells L.toArray T))) : wpList Try.prog ops Q (op1 :: op2 :: rest) a w := by
  refine wpList_plain h1 fun K hK => ?_
  unfold Oper.wp execOp
  simp only [o1, Sem.run_bind, Sem.run_pure, Result.andThen_ok, hT, Array.map_empty]
  refine hK _ _ ?_
  rw [d1]
  refine wpList_plain h2 fun K hK => ?_
  unfold Oper.wp execOp
  simp only [o2, Sem.run_bind, Instr.box, newVar, newRow, run_newObj_alloc, Sem.run_pure, Result.andThen_ok, hx, Value.cells]
  exact hK _ _ h
/-- a new block that is a stack -/
structure NewStk (w W : World) (o z : Nat) : Prop where
  st : Stk W w.heap.size o z ring0 0
  bel : Below w.heap.size w W
  siz : W.heap.size = w.heap.size + 1
set_option maxHeartbeats 400000 in
theorem newStack_is (w : World) : Calls Try.prog 25 #[] w fun e w' => e = .returned (.pointer (some ⟨w.heap.size, 0, none⟩)) ∧ NewStk w w' 0 4096 := by
  have H : Hid (NewStk w (w.alloc (.cells stkL.toArray 82)) 0 4096) := ⟨Stk.new w _, (Below.refl _ _).alloc (Nat.le_refl _) _, by simp⟩
  generalize hL : stkL = L at H
  go_enter Try.func25, Try.ntmps25
  go_wp2_with (refine new_any 82 L (by rw [← hL]; exact buildS) rfl rfl _ rfl rfl rfl (fun _ => rfl) ?_)
  go_ret
  exact ⟨rfl, H.out⟩
set_option maxHeartbeats 400000 in
theorem newStackR_is (w : World) : Calls Try.prog 41 #[] w fun e w' => e = .returned (.pointer (some ⟨w.heap.size, 0, none⟩)) ∧ NewStk w w' 1 0 := by
  have H : Hid (NewStk w (w.alloc (.cells stkR.toArray 85)) 1 0) := ⟨Stk.newR w _, (Below.refl _ _).alloc (Nat.le_refl _) _, by simp⟩
  generalize hL : stkR = L at H
  go_enter Try.func41, Try.ntmps41
  go_wp2_with (refine new_any 85 L (by rw [← hL]; exact buildR) rfl rfl _ rfl rfl rfl (fun _ => rfl) ?_)
  go_ret
  exact ⟨rfl, H.out⟩
theorem len_is (w : World) (b : Nat) (f : Ring) (n : Int) (h : Stk w b 0 4096 f n) : Calls Try.prog 27 #[.pointer (some ⟨b, 0, none⟩)] w fun e w' => e = .returned (.int .i64 n) ∧ w' = w := by
  have cz := h.sz.1
  go_enter Try.func27, Try.ntmps27
  go_wp2
  go_ret
  exact ⟨rfl, rfl⟩
theorem place_is (w : World) (b : Nat) (f : Ring) (n k : Int) (h : Stk w b 0 4096 f n) : Calls Try.prog 53 #[.pointer (some ⟨b, 0, none⟩), .int .i64 k] w fun e w' => e = .returned (.int .i64 (pl (n - k) : Int)) ∧ w' = w := by
  have cz := h.sz.1
  have e1 : bits .and .i64 k 1023 = k % 1024 := i64_and1023 k
  have e2 : bits .and .i64 (wrap64 (n - k % 1024)) 1023 = (pl (n - k) : Int) := by
    rw [i64_and1023, pl_eq, wrap64]; omega
  clear h
  go_enter Try.func53, Try.ntmps53
  go_wp2
  go_ret
  exact ⟨rfl, rfl⟩
theorem pl_wrap64 (n : Int) : pl (wrap64 n) = pl n := by unfold pl wrap64; omega
end Go.Proofs.Ytdddmebihkdkjaa
