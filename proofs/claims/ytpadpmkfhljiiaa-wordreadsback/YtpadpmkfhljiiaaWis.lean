/- The comparisons, their answers named. -/
import Derived.Test.YtpadpmkfhljiiaaWe
namespace Go.Proofs.Ytpadpmkfhljiiaa
open Go.RowKit
theorem cmp_is {x y : Int} (a0 a1 a2 a3 b0 b1 b2 b3 : Int) (w : World) (ha : IsW x a0 a1 a2 a3) (hb : IsW y b0 b1 b2 b3) (r : Int) (h : cmpv (x % MM) (y % MM) = r) :
    Calls Try.prog 28 #[.agg #[.int .u64 a0, .int .u64 a1, .int .u64 a2, .int .u64 a3], .agg #[.int .u64 b0, .int .u64 b1, .int .u64 b2, .int .u64 b3]] w fun e w' => e = .returned (.int .i64 r) ∧ Below w.heap.size w w' := by
  rw [← h]; exact cmp_any x y a0 a1 a2 a3 b0 b1 b2 b3 w ha hb
theorem lt_is {x y : Int} (a0 a1 a2 a3 b0 b1 b2 b3 : Int) (w : World) (ha : IsW x a0 a1 a2 a3) (hb : IsW y b0 b1 b2 b3) (r : Bool) (h : decide (x % MM < y % MM) = r) :
    Calls Try.prog 20 #[.agg #[.int .u64 a0, .int .u64 a1, .int .u64 a2, .int .u64 a3], .agg #[.int .u64 b0, .int .u64 b1, .int .u64 b2, .int .u64 b3]] w fun e w' => e = .returned (.bool r) ∧ Below w.heap.size w w' := by
  rw [← h]; exact lt_any x y a0 a1 a2 a3 b0 b1 b2 b3 w ha hb
theorem gt_is {x y : Int} (a0 a1 a2 a3 b0 b1 b2 b3 : Int) (w : World) (ha : IsW x a0 a1 a2 a3) (hb : IsW y b0 b1 b2 b3) (r : Bool) (h : decide (y % MM < x % MM) = r) :
    Calls Try.prog 22 #[.agg #[.int .u64 a0, .int .u64 a1, .int .u64 a2, .int .u64 a3], .agg #[.int .u64 b0, .int .u64 b1, .int .u64 b2, .int .u64 b3]] w fun e w' => e = .returned (.bool r) ∧ Below w.heap.size w w' := by
  rw [← h]; exact gt_any x y a0 a1 a2 a3 b0 b1 b2 b3 w ha hb
theorem eq_is {x y : Int} (a0 a1 a2 a3 b0 b1 b2 b3 : Int) (w : World) (ha : IsW x a0 a1 a2 a3) (hb : IsW y b0 b1 b2 b3) (r : Bool) (h : decide (x % MM = y % MM) = r) :
    Calls Try.prog 24 #[.agg #[.int .u64 a0, .int .u64 a1, .int .u64 a2, .int .u64 a3], .agg #[.int .u64 b0, .int .u64 b1, .int .u64 b2, .int .u64 b3]] w fun e w' => e = .returned (.bool r) ∧ Below w.heap.size w w' := by
  rw [← h]; exact eq_any x y a0 a1 a2 a3 b0 b1 b2 b3 w ha hb
theorem isZero_is {x : Int} (a0 a1 a2 a3 : Int) (w : World) (ha : IsW x a0 a1 a2 a3) (r : Bool) (h : decide (x % MM = 0) = r) :
    Calls Try.prog 26 #[.agg #[.int .u64 a0, .int .u64 a1, .int .u64 a2, .int .u64 a3]] w fun e w' => e = .returned (.bool r) ∧ Below w.heap.size w w' := by
  rw [← h]; exact isZero_any x a0 a1 a2 a3 w ha
theorem slt_is {x y : Int} (a0 a1 a2 a3 b0 b1 b2 b3 : Int) (w : World) (ha : IsW x a0 a1 a2 a3) (hb : IsW y b0 b1 b2 b3) (r : Bool) (h : decide ((x + MM / 2) % MM < (y + MM / 2) % MM) = r) :
    Calls Try.prog 59 #[.agg #[.int .u64 a0, .int .u64 a1, .int .u64 a2, .int .u64 a3], .agg #[.int .u64 b0, .int .u64 b1, .int .u64 b2, .int .u64 b3]] w fun e w' => e = .returned (.bool r) ∧ Below w.heap.size w w' := by
  rw [← h]; exact slt_any x y a0 a1 a2 a3 b0 b1 b2 b3 w ha hb
theorem sgt_is {x y : Int} (a0 a1 a2 a3 b0 b1 b2 b3 : Int) (w : World) (ha : IsW x a0 a1 a2 a3) (hb : IsW y b0 b1 b2 b3) (r : Bool) (h : decide ((y + MM / 2) % MM < (x + MM / 2) % MM) = r) :
    Calls Try.prog 60 #[.agg #[.int .u64 a0, .int .u64 a1, .int .u64 a2, .int .u64 a3], .agg #[.int .u64 b0, .int .u64 b1, .int .u64 b2, .int .u64 b3]] w fun e w' => e = .returned (.bool r) ∧ Below w.heap.size w w' := by
  rw [← h]; exact sgt_any x y a0 a1 a2 a3 b0 b1 b2 b3 w ha hb
end Go.Proofs.Ytpadpmkfhljiiaa
