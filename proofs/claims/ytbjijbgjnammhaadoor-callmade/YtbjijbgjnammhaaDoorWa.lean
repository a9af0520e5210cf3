/- What the leaves of package word do to the world, for every word: sums, differences, comparisons, equality. No condition but that limbs are numbers of 64 bits. -/
import Derived.Test.YtbjijbgjnammhaaDoorRows
import Derived.Test.YtbjijbgjnammhaaDoorNum
import Derived.WalkKit
import Derived.WalkSpells
import Derived.WalkLawsBesides
import Derived.Deep.QuietTactic
import Derived.BigQuiet
namespace Go.Proofs.YtbjijbgjnammhaaDoor.Wds
open Go.RowKit

theorem bcell {W w1 : World} (hb : Below W.heap.size W w1) : (∀ b o, b < W.heap.size → w1.cell? ⟨b, o, none⟩ = W.cell? ⟨b, o, none⟩) ∧ (∀ b o, b < W.heap.size → w1.frozen? ⟨b, o, none⟩ = W.frozen? ⟨b, o, none⟩) :=
  ⟨fun b o h => hb.cell (p := ⟨b, o, none⟩) h, fun b o h => hb.frozen (p := ⟨b, o, none⟩) h⟩

theorem bdrewN {B : Nat} {a w : World} (h : Below B a w) (n : Nat) : Below B a (w.drewN n) := h.trans ⟨rfl, rfl, rfl, Nat.le_refl _, fun _ _ => rfl⟩
theorem below_undrew {a b : World} (h : Below a.drew.heap.size a.drew b) : Below a.heap.size a b := ⟨h.os, h.tape, h.output, h.size, h.block⟩
theorem below_undrewN {a b : World} {n : Nat} (h : Below (a.drewN n).heap.size (a.drewN n) b) : Below a.heap.size a b := ⟨h.os, h.tape, h.output, h.size, h.block⟩
theorem ret_int {k : IntKind} {a b : Int} (h : a = b) : Ending.returned (.int k a) = .returned (.int k b) := by rw [h]
theorem ret_bool {a b : Bool} (h : a = b) : Ending.returned (.bool a) = .returned (.bool b) := by rw [h]
-- bits.Add64, bits.Sub64: run by the model
theorem eq64_run (k : Nat) (x y : Int) (W : World) : Sem.run Tryd.prog (Op.equalIn (k+1) 24 (.int .u64 x) (.int .u64 y)) W = .ok (x == y) W := by
  simp [Op.equalIn, run_underlying Tryd.underlying24]
theorem size64 (W : World) : Sem.run Tryd.prog (sizeOf 24) W = .ok 1 W := by kernel_rfl
theorem part0 (a0 a1 a2 a3 : Int) (W : World) : Sem.run Tryd.prog (part 24 #[.int .u64 a0, .int .u64 a1, .int .u64 a2, .int .u64 a3] 0) W = .ok (.int .u64 a0) W := by kernel_rfl
theorem part1 (a0 a1 a2 a3 : Int) (W : World) : Sem.run Tryd.prog (part 24 #[.int .u64 a0, .int .u64 a1, .int .u64 a2, .int .u64 a3] 1) W = .ok (.int .u64 a1) W := by kernel_rfl
theorem part2 (a0 a1 a2 a3 : Int) (W : World) : Sem.run Tryd.prog (part 24 #[.int .u64 a0, .int .u64 a1, .int .u64 a2, .int .u64 a3] 2) W = .ok (.int .u64 a2) W := by kernel_rfl
theorem part3 (a0 a1 a2 a3 : Int) (W : World) : Sem.run Tryd.prog (part 24 #[.int .u64 a0, .int .u64 a1, .int .u64 a2, .int .u64 a3] 3) W = .ok (.int .u64 a3) W := by kernel_rfl
set_option maxRecDepth 100000 in
theorem eqw_run (a0 a1 a2 a3 b0 b1 b2 b3 : Int) (W : World) : Sem.run Tryd.prog (Op.equalIn 10000 26 (.agg #[.int .u64 a0, .int .u64 a1, .int .u64 a2, .int .u64 a3]) (.agg #[.int .u64 b0, .int .u64 b1, .int .u64 b2, .int .u64 b3])) W = .ok (eqw a0 a1 a2 a3 b0 b1 b2 b3) W := by
  rw [show (10000 : Nat) = 9998 + 1 + 1 from rfl, Op.equalIn]
  simp only [Sem.run_bind, run_underlying Tryd.underlying26, Result.andThen_ok, size64, Std.Legacy.Range.forIn_eq_forIn_range', Std.Legacy.Range.size]
  simp [List.range', part0, part1, part2, part3, eq64_run, eqw]
  by_cases h0 : a0 = b0 <;> by_cases h1 : a1 = b1 <;> by_cases h2 : a2 = b2 <;> by_cases h3 : a3 = b3 <;> simp [h0, h1, h2, h3]

end Go.Proofs.YtbjijbgjnammhaaDoor.Wds
