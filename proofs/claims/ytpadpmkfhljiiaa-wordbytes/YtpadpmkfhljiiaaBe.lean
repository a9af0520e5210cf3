/- b[n:] and b[:] of an array of bytes; num. -/
import Derived.Test.YtpadpmkfhljiiaaBn
namespace Go.Proofs.Ytpadpmkfhljiiaa
open Go.RowKit
theorem slice_arr (g q d : Nat) (hq : q + d = 32) (W : World) : Sem.run Try.prog (Instr.sliceAt 38 (.pointer (some ⟨g, 0, none⟩)) (some (.int .i64 (q : Int))) none none) W = .ok (.slice (some ⟨g, if d = 0 then 0 else q, none⟩) d d) W := by
  have h32 : Try.prog.arrayLen 38 = 32 := by kernel_rfl
  have sz : Sem.run Try.prog (sizeOf (Try.prog.elem 38)) W = .ok 1 W := by kernel_rfl
  rw [run_sliceAt_array_l W 38 ⟨g, 0, none⟩ (by kernel_rfl) .i64 (q : Int) (by omega) (by rw [h32]; omega), sz, h32, Result.andThen_ok]
  unfold slicedAt
  rw [Int.toNat_natCast, show 32 - q = d by omega]
  by_cases e : d = 0
  · rw [if_pos e, if_pos (by omega)]
  · rw [if_neg e, if_neg (by omega)]; simp [Addr.add]; omega
theorem slice_all (g : Nat) (W : World) : Sem.run Try.prog (Instr.sliceAt 38 (.pointer (some ⟨g, 0, none⟩)) none none none) W = .ok (.slice (some ⟨g, 0, none⟩) 32 32) W := by
  have h32 : Try.prog.arrayLen 38 = 32 := by kernel_rfl
  have sz : Sem.run Try.prog (sizeOf (Try.prog.elem 38)) W = .ok 1 W := by kernel_rfl
  rw [run_sliceAt_array_all W 38 ⟨g, 0, none⟩ (by kernel_rfl), sz, h32, Result.andThen_ok]
  rfl
theorem num_is (w : World) : Calls Try.prog 55 #[.int .i64 0] w fun e w' => e = .returned (.int .i64 0) ∧ w' = w := by
  go_enter Try.func55, Try.ntmps55
  go_wp2
  go_ret
  exact ⟨rfl, rfl⟩
end Go.Proofs.Ytpadpmkfhljiiaa
