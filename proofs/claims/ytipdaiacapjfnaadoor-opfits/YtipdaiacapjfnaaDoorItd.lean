/- OpFits: the walk at every number. -/
import Derived.Test.YtipdaiacapjfnaaDoorItb
namespace Go.Proofs.YtipdaiacapjfnaaDoor
open Go.RowKit
set_option maxHeartbeats 1000000 in
set_option maxRecDepth 100000 in
theorem opFits_out (K : Int) (h : K < 0 ∨ 255 < K) (w : World) : Calls Tryd.prog 8 #[.int .i64 K] w fun e w' => e = .returned (.bool true) ∧ Below w.heap.size w w' := by
  have hB : Below w.heap.size w ((w.alloc (.cells #[.int .i64 K] 3)).alloc (.cells #[.bool true] 4)) := ((Below.refl _ w).alloc (Nat.le_refl _) _).alloc (by simp) _
  rcases h with h | h
  · go_enter Tryd.func8, Tryd.ntmps8
    go_wp2
    exact bodyPost_ret (results_one rfl _ _ _ ⟨w.heap.size + 1, 0, none⟩ rfl (by go_simp)) rfl ⟨rfl, hB⟩
  · have h2 : ¬ K < 0 := by omega
    go_enter Tryd.func8, Tryd.ntmps8
    go_wp2
    exact bodyPost_ret (results_one rfl _ _ _ ⟨w.heap.size + 1, 0, none⟩ rfl (by go_simp)) rfl ⟨rfl, hB⟩
theorem opFits_walk (w : World) (hN : Nms w) (K : Int) : Calls Tryd.prog 8 #[.int .i64 K] w fun e w' => e = .returned (.bool true) ∧ Below w.heap.size w w' := by
  by_cases h : K < 0 ∨ 255 < K
  · exact opFits_out K h w
  · obtain ⟨k, rfl⟩ : ∃ k : Nat, K = (k : Int) := ⟨K.toNat, by omega⟩
    exact callsIn_wide.1 (opFits_in k (by omega) w hN)
end Go.Proofs.YtipdaiacapjfnaaDoor
