/- The document's number. -/
import Derived.Test.YtcjmbpchdeapiaaDoorRva
namespace Go.Proofs.YtcjmbpchdeapiaaDoor
open Go.RowKit
set_option maxRecDepth 1000000
theorem bdrewN {B : Nat} {a w : World} (h : Below B a w) (n : Nat) : Below B a (w.drewN n) := h.trans ⟨rfl, rfl, rfl, Nat.le_refl _, fun _ _ => rfl⟩
def numL : List (List UInt8) := [[48], [49], [50], [51], [52], [53], [54], [55], [56], [57], [49, 48], [49, 49], [49, 50], [49, 51], [49, 52], [49, 53], [49, 54], [49, 55], [49, 56], [49, 57], [50, 48], [50, 49], [50, 50], [50, 51], [50, 52], [50, 53], [50, 54], [50, 55], [50, 56], [50, 57], [51, 48], [51, 49], [51, 50]]
theorem num_run (w : World) : ((List.range 10).map fun i => evC Tryd.prog 20000 51 #[.int .i64 (Int.ofNat i)] w) = (List.range 10).map fun i => some (.string ⟨(numL.getD i []).toArray⟩, w) := by kernel_rfl
set_option maxHeartbeats 1000000 in
theorem num_10 (w : World) : Calls Tryd.prog 51 #[.int .i64 10] w fun e w' => e = .returned (.string ⟨#[49, 48]⟩) ∧ ∃ m, w' = w.drewN m := by
  go_enter Tryd.func51, Tryd.ntmps51
  go_wp2
  go_quiet (fail)
  go_wp2
  go_ret
  exact ⟨rfl, _, rfl⟩
set_option maxHeartbeats 1000000 in
theorem num_11 (w : World) : Calls Tryd.prog 51 #[.int .i64 11] w fun e w' => e = .returned (.string ⟨#[49, 49]⟩) ∧ ∃ m, w' = w.drewN m := by
  go_enter Tryd.func51, Tryd.ntmps51
  go_wp2
  go_quiet (fail)
  go_wp2
  go_ret
  exact ⟨rfl, _, rfl⟩
set_option maxHeartbeats 1000000 in
theorem num_12 (w : World) : Calls Tryd.prog 51 #[.int .i64 12] w fun e w' => e = .returned (.string ⟨#[49, 50]⟩) ∧ ∃ m, w' = w.drewN m := by
  go_enter Tryd.func51, Tryd.ntmps51
  go_wp2
  go_quiet (fail)
  go_wp2
  go_ret
  exact ⟨rfl, _, rfl⟩
set_option maxHeartbeats 1000000 in
theorem num_13 (w : World) : Calls Tryd.prog 51 #[.int .i64 13] w fun e w' => e = .returned (.string ⟨#[49, 51]⟩) ∧ ∃ m, w' = w.drewN m := by
  go_enter Tryd.func51, Tryd.ntmps51
  go_wp2
  go_quiet (fail)
  go_wp2
  go_ret
  exact ⟨rfl, _, rfl⟩
set_option maxHeartbeats 1000000 in
theorem num_14 (w : World) : Calls Tryd.prog 51 #[.int .i64 14] w fun e w' => e = .returned (.string ⟨#[49, 52]⟩) ∧ ∃ m, w' = w.drewN m := by
  go_enter Tryd.func51, Tryd.ntmps51
  go_wp2
  go_quiet (fail)
  go_wp2
  go_ret
  exact ⟨rfl, _, rfl⟩
set_option maxHeartbeats 1000000 in
theorem num_15 (w : World) : Calls Tryd.prog 51 #[.int .i64 15] w fun e w' => e = .returned (.string ⟨#[49, 53]⟩) ∧ ∃ m, w' = w.drewN m := by
  go_enter Tryd.func51, Tryd.ntmps51
  go_wp2
  go_quiet (fail)
  go_wp2
  go_ret
  exact ⟨rfl, _, rfl⟩
set_option maxHeartbeats 1000000 in
theorem num_16 (w : World) : Calls Tryd.prog 51 #[.int .i64 16] w fun e w' => e = .returned (.string ⟨#[49, 54]⟩) ∧ ∃ m, w' = w.drewN m := by
  go_enter Tryd.func51, Tryd.ntmps51
  go_wp2
  go_quiet (fail)
  go_wp2
  go_ret
  exact ⟨rfl, _, rfl⟩
set_option maxHeartbeats 1000000 in
theorem num_17 (w : World) : Calls Tryd.prog 51 #[.int .i64 17] w fun e w' => e = .returned (.string ⟨#[49, 55]⟩) ∧ ∃ m, w' = w.drewN m := by
  go_enter Tryd.func51, Tryd.ntmps51
  go_wp2
  go_quiet (fail)
  go_wp2
  go_ret
  exact ⟨rfl, _, rfl⟩
set_option maxHeartbeats 1000000 in
theorem num_18 (w : World) : Calls Tryd.prog 51 #[.int .i64 18] w fun e w' => e = .returned (.string ⟨#[49, 56]⟩) ∧ ∃ m, w' = w.drewN m := by
  go_enter Tryd.func51, Tryd.ntmps51
  go_wp2
  go_quiet (fail)
  go_wp2
  go_ret
  exact ⟨rfl, _, rfl⟩
set_option maxHeartbeats 1000000 in
theorem num_19 (w : World) : Calls Tryd.prog 51 #[.int .i64 19] w fun e w' => e = .returned (.string ⟨#[49, 57]⟩) ∧ ∃ m, w' = w.drewN m := by
  go_enter Tryd.func51, Tryd.ntmps51
  go_wp2
  go_quiet (fail)
  go_wp2
  go_ret
  exact ⟨rfl, _, rfl⟩
set_option maxHeartbeats 1000000 in
theorem num_20 (w : World) : Calls Tryd.prog 51 #[.int .i64 20] w fun e w' => e = .returned (.string ⟨#[50, 48]⟩) ∧ ∃ m, w' = w.drewN m := by
  go_enter Tryd.func51, Tryd.ntmps51
  go_wp2
  go_quiet (fail)
  go_wp2
  go_ret
  exact ⟨rfl, _, rfl⟩
set_option maxHeartbeats 1000000 in
theorem num_21 (w : World) : Calls Tryd.prog 51 #[.int .i64 21] w fun e w' => e = .returned (.string ⟨#[50, 49]⟩) ∧ ∃ m, w' = w.drewN m := by
  go_enter Tryd.func51, Tryd.ntmps51
  go_wp2
  go_quiet (fail)
  go_wp2
  go_ret
  exact ⟨rfl, _, rfl⟩
set_option maxHeartbeats 1000000 in
theorem num_22 (w : World) : Calls Tryd.prog 51 #[.int .i64 22] w fun e w' => e = .returned (.string ⟨#[50, 50]⟩) ∧ ∃ m, w' = w.drewN m := by
  go_enter Tryd.func51, Tryd.ntmps51
  go_wp2
  go_quiet (fail)
  go_wp2
  go_ret
  exact ⟨rfl, _, rfl⟩
set_option maxHeartbeats 1000000 in
theorem num_23 (w : World) : Calls Tryd.prog 51 #[.int .i64 23] w fun e w' => e = .returned (.string ⟨#[50, 51]⟩) ∧ ∃ m, w' = w.drewN m := by
  go_enter Tryd.func51, Tryd.ntmps51
  go_wp2
  go_quiet (fail)
  go_wp2
  go_ret
  exact ⟨rfl, _, rfl⟩
set_option maxHeartbeats 1000000 in
theorem num_24 (w : World) : Calls Tryd.prog 51 #[.int .i64 24] w fun e w' => e = .returned (.string ⟨#[50, 52]⟩) ∧ ∃ m, w' = w.drewN m := by
  go_enter Tryd.func51, Tryd.ntmps51
  go_wp2
  go_quiet (fail)
  go_wp2
  go_ret
  exact ⟨rfl, _, rfl⟩
set_option maxHeartbeats 1000000 in
theorem num_25 (w : World) : Calls Tryd.prog 51 #[.int .i64 25] w fun e w' => e = .returned (.string ⟨#[50, 53]⟩) ∧ ∃ m, w' = w.drewN m := by
  go_enter Tryd.func51, Tryd.ntmps51
  go_wp2
  go_quiet (fail)
  go_wp2
  go_ret
  exact ⟨rfl, _, rfl⟩
set_option maxHeartbeats 1000000 in
theorem num_26 (w : World) : Calls Tryd.prog 51 #[.int .i64 26] w fun e w' => e = .returned (.string ⟨#[50, 54]⟩) ∧ ∃ m, w' = w.drewN m := by
  go_enter Tryd.func51, Tryd.ntmps51
  go_wp2
  go_quiet (fail)
  go_wp2
  go_ret
  exact ⟨rfl, _, rfl⟩
set_option maxHeartbeats 1000000 in
theorem num_27 (w : World) : Calls Tryd.prog 51 #[.int .i64 27] w fun e w' => e = .returned (.string ⟨#[50, 55]⟩) ∧ ∃ m, w' = w.drewN m := by
  go_enter Tryd.func51, Tryd.ntmps51
  go_wp2
  go_quiet (fail)
  go_wp2
  go_ret
  exact ⟨rfl, _, rfl⟩
set_option maxHeartbeats 1000000 in
theorem num_28 (w : World) : Calls Tryd.prog 51 #[.int .i64 28] w fun e w' => e = .returned (.string ⟨#[50, 56]⟩) ∧ ∃ m, w' = w.drewN m := by
  go_enter Tryd.func51, Tryd.ntmps51
  go_wp2
  go_quiet (fail)
  go_wp2
  go_ret
  exact ⟨rfl, _, rfl⟩
set_option maxHeartbeats 1000000 in
theorem num_29 (w : World) : Calls Tryd.prog 51 #[.int .i64 29] w fun e w' => e = .returned (.string ⟨#[50, 57]⟩) ∧ ∃ m, w' = w.drewN m := by
  go_enter Tryd.func51, Tryd.ntmps51
  go_wp2
  go_quiet (fail)
  go_wp2
  go_ret
  exact ⟨rfl, _, rfl⟩
set_option maxHeartbeats 1000000 in
theorem num_30 (w : World) : Calls Tryd.prog 51 #[.int .i64 30] w fun e w' => e = .returned (.string ⟨#[51, 48]⟩) ∧ ∃ m, w' = w.drewN m := by
  go_enter Tryd.func51, Tryd.ntmps51
  go_wp2
  go_quiet (fail)
  go_wp2
  go_ret
  exact ⟨rfl, _, rfl⟩
set_option maxHeartbeats 1000000 in
theorem num_31 (w : World) : Calls Tryd.prog 51 #[.int .i64 31] w fun e w' => e = .returned (.string ⟨#[51, 49]⟩) ∧ ∃ m, w' = w.drewN m := by
  go_enter Tryd.func51, Tryd.ntmps51
  go_wp2
  go_quiet (fail)
  go_wp2
  go_ret
  exact ⟨rfl, _, rfl⟩
set_option maxHeartbeats 1000000 in
theorem num_32 (w : World) : Calls Tryd.prog 51 #[.int .i64 32] w fun e w' => e = .returned (.string ⟨#[51, 50]⟩) ∧ ∃ m, w' = w.drewN m := by
  go_enter Tryd.func51, Tryd.ntmps51
  go_wp2
  go_quiet (fail)
  go_wp2
  go_ret
  exact ⟨rfl, _, rfl⟩
theorem number_is (i : Nat) (hi : i < 33) (w : World) : Calls Tryd.prog 51 #[.int .i64 (i : Int)] w fun e w' => e = .returned (.string ⟨(numL.getD i []).toArray⟩) ∧ ∃ m, w' = w.drewN m := by
  by_cases h : i < 10
  · exact (evC_calls (at_range (num_run w) i h)).mono (fun e w' ⟨h1, h2⟩ => ⟨h1, 0, by rw [h2]; rfl⟩)
  have hc : i = 10 ∨ i = 11 ∨ i = 12 ∨ i = 13 ∨ i = 14 ∨ i = 15 ∨ i = 16 ∨ i = 17 ∨ i = 18 ∨ i = 19 ∨ i = 20 ∨ i = 21 ∨ i = 22 ∨ i = 23 ∨ i = 24 ∨ i = 25 ∨ i = 26 ∨ i = 27 ∨ i = 28 ∨ i = 29 ∨ i = 30 ∨ i = 31 ∨ i = 32 := by omega
  rcases hc with rfl | rfl | rfl | rfl | rfl | rfl | rfl | rfl | rfl | rfl | rfl | rfl | rfl | rfl | rfl | rfl | rfl | rfl | rfl | rfl | rfl | rfl | rfl
  · exact num_10 w
  · exact num_11 w
  · exact num_12 w
  · exact num_13 w
  · exact num_14 w
  · exact num_15 w
  · exact num_16 w
  · exact num_17 w
  · exact num_18 w
  · exact num_19 w
  · exact num_20 w
  · exact num_21 w
  · exact num_22 w
  · exact num_23 w
  · exact num_24 w
  · exact num_25 w
  · exact num_26 w
  · exact num_27 w
  · exact num_28 w
  · exact num_29 w
  · exact num_30 w
  · exact num_31 w
  · exact num_32 w
end Go.Proofs.YtcjmbpchdeapiaaDoor
