/- The document's rows. -/
import Derived.Test.YtcjmbpchdeapiaaDoorRvb
namespace Go.Proofs.YtcjmbpchdeapiaaDoor
open Go.RowKit
set_option maxRecDepth 100000
set_option maxHeartbeats 1000000 in
theorem at_1 (w : World) : Calls Tryd.prog 35 #[.int .i64 1] w fun e w' => e = .returned (.tuple #[opv 1, .bool true]) ∧ ∃ m, w' = ((w.alloc (opo 1)).alloc (opo 1)).drewN m := by
  go_enter Tryd.func35, Tryd.ntmps35
  go_wp2_with (first | (go_at_call 49; refine (row_is _ _ _ _ _ _ _ _).mono ?_; rintro e w2 ⟨rfl, hw⟩; rw [hw]; clear hw) | (go_at_call 50; refine (wa_is 0 (by decide) _).mono ?_; rintro e w1 ⟨rfl, hw⟩; rw [hw]; clear hw))
  refine ⟨rfl, _, (results_cell_tmp rfl _ _ _).trans ?_, rfl, 0, ?_⟩
  · go_simp
    kernel_rfl
  · kernel_rfl
set_option maxHeartbeats 1000000 in
theorem at_2 (w : World) : Calls Tryd.prog 35 #[.int .i64 2] w fun e w' => e = .returned (.tuple #[opv 2, .bool true]) ∧ ∃ m, w' = ((w.alloc (opo 2)).alloc (opo 2)).drewN m := by
  go_enter Tryd.func35, Tryd.ntmps35
  go_wp2_with (first | (go_at_call 49; refine (row_is _ _ _ _ _ _ _ _).mono ?_; rintro e w2 ⟨rfl, hw⟩; rw [hw]; clear hw) | (go_at_call 50; refine (wa_is 1 (by decide) _).mono ?_; rintro e w1 ⟨rfl, hw⟩; rw [hw]; clear hw))
  refine ⟨rfl, _, (results_cell_tmp rfl _ _ _).trans ?_, rfl, 0, ?_⟩
  · go_simp
    kernel_rfl
  · kernel_rfl
set_option maxHeartbeats 1000000 in
theorem at_3 (w : World) : Calls Tryd.prog 35 #[.int .i64 3] w fun e w' => e = .returned (.tuple #[opv 3, .bool true]) ∧ ∃ m, w' = ((w.alloc (opo 3)).alloc (opo 3)).drewN m := by
  go_enter Tryd.func35, Tryd.ntmps35
  go_wp2_with (first | (go_at_call 49; refine (row_is _ _ _ _ _ _ _ _).mono ?_; rintro e w2 ⟨rfl, hw⟩; rw [hw]; clear hw) | (go_at_call 50; refine (wa_is 2 (by decide) _).mono ?_; rintro e w1 ⟨rfl, hw⟩; rw [hw]; clear hw))
  refine ⟨rfl, _, (results_cell_tmp rfl _ _ _).trans ?_, rfl, 0, ?_⟩
  · go_simp
    kernel_rfl
  · kernel_rfl
set_option maxHeartbeats 1000000 in
theorem at_4 (w : World) : Calls Tryd.prog 35 #[.int .i64 4] w fun e w' => e = .returned (.tuple #[opv 4, .bool true]) ∧ ∃ m, w' = ((w.alloc (opo 4)).alloc (opo 4)).drewN m := by
  go_enter Tryd.func35, Tryd.ntmps35
  go_wp2_with (first | (go_at_call 49; refine (row_is _ _ _ _ _ _ _ _).mono ?_; rintro e w2 ⟨rfl, hw⟩; rw [hw]; clear hw) | (go_at_call 50; refine (wa_is 3 (by decide) _).mono ?_; rintro e w1 ⟨rfl, hw⟩; rw [hw]; clear hw))
  refine ⟨rfl, _, (results_cell_tmp rfl _ _ _).trans ?_, rfl, 0, ?_⟩
  · go_simp
    kernel_rfl
  · kernel_rfl
set_option maxHeartbeats 1000000 in
theorem at_5 (w : World) : Calls Tryd.prog 35 #[.int .i64 5] w fun e w' => e = .returned (.tuple #[opv 5, .bool true]) ∧ ∃ m, w' = ((w.alloc (opo 5)).alloc (opo 5)).drewN m := by
  go_enter Tryd.func35, Tryd.ntmps35
  go_wp2_with (first | (go_at_call 49; refine (row_is _ _ _ _ _ _ _ _).mono ?_; rintro e w2 ⟨rfl, hw⟩; rw [hw]; clear hw) | (go_at_call 50; refine (wa_is 4 (by decide) _).mono ?_; rintro e w1 ⟨rfl, hw⟩; rw [hw]; clear hw))
  refine ⟨rfl, _, (results_cell_tmp rfl _ _ _).trans ?_, rfl, 0, ?_⟩
  · go_simp
    kernel_rfl
  · kernel_rfl
set_option maxHeartbeats 1000000 in
theorem at_6 (w : World) : Calls Tryd.prog 35 #[.int .i64 6] w fun e w' => e = .returned (.tuple #[opv 6, .bool true]) ∧ ∃ m, w' = ((w.alloc (opo 6)).alloc (opo 6)).drewN m := by
  go_enter Tryd.func35, Tryd.ntmps35
  go_wp2_with (first | (go_at_call 49; refine (row_is _ _ _ _ _ _ _ _).mono ?_; rintro e w2 ⟨rfl, hw⟩; rw [hw]; clear hw) | (go_at_call 50; refine (wa_is 5 (by decide) _).mono ?_; rintro e w1 ⟨rfl, hw⟩; rw [hw]; clear hw))
  refine ⟨rfl, _, (results_cell_tmp rfl _ _ _).trans ?_, rfl, 0, ?_⟩
  · go_simp
    kernel_rfl
  · kernel_rfl
set_option maxHeartbeats 1000000 in
theorem at_7 (w : World) : Calls Tryd.prog 35 #[.int .i64 7] w fun e w' => e = .returned (.tuple #[opv 7, .bool true]) ∧ ∃ m, w' = ((w.alloc (opo 7)).alloc (opo 7)).drewN m := by
  go_enter Tryd.func35, Tryd.ntmps35
  go_wp2_with (first | (go_at_call 49; refine (row_is _ _ _ _ _ _ _ _).mono ?_; rintro e w2 ⟨rfl, hw⟩; rw [hw]; clear hw) | (go_at_call 50; refine (wa_is 6 (by decide) _).mono ?_; rintro e w1 ⟨rfl, hw⟩; rw [hw]; clear hw))
  refine ⟨rfl, _, (results_cell_tmp rfl _ _ _).trans ?_, rfl, 0, ?_⟩
  · go_simp
    kernel_rfl
  · kernel_rfl
set_option maxHeartbeats 1000000 in
theorem at_8 (w : World) : Calls Tryd.prog 35 #[.int .i64 8] w fun e w' => e = .returned (.tuple #[opv 8, .bool true]) ∧ ∃ m, w' = ((w.alloc (opo 8)).alloc (opo 8)).drewN m := by
  go_enter Tryd.func35, Tryd.ntmps35
  go_wp2_with (first | (go_at_call 49; refine (row_is _ _ _ _ _ _ _ _).mono ?_; rintro e w2 ⟨rfl, hw⟩; rw [hw]; clear hw) | (go_at_call 50; refine (wb_is 0 (by decide) _).mono ?_; rintro e w1 ⟨rfl, hw⟩; rw [hw]; clear hw))
  refine ⟨rfl, _, (results_cell_tmp rfl _ _ _).trans ?_, rfl, 0, ?_⟩
  · go_simp
    kernel_rfl
  · kernel_rfl
set_option maxHeartbeats 1000000 in
theorem at_9 (w : World) : Calls Tryd.prog 35 #[.int .i64 9] w fun e w' => e = .returned (.tuple #[opv 9, .bool true]) ∧ ∃ m, w' = ((w.alloc (opo 9)).alloc (opo 9)).drewN m := by
  go_enter Tryd.func35, Tryd.ntmps35
  go_wp2_with (first | (go_at_call 49; refine (row_is _ _ _ _ _ _ _ _).mono ?_; rintro e w2 ⟨rfl, hw⟩; rw [hw]; clear hw) | (go_at_call 50; refine (wb_is 1 (by decide) _).mono ?_; rintro e w1 ⟨rfl, hw⟩; rw [hw]; clear hw))
  refine ⟨rfl, _, (results_cell_tmp rfl _ _ _).trans ?_, rfl, 0, ?_⟩
  · go_simp
    kernel_rfl
  · kernel_rfl
set_option maxHeartbeats 1000000 in
theorem at_10 (w : World) : Calls Tryd.prog 35 #[.int .i64 10] w fun e w' => e = .returned (.tuple #[opv 10, .bool true]) ∧ ∃ m, w' = ((w.alloc (opo 10)).alloc (opo 10)).drewN m := by
  go_enter Tryd.func35, Tryd.ntmps35
  go_wp2_with (first | (go_at_call 49; refine (row_is _ _ _ _ _ _ _ _).mono ?_; rintro e w2 ⟨rfl, hw⟩; rw [hw]; clear hw))
  refine ⟨rfl, _, (results_cell_tmp rfl _ _ _).trans ?_, rfl, 0, ?_⟩
  · go_simp
    kernel_rfl
  · kernel_rfl
set_option maxHeartbeats 1000000 in
theorem at_11 (w : World) : Calls Tryd.prog 35 #[.int .i64 11] w fun e w' => e = .returned (.tuple #[opv 11, .bool true]) ∧ ∃ m, w' = ((w.alloc (opo 11)).alloc (opo 11)).drewN m := by
  go_enter Tryd.func35, Tryd.ntmps35
  go_wp2_with (first | (go_at_call 49; refine (row_is _ _ _ _ _ _ _ _).mono ?_; rintro e w2 ⟨rfl, hw⟩; rw [hw]; clear hw))
  refine ⟨rfl, _, (results_cell_tmp rfl _ _ _).trans ?_, rfl, 0, ?_⟩
  · go_simp
    kernel_rfl
  · kernel_rfl
set_option maxHeartbeats 1000000 in
theorem at_16 (w : World) : Calls Tryd.prog 35 #[.int .i64 16] w fun e w' => e = .returned (.tuple #[opv 16, .bool true]) ∧ ∃ m, w' = ((w.alloc (opo 16)).alloc (opo 16)).drewN m := by
  go_enter Tryd.func35, Tryd.ntmps35
  go_wp2_with (first | (go_at_call 49; refine (row_is _ _ _ _ _ _ _ _).mono ?_; rintro e w2 ⟨rfl, hw⟩; rw [hw]; clear hw) | (go_at_call 50; refine (wc_is 0 (by decide) _).mono ?_; rintro e w1 ⟨rfl, hw⟩; rw [hw]; clear hw))
  refine ⟨rfl, _, (results_cell_tmp rfl _ _ _).trans ?_, rfl, 0, ?_⟩
  · go_simp
    kernel_rfl
  · kernel_rfl
set_option maxHeartbeats 1000000 in
theorem at_17 (w : World) : Calls Tryd.prog 35 #[.int .i64 17] w fun e w' => e = .returned (.tuple #[opv 17, .bool true]) ∧ ∃ m, w' = ((w.alloc (opo 17)).alloc (opo 17)).drewN m := by
  go_enter Tryd.func35, Tryd.ntmps35
  go_wp2_with (first | (go_at_call 49; refine (row_is _ _ _ _ _ _ _ _).mono ?_; rintro e w2 ⟨rfl, hw⟩; rw [hw]; clear hw) | (go_at_call 50; refine (wc_is 1 (by decide) _).mono ?_; rintro e w1 ⟨rfl, hw⟩; rw [hw]; clear hw))
  refine ⟨rfl, _, (results_cell_tmp rfl _ _ _).trans ?_, rfl, 0, ?_⟩
  · go_simp
    kernel_rfl
  · kernel_rfl
set_option maxHeartbeats 1000000 in
theorem at_18 (w : World) : Calls Tryd.prog 35 #[.int .i64 18] w fun e w' => e = .returned (.tuple #[opv 18, .bool true]) ∧ ∃ m, w' = ((w.alloc (opo 18)).alloc (opo 18)).drewN m := by
  go_enter Tryd.func35, Tryd.ntmps35
  go_wp2_with (first | (go_at_call 49; refine (row_is _ _ _ _ _ _ _ _).mono ?_; rintro e w2 ⟨rfl, hw⟩; rw [hw]; clear hw) | (go_at_call 50; refine (wc_is 2 (by decide) _).mono ?_; rintro e w1 ⟨rfl, hw⟩; rw [hw]; clear hw))
  refine ⟨rfl, _, (results_cell_tmp rfl _ _ _).trans ?_, rfl, 0, ?_⟩
  · go_simp
    kernel_rfl
  · kernel_rfl
set_option maxHeartbeats 1000000 in
theorem at_19 (w : World) : Calls Tryd.prog 35 #[.int .i64 19] w fun e w' => e = .returned (.tuple #[opv 19, .bool true]) ∧ ∃ m, w' = ((w.alloc (opo 19)).alloc (opo 19)).drewN m := by
  go_enter Tryd.func35, Tryd.ntmps35
  go_wp2_with (first | (go_at_call 49; refine (row_is _ _ _ _ _ _ _ _).mono ?_; rintro e w2 ⟨rfl, hw⟩; rw [hw]; clear hw) | (go_at_call 50; refine (wc_is 3 (by decide) _).mono ?_; rintro e w1 ⟨rfl, hw⟩; rw [hw]; clear hw))
  refine ⟨rfl, _, (results_cell_tmp rfl _ _ _).trans ?_, rfl, 0, ?_⟩
  · go_simp
    kernel_rfl
  · kernel_rfl
set_option maxHeartbeats 1000000 in
theorem at_20 (w : World) : Calls Tryd.prog 35 #[.int .i64 20] w fun e w' => e = .returned (.tuple #[opv 20, .bool true]) ∧ ∃ m, w' = ((w.alloc (opo 20)).alloc (opo 20)).drewN m := by
  go_enter Tryd.func35, Tryd.ntmps35
  go_wp2_with (first | (go_at_call 49; refine (row_is _ _ _ _ _ _ _ _).mono ?_; rintro e w2 ⟨rfl, hw⟩; rw [hw]; clear hw) | (go_at_call 50; refine (wc_is 4 (by decide) _).mono ?_; rintro e w1 ⟨rfl, hw⟩; rw [hw]; clear hw))
  refine ⟨rfl, _, (results_cell_tmp rfl _ _ _).trans ?_, rfl, 0, ?_⟩
  · go_simp
    kernel_rfl
  · kernel_rfl
set_option maxHeartbeats 1000000 in
theorem at_21 (w : World) : Calls Tryd.prog 35 #[.int .i64 21] w fun e w' => e = .returned (.tuple #[opv 21, .bool true]) ∧ ∃ m, w' = ((w.alloc (opo 21)).alloc (opo 21)).drewN m := by
  go_enter Tryd.func35, Tryd.ntmps35
  go_wp2_with (first | (go_at_call 49; refine (row_is _ _ _ _ _ _ _ _).mono ?_; rintro e w2 ⟨rfl, hw⟩; rw [hw]; clear hw) | (go_at_call 50; refine (wc_is 5 (by decide) _).mono ?_; rintro e w1 ⟨rfl, hw⟩; rw [hw]; clear hw))
  refine ⟨rfl, _, (results_cell_tmp rfl _ _ _).trans ?_, rfl, 0, ?_⟩
  · go_simp
    kernel_rfl
  · kernel_rfl
set_option maxHeartbeats 1000000 in
theorem at_22 (w : World) : Calls Tryd.prog 35 #[.int .i64 22] w fun e w' => e = .returned (.tuple #[opv 22, .bool true]) ∧ ∃ m, w' = ((w.alloc (opo 22)).alloc (opo 22)).drewN m := by
  go_enter Tryd.func35, Tryd.ntmps35
  go_wp2_with (first | (go_at_call 49; refine (row_is _ _ _ _ _ _ _ _).mono ?_; rintro e w2 ⟨rfl, hw⟩; rw [hw]; clear hw) | (go_at_call 50; refine (wc_is 6 (by decide) _).mono ?_; rintro e w1 ⟨rfl, hw⟩; rw [hw]; clear hw))
  refine ⟨rfl, _, (results_cell_tmp rfl _ _ _).trans ?_, rfl, 0, ?_⟩
  · go_simp
    kernel_rfl
  · kernel_rfl
set_option maxHeartbeats 1000000 in
theorem at_23 (w : World) : Calls Tryd.prog 35 #[.int .i64 23] w fun e w' => e = .returned (.tuple #[opv 23, .bool true]) ∧ ∃ m, w' = ((w.alloc (opo 23)).alloc (opo 23)).drewN m := by
  go_enter Tryd.func35, Tryd.ntmps35
  go_wp2_with (first | (go_at_call 49; refine (row_is _ _ _ _ _ _ _ _).mono ?_; rintro e w2 ⟨rfl, hw⟩; rw [hw]; clear hw) | (go_at_call 50; refine (wc_is 7 (by decide) _).mono ?_; rintro e w1 ⟨rfl, hw⟩; rw [hw]; clear hw))
  refine ⟨rfl, _, (results_cell_tmp rfl _ _ _).trans ?_, rfl, 0, ?_⟩
  · go_simp
    kernel_rfl
  · kernel_rfl
set_option maxHeartbeats 1000000 in
theorem at_24 (w : World) : Calls Tryd.prog 35 #[.int .i64 24] w fun e w' => e = .returned (.tuple #[opv 24, .bool true]) ∧ ∃ m, w' = ((w.alloc (opo 24)).alloc (opo 24)).drewN m := by
  go_enter Tryd.func35, Tryd.ntmps35
  go_wp2_with (first | (go_at_call 49; refine (row_is _ _ _ _ _ _ _ _).mono ?_; rintro e w2 ⟨rfl, hw⟩; rw [hw]; clear hw) | (go_at_call 50; refine (wc_is 8 (by decide) _).mono ?_; rintro e w1 ⟨rfl, hw⟩; rw [hw]; clear hw))
  refine ⟨rfl, _, (results_cell_tmp rfl _ _ _).trans ?_, rfl, 0, ?_⟩
  · go_simp
    kernel_rfl
  · kernel_rfl
set_option maxHeartbeats 1000000 in
theorem at_25 (w : World) : Calls Tryd.prog 35 #[.int .i64 25] w fun e w' => e = .returned (.tuple #[opv 25, .bool true]) ∧ ∃ m, w' = ((w.alloc (opo 25)).alloc (opo 25)).drewN m := by
  go_enter Tryd.func35, Tryd.ntmps35
  go_wp2_with (first | (go_at_call 49; refine (row_is _ _ _ _ _ _ _ _).mono ?_; rintro e w2 ⟨rfl, hw⟩; rw [hw]; clear hw) | (go_at_call 50; refine (wc_is 9 (by decide) _).mono ?_; rintro e w1 ⟨rfl, hw⟩; rw [hw]; clear hw))
  refine ⟨rfl, _, (results_cell_tmp rfl _ _ _).trans ?_, rfl, 0, ?_⟩
  · go_simp
    kernel_rfl
  · kernel_rfl
set_option maxHeartbeats 1000000 in
theorem at_26 (w : World) : Calls Tryd.prog 35 #[.int .i64 26] w fun e w' => e = .returned (.tuple #[opv 26, .bool true]) ∧ ∃ m, w' = ((w.alloc (opo 26)).alloc (opo 26)).drewN m := by
  go_enter Tryd.func35, Tryd.ntmps35
  go_wp2_with (first | (go_at_call 49; refine (row_is _ _ _ _ _ _ _ _).mono ?_; rintro e w2 ⟨rfl, hw⟩; rw [hw]; clear hw) | (go_at_call 50; refine (wc_is 10 (by decide) _).mono ?_; rintro e w1 ⟨rfl, hw⟩; rw [hw]; clear hw))
  refine ⟨rfl, _, (results_cell_tmp rfl _ _ _).trans ?_, rfl, 0, ?_⟩
  · go_simp
    kernel_rfl
  · kernel_rfl
set_option maxHeartbeats 1000000 in
theorem at_27 (w : World) : Calls Tryd.prog 35 #[.int .i64 27] w fun e w' => e = .returned (.tuple #[opv 27, .bool true]) ∧ ∃ m, w' = ((w.alloc (opo 27)).alloc (opo 27)).drewN m := by
  go_enter Tryd.func35, Tryd.ntmps35
  go_wp2_with (first | (go_at_call 49; refine (row_is _ _ _ _ _ _ _ _).mono ?_; rintro e w2 ⟨rfl, hw⟩; rw [hw]; clear hw) | (go_at_call 50; refine (wc_is 11 (by decide) _).mono ?_; rintro e w1 ⟨rfl, hw⟩; rw [hw]; clear hw))
  refine ⟨rfl, _, (results_cell_tmp rfl _ _ _).trans ?_, rfl, 0, ?_⟩
  · go_simp
    kernel_rfl
  · kernel_rfl
set_option maxHeartbeats 1000000 in
theorem at_28 (w : World) : Calls Tryd.prog 35 #[.int .i64 28] w fun e w' => e = .returned (.tuple #[opv 28, .bool true]) ∧ ∃ m, w' = ((w.alloc (opo 28)).alloc (opo 28)).drewN m := by
  go_enter Tryd.func35, Tryd.ntmps35
  go_wp2_with (first | (go_at_call 49; refine (row_is _ _ _ _ _ _ _ _).mono ?_; rintro e w2 ⟨rfl, hw⟩; rw [hw]; clear hw) | (go_at_call 50; refine (wc_is 12 (by decide) _).mono ?_; rintro e w1 ⟨rfl, hw⟩; rw [hw]; clear hw))
  refine ⟨rfl, _, (results_cell_tmp rfl _ _ _).trans ?_, rfl, 0, ?_⟩
  · go_simp
    kernel_rfl
  · kernel_rfl
set_option maxHeartbeats 1000000 in
theorem at_29 (w : World) : Calls Tryd.prog 35 #[.int .i64 29] w fun e w' => e = .returned (.tuple #[opv 29, .bool true]) ∧ ∃ m, w' = ((w.alloc (opo 29)).alloc (opo 29)).drewN m := by
  go_enter Tryd.func35, Tryd.ntmps35
  go_wp2_with (first | (go_at_call 49; refine (row_is _ _ _ _ _ _ _ _).mono ?_; rintro e w2 ⟨rfl, hw⟩; rw [hw]; clear hw) | (go_at_call 50; refine (wc_is 13 (by decide) _).mono ?_; rintro e w1 ⟨rfl, hw⟩; rw [hw]; clear hw))
  refine ⟨rfl, _, (results_cell_tmp rfl _ _ _).trans ?_, rfl, 0, ?_⟩
  · go_simp
    kernel_rfl
  · kernel_rfl
set_option maxHeartbeats 1000000 in
theorem at_30 (w : World) : Calls Tryd.prog 35 #[.int .i64 30] w fun e w' => e = .returned (.tuple #[opv 30, .bool true]) ∧ ∃ m, w' = ((w.alloc (opo 30)).alloc (opo 30)).drewN m := by
  go_enter Tryd.func35, Tryd.ntmps35
  go_wp2_with (first | (go_at_call 49; refine (row_is _ _ _ _ _ _ _ _).mono ?_; rintro e w2 ⟨rfl, hw⟩; rw [hw]; clear hw))
  refine ⟨rfl, _, (results_cell_tmp rfl _ _ _).trans ?_, rfl, 0, ?_⟩
  · go_simp
    kernel_rfl
  · kernel_rfl
set_option maxHeartbeats 1000000 in
theorem at_32 (w : World) : Calls Tryd.prog 35 #[.int .i64 32] w fun e w' => e = .returned (.tuple #[opv 32, .bool true]) ∧ ∃ m, w' = ((w.alloc (opo 32)).alloc (opo 32)).drewN m := by
  go_enter Tryd.func35, Tryd.ntmps35
  go_wp2_with (first | (go_at_call 49; refine (row_is _ _ _ _ _ _ _ _).mono ?_; rintro e w2 ⟨rfl, hw⟩; rw [hw]; clear hw))
  refine ⟨rfl, _, (results_cell_tmp rfl _ _ _).trans ?_, rfl, 0, ?_⟩
  · go_simp
    kernel_rfl
  · kernel_rfl
set_option maxHeartbeats 1000000 in
theorem at_48 (w : World) : Calls Tryd.prog 36 #[.int .i64 48] w fun e w' => e = .returned (.tuple #[opv 48, .bool true]) ∧ ∃ m, w' = ((w.alloc (opo 48)).alloc (opo 48)).drewN m := by
  go_enter Tryd.func36, Tryd.ntmps36
  go_wp2_with (first | (go_at_call 49; refine (row_is _ _ _ _ _ _ _ _).mono ?_; rintro e w2 ⟨rfl, hw⟩; rw [hw]; clear hw) | (go_at_call 50; refine (wd_is 0 (by decide) _).mono ?_; rintro e w1 ⟨rfl, hw⟩; rw [hw]; clear hw))
  refine ⟨rfl, _, (results_cell_tmp rfl _ _ _).trans ?_, rfl, 0, ?_⟩
  · go_simp
    kernel_rfl
  · kernel_rfl
set_option maxHeartbeats 1000000 in
theorem at_49 (w : World) : Calls Tryd.prog 36 #[.int .i64 49] w fun e w' => e = .returned (.tuple #[opv 49, .bool true]) ∧ ∃ m, w' = ((w.alloc (opo 49)).alloc (opo 49)).drewN m := by
  go_enter Tryd.func36, Tryd.ntmps36
  go_wp2_with (first | (go_at_call 49; refine (row_is _ _ _ _ _ _ _ _).mono ?_; rintro e w2 ⟨rfl, hw⟩; rw [hw]; clear hw))
  refine ⟨rfl, _, (results_cell_tmp rfl _ _ _).trans ?_, rfl, 0, ?_⟩
  · go_simp
    kernel_rfl
  · kernel_rfl
set_option maxHeartbeats 1000000 in
theorem at_50 (w : World) : Calls Tryd.prog 36 #[.int .i64 50] w fun e w' => e = .returned (.tuple #[opv 50, .bool true]) ∧ ∃ m, w' = ((w.alloc (opo 50)).alloc (opo 50)).drewN m := by
  go_enter Tryd.func36, Tryd.ntmps36
  go_wp2_with (first | (go_at_call 49; refine (row_is _ _ _ _ _ _ _ _).mono ?_; rintro e w2 ⟨rfl, hw⟩; rw [hw]; clear hw) | (go_at_call 50; refine (wd_is 2 (by decide) _).mono ?_; rintro e w1 ⟨rfl, hw⟩; rw [hw]; clear hw))
  refine ⟨rfl, _, (results_cell_tmp rfl _ _ _).trans ?_, rfl, 0, ?_⟩
  · go_simp
    kernel_rfl
  · kernel_rfl
set_option maxHeartbeats 1000000 in
theorem at_51 (w : World) : Calls Tryd.prog 36 #[.int .i64 51] w fun e w' => e = .returned (.tuple #[opv 51, .bool true]) ∧ ∃ m, w' = ((w.alloc (opo 51)).alloc (opo 51)).drewN m := by
  go_enter Tryd.func36, Tryd.ntmps36
  go_wp2_with (first | (go_at_call 49; refine (row_is _ _ _ _ _ _ _ _).mono ?_; rintro e w2 ⟨rfl, hw⟩; rw [hw]; clear hw) | (go_at_call 50; refine (wd_is 3 (by decide) _).mono ?_; rintro e w1 ⟨rfl, hw⟩; rw [hw]; clear hw))
  refine ⟨rfl, _, (results_cell_tmp rfl _ _ _).trans ?_, rfl, 0, ?_⟩
  · go_simp
    kernel_rfl
  · kernel_rfl
set_option maxHeartbeats 1000000 in
theorem at_52 (w : World) : Calls Tryd.prog 36 #[.int .i64 52] w fun e w' => e = .returned (.tuple #[opv 52, .bool true]) ∧ ∃ m, w' = ((w.alloc (opo 52)).alloc (opo 52)).drewN m := by
  go_enter Tryd.func36, Tryd.ntmps36
  go_wp2_with (first | (go_at_call 49; refine (row_is _ _ _ _ _ _ _ _).mono ?_; rintro e w2 ⟨rfl, hw⟩; rw [hw]; clear hw) | (go_at_call 50; refine (wd_is 4 (by decide) _).mono ?_; rintro e w1 ⟨rfl, hw⟩; rw [hw]; clear hw))
  refine ⟨rfl, _, (results_cell_tmp rfl _ _ _).trans ?_, rfl, 0, ?_⟩
  · go_simp
    kernel_rfl
  · kernel_rfl
set_option maxHeartbeats 1000000 in
theorem at_53 (w : World) : Calls Tryd.prog 36 #[.int .i64 53] w fun e w' => e = .returned (.tuple #[opv 53, .bool true]) ∧ ∃ m, w' = ((w.alloc (opo 53)).alloc (opo 53)).drewN m := by
  go_enter Tryd.func36, Tryd.ntmps36
  go_wp2_with (first | (go_at_call 49; refine (row_is _ _ _ _ _ _ _ _).mono ?_; rintro e w2 ⟨rfl, hw⟩; rw [hw]; clear hw))
  refine ⟨rfl, _, (results_cell_tmp rfl _ _ _).trans ?_, rfl, 0, ?_⟩
  · go_simp
    kernel_rfl
  · kernel_rfl
set_option maxHeartbeats 1000000 in
theorem at_54 (w : World) : Calls Tryd.prog 36 #[.int .i64 54] w fun e w' => e = .returned (.tuple #[opv 54, .bool true]) ∧ ∃ m, w' = ((w.alloc (opo 54)).alloc (opo 54)).drewN m := by
  go_enter Tryd.func36, Tryd.ntmps36
  go_wp2_with (first | (go_at_call 49; refine (row_is _ _ _ _ _ _ _ _).mono ?_; rintro e w2 ⟨rfl, hw⟩; rw [hw]; clear hw) | (go_at_call 50; refine (wd_is 6 (by decide) _).mono ?_; rintro e w1 ⟨rfl, hw⟩; rw [hw]; clear hw))
  refine ⟨rfl, _, (results_cell_tmp rfl _ _ _).trans ?_, rfl, 0, ?_⟩
  · go_simp
    kernel_rfl
  · kernel_rfl
set_option maxHeartbeats 1000000 in
theorem at_55 (w : World) : Calls Tryd.prog 36 #[.int .i64 55] w fun e w' => e = .returned (.tuple #[opv 55, .bool true]) ∧ ∃ m, w' = ((w.alloc (opo 55)).alloc (opo 55)).drewN m := by
  go_enter Tryd.func36, Tryd.ntmps36
  go_wp2_with (first | (go_at_call 49; refine (row_is _ _ _ _ _ _ _ _).mono ?_; rintro e w2 ⟨rfl, hw⟩; rw [hw]; clear hw))
  refine ⟨rfl, _, (results_cell_tmp rfl _ _ _).trans ?_, rfl, 0, ?_⟩
  · go_simp
    kernel_rfl
  · kernel_rfl
set_option maxHeartbeats 1000000 in
theorem at_58 (w : World) : Calls Tryd.prog 36 #[.int .i64 58] w fun e w' => e = .returned (.tuple #[opv 58, .bool true]) ∧ ∃ m, w' = ((w.alloc (opo 58)).alloc (opo 58)).drewN m := by
  go_enter Tryd.func36, Tryd.ntmps36
  go_wp2_with (first | (go_at_call 49; refine (row_is _ _ _ _ _ _ _ _).mono ?_; rintro e w2 ⟨rfl, hw⟩; rw [hw]; clear hw) | (go_at_call 50; refine (wd_is 10 (by decide) _).mono ?_; rintro e w1 ⟨rfl, hw⟩; rw [hw]; clear hw))
  refine ⟨rfl, _, (results_cell_tmp rfl _ _ _).trans ?_, rfl, 0, ?_⟩
  · go_simp
    kernel_rfl
  · kernel_rfl
set_option maxHeartbeats 1000000 in
theorem at_61 (w : World) : Calls Tryd.prog 36 #[.int .i64 61] w fun e w' => e = .returned (.tuple #[opv 61, .bool true]) ∧ ∃ m, w' = ((w.alloc (opo 61)).alloc (opo 61)).drewN m := by
  go_enter Tryd.func36, Tryd.ntmps36
  go_wp2_with (first | (go_at_call 49; refine (row_is _ _ _ _ _ _ _ _).mono ?_; rintro e w2 ⟨rfl, hw⟩; rw [hw]; clear hw) | (go_at_call 50; refine (wd_is 13 (by decide) _).mono ?_; rintro e w1 ⟨rfl, hw⟩; rw [hw]; clear hw))
  refine ⟨rfl, _, (results_cell_tmp rfl _ _ _).trans ?_, rfl, 0, ?_⟩
  · go_simp
    kernel_rfl
  · kernel_rfl
set_option maxHeartbeats 1000000 in
theorem at_62 (w : World) : Calls Tryd.prog 36 #[.int .i64 62] w fun e w' => e = .returned (.tuple #[opv 62, .bool true]) ∧ ∃ m, w' = ((w.alloc (opo 62)).alloc (opo 62)).drewN m := by
  go_enter Tryd.func36, Tryd.ntmps36
  go_wp2_with (first | (go_at_call 49; refine (row_is _ _ _ _ _ _ _ _).mono ?_; rintro e w2 ⟨rfl, hw⟩; rw [hw]; clear hw))
  refine ⟨rfl, _, (results_cell_tmp rfl _ _ _).trans ?_, rfl, 0, ?_⟩
  · go_simp
    kernel_rfl
  · kernel_rfl
set_option maxHeartbeats 1000000 in
theorem at_64 (w : World) : Calls Tryd.prog 36 #[.int .i64 64] w fun e w' => e = .returned (.tuple #[opv 64, .bool true]) ∧ ∃ m, w' = ((w.alloc (opo 64)).alloc (opo 64)).drewN m := by
  go_enter Tryd.func36, Tryd.ntmps36
  go_wp2_with (first | (go_at_call 49; refine (row_is _ _ _ _ _ _ _ _).mono ?_; rintro e w2 ⟨rfl, hw⟩; rw [hw]; clear hw))
  refine ⟨rfl, _, (results_cell_tmp rfl _ _ _).trans ?_, rfl, 0, ?_⟩
  · go_simp
    kernel_rfl
  · kernel_rfl
set_option maxHeartbeats 1000000 in
theorem at_65 (w : World) : Calls Tryd.prog 36 #[.int .i64 65] w fun e w' => e = .returned (.tuple #[opv 65, .bool true]) ∧ ∃ m, w' = ((w.alloc (opo 65)).alloc (opo 65)).drewN m := by
  go_enter Tryd.func36, Tryd.ntmps36
  go_wp2_with (first | (go_at_call 49; refine (row_is _ _ _ _ _ _ _ _).mono ?_; rintro e w2 ⟨rfl, hw⟩; rw [hw]; clear hw) | (go_at_call 50; refine (we_is 0 (by decide) _).mono ?_; rintro e w1 ⟨rfl, hw⟩; rw [hw]; clear hw))
  refine ⟨rfl, _, (results_cell_tmp rfl _ _ _).trans ?_, rfl, 0, ?_⟩
  · go_simp
    kernel_rfl
  · kernel_rfl
set_option maxHeartbeats 1000000 in
theorem at_66 (w : World) : Calls Tryd.prog 36 #[.int .i64 66] w fun e w' => e = .returned (.tuple #[opv 66, .bool true]) ∧ ∃ m, w' = ((w.alloc (opo 66)).alloc (opo 66)).drewN m := by
  go_enter Tryd.func36, Tryd.ntmps36
  go_wp2_with (first | (go_at_call 49; refine (row_is _ _ _ _ _ _ _ _).mono ?_; rintro e w2 ⟨rfl, hw⟩; rw [hw]; clear hw) | (go_at_call 50; refine (we_is 1 (by decide) _).mono ?_; rintro e w1 ⟨rfl, hw⟩; rw [hw]; clear hw))
  refine ⟨rfl, _, (results_cell_tmp rfl _ _ _).trans ?_, rfl, 0, ?_⟩
  · go_simp
    kernel_rfl
  · kernel_rfl
set_option maxHeartbeats 1000000 in
theorem at_67 (w : World) : Calls Tryd.prog 36 #[.int .i64 67] w fun e w' => e = .returned (.tuple #[opv 67, .bool true]) ∧ ∃ m, w' = ((w.alloc (opo 67)).alloc (opo 67)).drewN m := by
  go_enter Tryd.func36, Tryd.ntmps36
  go_wp2_with (first | (go_at_call 49; refine (row_is _ _ _ _ _ _ _ _).mono ?_; rintro e w2 ⟨rfl, hw⟩; rw [hw]; clear hw) | (go_at_call 50; refine (we_is 2 (by decide) _).mono ?_; rintro e w1 ⟨rfl, hw⟩; rw [hw]; clear hw))
  refine ⟨rfl, _, (results_cell_tmp rfl _ _ _).trans ?_, rfl, 0, ?_⟩
  · go_simp
    kernel_rfl
  · kernel_rfl
set_option maxHeartbeats 1000000 in
theorem at_68 (w : World) : Calls Tryd.prog 36 #[.int .i64 68] w fun e w' => e = .returned (.tuple #[opv 68, .bool true]) ∧ ∃ m, w' = ((w.alloc (opo 68)).alloc (opo 68)).drewN m := by
  go_enter Tryd.func36, Tryd.ntmps36
  go_wp2_with (first | (go_at_call 49; refine (row_is _ _ _ _ _ _ _ _).mono ?_; rintro e w2 ⟨rfl, hw⟩; rw [hw]; clear hw) | (go_at_call 50; refine (we_is 3 (by decide) _).mono ?_; rintro e w1 ⟨rfl, hw⟩; rw [hw]; clear hw))
  refine ⟨rfl, _, (results_cell_tmp rfl _ _ _).trans ?_, rfl, 0, ?_⟩
  · go_simp
    kernel_rfl
  · kernel_rfl
set_option maxHeartbeats 1000000 in
theorem at_69 (w : World) : Calls Tryd.prog 36 #[.int .i64 69] w fun e w' => e = .returned (.tuple #[opv 69, .bool true]) ∧ ∃ m, w' = ((w.alloc (opo 69)).alloc (opo 69)).drewN m := by
  go_enter Tryd.func36, Tryd.ntmps36
  go_wp2_with (first | (go_at_call 49; refine (row_is _ _ _ _ _ _ _ _).mono ?_; rintro e w2 ⟨rfl, hw⟩; rw [hw]; clear hw) | (go_at_call 50; refine (we_is 4 (by decide) _).mono ?_; rintro e w1 ⟨rfl, hw⟩; rw [hw]; clear hw))
  refine ⟨rfl, _, (results_cell_tmp rfl _ _ _).trans ?_, rfl, 0, ?_⟩
  · go_simp
    kernel_rfl
  · kernel_rfl
set_option maxHeartbeats 1000000 in
theorem at_70 (w : World) : Calls Tryd.prog 36 #[.int .i64 70] w fun e w' => e = .returned (.tuple #[opv 70, .bool true]) ∧ ∃ m, w' = ((w.alloc (opo 70)).alloc (opo 70)).drewN m := by
  go_enter Tryd.func36, Tryd.ntmps36
  go_wp2_with (first | (go_at_call 49; refine (row_is _ _ _ _ _ _ _ _).mono ?_; rintro e w2 ⟨rfl, hw⟩; rw [hw]; clear hw) | (go_at_call 50; refine (we_is 5 (by decide) _).mono ?_; rintro e w1 ⟨rfl, hw⟩; rw [hw]; clear hw))
  refine ⟨rfl, _, (results_cell_tmp rfl _ _ _).trans ?_, rfl, 0, ?_⟩
  · go_simp
    kernel_rfl
  · kernel_rfl
set_option maxHeartbeats 1000000 in
theorem at_71 (w : World) : Calls Tryd.prog 36 #[.int .i64 71] w fun e w' => e = .returned (.tuple #[opv 71, .bool true]) ∧ ∃ m, w' = ((w.alloc (opo 71)).alloc (opo 71)).drewN m := by
  go_enter Tryd.func36, Tryd.ntmps36
  go_wp2_with (first | (go_at_call 49; refine (row_is _ _ _ _ _ _ _ _).mono ?_; rintro e w2 ⟨rfl, hw⟩; rw [hw]; clear hw) | (go_at_call 50; refine (we_is 6 (by decide) _).mono ?_; rintro e w1 ⟨rfl, hw⟩; rw [hw]; clear hw))
  refine ⟨rfl, _, (results_cell_tmp rfl _ _ _).trans ?_, rfl, 0, ?_⟩
  · go_simp
    kernel_rfl
  · kernel_rfl
set_option maxHeartbeats 1000000 in
theorem at_72 (w : World) : Calls Tryd.prog 36 #[.int .i64 72] w fun e w' => e = .returned (.tuple #[opv 72, .bool true]) ∧ ∃ m, w' = ((w.alloc (opo 72)).alloc (opo 72)).drewN m := by
  go_enter Tryd.func36, Tryd.ntmps36
  go_wp2_with (first | (go_at_call 49; refine (row_is _ _ _ _ _ _ _ _).mono ?_; rintro e w2 ⟨rfl, hw⟩; rw [hw]; clear hw) | (go_at_call 50; refine (we_is 7 (by decide) _).mono ?_; rintro e w1 ⟨rfl, hw⟩; rw [hw]; clear hw))
  refine ⟨rfl, _, (results_cell_tmp rfl _ _ _).trans ?_, rfl, 0, ?_⟩
  · go_simp
    kernel_rfl
  · kernel_rfl
set_option maxHeartbeats 1000000 in
theorem at_73 (w : World) : Calls Tryd.prog 36 #[.int .i64 73] w fun e w' => e = .returned (.tuple #[opv 73, .bool true]) ∧ ∃ m, w' = ((w.alloc (opo 73)).alloc (opo 73)).drewN m := by
  go_enter Tryd.func36, Tryd.ntmps36
  go_wp2_with (first | (go_at_call 49; refine (row_is _ _ _ _ _ _ _ _).mono ?_; rintro e w2 ⟨rfl, hw⟩; rw [hw]; clear hw))
  refine ⟨rfl, _, (results_cell_tmp rfl _ _ _).trans ?_, rfl, 0, ?_⟩
  · go_simp
    kernel_rfl
  · kernel_rfl
set_option maxHeartbeats 1000000 in
theorem at_74 (w : World) : Calls Tryd.prog 36 #[.int .i64 74] w fun e w' => e = .returned (.tuple #[opv 74, .bool true]) ∧ ∃ m, w' = ((w.alloc (opo 74)).alloc (opo 74)).drewN m := by
  go_enter Tryd.func36, Tryd.ntmps36
  go_wp2_with (first | (go_at_call 49; refine (row_is _ _ _ _ _ _ _ _).mono ?_; rintro e w2 ⟨rfl, hw⟩; rw [hw]; clear hw) | (go_at_call 50; refine (we_is 9 (by decide) _).mono ?_; rintro e w1 ⟨rfl, hw⟩; rw [hw]; clear hw))
  refine ⟨rfl, _, (results_cell_tmp rfl _ _ _).trans ?_, rfl, 0, ?_⟩
  · go_simp
    kernel_rfl
  · kernel_rfl
end Go.Proofs.YtcjmbpchdeapiaaDoor
