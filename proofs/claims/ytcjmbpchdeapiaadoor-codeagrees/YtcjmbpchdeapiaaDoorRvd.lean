/- The document's rows. -/
import Derived.Test.YtcjmbpchdeapiaaDoorRvb
namespace Go.Proofs.YtcjmbpchdeapiaaDoor
open Go.RowKit
set_option maxRecDepth 100000
set_option maxHeartbeats 1000000 in
theorem at_80 (w : World) : Calls Tryd.prog 37 #[.int .i64 80] w fun e w' => e = .returned (.tuple #[opv 80, .bool true]) ∧ ∃ m, w' = ((w.alloc (opo 80)).alloc (opo 80)).drewN m := by
  go_enter Tryd.func37, Tryd.ntmps37
  go_wp2_with (first | (go_at_call 49; refine (row_is _ _ _ _ _ _ _ _).mono ?_; rintro e w2 ⟨rfl, hw⟩; rw [hw]; clear hw))
  refine ⟨rfl, _, (results_cell_tmp rfl _ _ _).trans ?_, rfl, 0, ?_⟩
  · go_simp
    kernel_rfl
  · kernel_rfl
set_option maxHeartbeats 1000000 in
theorem at_81 (w : World) : Calls Tryd.prog 37 #[.int .i64 81] w fun e w' => e = .returned (.tuple #[opv 81, .bool true]) ∧ ∃ m, w' = ((w.alloc (opo 81)).alloc (opo 81)).drewN m := by
  go_enter Tryd.func37, Tryd.ntmps37
  go_wp2_with (first | (go_at_call 49; refine (row_is _ _ _ _ _ _ _ _).mono ?_; rintro e w2 ⟨rfl, hw⟩; rw [hw]; clear hw))
  refine ⟨rfl, _, (results_cell_tmp rfl _ _ _).trans ?_, rfl, 0, ?_⟩
  · go_simp
    kernel_rfl
  · kernel_rfl
set_option maxHeartbeats 1000000 in
theorem at_82 (w : World) : Calls Tryd.prog 37 #[.int .i64 82] w fun e w' => e = .returned (.tuple #[opv 82, .bool true]) ∧ ∃ m, w' = ((w.alloc (opo 82)).alloc (opo 82)).drewN m := by
  go_enter Tryd.func37, Tryd.ntmps37
  go_wp2_with (first | (go_at_call 49; refine (row_is _ _ _ _ _ _ _ _).mono ?_; rintro e w2 ⟨rfl, hw⟩; rw [hw]; clear hw) | (go_at_call 50; refine (wf_is 0 (by decide) _).mono ?_; rintro e w1 ⟨rfl, hw⟩; rw [hw]; clear hw))
  refine ⟨rfl, _, (results_cell_tmp rfl _ _ _).trans ?_, rfl, 0, ?_⟩
  · go_simp
    kernel_rfl
  · kernel_rfl
set_option maxHeartbeats 1000000 in
theorem at_83 (w : World) : Calls Tryd.prog 37 #[.int .i64 83] w fun e w' => e = .returned (.tuple #[opv 83, .bool true]) ∧ ∃ m, w' = ((w.alloc (opo 83)).alloc (opo 83)).drewN m := by
  go_enter Tryd.func37, Tryd.ntmps37
  go_wp2_with (first | (go_at_call 49; refine (row_is _ _ _ _ _ _ _ _).mono ?_; rintro e w2 ⟨rfl, hw⟩; rw [hw]; clear hw) | (go_at_call 50; refine (wf_is 1 (by decide) _).mono ?_; rintro e w1 ⟨rfl, hw⟩; rw [hw]; clear hw))
  refine ⟨rfl, _, (results_cell_tmp rfl _ _ _).trans ?_, rfl, 0, ?_⟩
  · go_simp
    kernel_rfl
  · kernel_rfl
set_option maxHeartbeats 1000000 in
theorem at_84 (w : World) : Calls Tryd.prog 37 #[.int .i64 84] w fun e w' => e = .returned (.tuple #[opv 84, .bool true]) ∧ ∃ m, w' = ((w.alloc (opo 84)).alloc (opo 84)).drewN m := by
  go_enter Tryd.func37, Tryd.ntmps37
  go_wp2_with (first | (go_at_call 49; refine (row_is _ _ _ _ _ _ _ _).mono ?_; rintro e w2 ⟨rfl, hw⟩; rw [hw]; clear hw) | (go_at_call 50; refine (wg_is 0 (by decide) _).mono ?_; rintro e w1 ⟨rfl, hw⟩; rw [hw]; clear hw))
  refine ⟨rfl, _, (results_cell_tmp rfl _ _ _).trans ?_, rfl, 0, ?_⟩
  · go_simp
    kernel_rfl
  · kernel_rfl
set_option maxHeartbeats 1000000 in
theorem at_85 (w : World) : Calls Tryd.prog 37 #[.int .i64 85] w fun e w' => e = .returned (.tuple #[opv 85, .bool true]) ∧ ∃ m, w' = ((w.alloc (opo 85)).alloc (opo 85)).drewN m := by
  go_enter Tryd.func37, Tryd.ntmps37
  go_wp2_with (first | (go_at_call 49; refine (row_is _ _ _ _ _ _ _ _).mono ?_; rintro e w2 ⟨rfl, hw⟩; rw [hw]; clear hw) | (go_at_call 50; refine (wh_is 0 (by decide) _).mono ?_; rintro e w1 ⟨rfl, hw⟩; rw [hw]; clear hw))
  refine ⟨rfl, _, (results_cell_tmp rfl _ _ _).trans ?_, rfl, 0, ?_⟩
  · go_simp
    kernel_rfl
  · kernel_rfl
set_option maxHeartbeats 1000000 in
theorem at_89 (w : World) : Calls Tryd.prog 37 #[.int .i64 89] w fun e w' => e = .returned (.tuple #[opv 89, .bool true]) ∧ ∃ m, w' = ((w.alloc (opo 89)).alloc (opo 89)).drewN m := by
  go_enter Tryd.func37, Tryd.ntmps37
  go_wp2_with (first | (go_at_call 49; refine (row_is _ _ _ _ _ _ _ _).mono ?_; rintro e w2 ⟨rfl, hw⟩; rw [hw]; clear hw))
  refine ⟨rfl, _, (results_cell_tmp rfl _ _ _).trans ?_, rfl, 0, ?_⟩
  · go_simp
    kernel_rfl
  · kernel_rfl
set_option maxHeartbeats 1000000 in
theorem at_91 (w : World) : Calls Tryd.prog 37 #[.int .i64 91] w fun e w' => e = .returned (.tuple #[opv 91, .bool true]) ∧ ∃ m, w' = ((w.alloc (opo 91)).alloc (opo 91)).drewN m := by
  go_enter Tryd.func37, Tryd.ntmps37
  go_wp2_with (first | (go_at_call 49; refine (row_is _ _ _ _ _ _ _ _).mono ?_; rintro e w2 ⟨rfl, hw⟩; rw [hw]; clear hw))
  refine ⟨rfl, _, (results_cell_tmp rfl _ _ _).trans ?_, rfl, 0, ?_⟩
  · go_simp
    kernel_rfl
  · kernel_rfl
set_option maxHeartbeats 1000000 in
theorem at_92 (w : World) : Calls Tryd.prog 37 #[.int .i64 92] w fun e w' => e = .returned (.tuple #[opv 92, .bool true]) ∧ ∃ m, w' = ((w.alloc (opo 92)).alloc (opo 92)).drewN m := by
  go_enter Tryd.func37, Tryd.ntmps37
  go_wp2_with (first | (go_at_call 49; refine (row_is _ _ _ _ _ _ _ _).mono ?_; rintro e w2 ⟨rfl, hw⟩; rw [hw]; clear hw) | (go_at_call 50; refine (wg_is 1 (by decide) _).mono ?_; rintro e w1 ⟨rfl, hw⟩; rw [hw]; clear hw))
  refine ⟨rfl, _, (results_cell_tmp rfl _ _ _).trans ?_, rfl, 0, ?_⟩
  · go_simp
    kernel_rfl
  · kernel_rfl
set_option maxHeartbeats 1000000 in
theorem at_93 (w : World) : Calls Tryd.prog 37 #[.int .i64 93] w fun e w' => e = .returned (.tuple #[opv 93, .bool true]) ∧ ∃ m, w' = ((w.alloc (opo 93)).alloc (opo 93)).drewN m := by
  go_enter Tryd.func37, Tryd.ntmps37
  go_wp2_with (first | (go_at_call 49; refine (row_is _ _ _ _ _ _ _ _).mono ?_; rintro e w2 ⟨rfl, hw⟩; rw [hw]; clear hw) | (go_at_call 50; refine (wh_is 1 (by decide) _).mono ?_; rintro e w1 ⟨rfl, hw⟩; rw [hw]; clear hw))
  refine ⟨rfl, _, (results_cell_tmp rfl _ _ _).trans ?_, rfl, 0, ?_⟩
  · go_simp
    kernel_rfl
  · kernel_rfl
set_option maxHeartbeats 1000000 in
theorem at_94 (w : World) : Calls Tryd.prog 37 #[.int .i64 94] w fun e w' => e = .returned (.tuple #[opv 94, .bool true]) ∧ ∃ m, w' = ((w.alloc (opo 94)).alloc (opo 94)).drewN m := by
  go_enter Tryd.func37, Tryd.ntmps37
  go_wp2_with (first | (go_at_call 49; refine (row_is _ _ _ _ _ _ _ _).mono ?_; rintro e w2 ⟨rfl, hw⟩; rw [hw]; clear hw))
  refine ⟨rfl, _, (results_cell_tmp rfl _ _ _).trans ?_, rfl, 0, ?_⟩
  · go_simp
    kernel_rfl
  · kernel_rfl
set_option maxHeartbeats 1000000 in
theorem at_95 (w : World) : Calls Tryd.prog 37 #[.int .i64 95] w fun e w' => e = .returned (.tuple #[opv 95, .bool true]) ∧ ∃ m, w' = ((w.alloc (opo 95)).alloc (opo 95)).drewN m := by
  go_enter Tryd.func37, Tryd.ntmps37
  go_wp2_with (first | (go_at_call 49; refine (row_is _ _ _ _ _ _ _ _).mono ?_; rintro e w2 ⟨rfl, hw⟩; rw [hw]; clear hw))
  refine ⟨rfl, _, (results_cell_tmp rfl _ _ _).trans ?_, rfl, 0, ?_⟩
  · go_simp
    kernel_rfl
  · kernel_rfl
set_option maxHeartbeats 1000000 in
theorem at_96 (w : World) : Calls Tryd.prog 37 #[.int .i64 96] w fun e w' => e = .returned (.tuple #[opv 96, .bool true]) ∧ ∃ m, w' = ((w.alloc (opo 96)).alloc (opo 96)).drewN m := by
  have hd : ∀ (W : World) (o : Obj) (m : Nat), (W.drewN m).alloc o = (W.alloc o).drewN m := fun _ _ _ => rfl
  have hd2 : ∀ (W : World) (a : Addr) (v : Value) (m : Nat), (W.drewN m).setCell a v = (W.setCell a v).drewN m := fun _ _ _ _ => rfl
  go_enter Tryd.func37, Tryd.ntmps37
  go_wp2_with (first | (go_at_call 49; refine (row_is _ _ _ _ _ _ _ _).mono ?_; rintro e w2 ⟨rfl, hw⟩; rw [hw]; clear hw) | (go_at_call 51; refine (number_is 1 (by decide) _).mono ?_; rintro e w1 ⟨rfl, m, hw⟩; rw [hw]; clear hw))
  refine ⟨rfl, _, (results_cell_tmp rfl _ _ _).trans ?_, rfl, m, ?_⟩
  · go_simp
    kernel_rfl
  · kernel_rfl
set_option maxHeartbeats 1000000 in
theorem at_97 (w : World) : Calls Tryd.prog 37 #[.int .i64 97] w fun e w' => e = .returned (.tuple #[opv 97, .bool true]) ∧ ∃ m, w' = ((w.alloc (opo 97)).alloc (opo 97)).drewN m := by
  have hd : ∀ (W : World) (o : Obj) (m : Nat), (W.drewN m).alloc o = (W.alloc o).drewN m := fun _ _ _ => rfl
  have hd2 : ∀ (W : World) (a : Addr) (v : Value) (m : Nat), (W.drewN m).setCell a v = (W.setCell a v).drewN m := fun _ _ _ _ => rfl
  go_enter Tryd.func37, Tryd.ntmps37
  go_wp2_with (first | (go_at_call 49; refine (row_is _ _ _ _ _ _ _ _).mono ?_; rintro e w2 ⟨rfl, hw⟩; rw [hw]; clear hw) | (go_at_call 51; refine (number_is 2 (by decide) _).mono ?_; rintro e w1 ⟨rfl, m, hw⟩; rw [hw]; clear hw))
  refine ⟨rfl, _, (results_cell_tmp rfl _ _ _).trans ?_, rfl, m, ?_⟩
  · go_simp
    kernel_rfl
  · kernel_rfl
set_option maxHeartbeats 1000000 in
theorem at_98 (w : World) : Calls Tryd.prog 37 #[.int .i64 98] w fun e w' => e = .returned (.tuple #[opv 98, .bool true]) ∧ ∃ m, w' = ((w.alloc (opo 98)).alloc (opo 98)).drewN m := by
  have hd : ∀ (W : World) (o : Obj) (m : Nat), (W.drewN m).alloc o = (W.alloc o).drewN m := fun _ _ _ => rfl
  have hd2 : ∀ (W : World) (a : Addr) (v : Value) (m : Nat), (W.drewN m).setCell a v = (W.setCell a v).drewN m := fun _ _ _ _ => rfl
  go_enter Tryd.func37, Tryd.ntmps37
  go_wp2_with (first | (go_at_call 49; refine (row_is _ _ _ _ _ _ _ _).mono ?_; rintro e w2 ⟨rfl, hw⟩; rw [hw]; clear hw) | (go_at_call 51; refine (number_is 3 (by decide) _).mono ?_; rintro e w1 ⟨rfl, m, hw⟩; rw [hw]; clear hw))
  refine ⟨rfl, _, (results_cell_tmp rfl _ _ _).trans ?_, rfl, m, ?_⟩
  · go_simp
    kernel_rfl
  · kernel_rfl
set_option maxHeartbeats 1000000 in
theorem at_99 (w : World) : Calls Tryd.prog 37 #[.int .i64 99] w fun e w' => e = .returned (.tuple #[opv 99, .bool true]) ∧ ∃ m, w' = ((w.alloc (opo 99)).alloc (opo 99)).drewN m := by
  have hd : ∀ (W : World) (o : Obj) (m : Nat), (W.drewN m).alloc o = (W.alloc o).drewN m := fun _ _ _ => rfl
  have hd2 : ∀ (W : World) (a : Addr) (v : Value) (m : Nat), (W.drewN m).setCell a v = (W.setCell a v).drewN m := fun _ _ _ _ => rfl
  go_enter Tryd.func37, Tryd.ntmps37
  go_wp2_with (first | (go_at_call 49; refine (row_is _ _ _ _ _ _ _ _).mono ?_; rintro e w2 ⟨rfl, hw⟩; rw [hw]; clear hw) | (go_at_call 51; refine (number_is 4 (by decide) _).mono ?_; rintro e w1 ⟨rfl, m, hw⟩; rw [hw]; clear hw))
  refine ⟨rfl, _, (results_cell_tmp rfl _ _ _).trans ?_, rfl, m, ?_⟩
  · go_simp
    kernel_rfl
  · kernel_rfl
set_option maxHeartbeats 1000000 in
theorem at_100 (w : World) : Calls Tryd.prog 37 #[.int .i64 100] w fun e w' => e = .returned (.tuple #[opv 100, .bool true]) ∧ ∃ m, w' = ((w.alloc (opo 100)).alloc (opo 100)).drewN m := by
  have hd : ∀ (W : World) (o : Obj) (m : Nat), (W.drewN m).alloc o = (W.alloc o).drewN m := fun _ _ _ => rfl
  have hd2 : ∀ (W : World) (a : Addr) (v : Value) (m : Nat), (W.drewN m).setCell a v = (W.setCell a v).drewN m := fun _ _ _ _ => rfl
  go_enter Tryd.func37, Tryd.ntmps37
  go_wp2_with (first | (go_at_call 49; refine (row_is _ _ _ _ _ _ _ _).mono ?_; rintro e w2 ⟨rfl, hw⟩; rw [hw]; clear hw) | (go_at_call 51; refine (number_is 5 (by decide) _).mono ?_; rintro e w1 ⟨rfl, m, hw⟩; rw [hw]; clear hw))
  refine ⟨rfl, _, (results_cell_tmp rfl _ _ _).trans ?_, rfl, m, ?_⟩
  · go_simp
    kernel_rfl
  · kernel_rfl
set_option maxHeartbeats 1000000 in
theorem at_101 (w : World) : Calls Tryd.prog 37 #[.int .i64 101] w fun e w' => e = .returned (.tuple #[opv 101, .bool true]) ∧ ∃ m, w' = ((w.alloc (opo 101)).alloc (opo 101)).drewN m := by
  have hd : ∀ (W : World) (o : Obj) (m : Nat), (W.drewN m).alloc o = (W.alloc o).drewN m := fun _ _ _ => rfl
  have hd2 : ∀ (W : World) (a : Addr) (v : Value) (m : Nat), (W.drewN m).setCell a v = (W.setCell a v).drewN m := fun _ _ _ _ => rfl
  go_enter Tryd.func37, Tryd.ntmps37
  go_wp2_with (first | (go_at_call 49; refine (row_is _ _ _ _ _ _ _ _).mono ?_; rintro e w2 ⟨rfl, hw⟩; rw [hw]; clear hw) | (go_at_call 51; refine (number_is 6 (by decide) _).mono ?_; rintro e w1 ⟨rfl, m, hw⟩; rw [hw]; clear hw))
  refine ⟨rfl, _, (results_cell_tmp rfl _ _ _).trans ?_, rfl, m, ?_⟩
  · go_simp
    kernel_rfl
  · kernel_rfl
set_option maxHeartbeats 1000000 in
theorem at_102 (w : World) : Calls Tryd.prog 37 #[.int .i64 102] w fun e w' => e = .returned (.tuple #[opv 102, .bool true]) ∧ ∃ m, w' = ((w.alloc (opo 102)).alloc (opo 102)).drewN m := by
  have hd : ∀ (W : World) (o : Obj) (m : Nat), (W.drewN m).alloc o = (W.alloc o).drewN m := fun _ _ _ => rfl
  have hd2 : ∀ (W : World) (a : Addr) (v : Value) (m : Nat), (W.drewN m).setCell a v = (W.setCell a v).drewN m := fun _ _ _ _ => rfl
  go_enter Tryd.func37, Tryd.ntmps37
  go_wp2_with (first | (go_at_call 49; refine (row_is _ _ _ _ _ _ _ _).mono ?_; rintro e w2 ⟨rfl, hw⟩; rw [hw]; clear hw) | (go_at_call 51; refine (number_is 7 (by decide) _).mono ?_; rintro e w1 ⟨rfl, m, hw⟩; rw [hw]; clear hw))
  refine ⟨rfl, _, (results_cell_tmp rfl _ _ _).trans ?_, rfl, m, ?_⟩
  · go_simp
    kernel_rfl
  · kernel_rfl
set_option maxHeartbeats 1000000 in
theorem at_103 (w : World) : Calls Tryd.prog 37 #[.int .i64 103] w fun e w' => e = .returned (.tuple #[opv 103, .bool true]) ∧ ∃ m, w' = ((w.alloc (opo 103)).alloc (opo 103)).drewN m := by
  have hd : ∀ (W : World) (o : Obj) (m : Nat), (W.drewN m).alloc o = (W.alloc o).drewN m := fun _ _ _ => rfl
  have hd2 : ∀ (W : World) (a : Addr) (v : Value) (m : Nat), (W.drewN m).setCell a v = (W.setCell a v).drewN m := fun _ _ _ _ => rfl
  go_enter Tryd.func37, Tryd.ntmps37
  go_wp2_with (first | (go_at_call 49; refine (row_is _ _ _ _ _ _ _ _).mono ?_; rintro e w2 ⟨rfl, hw⟩; rw [hw]; clear hw) | (go_at_call 51; refine (number_is 8 (by decide) _).mono ?_; rintro e w1 ⟨rfl, m, hw⟩; rw [hw]; clear hw))
  refine ⟨rfl, _, (results_cell_tmp rfl _ _ _).trans ?_, rfl, m, ?_⟩
  · go_simp
    kernel_rfl
  · kernel_rfl
set_option maxHeartbeats 1000000 in
theorem at_104 (w : World) : Calls Tryd.prog 37 #[.int .i64 104] w fun e w' => e = .returned (.tuple #[opv 104, .bool true]) ∧ ∃ m, w' = ((w.alloc (opo 104)).alloc (opo 104)).drewN m := by
  have hd : ∀ (W : World) (o : Obj) (m : Nat), (W.drewN m).alloc o = (W.alloc o).drewN m := fun _ _ _ => rfl
  have hd2 : ∀ (W : World) (a : Addr) (v : Value) (m : Nat), (W.drewN m).setCell a v = (W.setCell a v).drewN m := fun _ _ _ _ => rfl
  go_enter Tryd.func37, Tryd.ntmps37
  go_wp2_with (first | (go_at_call 49; refine (row_is _ _ _ _ _ _ _ _).mono ?_; rintro e w2 ⟨rfl, hw⟩; rw [hw]; clear hw) | (go_at_call 51; refine (number_is 9 (by decide) _).mono ?_; rintro e w1 ⟨rfl, m, hw⟩; rw [hw]; clear hw))
  refine ⟨rfl, _, (results_cell_tmp rfl _ _ _).trans ?_, rfl, m, ?_⟩
  · go_simp
    kernel_rfl
  · kernel_rfl
set_option maxHeartbeats 1000000 in
theorem at_105 (w : World) : Calls Tryd.prog 37 #[.int .i64 105] w fun e w' => e = .returned (.tuple #[opv 105, .bool true]) ∧ ∃ m, w' = ((w.alloc (opo 105)).alloc (opo 105)).drewN m := by
  have hd : ∀ (W : World) (o : Obj) (m : Nat), (W.drewN m).alloc o = (W.alloc o).drewN m := fun _ _ _ => rfl
  have hd2 : ∀ (W : World) (a : Addr) (v : Value) (m : Nat), (W.drewN m).setCell a v = (W.setCell a v).drewN m := fun _ _ _ _ => rfl
  go_enter Tryd.func37, Tryd.ntmps37
  go_wp2_with (first | (go_at_call 49; refine (row_is _ _ _ _ _ _ _ _).mono ?_; rintro e w2 ⟨rfl, hw⟩; rw [hw]; clear hw) | (go_at_call 51; refine (number_is 10 (by decide) _).mono ?_; rintro e w1 ⟨rfl, m, hw⟩; rw [hw]; clear hw))
  refine ⟨rfl, _, (results_cell_tmp rfl _ _ _).trans ?_, rfl, m, ?_⟩
  · go_simp
    kernel_rfl
  · kernel_rfl
set_option maxHeartbeats 1000000 in
theorem at_106 (w : World) : Calls Tryd.prog 37 #[.int .i64 106] w fun e w' => e = .returned (.tuple #[opv 106, .bool true]) ∧ ∃ m, w' = ((w.alloc (opo 106)).alloc (opo 106)).drewN m := by
  have hd : ∀ (W : World) (o : Obj) (m : Nat), (W.drewN m).alloc o = (W.alloc o).drewN m := fun _ _ _ => rfl
  have hd2 : ∀ (W : World) (a : Addr) (v : Value) (m : Nat), (W.drewN m).setCell a v = (W.setCell a v).drewN m := fun _ _ _ _ => rfl
  go_enter Tryd.func37, Tryd.ntmps37
  go_wp2_with (first | (go_at_call 49; refine (row_is _ _ _ _ _ _ _ _).mono ?_; rintro e w2 ⟨rfl, hw⟩; rw [hw]; clear hw) | (go_at_call 51; refine (number_is 11 (by decide) _).mono ?_; rintro e w1 ⟨rfl, m, hw⟩; rw [hw]; clear hw))
  refine ⟨rfl, _, (results_cell_tmp rfl _ _ _).trans ?_, rfl, m, ?_⟩
  · go_simp
    kernel_rfl
  · kernel_rfl
set_option maxHeartbeats 1000000 in
theorem at_107 (w : World) : Calls Tryd.prog 37 #[.int .i64 107] w fun e w' => e = .returned (.tuple #[opv 107, .bool true]) ∧ ∃ m, w' = ((w.alloc (opo 107)).alloc (opo 107)).drewN m := by
  have hd : ∀ (W : World) (o : Obj) (m : Nat), (W.drewN m).alloc o = (W.alloc o).drewN m := fun _ _ _ => rfl
  have hd2 : ∀ (W : World) (a : Addr) (v : Value) (m : Nat), (W.drewN m).setCell a v = (W.setCell a v).drewN m := fun _ _ _ _ => rfl
  go_enter Tryd.func37, Tryd.ntmps37
  go_wp2_with (first | (go_at_call 49; refine (row_is _ _ _ _ _ _ _ _).mono ?_; rintro e w2 ⟨rfl, hw⟩; rw [hw]; clear hw) | (go_at_call 51; refine (number_is 12 (by decide) _).mono ?_; rintro e w1 ⟨rfl, m, hw⟩; rw [hw]; clear hw))
  refine ⟨rfl, _, (results_cell_tmp rfl _ _ _).trans ?_, rfl, m, ?_⟩
  · go_simp
    kernel_rfl
  · kernel_rfl
set_option maxHeartbeats 1000000 in
theorem at_108 (w : World) : Calls Tryd.prog 37 #[.int .i64 108] w fun e w' => e = .returned (.tuple #[opv 108, .bool true]) ∧ ∃ m, w' = ((w.alloc (opo 108)).alloc (opo 108)).drewN m := by
  have hd : ∀ (W : World) (o : Obj) (m : Nat), (W.drewN m).alloc o = (W.alloc o).drewN m := fun _ _ _ => rfl
  have hd2 : ∀ (W : World) (a : Addr) (v : Value) (m : Nat), (W.drewN m).setCell a v = (W.setCell a v).drewN m := fun _ _ _ _ => rfl
  go_enter Tryd.func37, Tryd.ntmps37
  go_wp2_with (first | (go_at_call 49; refine (row_is _ _ _ _ _ _ _ _).mono ?_; rintro e w2 ⟨rfl, hw⟩; rw [hw]; clear hw) | (go_at_call 51; refine (number_is 13 (by decide) _).mono ?_; rintro e w1 ⟨rfl, m, hw⟩; rw [hw]; clear hw))
  refine ⟨rfl, _, (results_cell_tmp rfl _ _ _).trans ?_, rfl, m, ?_⟩
  · go_simp
    kernel_rfl
  · kernel_rfl
set_option maxHeartbeats 1000000 in
theorem at_109 (w : World) : Calls Tryd.prog 37 #[.int .i64 109] w fun e w' => e = .returned (.tuple #[opv 109, .bool true]) ∧ ∃ m, w' = ((w.alloc (opo 109)).alloc (opo 109)).drewN m := by
  have hd : ∀ (W : World) (o : Obj) (m : Nat), (W.drewN m).alloc o = (W.alloc o).drewN m := fun _ _ _ => rfl
  have hd2 : ∀ (W : World) (a : Addr) (v : Value) (m : Nat), (W.drewN m).setCell a v = (W.setCell a v).drewN m := fun _ _ _ _ => rfl
  go_enter Tryd.func37, Tryd.ntmps37
  go_wp2_with (first | (go_at_call 49; refine (row_is _ _ _ _ _ _ _ _).mono ?_; rintro e w2 ⟨rfl, hw⟩; rw [hw]; clear hw) | (go_at_call 51; refine (number_is 14 (by decide) _).mono ?_; rintro e w1 ⟨rfl, m, hw⟩; rw [hw]; clear hw))
  refine ⟨rfl, _, (results_cell_tmp rfl _ _ _).trans ?_, rfl, m, ?_⟩
  · go_simp
    kernel_rfl
  · kernel_rfl
set_option maxHeartbeats 1000000 in
theorem at_110 (w : World) : Calls Tryd.prog 37 #[.int .i64 110] w fun e w' => e = .returned (.tuple #[opv 110, .bool true]) ∧ ∃ m, w' = ((w.alloc (opo 110)).alloc (opo 110)).drewN m := by
  have hd : ∀ (W : World) (o : Obj) (m : Nat), (W.drewN m).alloc o = (W.alloc o).drewN m := fun _ _ _ => rfl
  have hd2 : ∀ (W : World) (a : Addr) (v : Value) (m : Nat), (W.drewN m).setCell a v = (W.setCell a v).drewN m := fun _ _ _ _ => rfl
  go_enter Tryd.func37, Tryd.ntmps37
  go_wp2_with (first | (go_at_call 49; refine (row_is _ _ _ _ _ _ _ _).mono ?_; rintro e w2 ⟨rfl, hw⟩; rw [hw]; clear hw) | (go_at_call 51; refine (number_is 15 (by decide) _).mono ?_; rintro e w1 ⟨rfl, m, hw⟩; rw [hw]; clear hw))
  refine ⟨rfl, _, (results_cell_tmp rfl _ _ _).trans ?_, rfl, m, ?_⟩
  · go_simp
    kernel_rfl
  · kernel_rfl
set_option maxHeartbeats 1000000 in
theorem at_111 (w : World) : Calls Tryd.prog 37 #[.int .i64 111] w fun e w' => e = .returned (.tuple #[opv 111, .bool true]) ∧ ∃ m, w' = ((w.alloc (opo 111)).alloc (opo 111)).drewN m := by
  have hd : ∀ (W : World) (o : Obj) (m : Nat), (W.drewN m).alloc o = (W.alloc o).drewN m := fun _ _ _ => rfl
  have hd2 : ∀ (W : World) (a : Addr) (v : Value) (m : Nat), (W.drewN m).setCell a v = (W.setCell a v).drewN m := fun _ _ _ _ => rfl
  go_enter Tryd.func37, Tryd.ntmps37
  go_wp2_with (first | (go_at_call 49; refine (row_is _ _ _ _ _ _ _ _).mono ?_; rintro e w2 ⟨rfl, hw⟩; rw [hw]; clear hw) | (go_at_call 51; refine (number_is 16 (by decide) _).mono ?_; rintro e w1 ⟨rfl, m, hw⟩; rw [hw]; clear hw))
  refine ⟨rfl, _, (results_cell_tmp rfl _ _ _).trans ?_, rfl, m, ?_⟩
  · go_simp
    kernel_rfl
  · kernel_rfl
set_option maxHeartbeats 1000000 in
theorem at_112 (w : World) : Calls Tryd.prog 37 #[.int .i64 112] w fun e w' => e = .returned (.tuple #[opv 112, .bool true]) ∧ ∃ m, w' = ((w.alloc (opo 112)).alloc (opo 112)).drewN m := by
  have hd : ∀ (W : World) (o : Obj) (m : Nat), (W.drewN m).alloc o = (W.alloc o).drewN m := fun _ _ _ => rfl
  have hd2 : ∀ (W : World) (a : Addr) (v : Value) (m : Nat), (W.drewN m).setCell a v = (W.setCell a v).drewN m := fun _ _ _ _ => rfl
  go_enter Tryd.func37, Tryd.ntmps37
  go_wp2_with (first | (go_at_call 49; refine (row_is _ _ _ _ _ _ _ _).mono ?_; rintro e w2 ⟨rfl, hw⟩; rw [hw]; clear hw) | (go_at_call 51; refine (number_is 17 (by decide) _).mono ?_; rintro e w1 ⟨rfl, m, hw⟩; rw [hw]; clear hw))
  refine ⟨rfl, _, (results_cell_tmp rfl _ _ _).trans ?_, rfl, m, ?_⟩
  · go_simp
    kernel_rfl
  · kernel_rfl
set_option maxHeartbeats 1000000 in
theorem at_113 (w : World) : Calls Tryd.prog 37 #[.int .i64 113] w fun e w' => e = .returned (.tuple #[opv 113, .bool true]) ∧ ∃ m, w' = ((w.alloc (opo 113)).alloc (opo 113)).drewN m := by
  have hd : ∀ (W : World) (o : Obj) (m : Nat), (W.drewN m).alloc o = (W.alloc o).drewN m := fun _ _ _ => rfl
  have hd2 : ∀ (W : World) (a : Addr) (v : Value) (m : Nat), (W.drewN m).setCell a v = (W.setCell a v).drewN m := fun _ _ _ _ => rfl
  go_enter Tryd.func37, Tryd.ntmps37
  go_wp2_with (first | (go_at_call 49; refine (row_is _ _ _ _ _ _ _ _).mono ?_; rintro e w2 ⟨rfl, hw⟩; rw [hw]; clear hw) | (go_at_call 51; refine (number_is 18 (by decide) _).mono ?_; rintro e w1 ⟨rfl, m, hw⟩; rw [hw]; clear hw))
  refine ⟨rfl, _, (results_cell_tmp rfl _ _ _).trans ?_, rfl, m, ?_⟩
  · go_simp
    kernel_rfl
  · kernel_rfl
set_option maxHeartbeats 1000000 in
theorem at_114 (w : World) : Calls Tryd.prog 37 #[.int .i64 114] w fun e w' => e = .returned (.tuple #[opv 114, .bool true]) ∧ ∃ m, w' = ((w.alloc (opo 114)).alloc (opo 114)).drewN m := by
  have hd : ∀ (W : World) (o : Obj) (m : Nat), (W.drewN m).alloc o = (W.alloc o).drewN m := fun _ _ _ => rfl
  have hd2 : ∀ (W : World) (a : Addr) (v : Value) (m : Nat), (W.drewN m).setCell a v = (W.setCell a v).drewN m := fun _ _ _ _ => rfl
  go_enter Tryd.func37, Tryd.ntmps37
  go_wp2_with (first | (go_at_call 49; refine (row_is _ _ _ _ _ _ _ _).mono ?_; rintro e w2 ⟨rfl, hw⟩; rw [hw]; clear hw) | (go_at_call 51; refine (number_is 19 (by decide) _).mono ?_; rintro e w1 ⟨rfl, m, hw⟩; rw [hw]; clear hw))
  refine ⟨rfl, _, (results_cell_tmp rfl _ _ _).trans ?_, rfl, m, ?_⟩
  · go_simp
    kernel_rfl
  · kernel_rfl
set_option maxHeartbeats 1000000 in
theorem at_115 (w : World) : Calls Tryd.prog 37 #[.int .i64 115] w fun e w' => e = .returned (.tuple #[opv 115, .bool true]) ∧ ∃ m, w' = ((w.alloc (opo 115)).alloc (opo 115)).drewN m := by
  have hd : ∀ (W : World) (o : Obj) (m : Nat), (W.drewN m).alloc o = (W.alloc o).drewN m := fun _ _ _ => rfl
  have hd2 : ∀ (W : World) (a : Addr) (v : Value) (m : Nat), (W.drewN m).setCell a v = (W.setCell a v).drewN m := fun _ _ _ _ => rfl
  go_enter Tryd.func37, Tryd.ntmps37
  go_wp2_with (first | (go_at_call 49; refine (row_is _ _ _ _ _ _ _ _).mono ?_; rintro e w2 ⟨rfl, hw⟩; rw [hw]; clear hw) | (go_at_call 51; refine (number_is 20 (by decide) _).mono ?_; rintro e w1 ⟨rfl, m, hw⟩; rw [hw]; clear hw))
  refine ⟨rfl, _, (results_cell_tmp rfl _ _ _).trans ?_, rfl, m, ?_⟩
  · go_simp
    kernel_rfl
  · kernel_rfl
set_option maxHeartbeats 1000000 in
theorem at_116 (w : World) : Calls Tryd.prog 37 #[.int .i64 116] w fun e w' => e = .returned (.tuple #[opv 116, .bool true]) ∧ ∃ m, w' = ((w.alloc (opo 116)).alloc (opo 116)).drewN m := by
  have hd : ∀ (W : World) (o : Obj) (m : Nat), (W.drewN m).alloc o = (W.alloc o).drewN m := fun _ _ _ => rfl
  have hd2 : ∀ (W : World) (a : Addr) (v : Value) (m : Nat), (W.drewN m).setCell a v = (W.setCell a v).drewN m := fun _ _ _ _ => rfl
  go_enter Tryd.func37, Tryd.ntmps37
  go_wp2_with (first | (go_at_call 49; refine (row_is _ _ _ _ _ _ _ _).mono ?_; rintro e w2 ⟨rfl, hw⟩; rw [hw]; clear hw) | (go_at_call 51; refine (number_is 21 (by decide) _).mono ?_; rintro e w1 ⟨rfl, m, hw⟩; rw [hw]; clear hw))
  refine ⟨rfl, _, (results_cell_tmp rfl _ _ _).trans ?_, rfl, m, ?_⟩
  · go_simp
    kernel_rfl
  · kernel_rfl
set_option maxHeartbeats 1000000 in
theorem at_117 (w : World) : Calls Tryd.prog 37 #[.int .i64 117] w fun e w' => e = .returned (.tuple #[opv 117, .bool true]) ∧ ∃ m, w' = ((w.alloc (opo 117)).alloc (opo 117)).drewN m := by
  have hd : ∀ (W : World) (o : Obj) (m : Nat), (W.drewN m).alloc o = (W.alloc o).drewN m := fun _ _ _ => rfl
  have hd2 : ∀ (W : World) (a : Addr) (v : Value) (m : Nat), (W.drewN m).setCell a v = (W.setCell a v).drewN m := fun _ _ _ _ => rfl
  go_enter Tryd.func37, Tryd.ntmps37
  go_wp2_with (first | (go_at_call 49; refine (row_is _ _ _ _ _ _ _ _).mono ?_; rintro e w2 ⟨rfl, hw⟩; rw [hw]; clear hw) | (go_at_call 51; refine (number_is 22 (by decide) _).mono ?_; rintro e w1 ⟨rfl, m, hw⟩; rw [hw]; clear hw))
  refine ⟨rfl, _, (results_cell_tmp rfl _ _ _).trans ?_, rfl, m, ?_⟩
  · go_simp
    kernel_rfl
  · kernel_rfl
set_option maxHeartbeats 1000000 in
theorem at_118 (w : World) : Calls Tryd.prog 37 #[.int .i64 118] w fun e w' => e = .returned (.tuple #[opv 118, .bool true]) ∧ ∃ m, w' = ((w.alloc (opo 118)).alloc (opo 118)).drewN m := by
  have hd : ∀ (W : World) (o : Obj) (m : Nat), (W.drewN m).alloc o = (W.alloc o).drewN m := fun _ _ _ => rfl
  have hd2 : ∀ (W : World) (a : Addr) (v : Value) (m : Nat), (W.drewN m).setCell a v = (W.setCell a v).drewN m := fun _ _ _ _ => rfl
  go_enter Tryd.func37, Tryd.ntmps37
  go_wp2_with (first | (go_at_call 49; refine (row_is _ _ _ _ _ _ _ _).mono ?_; rintro e w2 ⟨rfl, hw⟩; rw [hw]; clear hw) | (go_at_call 51; refine (number_is 23 (by decide) _).mono ?_; rintro e w1 ⟨rfl, m, hw⟩; rw [hw]; clear hw))
  refine ⟨rfl, _, (results_cell_tmp rfl _ _ _).trans ?_, rfl, m, ?_⟩
  · go_simp
    kernel_rfl
  · kernel_rfl
set_option maxHeartbeats 1000000 in
theorem at_119 (w : World) : Calls Tryd.prog 37 #[.int .i64 119] w fun e w' => e = .returned (.tuple #[opv 119, .bool true]) ∧ ∃ m, w' = ((w.alloc (opo 119)).alloc (opo 119)).drewN m := by
  have hd : ∀ (W : World) (o : Obj) (m : Nat), (W.drewN m).alloc o = (W.alloc o).drewN m := fun _ _ _ => rfl
  have hd2 : ∀ (W : World) (a : Addr) (v : Value) (m : Nat), (W.drewN m).setCell a v = (W.setCell a v).drewN m := fun _ _ _ _ => rfl
  go_enter Tryd.func37, Tryd.ntmps37
  go_wp2_with (first | (go_at_call 49; refine (row_is _ _ _ _ _ _ _ _).mono ?_; rintro e w2 ⟨rfl, hw⟩; rw [hw]; clear hw) | (go_at_call 51; refine (number_is 24 (by decide) _).mono ?_; rintro e w1 ⟨rfl, m, hw⟩; rw [hw]; clear hw))
  refine ⟨rfl, _, (results_cell_tmp rfl _ _ _).trans ?_, rfl, m, ?_⟩
  · go_simp
    kernel_rfl
  · kernel_rfl
end Go.Proofs.YtcjmbpchdeapiaaDoor
