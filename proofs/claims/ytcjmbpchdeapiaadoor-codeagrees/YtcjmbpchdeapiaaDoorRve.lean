/- The document's rows. -/
import Derived.Test.YtcjmbpchdeapiaaDoorRvb
namespace Go.Proofs.YtcjmbpchdeapiaaDoor
open Go.RowKit
set_option maxRecDepth 100000
set_option maxHeartbeats 1000000 in
theorem at_120 (w : World) : Calls Tryd.prog 37 #[.int .i64 120] w fun e w' => e = .returned (.tuple #[opv 120, .bool true]) ∧ ∃ m, w' = ((w.alloc (opo 120)).alloc (opo 120)).drewN m := by
  have hd : ∀ (W : World) (o : Obj) (m : Nat), (W.drewN m).alloc o = (W.alloc o).drewN m := fun _ _ _ => rfl
  have hd2 : ∀ (W : World) (a : Addr) (v : Value) (m : Nat), (W.drewN m).setCell a v = (W.setCell a v).drewN m := fun _ _ _ _ => rfl
  go_enter Tryd.func37, Tryd.ntmps37
  go_wp2_with (first | (go_at_call 49; refine (row_is _ _ _ _ _ _ _ _).mono ?_; rintro e w2 ⟨rfl, hw⟩; rw [hw]; clear hw) | (go_at_call 51; refine (number_is 25 (by decide) _).mono ?_; rintro e w1 ⟨rfl, m, hw⟩; rw [hw]; clear hw))
  refine ⟨rfl, _, (results_cell_tmp rfl _ _ _).trans ?_, rfl, m, ?_⟩
  · go_simp
    kernel_rfl
  · kernel_rfl
set_option maxHeartbeats 1000000 in
theorem at_121 (w : World) : Calls Tryd.prog 37 #[.int .i64 121] w fun e w' => e = .returned (.tuple #[opv 121, .bool true]) ∧ ∃ m, w' = ((w.alloc (opo 121)).alloc (opo 121)).drewN m := by
  have hd : ∀ (W : World) (o : Obj) (m : Nat), (W.drewN m).alloc o = (W.alloc o).drewN m := fun _ _ _ => rfl
  have hd2 : ∀ (W : World) (a : Addr) (v : Value) (m : Nat), (W.drewN m).setCell a v = (W.setCell a v).drewN m := fun _ _ _ _ => rfl
  go_enter Tryd.func37, Tryd.ntmps37
  go_wp2_with (first | (go_at_call 49; refine (row_is _ _ _ _ _ _ _ _).mono ?_; rintro e w2 ⟨rfl, hw⟩; rw [hw]; clear hw) | (go_at_call 51; refine (number_is 26 (by decide) _).mono ?_; rintro e w1 ⟨rfl, m, hw⟩; rw [hw]; clear hw))
  refine ⟨rfl, _, (results_cell_tmp rfl _ _ _).trans ?_, rfl, m, ?_⟩
  · go_simp
    kernel_rfl
  · kernel_rfl
set_option maxHeartbeats 1000000 in
theorem at_122 (w : World) : Calls Tryd.prog 37 #[.int .i64 122] w fun e w' => e = .returned (.tuple #[opv 122, .bool true]) ∧ ∃ m, w' = ((w.alloc (opo 122)).alloc (opo 122)).drewN m := by
  have hd : ∀ (W : World) (o : Obj) (m : Nat), (W.drewN m).alloc o = (W.alloc o).drewN m := fun _ _ _ => rfl
  have hd2 : ∀ (W : World) (a : Addr) (v : Value) (m : Nat), (W.drewN m).setCell a v = (W.setCell a v).drewN m := fun _ _ _ _ => rfl
  go_enter Tryd.func37, Tryd.ntmps37
  go_wp2_with (first | (go_at_call 49; refine (row_is _ _ _ _ _ _ _ _).mono ?_; rintro e w2 ⟨rfl, hw⟩; rw [hw]; clear hw) | (go_at_call 51; refine (number_is 27 (by decide) _).mono ?_; rintro e w1 ⟨rfl, m, hw⟩; rw [hw]; clear hw))
  refine ⟨rfl, _, (results_cell_tmp rfl _ _ _).trans ?_, rfl, m, ?_⟩
  · go_simp
    kernel_rfl
  · kernel_rfl
set_option maxHeartbeats 1000000 in
theorem at_123 (w : World) : Calls Tryd.prog 37 #[.int .i64 123] w fun e w' => e = .returned (.tuple #[opv 123, .bool true]) ∧ ∃ m, w' = ((w.alloc (opo 123)).alloc (opo 123)).drewN m := by
  have hd : ∀ (W : World) (o : Obj) (m : Nat), (W.drewN m).alloc o = (W.alloc o).drewN m := fun _ _ _ => rfl
  have hd2 : ∀ (W : World) (a : Addr) (v : Value) (m : Nat), (W.drewN m).setCell a v = (W.setCell a v).drewN m := fun _ _ _ _ => rfl
  go_enter Tryd.func37, Tryd.ntmps37
  go_wp2_with (first | (go_at_call 49; refine (row_is _ _ _ _ _ _ _ _).mono ?_; rintro e w2 ⟨rfl, hw⟩; rw [hw]; clear hw) | (go_at_call 51; refine (number_is 28 (by decide) _).mono ?_; rintro e w1 ⟨rfl, m, hw⟩; rw [hw]; clear hw))
  refine ⟨rfl, _, (results_cell_tmp rfl _ _ _).trans ?_, rfl, m, ?_⟩
  · go_simp
    kernel_rfl
  · kernel_rfl
set_option maxHeartbeats 1000000 in
theorem at_124 (w : World) : Calls Tryd.prog 37 #[.int .i64 124] w fun e w' => e = .returned (.tuple #[opv 124, .bool true]) ∧ ∃ m, w' = ((w.alloc (opo 124)).alloc (opo 124)).drewN m := by
  have hd : ∀ (W : World) (o : Obj) (m : Nat), (W.drewN m).alloc o = (W.alloc o).drewN m := fun _ _ _ => rfl
  have hd2 : ∀ (W : World) (a : Addr) (v : Value) (m : Nat), (W.drewN m).setCell a v = (W.setCell a v).drewN m := fun _ _ _ _ => rfl
  go_enter Tryd.func37, Tryd.ntmps37
  go_wp2_with (first | (go_at_call 49; refine (row_is _ _ _ _ _ _ _ _).mono ?_; rintro e w2 ⟨rfl, hw⟩; rw [hw]; clear hw) | (go_at_call 51; refine (number_is 29 (by decide) _).mono ?_; rintro e w1 ⟨rfl, m, hw⟩; rw [hw]; clear hw))
  refine ⟨rfl, _, (results_cell_tmp rfl _ _ _).trans ?_, rfl, m, ?_⟩
  · go_simp
    kernel_rfl
  · kernel_rfl
set_option maxHeartbeats 1000000 in
theorem at_125 (w : World) : Calls Tryd.prog 37 #[.int .i64 125] w fun e w' => e = .returned (.tuple #[opv 125, .bool true]) ∧ ∃ m, w' = ((w.alloc (opo 125)).alloc (opo 125)).drewN m := by
  have hd : ∀ (W : World) (o : Obj) (m : Nat), (W.drewN m).alloc o = (W.alloc o).drewN m := fun _ _ _ => rfl
  have hd2 : ∀ (W : World) (a : Addr) (v : Value) (m : Nat), (W.drewN m).setCell a v = (W.setCell a v).drewN m := fun _ _ _ _ => rfl
  go_enter Tryd.func37, Tryd.ntmps37
  go_wp2_with (first | (go_at_call 49; refine (row_is _ _ _ _ _ _ _ _).mono ?_; rintro e w2 ⟨rfl, hw⟩; rw [hw]; clear hw) | (go_at_call 51; refine (number_is 30 (by decide) _).mono ?_; rintro e w1 ⟨rfl, m, hw⟩; rw [hw]; clear hw))
  refine ⟨rfl, _, (results_cell_tmp rfl _ _ _).trans ?_, rfl, m, ?_⟩
  · go_simp
    kernel_rfl
  · kernel_rfl
set_option maxHeartbeats 1000000 in
theorem at_126 (w : World) : Calls Tryd.prog 37 #[.int .i64 126] w fun e w' => e = .returned (.tuple #[opv 126, .bool true]) ∧ ∃ m, w' = ((w.alloc (opo 126)).alloc (opo 126)).drewN m := by
  have hd : ∀ (W : World) (o : Obj) (m : Nat), (W.drewN m).alloc o = (W.alloc o).drewN m := fun _ _ _ => rfl
  have hd2 : ∀ (W : World) (a : Addr) (v : Value) (m : Nat), (W.drewN m).setCell a v = (W.setCell a v).drewN m := fun _ _ _ _ => rfl
  go_enter Tryd.func37, Tryd.ntmps37
  go_wp2_with (first | (go_at_call 49; refine (row_is _ _ _ _ _ _ _ _).mono ?_; rintro e w2 ⟨rfl, hw⟩; rw [hw]; clear hw) | (go_at_call 51; refine (number_is 31 (by decide) _).mono ?_; rintro e w1 ⟨rfl, m, hw⟩; rw [hw]; clear hw))
  refine ⟨rfl, _, (results_cell_tmp rfl _ _ _).trans ?_, rfl, m, ?_⟩
  · go_simp
    kernel_rfl
  · kernel_rfl
set_option maxHeartbeats 1000000 in
theorem at_127 (w : World) : Calls Tryd.prog 37 #[.int .i64 127] w fun e w' => e = .returned (.tuple #[opv 127, .bool true]) ∧ ∃ m, w' = ((w.alloc (opo 127)).alloc (opo 127)).drewN m := by
  have hd : ∀ (W : World) (o : Obj) (m : Nat), (W.drewN m).alloc o = (W.alloc o).drewN m := fun _ _ _ => rfl
  have hd2 : ∀ (W : World) (a : Addr) (v : Value) (m : Nat), (W.drewN m).setCell a v = (W.setCell a v).drewN m := fun _ _ _ _ => rfl
  go_enter Tryd.func37, Tryd.ntmps37
  go_wp2_with (first | (go_at_call 49; refine (row_is _ _ _ _ _ _ _ _).mono ?_; rintro e w2 ⟨rfl, hw⟩; rw [hw]; clear hw) | (go_at_call 51; refine (number_is 32 (by decide) _).mono ?_; rintro e w1 ⟨rfl, m, hw⟩; rw [hw]; clear hw))
  refine ⟨rfl, _, (results_cell_tmp rfl _ _ _).trans ?_, rfl, m, ?_⟩
  · go_simp
    kernel_rfl
  · kernel_rfl
set_option maxHeartbeats 1000000 in
theorem at_128 (w : World) : Calls Tryd.prog 37 #[.int .i64 128] w fun e w' => e = .returned (.tuple #[opv 128, .bool true]) ∧ ∃ m, w' = ((w.alloc (opo 128)).alloc (opo 128)).drewN m := by
  have hd : ∀ (W : World) (o : Obj) (m : Nat), (W.drewN m).alloc o = (W.alloc o).drewN m := fun _ _ _ => rfl
  have hd2 : ∀ (W : World) (a : Addr) (v : Value) (m : Nat), (W.drewN m).setCell a v = (W.setCell a v).drewN m := fun _ _ _ _ => rfl
  go_enter Tryd.func37, Tryd.ntmps37
  go_wp2_with (first | (go_at_call 49; refine (row_is _ _ _ _ _ _ _ _).mono ?_; rintro e w2 ⟨rfl, hw⟩; rw [hw]; clear hw) | (go_at_call 51; refine (number_is 1 (by decide) _).mono ?_; rintro e w1 ⟨rfl, m, hw⟩; rw [hw]; clear hw))
  refine ⟨rfl, _, (results_cell_tmp rfl _ _ _).trans ?_, rfl, m, ?_⟩
  · go_simp
    kernel_rfl
  · kernel_rfl
set_option maxHeartbeats 1000000 in
theorem at_129 (w : World) : Calls Tryd.prog 37 #[.int .i64 129] w fun e w' => e = .returned (.tuple #[opv 129, .bool true]) ∧ ∃ m, w' = ((w.alloc (opo 129)).alloc (opo 129)).drewN m := by
  have hd : ∀ (W : World) (o : Obj) (m : Nat), (W.drewN m).alloc o = (W.alloc o).drewN m := fun _ _ _ => rfl
  have hd2 : ∀ (W : World) (a : Addr) (v : Value) (m : Nat), (W.drewN m).setCell a v = (W.setCell a v).drewN m := fun _ _ _ _ => rfl
  go_enter Tryd.func37, Tryd.ntmps37
  go_wp2_with (first | (go_at_call 49; refine (row_is _ _ _ _ _ _ _ _).mono ?_; rintro e w2 ⟨rfl, hw⟩; rw [hw]; clear hw) | (go_at_call 51; refine (number_is 2 (by decide) _).mono ?_; rintro e w1 ⟨rfl, m, hw⟩; rw [hw]; clear hw))
  refine ⟨rfl, _, (results_cell_tmp rfl _ _ _).trans ?_, rfl, m, ?_⟩
  · go_simp
    kernel_rfl
  · kernel_rfl
set_option maxHeartbeats 1000000 in
theorem at_130 (w : World) : Calls Tryd.prog 37 #[.int .i64 130] w fun e w' => e = .returned (.tuple #[opv 130, .bool true]) ∧ ∃ m, w' = ((w.alloc (opo 130)).alloc (opo 130)).drewN m := by
  have hd : ∀ (W : World) (o : Obj) (m : Nat), (W.drewN m).alloc o = (W.alloc o).drewN m := fun _ _ _ => rfl
  have hd2 : ∀ (W : World) (a : Addr) (v : Value) (m : Nat), (W.drewN m).setCell a v = (W.setCell a v).drewN m := fun _ _ _ _ => rfl
  go_enter Tryd.func37, Tryd.ntmps37
  go_wp2_with (first | (go_at_call 49; refine (row_is _ _ _ _ _ _ _ _).mono ?_; rintro e w2 ⟨rfl, hw⟩; rw [hw]; clear hw) | (go_at_call 51; refine (number_is 3 (by decide) _).mono ?_; rintro e w1 ⟨rfl, m, hw⟩; rw [hw]; clear hw))
  refine ⟨rfl, _, (results_cell_tmp rfl _ _ _).trans ?_, rfl, m, ?_⟩
  · go_simp
    kernel_rfl
  · kernel_rfl
set_option maxHeartbeats 1000000 in
theorem at_131 (w : World) : Calls Tryd.prog 37 #[.int .i64 131] w fun e w' => e = .returned (.tuple #[opv 131, .bool true]) ∧ ∃ m, w' = ((w.alloc (opo 131)).alloc (opo 131)).drewN m := by
  have hd : ∀ (W : World) (o : Obj) (m : Nat), (W.drewN m).alloc o = (W.alloc o).drewN m := fun _ _ _ => rfl
  have hd2 : ∀ (W : World) (a : Addr) (v : Value) (m : Nat), (W.drewN m).setCell a v = (W.setCell a v).drewN m := fun _ _ _ _ => rfl
  go_enter Tryd.func37, Tryd.ntmps37
  go_wp2_with (first | (go_at_call 49; refine (row_is _ _ _ _ _ _ _ _).mono ?_; rintro e w2 ⟨rfl, hw⟩; rw [hw]; clear hw) | (go_at_call 51; refine (number_is 4 (by decide) _).mono ?_; rintro e w1 ⟨rfl, m, hw⟩; rw [hw]; clear hw))
  refine ⟨rfl, _, (results_cell_tmp rfl _ _ _).trans ?_, rfl, m, ?_⟩
  · go_simp
    kernel_rfl
  · kernel_rfl
set_option maxHeartbeats 1000000 in
theorem at_132 (w : World) : Calls Tryd.prog 37 #[.int .i64 132] w fun e w' => e = .returned (.tuple #[opv 132, .bool true]) ∧ ∃ m, w' = ((w.alloc (opo 132)).alloc (opo 132)).drewN m := by
  have hd : ∀ (W : World) (o : Obj) (m : Nat), (W.drewN m).alloc o = (W.alloc o).drewN m := fun _ _ _ => rfl
  have hd2 : ∀ (W : World) (a : Addr) (v : Value) (m : Nat), (W.drewN m).setCell a v = (W.setCell a v).drewN m := fun _ _ _ _ => rfl
  go_enter Tryd.func37, Tryd.ntmps37
  go_wp2_with (first | (go_at_call 49; refine (row_is _ _ _ _ _ _ _ _).mono ?_; rintro e w2 ⟨rfl, hw⟩; rw [hw]; clear hw) | (go_at_call 51; refine (number_is 5 (by decide) _).mono ?_; rintro e w1 ⟨rfl, m, hw⟩; rw [hw]; clear hw))
  refine ⟨rfl, _, (results_cell_tmp rfl _ _ _).trans ?_, rfl, m, ?_⟩
  · go_simp
    kernel_rfl
  · kernel_rfl
set_option maxHeartbeats 1000000 in
theorem at_133 (w : World) : Calls Tryd.prog 37 #[.int .i64 133] w fun e w' => e = .returned (.tuple #[opv 133, .bool true]) ∧ ∃ m, w' = ((w.alloc (opo 133)).alloc (opo 133)).drewN m := by
  have hd : ∀ (W : World) (o : Obj) (m : Nat), (W.drewN m).alloc o = (W.alloc o).drewN m := fun _ _ _ => rfl
  have hd2 : ∀ (W : World) (a : Addr) (v : Value) (m : Nat), (W.drewN m).setCell a v = (W.setCell a v).drewN m := fun _ _ _ _ => rfl
  go_enter Tryd.func37, Tryd.ntmps37
  go_wp2_with (first | (go_at_call 49; refine (row_is _ _ _ _ _ _ _ _).mono ?_; rintro e w2 ⟨rfl, hw⟩; rw [hw]; clear hw) | (go_at_call 51; refine (number_is 6 (by decide) _).mono ?_; rintro e w1 ⟨rfl, m, hw⟩; rw [hw]; clear hw))
  refine ⟨rfl, _, (results_cell_tmp rfl _ _ _).trans ?_, rfl, m, ?_⟩
  · go_simp
    kernel_rfl
  · kernel_rfl
set_option maxHeartbeats 1000000 in
theorem at_134 (w : World) : Calls Tryd.prog 37 #[.int .i64 134] w fun e w' => e = .returned (.tuple #[opv 134, .bool true]) ∧ ∃ m, w' = ((w.alloc (opo 134)).alloc (opo 134)).drewN m := by
  have hd : ∀ (W : World) (o : Obj) (m : Nat), (W.drewN m).alloc o = (W.alloc o).drewN m := fun _ _ _ => rfl
  have hd2 : ∀ (W : World) (a : Addr) (v : Value) (m : Nat), (W.drewN m).setCell a v = (W.setCell a v).drewN m := fun _ _ _ _ => rfl
  go_enter Tryd.func37, Tryd.ntmps37
  go_wp2_with (first | (go_at_call 49; refine (row_is _ _ _ _ _ _ _ _).mono ?_; rintro e w2 ⟨rfl, hw⟩; rw [hw]; clear hw) | (go_at_call 51; refine (number_is 7 (by decide) _).mono ?_; rintro e w1 ⟨rfl, m, hw⟩; rw [hw]; clear hw))
  refine ⟨rfl, _, (results_cell_tmp rfl _ _ _).trans ?_, rfl, m, ?_⟩
  · go_simp
    kernel_rfl
  · kernel_rfl
set_option maxHeartbeats 1000000 in
theorem at_135 (w : World) : Calls Tryd.prog 37 #[.int .i64 135] w fun e w' => e = .returned (.tuple #[opv 135, .bool true]) ∧ ∃ m, w' = ((w.alloc (opo 135)).alloc (opo 135)).drewN m := by
  have hd : ∀ (W : World) (o : Obj) (m : Nat), (W.drewN m).alloc o = (W.alloc o).drewN m := fun _ _ _ => rfl
  have hd2 : ∀ (W : World) (a : Addr) (v : Value) (m : Nat), (W.drewN m).setCell a v = (W.setCell a v).drewN m := fun _ _ _ _ => rfl
  go_enter Tryd.func37, Tryd.ntmps37
  go_wp2_with (first | (go_at_call 49; refine (row_is _ _ _ _ _ _ _ _).mono ?_; rintro e w2 ⟨rfl, hw⟩; rw [hw]; clear hw) | (go_at_call 51; refine (number_is 8 (by decide) _).mono ?_; rintro e w1 ⟨rfl, m, hw⟩; rw [hw]; clear hw))
  refine ⟨rfl, _, (results_cell_tmp rfl _ _ _).trans ?_, rfl, m, ?_⟩
  · go_simp
    kernel_rfl
  · kernel_rfl
set_option maxHeartbeats 1000000 in
theorem at_136 (w : World) : Calls Tryd.prog 37 #[.int .i64 136] w fun e w' => e = .returned (.tuple #[opv 136, .bool true]) ∧ ∃ m, w' = ((w.alloc (opo 136)).alloc (opo 136)).drewN m := by
  have hd : ∀ (W : World) (o : Obj) (m : Nat), (W.drewN m).alloc o = (W.alloc o).drewN m := fun _ _ _ => rfl
  have hd2 : ∀ (W : World) (a : Addr) (v : Value) (m : Nat), (W.drewN m).setCell a v = (W.setCell a v).drewN m := fun _ _ _ _ => rfl
  go_enter Tryd.func37, Tryd.ntmps37
  go_wp2_with (first | (go_at_call 49; refine (row_is _ _ _ _ _ _ _ _).mono ?_; rintro e w2 ⟨rfl, hw⟩; rw [hw]; clear hw) | (go_at_call 51; refine (number_is 9 (by decide) _).mono ?_; rintro e w1 ⟨rfl, m, hw⟩; rw [hw]; clear hw))
  refine ⟨rfl, _, (results_cell_tmp rfl _ _ _).trans ?_, rfl, m, ?_⟩
  · go_simp
    kernel_rfl
  · kernel_rfl
set_option maxHeartbeats 1000000 in
theorem at_137 (w : World) : Calls Tryd.prog 37 #[.int .i64 137] w fun e w' => e = .returned (.tuple #[opv 137, .bool true]) ∧ ∃ m, w' = ((w.alloc (opo 137)).alloc (opo 137)).drewN m := by
  have hd : ∀ (W : World) (o : Obj) (m : Nat), (W.drewN m).alloc o = (W.alloc o).drewN m := fun _ _ _ => rfl
  have hd2 : ∀ (W : World) (a : Addr) (v : Value) (m : Nat), (W.drewN m).setCell a v = (W.setCell a v).drewN m := fun _ _ _ _ => rfl
  go_enter Tryd.func37, Tryd.ntmps37
  go_wp2_with (first | (go_at_call 49; refine (row_is _ _ _ _ _ _ _ _).mono ?_; rintro e w2 ⟨rfl, hw⟩; rw [hw]; clear hw) | (go_at_call 51; refine (number_is 10 (by decide) _).mono ?_; rintro e w1 ⟨rfl, m, hw⟩; rw [hw]; clear hw))
  refine ⟨rfl, _, (results_cell_tmp rfl _ _ _).trans ?_, rfl, m, ?_⟩
  · go_simp
    kernel_rfl
  · kernel_rfl
set_option maxHeartbeats 1000000 in
theorem at_138 (w : World) : Calls Tryd.prog 37 #[.int .i64 138] w fun e w' => e = .returned (.tuple #[opv 138, .bool true]) ∧ ∃ m, w' = ((w.alloc (opo 138)).alloc (opo 138)).drewN m := by
  have hd : ∀ (W : World) (o : Obj) (m : Nat), (W.drewN m).alloc o = (W.alloc o).drewN m := fun _ _ _ => rfl
  have hd2 : ∀ (W : World) (a : Addr) (v : Value) (m : Nat), (W.drewN m).setCell a v = (W.setCell a v).drewN m := fun _ _ _ _ => rfl
  go_enter Tryd.func37, Tryd.ntmps37
  go_wp2_with (first | (go_at_call 49; refine (row_is _ _ _ _ _ _ _ _).mono ?_; rintro e w2 ⟨rfl, hw⟩; rw [hw]; clear hw) | (go_at_call 51; refine (number_is 11 (by decide) _).mono ?_; rintro e w1 ⟨rfl, m, hw⟩; rw [hw]; clear hw))
  refine ⟨rfl, _, (results_cell_tmp rfl _ _ _).trans ?_, rfl, m, ?_⟩
  · go_simp
    kernel_rfl
  · kernel_rfl
set_option maxHeartbeats 1000000 in
theorem at_139 (w : World) : Calls Tryd.prog 37 #[.int .i64 139] w fun e w' => e = .returned (.tuple #[opv 139, .bool true]) ∧ ∃ m, w' = ((w.alloc (opo 139)).alloc (opo 139)).drewN m := by
  have hd : ∀ (W : World) (o : Obj) (m : Nat), (W.drewN m).alloc o = (W.alloc o).drewN m := fun _ _ _ => rfl
  have hd2 : ∀ (W : World) (a : Addr) (v : Value) (m : Nat), (W.drewN m).setCell a v = (W.setCell a v).drewN m := fun _ _ _ _ => rfl
  go_enter Tryd.func37, Tryd.ntmps37
  go_wp2_with (first | (go_at_call 49; refine (row_is _ _ _ _ _ _ _ _).mono ?_; rintro e w2 ⟨rfl, hw⟩; rw [hw]; clear hw) | (go_at_call 51; refine (number_is 12 (by decide) _).mono ?_; rintro e w1 ⟨rfl, m, hw⟩; rw [hw]; clear hw))
  refine ⟨rfl, _, (results_cell_tmp rfl _ _ _).trans ?_, rfl, m, ?_⟩
  · go_simp
    kernel_rfl
  · kernel_rfl
set_option maxHeartbeats 1000000 in
theorem at_140 (w : World) : Calls Tryd.prog 37 #[.int .i64 140] w fun e w' => e = .returned (.tuple #[opv 140, .bool true]) ∧ ∃ m, w' = ((w.alloc (opo 140)).alloc (opo 140)).drewN m := by
  have hd : ∀ (W : World) (o : Obj) (m : Nat), (W.drewN m).alloc o = (W.alloc o).drewN m := fun _ _ _ => rfl
  have hd2 : ∀ (W : World) (a : Addr) (v : Value) (m : Nat), (W.drewN m).setCell a v = (W.setCell a v).drewN m := fun _ _ _ _ => rfl
  go_enter Tryd.func37, Tryd.ntmps37
  go_wp2_with (first | (go_at_call 49; refine (row_is _ _ _ _ _ _ _ _).mono ?_; rintro e w2 ⟨rfl, hw⟩; rw [hw]; clear hw) | (go_at_call 51; refine (number_is 13 (by decide) _).mono ?_; rintro e w1 ⟨rfl, m, hw⟩; rw [hw]; clear hw))
  refine ⟨rfl, _, (results_cell_tmp rfl _ _ _).trans ?_, rfl, m, ?_⟩
  · go_simp
    kernel_rfl
  · kernel_rfl
set_option maxHeartbeats 1000000 in
theorem at_141 (w : World) : Calls Tryd.prog 37 #[.int .i64 141] w fun e w' => e = .returned (.tuple #[opv 141, .bool true]) ∧ ∃ m, w' = ((w.alloc (opo 141)).alloc (opo 141)).drewN m := by
  have hd : ∀ (W : World) (o : Obj) (m : Nat), (W.drewN m).alloc o = (W.alloc o).drewN m := fun _ _ _ => rfl
  have hd2 : ∀ (W : World) (a : Addr) (v : Value) (m : Nat), (W.drewN m).setCell a v = (W.setCell a v).drewN m := fun _ _ _ _ => rfl
  go_enter Tryd.func37, Tryd.ntmps37
  go_wp2_with (first | (go_at_call 49; refine (row_is _ _ _ _ _ _ _ _).mono ?_; rintro e w2 ⟨rfl, hw⟩; rw [hw]; clear hw) | (go_at_call 51; refine (number_is 14 (by decide) _).mono ?_; rintro e w1 ⟨rfl, m, hw⟩; rw [hw]; clear hw))
  refine ⟨rfl, _, (results_cell_tmp rfl _ _ _).trans ?_, rfl, m, ?_⟩
  · go_simp
    kernel_rfl
  · kernel_rfl
set_option maxHeartbeats 1000000 in
theorem at_142 (w : World) : Calls Tryd.prog 37 #[.int .i64 142] w fun e w' => e = .returned (.tuple #[opv 142, .bool true]) ∧ ∃ m, w' = ((w.alloc (opo 142)).alloc (opo 142)).drewN m := by
  have hd : ∀ (W : World) (o : Obj) (m : Nat), (W.drewN m).alloc o = (W.alloc o).drewN m := fun _ _ _ => rfl
  have hd2 : ∀ (W : World) (a : Addr) (v : Value) (m : Nat), (W.drewN m).setCell a v = (W.setCell a v).drewN m := fun _ _ _ _ => rfl
  go_enter Tryd.func37, Tryd.ntmps37
  go_wp2_with (first | (go_at_call 49; refine (row_is _ _ _ _ _ _ _ _).mono ?_; rintro e w2 ⟨rfl, hw⟩; rw [hw]; clear hw) | (go_at_call 51; refine (number_is 15 (by decide) _).mono ?_; rintro e w1 ⟨rfl, m, hw⟩; rw [hw]; clear hw))
  refine ⟨rfl, _, (results_cell_tmp rfl _ _ _).trans ?_, rfl, m, ?_⟩
  · go_simp
    kernel_rfl
  · kernel_rfl
set_option maxHeartbeats 1000000 in
theorem at_143 (w : World) : Calls Tryd.prog 37 #[.int .i64 143] w fun e w' => e = .returned (.tuple #[opv 143, .bool true]) ∧ ∃ m, w' = ((w.alloc (opo 143)).alloc (opo 143)).drewN m := by
  have hd : ∀ (W : World) (o : Obj) (m : Nat), (W.drewN m).alloc o = (W.alloc o).drewN m := fun _ _ _ => rfl
  have hd2 : ∀ (W : World) (a : Addr) (v : Value) (m : Nat), (W.drewN m).setCell a v = (W.setCell a v).drewN m := fun _ _ _ _ => rfl
  go_enter Tryd.func37, Tryd.ntmps37
  go_wp2_with (first | (go_at_call 49; refine (row_is _ _ _ _ _ _ _ _).mono ?_; rintro e w2 ⟨rfl, hw⟩; rw [hw]; clear hw) | (go_at_call 51; refine (number_is 16 (by decide) _).mono ?_; rintro e w1 ⟨rfl, m, hw⟩; rw [hw]; clear hw))
  refine ⟨rfl, _, (results_cell_tmp rfl _ _ _).trans ?_, rfl, m, ?_⟩
  · go_simp
    kernel_rfl
  · kernel_rfl
set_option maxHeartbeats 1000000 in
theorem at_144 (w : World) : Calls Tryd.prog 37 #[.int .i64 144] w fun e w' => e = .returned (.tuple #[opv 144, .bool true]) ∧ ∃ m, w' = ((w.alloc (opo 144)).alloc (opo 144)).drewN m := by
  have hd : ∀ (W : World) (o : Obj) (m : Nat), (W.drewN m).alloc o = (W.alloc o).drewN m := fun _ _ _ => rfl
  have hd2 : ∀ (W : World) (a : Addr) (v : Value) (m : Nat), (W.drewN m).setCell a v = (W.setCell a v).drewN m := fun _ _ _ _ => rfl
  go_enter Tryd.func37, Tryd.ntmps37
  go_wp2_with (first | (go_at_call 49; refine (row_is _ _ _ _ _ _ _ _).mono ?_; rintro e w2 ⟨rfl, hw⟩; rw [hw]; clear hw) | (go_at_call 51; refine (number_is 1 (by decide) _).mono ?_; rintro e w1 ⟨rfl, m, hw⟩; rw [hw]; clear hw))
  refine ⟨rfl, _, (results_cell_tmp rfl _ _ _).trans ?_, rfl, m, ?_⟩
  · go_simp
    kernel_rfl
  · kernel_rfl
set_option maxHeartbeats 1000000 in
theorem at_145 (w : World) : Calls Tryd.prog 37 #[.int .i64 145] w fun e w' => e = .returned (.tuple #[opv 145, .bool true]) ∧ ∃ m, w' = ((w.alloc (opo 145)).alloc (opo 145)).drewN m := by
  have hd : ∀ (W : World) (o : Obj) (m : Nat), (W.drewN m).alloc o = (W.alloc o).drewN m := fun _ _ _ => rfl
  have hd2 : ∀ (W : World) (a : Addr) (v : Value) (m : Nat), (W.drewN m).setCell a v = (W.setCell a v).drewN m := fun _ _ _ _ => rfl
  go_enter Tryd.func37, Tryd.ntmps37
  go_wp2_with (first | (go_at_call 49; refine (row_is _ _ _ _ _ _ _ _).mono ?_; rintro e w2 ⟨rfl, hw⟩; rw [hw]; clear hw) | (go_at_call 51; refine (number_is 2 (by decide) _).mono ?_; rintro e w1 ⟨rfl, m, hw⟩; rw [hw]; clear hw))
  refine ⟨rfl, _, (results_cell_tmp rfl _ _ _).trans ?_, rfl, m, ?_⟩
  · go_simp
    kernel_rfl
  · kernel_rfl
set_option maxHeartbeats 1000000 in
theorem at_146 (w : World) : Calls Tryd.prog 37 #[.int .i64 146] w fun e w' => e = .returned (.tuple #[opv 146, .bool true]) ∧ ∃ m, w' = ((w.alloc (opo 146)).alloc (opo 146)).drewN m := by
  have hd : ∀ (W : World) (o : Obj) (m : Nat), (W.drewN m).alloc o = (W.alloc o).drewN m := fun _ _ _ => rfl
  have hd2 : ∀ (W : World) (a : Addr) (v : Value) (m : Nat), (W.drewN m).setCell a v = (W.setCell a v).drewN m := fun _ _ _ _ => rfl
  go_enter Tryd.func37, Tryd.ntmps37
  go_wp2_with (first | (go_at_call 49; refine (row_is _ _ _ _ _ _ _ _).mono ?_; rintro e w2 ⟨rfl, hw⟩; rw [hw]; clear hw) | (go_at_call 51; refine (number_is 3 (by decide) _).mono ?_; rintro e w1 ⟨rfl, m, hw⟩; rw [hw]; clear hw))
  refine ⟨rfl, _, (results_cell_tmp rfl _ _ _).trans ?_, rfl, m, ?_⟩
  · go_simp
    kernel_rfl
  · kernel_rfl
set_option maxHeartbeats 1000000 in
theorem at_147 (w : World) : Calls Tryd.prog 37 #[.int .i64 147] w fun e w' => e = .returned (.tuple #[opv 147, .bool true]) ∧ ∃ m, w' = ((w.alloc (opo 147)).alloc (opo 147)).drewN m := by
  have hd : ∀ (W : World) (o : Obj) (m : Nat), (W.drewN m).alloc o = (W.alloc o).drewN m := fun _ _ _ => rfl
  have hd2 : ∀ (W : World) (a : Addr) (v : Value) (m : Nat), (W.drewN m).setCell a v = (W.setCell a v).drewN m := fun _ _ _ _ => rfl
  go_enter Tryd.func37, Tryd.ntmps37
  go_wp2_with (first | (go_at_call 49; refine (row_is _ _ _ _ _ _ _ _).mono ?_; rintro e w2 ⟨rfl, hw⟩; rw [hw]; clear hw) | (go_at_call 51; refine (number_is 4 (by decide) _).mono ?_; rintro e w1 ⟨rfl, m, hw⟩; rw [hw]; clear hw))
  refine ⟨rfl, _, (results_cell_tmp rfl _ _ _).trans ?_, rfl, m, ?_⟩
  · go_simp
    kernel_rfl
  · kernel_rfl
set_option maxHeartbeats 1000000 in
theorem at_148 (w : World) : Calls Tryd.prog 37 #[.int .i64 148] w fun e w' => e = .returned (.tuple #[opv 148, .bool true]) ∧ ∃ m, w' = ((w.alloc (opo 148)).alloc (opo 148)).drewN m := by
  have hd : ∀ (W : World) (o : Obj) (m : Nat), (W.drewN m).alloc o = (W.alloc o).drewN m := fun _ _ _ => rfl
  have hd2 : ∀ (W : World) (a : Addr) (v : Value) (m : Nat), (W.drewN m).setCell a v = (W.setCell a v).drewN m := fun _ _ _ _ => rfl
  go_enter Tryd.func37, Tryd.ntmps37
  go_wp2_with (first | (go_at_call 49; refine (row_is _ _ _ _ _ _ _ _).mono ?_; rintro e w2 ⟨rfl, hw⟩; rw [hw]; clear hw) | (go_at_call 51; refine (number_is 5 (by decide) _).mono ?_; rintro e w1 ⟨rfl, m, hw⟩; rw [hw]; clear hw))
  refine ⟨rfl, _, (results_cell_tmp rfl _ _ _).trans ?_, rfl, m, ?_⟩
  · go_simp
    kernel_rfl
  · kernel_rfl
set_option maxHeartbeats 1000000 in
theorem at_149 (w : World) : Calls Tryd.prog 37 #[.int .i64 149] w fun e w' => e = .returned (.tuple #[opv 149, .bool true]) ∧ ∃ m, w' = ((w.alloc (opo 149)).alloc (opo 149)).drewN m := by
  have hd : ∀ (W : World) (o : Obj) (m : Nat), (W.drewN m).alloc o = (W.alloc o).drewN m := fun _ _ _ => rfl
  have hd2 : ∀ (W : World) (a : Addr) (v : Value) (m : Nat), (W.drewN m).setCell a v = (W.setCell a v).drewN m := fun _ _ _ _ => rfl
  go_enter Tryd.func37, Tryd.ntmps37
  go_wp2_with (first | (go_at_call 49; refine (row_is _ _ _ _ _ _ _ _).mono ?_; rintro e w2 ⟨rfl, hw⟩; rw [hw]; clear hw) | (go_at_call 51; refine (number_is 6 (by decide) _).mono ?_; rintro e w1 ⟨rfl, m, hw⟩; rw [hw]; clear hw))
  refine ⟨rfl, _, (results_cell_tmp rfl _ _ _).trans ?_, rfl, m, ?_⟩
  · go_simp
    kernel_rfl
  · kernel_rfl
set_option maxHeartbeats 1000000 in
theorem at_150 (w : World) : Calls Tryd.prog 37 #[.int .i64 150] w fun e w' => e = .returned (.tuple #[opv 150, .bool true]) ∧ ∃ m, w' = ((w.alloc (opo 150)).alloc (opo 150)).drewN m := by
  have hd : ∀ (W : World) (o : Obj) (m : Nat), (W.drewN m).alloc o = (W.alloc o).drewN m := fun _ _ _ => rfl
  have hd2 : ∀ (W : World) (a : Addr) (v : Value) (m : Nat), (W.drewN m).setCell a v = (W.setCell a v).drewN m := fun _ _ _ _ => rfl
  go_enter Tryd.func37, Tryd.ntmps37
  go_wp2_with (first | (go_at_call 49; refine (row_is _ _ _ _ _ _ _ _).mono ?_; rintro e w2 ⟨rfl, hw⟩; rw [hw]; clear hw) | (go_at_call 51; refine (number_is 7 (by decide) _).mono ?_; rintro e w1 ⟨rfl, m, hw⟩; rw [hw]; clear hw))
  refine ⟨rfl, _, (results_cell_tmp rfl _ _ _).trans ?_, rfl, m, ?_⟩
  · go_simp
    kernel_rfl
  · kernel_rfl
set_option maxHeartbeats 1000000 in
theorem at_151 (w : World) : Calls Tryd.prog 37 #[.int .i64 151] w fun e w' => e = .returned (.tuple #[opv 151, .bool true]) ∧ ∃ m, w' = ((w.alloc (opo 151)).alloc (opo 151)).drewN m := by
  have hd : ∀ (W : World) (o : Obj) (m : Nat), (W.drewN m).alloc o = (W.alloc o).drewN m := fun _ _ _ => rfl
  have hd2 : ∀ (W : World) (a : Addr) (v : Value) (m : Nat), (W.drewN m).setCell a v = (W.setCell a v).drewN m := fun _ _ _ _ => rfl
  go_enter Tryd.func37, Tryd.ntmps37
  go_wp2_with (first | (go_at_call 49; refine (row_is _ _ _ _ _ _ _ _).mono ?_; rintro e w2 ⟨rfl, hw⟩; rw [hw]; clear hw) | (go_at_call 51; refine (number_is 8 (by decide) _).mono ?_; rintro e w1 ⟨rfl, m, hw⟩; rw [hw]; clear hw))
  refine ⟨rfl, _, (results_cell_tmp rfl _ _ _).trans ?_, rfl, m, ?_⟩
  · go_simp
    kernel_rfl
  · kernel_rfl
set_option maxHeartbeats 1000000 in
theorem at_152 (w : World) : Calls Tryd.prog 37 #[.int .i64 152] w fun e w' => e = .returned (.tuple #[opv 152, .bool true]) ∧ ∃ m, w' = ((w.alloc (opo 152)).alloc (opo 152)).drewN m := by
  have hd : ∀ (W : World) (o : Obj) (m : Nat), (W.drewN m).alloc o = (W.alloc o).drewN m := fun _ _ _ => rfl
  have hd2 : ∀ (W : World) (a : Addr) (v : Value) (m : Nat), (W.drewN m).setCell a v = (W.setCell a v).drewN m := fun _ _ _ _ => rfl
  go_enter Tryd.func37, Tryd.ntmps37
  go_wp2_with (first | (go_at_call 49; refine (row_is _ _ _ _ _ _ _ _).mono ?_; rintro e w2 ⟨rfl, hw⟩; rw [hw]; clear hw) | (go_at_call 51; refine (number_is 9 (by decide) _).mono ?_; rintro e w1 ⟨rfl, m, hw⟩; rw [hw]; clear hw))
  refine ⟨rfl, _, (results_cell_tmp rfl _ _ _).trans ?_, rfl, m, ?_⟩
  · go_simp
    kernel_rfl
  · kernel_rfl
set_option maxHeartbeats 1000000 in
theorem at_153 (w : World) : Calls Tryd.prog 37 #[.int .i64 153] w fun e w' => e = .returned (.tuple #[opv 153, .bool true]) ∧ ∃ m, w' = ((w.alloc (opo 153)).alloc (opo 153)).drewN m := by
  have hd : ∀ (W : World) (o : Obj) (m : Nat), (W.drewN m).alloc o = (W.alloc o).drewN m := fun _ _ _ => rfl
  have hd2 : ∀ (W : World) (a : Addr) (v : Value) (m : Nat), (W.drewN m).setCell a v = (W.setCell a v).drewN m := fun _ _ _ _ => rfl
  go_enter Tryd.func37, Tryd.ntmps37
  go_wp2_with (first | (go_at_call 49; refine (row_is _ _ _ _ _ _ _ _).mono ?_; rintro e w2 ⟨rfl, hw⟩; rw [hw]; clear hw) | (go_at_call 51; refine (number_is 10 (by decide) _).mono ?_; rintro e w1 ⟨rfl, m, hw⟩; rw [hw]; clear hw))
  refine ⟨rfl, _, (results_cell_tmp rfl _ _ _).trans ?_, rfl, m, ?_⟩
  · go_simp
    kernel_rfl
  · kernel_rfl
set_option maxHeartbeats 1000000 in
theorem at_154 (w : World) : Calls Tryd.prog 37 #[.int .i64 154] w fun e w' => e = .returned (.tuple #[opv 154, .bool true]) ∧ ∃ m, w' = ((w.alloc (opo 154)).alloc (opo 154)).drewN m := by
  have hd : ∀ (W : World) (o : Obj) (m : Nat), (W.drewN m).alloc o = (W.alloc o).drewN m := fun _ _ _ => rfl
  have hd2 : ∀ (W : World) (a : Addr) (v : Value) (m : Nat), (W.drewN m).setCell a v = (W.setCell a v).drewN m := fun _ _ _ _ => rfl
  go_enter Tryd.func37, Tryd.ntmps37
  go_wp2_with (first | (go_at_call 49; refine (row_is _ _ _ _ _ _ _ _).mono ?_; rintro e w2 ⟨rfl, hw⟩; rw [hw]; clear hw) | (go_at_call 51; refine (number_is 11 (by decide) _).mono ?_; rintro e w1 ⟨rfl, m, hw⟩; rw [hw]; clear hw))
  refine ⟨rfl, _, (results_cell_tmp rfl _ _ _).trans ?_, rfl, m, ?_⟩
  · go_simp
    kernel_rfl
  · kernel_rfl
set_option maxHeartbeats 1000000 in
theorem at_155 (w : World) : Calls Tryd.prog 37 #[.int .i64 155] w fun e w' => e = .returned (.tuple #[opv 155, .bool true]) ∧ ∃ m, w' = ((w.alloc (opo 155)).alloc (opo 155)).drewN m := by
  have hd : ∀ (W : World) (o : Obj) (m : Nat), (W.drewN m).alloc o = (W.alloc o).drewN m := fun _ _ _ => rfl
  have hd2 : ∀ (W : World) (a : Addr) (v : Value) (m : Nat), (W.drewN m).setCell a v = (W.setCell a v).drewN m := fun _ _ _ _ => rfl
  go_enter Tryd.func37, Tryd.ntmps37
  go_wp2_with (first | (go_at_call 49; refine (row_is _ _ _ _ _ _ _ _).mono ?_; rintro e w2 ⟨rfl, hw⟩; rw [hw]; clear hw) | (go_at_call 51; refine (number_is 12 (by decide) _).mono ?_; rintro e w1 ⟨rfl, m, hw⟩; rw [hw]; clear hw))
  refine ⟨rfl, _, (results_cell_tmp rfl _ _ _).trans ?_, rfl, m, ?_⟩
  · go_simp
    kernel_rfl
  · kernel_rfl
set_option maxHeartbeats 1000000 in
theorem at_156 (w : World) : Calls Tryd.prog 37 #[.int .i64 156] w fun e w' => e = .returned (.tuple #[opv 156, .bool true]) ∧ ∃ m, w' = ((w.alloc (opo 156)).alloc (opo 156)).drewN m := by
  have hd : ∀ (W : World) (o : Obj) (m : Nat), (W.drewN m).alloc o = (W.alloc o).drewN m := fun _ _ _ => rfl
  have hd2 : ∀ (W : World) (a : Addr) (v : Value) (m : Nat), (W.drewN m).setCell a v = (W.setCell a v).drewN m := fun _ _ _ _ => rfl
  go_enter Tryd.func37, Tryd.ntmps37
  go_wp2_with (first | (go_at_call 49; refine (row_is _ _ _ _ _ _ _ _).mono ?_; rintro e w2 ⟨rfl, hw⟩; rw [hw]; clear hw) | (go_at_call 51; refine (number_is 13 (by decide) _).mono ?_; rintro e w1 ⟨rfl, m, hw⟩; rw [hw]; clear hw))
  refine ⟨rfl, _, (results_cell_tmp rfl _ _ _).trans ?_, rfl, m, ?_⟩
  · go_simp
    kernel_rfl
  · kernel_rfl
set_option maxHeartbeats 1000000 in
theorem at_157 (w : World) : Calls Tryd.prog 37 #[.int .i64 157] w fun e w' => e = .returned (.tuple #[opv 157, .bool true]) ∧ ∃ m, w' = ((w.alloc (opo 157)).alloc (opo 157)).drewN m := by
  have hd : ∀ (W : World) (o : Obj) (m : Nat), (W.drewN m).alloc o = (W.alloc o).drewN m := fun _ _ _ => rfl
  have hd2 : ∀ (W : World) (a : Addr) (v : Value) (m : Nat), (W.drewN m).setCell a v = (W.setCell a v).drewN m := fun _ _ _ _ => rfl
  go_enter Tryd.func37, Tryd.ntmps37
  go_wp2_with (first | (go_at_call 49; refine (row_is _ _ _ _ _ _ _ _).mono ?_; rintro e w2 ⟨rfl, hw⟩; rw [hw]; clear hw) | (go_at_call 51; refine (number_is 14 (by decide) _).mono ?_; rintro e w1 ⟨rfl, m, hw⟩; rw [hw]; clear hw))
  refine ⟨rfl, _, (results_cell_tmp rfl _ _ _).trans ?_, rfl, m, ?_⟩
  · go_simp
    kernel_rfl
  · kernel_rfl
set_option maxHeartbeats 1000000 in
theorem at_158 (w : World) : Calls Tryd.prog 37 #[.int .i64 158] w fun e w' => e = .returned (.tuple #[opv 158, .bool true]) ∧ ∃ m, w' = ((w.alloc (opo 158)).alloc (opo 158)).drewN m := by
  have hd : ∀ (W : World) (o : Obj) (m : Nat), (W.drewN m).alloc o = (W.alloc o).drewN m := fun _ _ _ => rfl
  have hd2 : ∀ (W : World) (a : Addr) (v : Value) (m : Nat), (W.drewN m).setCell a v = (W.setCell a v).drewN m := fun _ _ _ _ => rfl
  go_enter Tryd.func37, Tryd.ntmps37
  go_wp2_with (first | (go_at_call 49; refine (row_is _ _ _ _ _ _ _ _).mono ?_; rintro e w2 ⟨rfl, hw⟩; rw [hw]; clear hw) | (go_at_call 51; refine (number_is 15 (by decide) _).mono ?_; rintro e w1 ⟨rfl, m, hw⟩; rw [hw]; clear hw))
  refine ⟨rfl, _, (results_cell_tmp rfl _ _ _).trans ?_, rfl, m, ?_⟩
  · go_simp
    kernel_rfl
  · kernel_rfl
set_option maxHeartbeats 1000000 in
theorem at_159 (w : World) : Calls Tryd.prog 37 #[.int .i64 159] w fun e w' => e = .returned (.tuple #[opv 159, .bool true]) ∧ ∃ m, w' = ((w.alloc (opo 159)).alloc (opo 159)).drewN m := by
  have hd : ∀ (W : World) (o : Obj) (m : Nat), (W.drewN m).alloc o = (W.alloc o).drewN m := fun _ _ _ => rfl
  have hd2 : ∀ (W : World) (a : Addr) (v : Value) (m : Nat), (W.drewN m).setCell a v = (W.setCell a v).drewN m := fun _ _ _ _ => rfl
  go_enter Tryd.func37, Tryd.ntmps37
  go_wp2_with (first | (go_at_call 49; refine (row_is _ _ _ _ _ _ _ _).mono ?_; rintro e w2 ⟨rfl, hw⟩; rw [hw]; clear hw) | (go_at_call 51; refine (number_is 16 (by decide) _).mono ?_; rintro e w1 ⟨rfl, m, hw⟩; rw [hw]; clear hw))
  refine ⟨rfl, _, (results_cell_tmp rfl _ _ _).trans ?_, rfl, m, ?_⟩
  · go_simp
    kernel_rfl
  · kernel_rfl
end Go.Proofs.YtcjmbpchdeapiaaDoor
