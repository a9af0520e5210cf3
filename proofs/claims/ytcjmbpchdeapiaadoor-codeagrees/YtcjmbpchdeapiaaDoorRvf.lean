/- The document's rows. -/
import Derived.Test.YtcjmbpchdeapiaaDoorRvb
namespace Go.Proofs.YtcjmbpchdeapiaaDoor
open Go.RowKit
set_option maxRecDepth 100000
set_option maxHeartbeats 1000000 in
theorem at_0 (w : World) : Calls Tryd.prog 38 #[.int .i64 0] w fun e w' => e = .returned (.tuple #[opv 0, .bool true]) ∧ ∃ m, w' = ((w.alloc (opo 0)).alloc (opo 0)).drewN m := by
  go_enter Tryd.func38, Tryd.ntmps38
  go_wp2_with (first | (go_at_call 49; refine (row_is _ _ _ _ _ _ _ _).mono ?_; rintro e w2 ⟨rfl, hw⟩; rw [hw]; clear hw))
  refine ⟨rfl, _, (results_cell_tmp rfl _ _ _).trans ?_, rfl, 0, ?_⟩
  · go_simp
    kernel_rfl
  · kernel_rfl
set_option maxHeartbeats 1000000 in
theorem at_160 (w : World) : Calls Tryd.prog 37 #[.int .i64 160] w fun e w' => e = .returned (.tuple #[opv 160, .bool true]) ∧ ∃ m, w' = ((w.alloc (opo 160)).alloc (opo 160)).drewN m := by
  have hd : ∀ (W : World) (o : Obj) (m : Nat), (W.drewN m).alloc o = (W.alloc o).drewN m := fun _ _ _ => rfl
  have hd2 : ∀ (W : World) (a : Addr) (v : Value) (m : Nat), (W.drewN m).setCell a v = (W.setCell a v).drewN m := fun _ _ _ _ => rfl
  go_enter Tryd.func37, Tryd.ntmps37
  go_wp2_with (first | (go_at_call 49; refine (row_is _ _ _ _ _ _ _ _).mono ?_; rintro e w2 ⟨rfl, hw⟩; rw [hw]; clear hw) | (go_at_call 51; refine (number_is 0 (by decide) _).mono ?_; rintro e w1 ⟨rfl, m, hw⟩; rw [hw]; clear hw))
  refine ⟨rfl, _, (results_cell_tmp rfl _ _ _).trans ?_, rfl, m, ?_⟩
  · go_simp
    kernel_rfl
  · kernel_rfl
set_option maxHeartbeats 1000000 in
theorem at_161 (w : World) : Calls Tryd.prog 37 #[.int .i64 161] w fun e w' => e = .returned (.tuple #[opv 161, .bool true]) ∧ ∃ m, w' = ((w.alloc (opo 161)).alloc (opo 161)).drewN m := by
  have hd : ∀ (W : World) (o : Obj) (m : Nat), (W.drewN m).alloc o = (W.alloc o).drewN m := fun _ _ _ => rfl
  have hd2 : ∀ (W : World) (a : Addr) (v : Value) (m : Nat), (W.drewN m).setCell a v = (W.setCell a v).drewN m := fun _ _ _ _ => rfl
  go_enter Tryd.func37, Tryd.ntmps37
  go_wp2_with (first | (go_at_call 49; refine (row_is _ _ _ _ _ _ _ _).mono ?_; rintro e w2 ⟨rfl, hw⟩; rw [hw]; clear hw) | (go_at_call 51; refine (number_is 1 (by decide) _).mono ?_; rintro e w1 ⟨rfl, m, hw⟩; rw [hw]; clear hw))
  refine ⟨rfl, _, (results_cell_tmp rfl _ _ _).trans ?_, rfl, m, ?_⟩
  · go_simp
    kernel_rfl
  · kernel_rfl
set_option maxHeartbeats 1000000 in
theorem at_162 (w : World) : Calls Tryd.prog 37 #[.int .i64 162] w fun e w' => e = .returned (.tuple #[opv 162, .bool true]) ∧ ∃ m, w' = ((w.alloc (opo 162)).alloc (opo 162)).drewN m := by
  have hd : ∀ (W : World) (o : Obj) (m : Nat), (W.drewN m).alloc o = (W.alloc o).drewN m := fun _ _ _ => rfl
  have hd2 : ∀ (W : World) (a : Addr) (v : Value) (m : Nat), (W.drewN m).setCell a v = (W.setCell a v).drewN m := fun _ _ _ _ => rfl
  go_enter Tryd.func37, Tryd.ntmps37
  go_wp2_with (first | (go_at_call 49; refine (row_is _ _ _ _ _ _ _ _).mono ?_; rintro e w2 ⟨rfl, hw⟩; rw [hw]; clear hw) | (go_at_call 51; refine (number_is 2 (by decide) _).mono ?_; rintro e w1 ⟨rfl, m, hw⟩; rw [hw]; clear hw))
  refine ⟨rfl, _, (results_cell_tmp rfl _ _ _).trans ?_, rfl, m, ?_⟩
  · go_simp
    kernel_rfl
  · kernel_rfl
set_option maxHeartbeats 1000000 in
theorem at_163 (w : World) : Calls Tryd.prog 37 #[.int .i64 163] w fun e w' => e = .returned (.tuple #[opv 163, .bool true]) ∧ ∃ m, w' = ((w.alloc (opo 163)).alloc (opo 163)).drewN m := by
  have hd : ∀ (W : World) (o : Obj) (m : Nat), (W.drewN m).alloc o = (W.alloc o).drewN m := fun _ _ _ => rfl
  have hd2 : ∀ (W : World) (a : Addr) (v : Value) (m : Nat), (W.drewN m).setCell a v = (W.setCell a v).drewN m := fun _ _ _ _ => rfl
  go_enter Tryd.func37, Tryd.ntmps37
  go_wp2_with (first | (go_at_call 49; refine (row_is _ _ _ _ _ _ _ _).mono ?_; rintro e w2 ⟨rfl, hw⟩; rw [hw]; clear hw) | (go_at_call 51; refine (number_is 3 (by decide) _).mono ?_; rintro e w1 ⟨rfl, m, hw⟩; rw [hw]; clear hw))
  refine ⟨rfl, _, (results_cell_tmp rfl _ _ _).trans ?_, rfl, m, ?_⟩
  · go_simp
    kernel_rfl
  · kernel_rfl
set_option maxHeartbeats 1000000 in
theorem at_164 (w : World) : Calls Tryd.prog 37 #[.int .i64 164] w fun e w' => e = .returned (.tuple #[opv 164, .bool true]) ∧ ∃ m, w' = ((w.alloc (opo 164)).alloc (opo 164)).drewN m := by
  have hd : ∀ (W : World) (o : Obj) (m : Nat), (W.drewN m).alloc o = (W.alloc o).drewN m := fun _ _ _ => rfl
  have hd2 : ∀ (W : World) (a : Addr) (v : Value) (m : Nat), (W.drewN m).setCell a v = (W.setCell a v).drewN m := fun _ _ _ _ => rfl
  go_enter Tryd.func37, Tryd.ntmps37
  go_wp2_with (first | (go_at_call 49; refine (row_is _ _ _ _ _ _ _ _).mono ?_; rintro e w2 ⟨rfl, hw⟩; rw [hw]; clear hw) | (go_at_call 51; refine (number_is 4 (by decide) _).mono ?_; rintro e w1 ⟨rfl, m, hw⟩; rw [hw]; clear hw))
  refine ⟨rfl, _, (results_cell_tmp rfl _ _ _).trans ?_, rfl, m, ?_⟩
  · go_simp
    kernel_rfl
  · kernel_rfl
set_option maxHeartbeats 1000000 in
theorem at_208 (w : World) : Calls Tryd.prog 38 #[.int .i64 208] w fun e w' => e = .returned (.tuple #[opv 208, .bool true]) ∧ ∃ m, w' = ((w.alloc (opo 208)).alloc (opo 208)).drewN m := by
  go_enter Tryd.func38, Tryd.ntmps38
  go_wp2_with (first | (go_at_call 49; refine (row_is _ _ _ _ _ _ _ _).mono ?_; rintro e w2 ⟨rfl, hw⟩; rw [hw]; clear hw))
  refine ⟨rfl, _, (results_cell_tmp rfl _ _ _).trans ?_, rfl, 0, ?_⟩
  · go_simp
    kernel_rfl
  · kernel_rfl
set_option maxHeartbeats 1000000 in
theorem at_209 (w : World) : Calls Tryd.prog 38 #[.int .i64 209] w fun e w' => e = .returned (.tuple #[opv 209, .bool true]) ∧ ∃ m, w' = ((w.alloc (opo 209)).alloc (opo 209)).drewN m := by
  go_enter Tryd.func38, Tryd.ntmps38
  go_wp2_with (first | (go_at_call 49; refine (row_is _ _ _ _ _ _ _ _).mono ?_; rintro e w2 ⟨rfl, hw⟩; rw [hw]; clear hw))
  refine ⟨rfl, _, (results_cell_tmp rfl _ _ _).trans ?_, rfl, 0, ?_⟩
  · go_simp
    kernel_rfl
  · kernel_rfl
set_option maxHeartbeats 1000000 in
theorem at_210 (w : World) : Calls Tryd.prog 38 #[.int .i64 210] w fun e w' => e = .returned (.tuple #[opv 210, .bool true]) ∧ ∃ m, w' = ((w.alloc (opo 210)).alloc (opo 210)).drewN m := by
  go_enter Tryd.func38, Tryd.ntmps38
  go_wp2_with (first | (go_at_call 49; refine (row_is _ _ _ _ _ _ _ _).mono ?_; rintro e w2 ⟨rfl, hw⟩; rw [hw]; clear hw))
  refine ⟨rfl, _, (results_cell_tmp rfl _ _ _).trans ?_, rfl, 0, ?_⟩
  · go_simp
    kernel_rfl
  · kernel_rfl
set_option maxHeartbeats 1000000 in
theorem at_211 (w : World) : Calls Tryd.prog 38 #[.int .i64 211] w fun e w' => e = .returned (.tuple #[opv 211, .bool true]) ∧ ∃ m, w' = ((w.alloc (opo 211)).alloc (opo 211)).drewN m := by
  go_enter Tryd.func38, Tryd.ntmps38
  go_wp2_with (first | (go_at_call 49; refine (row_is _ _ _ _ _ _ _ _).mono ?_; rintro e w2 ⟨rfl, hw⟩; rw [hw]; clear hw))
  refine ⟨rfl, _, (results_cell_tmp rfl _ _ _).trans ?_, rfl, 0, ?_⟩
  · go_simp
    kernel_rfl
  · kernel_rfl
set_option maxHeartbeats 1000000 in
theorem at_224 (w : World) : Calls Tryd.prog 38 #[.int .i64 224] w fun e w' => e = .returned (.tuple #[opv 224, .bool true]) ∧ ∃ m, w' = ((w.alloc (opo 224)).alloc (opo 224)).drewN m := by
  go_enter Tryd.func38, Tryd.ntmps38
  go_wp2_with (first | (go_at_call 49; refine (row_is _ _ _ _ _ _ _ _).mono ?_; rintro e w2 ⟨rfl, hw⟩; rw [hw]; clear hw))
  refine ⟨rfl, _, (results_cell_tmp rfl _ _ _).trans ?_, rfl, 0, ?_⟩
  · go_simp
    kernel_rfl
  · kernel_rfl
set_option maxHeartbeats 1000000 in
theorem at_225 (w : World) : Calls Tryd.prog 38 #[.int .i64 225] w fun e w' => e = .returned (.tuple #[opv 225, .bool true]) ∧ ∃ m, w' = ((w.alloc (opo 225)).alloc (opo 225)).drewN m := by
  go_enter Tryd.func38, Tryd.ntmps38
  go_wp2_with (first | (go_at_call 49; refine (row_is _ _ _ _ _ _ _ _).mono ?_; rintro e w2 ⟨rfl, hw⟩; rw [hw]; clear hw))
  refine ⟨rfl, _, (results_cell_tmp rfl _ _ _).trans ?_, rfl, 0, ?_⟩
  · go_simp
    kernel_rfl
  · kernel_rfl
set_option maxHeartbeats 1000000 in
theorem at_226 (w : World) : Calls Tryd.prog 38 #[.int .i64 226] w fun e w' => e = .returned (.tuple #[opv 226, .bool true]) ∧ ∃ m, w' = ((w.alloc (opo 226)).alloc (opo 226)).drewN m := by
  go_enter Tryd.func38, Tryd.ntmps38
  go_wp2_with (first | (go_at_call 49; refine (row_is _ _ _ _ _ _ _ _).mono ?_; rintro e w2 ⟨rfl, hw⟩; rw [hw]; clear hw))
  refine ⟨rfl, _, (results_cell_tmp rfl _ _ _).trans ?_, rfl, 0, ?_⟩
  · go_simp
    kernel_rfl
  · kernel_rfl
set_option maxHeartbeats 1000000 in
theorem at_227 (w : World) : Calls Tryd.prog 38 #[.int .i64 227] w fun e w' => e = .returned (.tuple #[opv 227, .bool true]) ∧ ∃ m, w' = ((w.alloc (opo 227)).alloc (opo 227)).drewN m := by
  go_enter Tryd.func38, Tryd.ntmps38
  go_wp2_with (first | (go_at_call 49; refine (row_is _ _ _ _ _ _ _ _).mono ?_; rintro e w2 ⟨rfl, hw⟩; rw [hw]; clear hw))
  refine ⟨rfl, _, (results_cell_tmp rfl _ _ _).trans ?_, rfl, 0, ?_⟩
  · go_simp
    kernel_rfl
  · kernel_rfl
set_option maxHeartbeats 1000000 in
theorem at_228 (w : World) : Calls Tryd.prog 38 #[.int .i64 228] w fun e w' => e = .returned (.tuple #[opv 228, .bool true]) ∧ ∃ m, w' = ((w.alloc (opo 228)).alloc (opo 228)).drewN m := by
  go_enter Tryd.func38, Tryd.ntmps38
  go_wp2_with (first | (go_at_call 49; refine (row_is _ _ _ _ _ _ _ _).mono ?_; rintro e w2 ⟨rfl, hw⟩; rw [hw]; clear hw))
  refine ⟨rfl, _, (results_cell_tmp rfl _ _ _).trans ?_, rfl, 0, ?_⟩
  · go_simp
    kernel_rfl
  · kernel_rfl
set_option maxHeartbeats 1000000 in
theorem at_229 (w : World) : Calls Tryd.prog 38 #[.int .i64 229] w fun e w' => e = .returned (.tuple #[opv 229, .bool true]) ∧ ∃ m, w' = ((w.alloc (opo 229)).alloc (opo 229)).drewN m := by
  go_enter Tryd.func38, Tryd.ntmps38
  go_wp2_with (first | (go_at_call 49; refine (row_is _ _ _ _ _ _ _ _).mono ?_; rintro e w2 ⟨rfl, hw⟩; rw [hw]; clear hw))
  refine ⟨rfl, _, (results_cell_tmp rfl _ _ _).trans ?_, rfl, 0, ?_⟩
  · go_simp
    kernel_rfl
  · kernel_rfl
set_option maxHeartbeats 1000000 in
theorem at_230 (w : World) : Calls Tryd.prog 38 #[.int .i64 230] w fun e w' => e = .returned (.tuple #[opv 230, .bool true]) ∧ ∃ m, w' = ((w.alloc (opo 230)).alloc (opo 230)).drewN m := by
  go_enter Tryd.func38, Tryd.ntmps38
  go_wp2_with (first | (go_at_call 49; refine (row_is _ _ _ _ _ _ _ _).mono ?_; rintro e w2 ⟨rfl, hw⟩; rw [hw]; clear hw))
  refine ⟨rfl, _, (results_cell_tmp rfl _ _ _).trans ?_, rfl, 0, ?_⟩
  · go_simp
    kernel_rfl
  · kernel_rfl
set_option maxHeartbeats 1000000 in
theorem at_231 (w : World) : Calls Tryd.prog 38 #[.int .i64 231] w fun e w' => e = .returned (.tuple #[opv 231, .bool true]) ∧ ∃ m, w' = ((w.alloc (opo 231)).alloc (opo 231)).drewN m := by
  go_enter Tryd.func38, Tryd.ntmps38
  go_wp2_with (first | (go_at_call 49; refine (row_is _ _ _ _ _ _ _ _).mono ?_; rintro e w2 ⟨rfl, hw⟩; rw [hw]; clear hw))
  refine ⟨rfl, _, (results_cell_tmp rfl _ _ _).trans ?_, rfl, 0, ?_⟩
  · go_simp
    kernel_rfl
  · kernel_rfl
set_option maxHeartbeats 1000000 in
theorem at_232 (w : World) : Calls Tryd.prog 38 #[.int .i64 232] w fun e w' => e = .returned (.tuple #[opv 232, .bool true]) ∧ ∃ m, w' = ((w.alloc (opo 232)).alloc (opo 232)).drewN m := by
  go_enter Tryd.func38, Tryd.ntmps38
  go_wp2_with (first | (go_at_call 49; refine (row_is _ _ _ _ _ _ _ _).mono ?_; rintro e w2 ⟨rfl, hw⟩; rw [hw]; clear hw))
  refine ⟨rfl, _, (results_cell_tmp rfl _ _ _).trans ?_, rfl, 0, ?_⟩
  · go_simp
    kernel_rfl
  · kernel_rfl
set_option maxHeartbeats 1000000 in
theorem at_236 (w : World) : Calls Tryd.prog 38 #[.int .i64 236] w fun e w' => e = .returned (.tuple #[opv 236, .bool true]) ∧ ∃ m, w' = ((w.alloc (opo 236)).alloc (opo 236)).drewN m := by
  go_enter Tryd.func38, Tryd.ntmps38
  go_wp2_with (first | (go_at_call 49; refine (row_is _ _ _ _ _ _ _ _).mono ?_; rintro e w2 ⟨rfl, hw⟩; rw [hw]; clear hw))
  refine ⟨rfl, _, (results_cell_tmp rfl _ _ _).trans ?_, rfl, 0, ?_⟩
  · go_simp
    kernel_rfl
  · kernel_rfl
set_option maxHeartbeats 1000000 in
theorem at_238 (w : World) : Calls Tryd.prog 38 #[.int .i64 238] w fun e w' => e = .returned (.tuple #[opv 238, .bool true]) ∧ ∃ m, w' = ((w.alloc (opo 238)).alloc (opo 238)).drewN m := by
  go_enter Tryd.func38, Tryd.ntmps38
  go_wp2_with (first | (go_at_call 49; refine (row_is _ _ _ _ _ _ _ _).mono ?_; rintro e w2 ⟨rfl, hw⟩; rw [hw]; clear hw))
  refine ⟨rfl, _, (results_cell_tmp rfl _ _ _).trans ?_, rfl, 0, ?_⟩
  · go_simp
    kernel_rfl
  · kernel_rfl
set_option maxHeartbeats 1000000 in
theorem at_243 (w : World) : Calls Tryd.prog 38 #[.int .i64 243] w fun e w' => e = .returned (.tuple #[opv 243, .bool true]) ∧ ∃ m, w' = ((w.alloc (opo 243)).alloc (opo 243)).drewN m := by
  go_enter Tryd.func38, Tryd.ntmps38
  go_wp2_with (first | (go_at_call 49; refine (row_is _ _ _ _ _ _ _ _).mono ?_; rintro e w2 ⟨rfl, hw⟩; rw [hw]; clear hw))
  refine ⟨rfl, _, (results_cell_tmp rfl _ _ _).trans ?_, rfl, 0, ?_⟩
  · go_simp
    kernel_rfl
  · kernel_rfl
set_option maxHeartbeats 1000000 in
theorem at_247 (w : World) : Calls Tryd.prog 38 #[.int .i64 247] w fun e w' => e = .returned (.tuple #[opv 247, .bool true]) ∧ ∃ m, w' = ((w.alloc (opo 247)).alloc (opo 247)).drewN m := by
  go_enter Tryd.func38, Tryd.ntmps38
  go_wp2_with (first | (go_at_call 49; refine (row_is _ _ _ _ _ _ _ _).mono ?_; rintro e w2 ⟨rfl, hw⟩; rw [hw]; clear hw))
  refine ⟨rfl, _, (results_cell_tmp rfl _ _ _).trans ?_, rfl, 0, ?_⟩
  · go_simp
    kernel_rfl
  · kernel_rfl
set_option maxHeartbeats 1000000 in
theorem at_248 (w : World) : Calls Tryd.prog 38 #[.int .i64 248] w fun e w' => e = .returned (.tuple #[opv 248, .bool true]) ∧ ∃ m, w' = ((w.alloc (opo 248)).alloc (opo 248)).drewN m := by
  go_enter Tryd.func38, Tryd.ntmps38
  go_wp2_with (first | (go_at_call 49; refine (row_is _ _ _ _ _ _ _ _).mono ?_; rintro e w2 ⟨rfl, hw⟩; rw [hw]; clear hw))
  refine ⟨rfl, _, (results_cell_tmp rfl _ _ _).trans ?_, rfl, 0, ?_⟩
  · go_simp
    kernel_rfl
  · kernel_rfl
set_option maxHeartbeats 1000000 in
theorem at_249 (w : World) : Calls Tryd.prog 38 #[.int .i64 249] w fun e w' => e = .returned (.tuple #[opv 249, .bool true]) ∧ ∃ m, w' = ((w.alloc (opo 249)).alloc (opo 249)).drewN m := by
  go_enter Tryd.func38, Tryd.ntmps38
  go_wp2_with (first | (go_at_call 49; refine (row_is _ _ _ _ _ _ _ _).mono ?_; rintro e w2 ⟨rfl, hw⟩; rw [hw]; clear hw))
  refine ⟨rfl, _, (results_cell_tmp rfl _ _ _).trans ?_, rfl, 0, ?_⟩
  · go_simp
    kernel_rfl
  · kernel_rfl
set_option maxHeartbeats 1000000 in
theorem at_251 (w : World) : Calls Tryd.prog 38 #[.int .i64 251] w fun e w' => e = .returned (.tuple #[opv 251, .bool true]) ∧ ∃ m, w' = ((w.alloc (opo 251)).alloc (opo 251)).drewN m := by
  go_enter Tryd.func38, Tryd.ntmps38
  go_wp2_with (first | (go_at_call 49; refine (row_is _ _ _ _ _ _ _ _).mono ?_; rintro e w2 ⟨rfl, hw⟩; rw [hw]; clear hw))
  refine ⟨rfl, _, (results_cell_tmp rfl _ _ _).trans ?_, rfl, 0, ?_⟩
  · go_simp
    kernel_rfl
  · kernel_rfl
set_option maxHeartbeats 1000000 in
theorem at_253 (w : World) : Calls Tryd.prog 38 #[.int .i64 253] w fun e w' => e = .returned (.tuple #[opv 253, .bool true]) ∧ ∃ m, w' = ((w.alloc (opo 253)).alloc (opo 253)).drewN m := by
  go_enter Tryd.func38, Tryd.ntmps38
  go_wp2_with (first | (go_at_call 49; refine (row_is _ _ _ _ _ _ _ _).mono ?_; rintro e w2 ⟨rfl, hw⟩; rw [hw]; clear hw))
  refine ⟨rfl, _, (results_cell_tmp rfl _ _ _).trans ?_, rfl, 0, ?_⟩
  · go_simp
    kernel_rfl
  · kernel_rfl
set_option maxHeartbeats 1000000 in
theorem at_254 (w : World) : Calls Tryd.prog 38 #[.int .i64 254] w fun e w' => e = .returned (.tuple #[opv 254, .bool true]) ∧ ∃ m, w' = ((w.alloc (opo 254)).alloc (opo 254)).drewN m := by
  go_enter Tryd.func38, Tryd.ntmps38
  go_wp2_with (first | (go_at_call 49; refine (row_is _ _ _ _ _ _ _ _).mono ?_; rintro e w2 ⟨rfl, hw⟩; rw [hw]; clear hw))
  refine ⟨rfl, _, (results_cell_tmp rfl _ _ _).trans ?_, rfl, 0, ?_⟩
  · go_simp
    kernel_rfl
  · kernel_rfl
end Go.Proofs.YtcjmbpchdeapiaaDoor
