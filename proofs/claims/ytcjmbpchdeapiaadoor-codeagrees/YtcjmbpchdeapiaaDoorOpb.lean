/- What outOf, endsOf answer. -/
import Derived.Test.YtcjmbpchdeapiaaDoorOpa
namespace Go.Proofs.YtcjmbpchdeapiaaDoor
open Go.RowKit
set_option maxRecDepth 1000000
theorem outOf_0 (w : World) : ((List.range 16).map fun i => evC Tryd.prog 2000 45 #[.int .i64 (Int.ofNat (0 + i))] w) = (List.range 16).map fun i => some (.int .i64 (outT (0 + i)), w) := by kernel_rfl
theorem outOf_1 (w : World) : ((List.range 16).map fun i => evC Tryd.prog 2000 45 #[.int .i64 (Int.ofNat (16 + i))] w) = (List.range 16).map fun i => some (.int .i64 (outT (16 + i)), w) := by kernel_rfl
theorem outOf_2 (w : World) : ((List.range 16).map fun i => evC Tryd.prog 2000 45 #[.int .i64 (Int.ofNat (32 + i))] w) = (List.range 16).map fun i => some (.int .i64 (outT (32 + i)), w) := by kernel_rfl
theorem outOf_3 (w : World) : ((List.range 16).map fun i => evC Tryd.prog 2000 45 #[.int .i64 (Int.ofNat (48 + i))] w) = (List.range 16).map fun i => some (.int .i64 (outT (48 + i)), w) := by kernel_rfl
theorem outOf_4 (w : World) : ((List.range 16).map fun i => evC Tryd.prog 2000 45 #[.int .i64 (Int.ofNat (64 + i))] w) = (List.range 16).map fun i => some (.int .i64 (outT (64 + i)), w) := by kernel_rfl
theorem outOf_5 (w : World) : ((List.range 16).map fun i => evC Tryd.prog 2000 45 #[.int .i64 (Int.ofNat (80 + i))] w) = (List.range 16).map fun i => some (.int .i64 (outT (80 + i)), w) := by kernel_rfl
theorem outOf_6 (w : World) : ((List.range 16).map fun i => evC Tryd.prog 2000 45 #[.int .i64 (Int.ofNat (96 + i))] w) = (List.range 16).map fun i => some (.int .i64 (outT (96 + i)), w) := by kernel_rfl
theorem outOf_7 (w : World) : ((List.range 16).map fun i => evC Tryd.prog 2000 45 #[.int .i64 (Int.ofNat (112 + i))] w) = (List.range 16).map fun i => some (.int .i64 (outT (112 + i)), w) := by kernel_rfl
theorem outOf_8 (w : World) : ((List.range 16).map fun i => evC Tryd.prog 2000 45 #[.int .i64 (Int.ofNat (128 + i))] w) = (List.range 16).map fun i => some (.int .i64 (outT (128 + i)), w) := by kernel_rfl
theorem outOf_9 (w : World) : ((List.range 16).map fun i => evC Tryd.prog 2000 45 #[.int .i64 (Int.ofNat (144 + i))] w) = (List.range 16).map fun i => some (.int .i64 (outT (144 + i)), w) := by kernel_rfl
theorem outOf_10 (w : World) : ((List.range 16).map fun i => evC Tryd.prog 2000 45 #[.int .i64 (Int.ofNat (160 + i))] w) = (List.range 16).map fun i => some (.int .i64 (outT (160 + i)), w) := by kernel_rfl
theorem outOf_11 (w : World) : ((List.range 16).map fun i => evC Tryd.prog 2000 45 #[.int .i64 (Int.ofNat (176 + i))] w) = (List.range 16).map fun i => some (.int .i64 (outT (176 + i)), w) := by kernel_rfl
theorem outOf_12 (w : World) : ((List.range 16).map fun i => evC Tryd.prog 2000 45 #[.int .i64 (Int.ofNat (192 + i))] w) = (List.range 16).map fun i => some (.int .i64 (outT (192 + i)), w) := by kernel_rfl
theorem outOf_13 (w : World) : ((List.range 16).map fun i => evC Tryd.prog 2000 45 #[.int .i64 (Int.ofNat (208 + i))] w) = (List.range 16).map fun i => some (.int .i64 (outT (208 + i)), w) := by kernel_rfl
theorem outOf_14 (w : World) : ((List.range 16).map fun i => evC Tryd.prog 2000 45 #[.int .i64 (Int.ofNat (224 + i))] w) = (List.range 16).map fun i => some (.int .i64 (outT (224 + i)), w) := by kernel_rfl
theorem outOf_15 (w : World) : ((List.range 16).map fun i => evC Tryd.prog 2000 45 #[.int .i64 (Int.ofNat (240 + i))] w) = (List.range 16).map fun i => some (.int .i64 (outT (240 + i)), w) := by kernel_rfl
theorem outOf_is (c : Nat) (hc : c < 256) (w : World) : Calls Tryd.prog 45 #[.int .i64 (c : Int)] w fun e w' => e = .returned (.int .i64 (outT c)) ∧ w' = w := by
  have h : c / 16 = 0 ∨ c / 16 = 1 ∨ c / 16 = 2 ∨ c / 16 = 3 ∨ c / 16 = 4 ∨ c / 16 = 5 ∨ c / 16 = 6 ∨ c / 16 = 7 ∨ c / 16 = 8 ∨ c / 16 = 9 ∨ c / 16 = 10 ∨ c / 16 = 11 ∨ c / 16 = 12 ∨ c / 16 = 13 ∨ c / 16 = 14 ∨ c / 16 = 15 := by omega
  rcases h with h | h | h | h | h | h | h | h | h | h | h | h | h | h | h | h
  · have g := at_range (outOf_0 w) (c % 16) (by omega); rw [show 0 + c % 16 = c by omega] at g; exact evC_calls g
  · have g := at_range (outOf_1 w) (c % 16) (by omega); rw [show 16 + c % 16 = c by omega] at g; exact evC_calls g
  · have g := at_range (outOf_2 w) (c % 16) (by omega); rw [show 32 + c % 16 = c by omega] at g; exact evC_calls g
  · have g := at_range (outOf_3 w) (c % 16) (by omega); rw [show 48 + c % 16 = c by omega] at g; exact evC_calls g
  · have g := at_range (outOf_4 w) (c % 16) (by omega); rw [show 64 + c % 16 = c by omega] at g; exact evC_calls g
  · have g := at_range (outOf_5 w) (c % 16) (by omega); rw [show 80 + c % 16 = c by omega] at g; exact evC_calls g
  · have g := at_range (outOf_6 w) (c % 16) (by omega); rw [show 96 + c % 16 = c by omega] at g; exact evC_calls g
  · have g := at_range (outOf_7 w) (c % 16) (by omega); rw [show 112 + c % 16 = c by omega] at g; exact evC_calls g
  · have g := at_range (outOf_8 w) (c % 16) (by omega); rw [show 128 + c % 16 = c by omega] at g; exact evC_calls g
  · have g := at_range (outOf_9 w) (c % 16) (by omega); rw [show 144 + c % 16 = c by omega] at g; exact evC_calls g
  · have g := at_range (outOf_10 w) (c % 16) (by omega); rw [show 160 + c % 16 = c by omega] at g; exact evC_calls g
  · have g := at_range (outOf_11 w) (c % 16) (by omega); rw [show 176 + c % 16 = c by omega] at g; exact evC_calls g
  · have g := at_range (outOf_12 w) (c % 16) (by omega); rw [show 192 + c % 16 = c by omega] at g; exact evC_calls g
  · have g := at_range (outOf_13 w) (c % 16) (by omega); rw [show 208 + c % 16 = c by omega] at g; exact evC_calls g
  · have g := at_range (outOf_14 w) (c % 16) (by omega); rw [show 224 + c % 16 = c by omega] at g; exact evC_calls g
  · have g := at_range (outOf_15 w) (c % 16) (by omega); rw [show 240 + c % 16 = c by omega] at g; exact evC_calls g
theorem endsOf_0 (w : World) : ((List.range 16).map fun i => evC Tryd.prog 2000 47 #[.int .i64 (Int.ofNat (0 + i))] w) = (List.range 16).map fun i => some (.bool (endsT (0 + i)), w) := by kernel_rfl
theorem endsOf_1 (w : World) : ((List.range 16).map fun i => evC Tryd.prog 2000 47 #[.int .i64 (Int.ofNat (16 + i))] w) = (List.range 16).map fun i => some (.bool (endsT (16 + i)), w) := by kernel_rfl
theorem endsOf_2 (w : World) : ((List.range 16).map fun i => evC Tryd.prog 2000 47 #[.int .i64 (Int.ofNat (32 + i))] w) = (List.range 16).map fun i => some (.bool (endsT (32 + i)), w) := by kernel_rfl
theorem endsOf_3 (w : World) : ((List.range 16).map fun i => evC Tryd.prog 2000 47 #[.int .i64 (Int.ofNat (48 + i))] w) = (List.range 16).map fun i => some (.bool (endsT (48 + i)), w) := by kernel_rfl
theorem endsOf_4 (w : World) : ((List.range 16).map fun i => evC Tryd.prog 2000 47 #[.int .i64 (Int.ofNat (64 + i))] w) = (List.range 16).map fun i => some (.bool (endsT (64 + i)), w) := by kernel_rfl
theorem endsOf_5 (w : World) : ((List.range 16).map fun i => evC Tryd.prog 2000 47 #[.int .i64 (Int.ofNat (80 + i))] w) = (List.range 16).map fun i => some (.bool (endsT (80 + i)), w) := by kernel_rfl
theorem endsOf_6 (w : World) : ((List.range 16).map fun i => evC Tryd.prog 2000 47 #[.int .i64 (Int.ofNat (96 + i))] w) = (List.range 16).map fun i => some (.bool (endsT (96 + i)), w) := by kernel_rfl
theorem endsOf_7 (w : World) : ((List.range 16).map fun i => evC Tryd.prog 2000 47 #[.int .i64 (Int.ofNat (112 + i))] w) = (List.range 16).map fun i => some (.bool (endsT (112 + i)), w) := by kernel_rfl
theorem endsOf_8 (w : World) : ((List.range 16).map fun i => evC Tryd.prog 2000 47 #[.int .i64 (Int.ofNat (128 + i))] w) = (List.range 16).map fun i => some (.bool (endsT (128 + i)), w) := by kernel_rfl
theorem endsOf_9 (w : World) : ((List.range 16).map fun i => evC Tryd.prog 2000 47 #[.int .i64 (Int.ofNat (144 + i))] w) = (List.range 16).map fun i => some (.bool (endsT (144 + i)), w) := by kernel_rfl
theorem endsOf_10 (w : World) : ((List.range 16).map fun i => evC Tryd.prog 2000 47 #[.int .i64 (Int.ofNat (160 + i))] w) = (List.range 16).map fun i => some (.bool (endsT (160 + i)), w) := by kernel_rfl
theorem endsOf_11 (w : World) : ((List.range 16).map fun i => evC Tryd.prog 2000 47 #[.int .i64 (Int.ofNat (176 + i))] w) = (List.range 16).map fun i => some (.bool (endsT (176 + i)), w) := by kernel_rfl
theorem endsOf_12 (w : World) : ((List.range 16).map fun i => evC Tryd.prog 2000 47 #[.int .i64 (Int.ofNat (192 + i))] w) = (List.range 16).map fun i => some (.bool (endsT (192 + i)), w) := by kernel_rfl
theorem endsOf_13 (w : World) : ((List.range 16).map fun i => evC Tryd.prog 2000 47 #[.int .i64 (Int.ofNat (208 + i))] w) = (List.range 16).map fun i => some (.bool (endsT (208 + i)), w) := by kernel_rfl
theorem endsOf_14 (w : World) : ((List.range 16).map fun i => evC Tryd.prog 2000 47 #[.int .i64 (Int.ofNat (224 + i))] w) = (List.range 16).map fun i => some (.bool (endsT (224 + i)), w) := by kernel_rfl
theorem endsOf_15 (w : World) : ((List.range 16).map fun i => evC Tryd.prog 2000 47 #[.int .i64 (Int.ofNat (240 + i))] w) = (List.range 16).map fun i => some (.bool (endsT (240 + i)), w) := by kernel_rfl
theorem endsOf_is (c : Nat) (hc : c < 256) (w : World) : Calls Tryd.prog 47 #[.int .i64 (c : Int)] w fun e w' => e = .returned (.bool (endsT c)) ∧ w' = w := by
  have h : c / 16 = 0 ∨ c / 16 = 1 ∨ c / 16 = 2 ∨ c / 16 = 3 ∨ c / 16 = 4 ∨ c / 16 = 5 ∨ c / 16 = 6 ∨ c / 16 = 7 ∨ c / 16 = 8 ∨ c / 16 = 9 ∨ c / 16 = 10 ∨ c / 16 = 11 ∨ c / 16 = 12 ∨ c / 16 = 13 ∨ c / 16 = 14 ∨ c / 16 = 15 := by omega
  rcases h with h | h | h | h | h | h | h | h | h | h | h | h | h | h | h | h
  · have g := at_range (endsOf_0 w) (c % 16) (by omega); rw [show 0 + c % 16 = c by omega] at g; exact evC_calls g
  · have g := at_range (endsOf_1 w) (c % 16) (by omega); rw [show 16 + c % 16 = c by omega] at g; exact evC_calls g
  · have g := at_range (endsOf_2 w) (c % 16) (by omega); rw [show 32 + c % 16 = c by omega] at g; exact evC_calls g
  · have g := at_range (endsOf_3 w) (c % 16) (by omega); rw [show 48 + c % 16 = c by omega] at g; exact evC_calls g
  · have g := at_range (endsOf_4 w) (c % 16) (by omega); rw [show 64 + c % 16 = c by omega] at g; exact evC_calls g
  · have g := at_range (endsOf_5 w) (c % 16) (by omega); rw [show 80 + c % 16 = c by omega] at g; exact evC_calls g
  · have g := at_range (endsOf_6 w) (c % 16) (by omega); rw [show 96 + c % 16 = c by omega] at g; exact evC_calls g
  · have g := at_range (endsOf_7 w) (c % 16) (by omega); rw [show 112 + c % 16 = c by omega] at g; exact evC_calls g
  · have g := at_range (endsOf_8 w) (c % 16) (by omega); rw [show 128 + c % 16 = c by omega] at g; exact evC_calls g
  · have g := at_range (endsOf_9 w) (c % 16) (by omega); rw [show 144 + c % 16 = c by omega] at g; exact evC_calls g
  · have g := at_range (endsOf_10 w) (c % 16) (by omega); rw [show 160 + c % 16 = c by omega] at g; exact evC_calls g
  · have g := at_range (endsOf_11 w) (c % 16) (by omega); rw [show 176 + c % 16 = c by omega] at g; exact evC_calls g
  · have g := at_range (endsOf_12 w) (c % 16) (by omega); rw [show 192 + c % 16 = c by omega] at g; exact evC_calls g
  · have g := at_range (endsOf_13 w) (c % 16) (by omega); rw [show 208 + c % 16 = c by omega] at g; exact evC_calls g
  · have g := at_range (endsOf_14 w) (c % 16) (by omega); rw [show 224 + c % 16 = c by omega] at g; exact evC_calls g
  · have g := at_range (endsOf_15 w) (c % 16) (by omega); rw [show 240 + c % 16 = c by omega] at g; exact evC_calls g
end Go.Proofs.YtcjmbpchdeapiaaDoor
