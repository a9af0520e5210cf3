/- What gasOf answers; names that have a number. -/
import Derived.Test.YtcjmbpchdeapiaaDoorOpa
namespace Go.Proofs.YtcjmbpchdeapiaaDoor
open Go.RowKit
set_option maxRecDepth 1000000
theorem gasOf_0 (w : World) : ((List.range 16).map fun i => evC Tryd.prog 2000 46 #[.int .i64 (Int.ofNat (0 + i))] w) = (List.range 16).map fun i => some (.int .i64 (gasT (0 + i)), w) := by kernel_rfl
theorem gasOf_1 (w : World) : ((List.range 16).map fun i => evC Tryd.prog 2000 46 #[.int .i64 (Int.ofNat (16 + i))] w) = (List.range 16).map fun i => some (.int .i64 (gasT (16 + i)), w) := by kernel_rfl
theorem gasOf_2 (w : World) : ((List.range 16).map fun i => evC Tryd.prog 2000 46 #[.int .i64 (Int.ofNat (32 + i))] w) = (List.range 16).map fun i => some (.int .i64 (gasT (32 + i)), w) := by kernel_rfl
theorem gasOf_3 (w : World) : ((List.range 16).map fun i => evC Tryd.prog 2000 46 #[.int .i64 (Int.ofNat (48 + i))] w) = (List.range 16).map fun i => some (.int .i64 (gasT (48 + i)), w) := by kernel_rfl
theorem gasOf_4 (w : World) : ((List.range 16).map fun i => evC Tryd.prog 2000 46 #[.int .i64 (Int.ofNat (64 + i))] w) = (List.range 16).map fun i => some (.int .i64 (gasT (64 + i)), w) := by kernel_rfl
theorem gasOf_5 (w : World) : ((List.range 16).map fun i => evC Tryd.prog 2000 46 #[.int .i64 (Int.ofNat (80 + i))] w) = (List.range 16).map fun i => some (.int .i64 (gasT (80 + i)), w) := by kernel_rfl
theorem gasOf_6 (w : World) : ((List.range 16).map fun i => evC Tryd.prog 2000 46 #[.int .i64 (Int.ofNat (96 + i))] w) = (List.range 16).map fun i => some (.int .i64 (gasT (96 + i)), w) := by kernel_rfl
theorem gasOf_7 (w : World) : ((List.range 16).map fun i => evC Tryd.prog 2000 46 #[.int .i64 (Int.ofNat (112 + i))] w) = (List.range 16).map fun i => some (.int .i64 (gasT (112 + i)), w) := by kernel_rfl
theorem gasOf_8 (w : World) : ((List.range 16).map fun i => evC Tryd.prog 2000 46 #[.int .i64 (Int.ofNat (128 + i))] w) = (List.range 16).map fun i => some (.int .i64 (gasT (128 + i)), w) := by kernel_rfl
theorem gasOf_9 (w : World) : ((List.range 16).map fun i => evC Tryd.prog 2000 46 #[.int .i64 (Int.ofNat (144 + i))] w) = (List.range 16).map fun i => some (.int .i64 (gasT (144 + i)), w) := by kernel_rfl
theorem gasOf_10 (w : World) : ((List.range 16).map fun i => evC Tryd.prog 2000 46 #[.int .i64 (Int.ofNat (160 + i))] w) = (List.range 16).map fun i => some (.int .i64 (gasT (160 + i)), w) := by kernel_rfl
theorem gasOf_11 (w : World) : ((List.range 16).map fun i => evC Tryd.prog 2000 46 #[.int .i64 (Int.ofNat (176 + i))] w) = (List.range 16).map fun i => some (.int .i64 (gasT (176 + i)), w) := by kernel_rfl
theorem gasOf_12 (w : World) : ((List.range 16).map fun i => evC Tryd.prog 2000 46 #[.int .i64 (Int.ofNat (192 + i))] w) = (List.range 16).map fun i => some (.int .i64 (gasT (192 + i)), w) := by kernel_rfl
theorem gasOf_13 (w : World) : ((List.range 16).map fun i => evC Tryd.prog 2000 46 #[.int .i64 (Int.ofNat (208 + i))] w) = (List.range 16).map fun i => some (.int .i64 (gasT (208 + i)), w) := by kernel_rfl
theorem gasOf_14 (w : World) : ((List.range 16).map fun i => evC Tryd.prog 2000 46 #[.int .i64 (Int.ofNat (224 + i))] w) = (List.range 16).map fun i => some (.int .i64 (gasT (224 + i)), w) := by kernel_rfl
theorem gasOf_15 (w : World) : ((List.range 16).map fun i => evC Tryd.prog 2000 46 #[.int .i64 (Int.ofNat (240 + i))] w) = (List.range 16).map fun i => some (.int .i64 (gasT (240 + i)), w) := by kernel_rfl
theorem gasOf_is (c : Nat) (hc : c < 256) (w : World) : Calls Tryd.prog 46 #[.int .i64 (c : Int)] w fun e w' => e = .returned (.int .i64 (gasT c)) ∧ w' = w := by
  have h : c / 16 = 0 ∨ c / 16 = 1 ∨ c / 16 = 2 ∨ c / 16 = 3 ∨ c / 16 = 4 ∨ c / 16 = 5 ∨ c / 16 = 6 ∨ c / 16 = 7 ∨ c / 16 = 8 ∨ c / 16 = 9 ∨ c / 16 = 10 ∨ c / 16 = 11 ∨ c / 16 = 12 ∨ c / 16 = 13 ∨ c / 16 = 14 ∨ c / 16 = 15 := by omega
  rcases h with h | h | h | h | h | h | h | h | h | h | h | h | h | h | h | h
  · have g := at_range (gasOf_0 w) (c % 16) (by omega); rw [show 0 + c % 16 = c by omega] at g; exact evC_calls g
  · have g := at_range (gasOf_1 w) (c % 16) (by omega); rw [show 16 + c % 16 = c by omega] at g; exact evC_calls g
  · have g := at_range (gasOf_2 w) (c % 16) (by omega); rw [show 32 + c % 16 = c by omega] at g; exact evC_calls g
  · have g := at_range (gasOf_3 w) (c % 16) (by omega); rw [show 48 + c % 16 = c by omega] at g; exact evC_calls g
  · have g := at_range (gasOf_4 w) (c % 16) (by omega); rw [show 64 + c % 16 = c by omega] at g; exact evC_calls g
  · have g := at_range (gasOf_5 w) (c % 16) (by omega); rw [show 80 + c % 16 = c by omega] at g; exact evC_calls g
  · have g := at_range (gasOf_6 w) (c % 16) (by omega); rw [show 96 + c % 16 = c by omega] at g; exact evC_calls g
  · have g := at_range (gasOf_7 w) (c % 16) (by omega); rw [show 112 + c % 16 = c by omega] at g; exact evC_calls g
  · have g := at_range (gasOf_8 w) (c % 16) (by omega); rw [show 128 + c % 16 = c by omega] at g; exact evC_calls g
  · have g := at_range (gasOf_9 w) (c % 16) (by omega); rw [show 144 + c % 16 = c by omega] at g; exact evC_calls g
  · have g := at_range (gasOf_10 w) (c % 16) (by omega); rw [show 160 + c % 16 = c by omega] at g; exact evC_calls g
  · have g := at_range (gasOf_11 w) (c % 16) (by omega); rw [show 176 + c % 16 = c by omega] at g; exact evC_calls g
  · have g := at_range (gasOf_12 w) (c % 16) (by omega); rw [show 192 + c % 16 = c by omega] at g; exact evC_calls g
  · have g := at_range (gasOf_13 w) (c % 16) (by omega); rw [show 208 + c % 16 = c by omega] at g; exact evC_calls g
  · have g := at_range (gasOf_14 w) (c % 16) (by omega); rw [show 224 + c % 16 = c by omega] at g; exact evC_calls g
  · have g := at_range (gasOf_15 w) (c % 16) (by omega); rw [show 240 + c % 16 = c by omega] at g; exact evC_calls g
theorem n60_run (w : World) : ((List.range 16).map fun i => evC Tryd.prog 2000 42 #[.int .i64 (Int.ofNat (96 + i))] w) = (List.range 16).map fun i => some (.string (nameT (96 + i)), w) := by kernel_rfl
theorem n70_run (w : World) : ((List.range 16).map fun i => evC Tryd.prog 2000 42 #[.int .i64 (Int.ofNat (112 + i))] w) = (List.range 16).map fun i => some (.string (nameT (112 + i)), w) := by kernel_rfl
theorem n80_run (w : World) : ((List.range 16).map fun i => evC Tryd.prog 2000 42 #[.int .i64 (Int.ofNat (128 + i))] w) = (List.range 16).map fun i => some (.string (nameT (128 + i)), w) := by kernel_rfl
theorem n90_run (w : World) : ((List.range 16).map fun i => evC Tryd.prog 2000 42 #[.int .i64 (Int.ofNat (144 + i))] w) = (List.range 16).map fun i => some (.string (nameT (144 + i)), w) := by kernel_rfl
theorem nA0_run (w : World) : ((List.range 5).map fun i => evC Tryd.prog 2000 42 #[.int .i64 (Int.ofNat (160 + i))] w) = (List.range 5).map fun i => some (.string (nameT (160 + i)), w) := by kernel_rfl
theorem n20_run (w : World) : ((List.range 1).map fun i => evC Tryd.prog 2000 42 #[.int .i64 (Int.ofNat (32 + i))] w) = (List.range 1).map fun i => some (.string (nameT (32 + i)), w) := by kernel_rfl
/-- a name that has a number -/
def Numb (c : Nat) : Prop := (96 ≤ c ∧ c < 165) ∨ c = 32
theorem nameOf_num (c : Nat) (hc : Numb c) (w : World) : Calls Tryd.prog 42 #[.int .i64 (c : Int)] w fun e w' => e = .returned (.string (nameT c)) ∧ w' = w := by
  unfold Numb at hc
  have h : (96 ≤ c ∧ c < 112) ∨ (112 ≤ c ∧ c < 128) ∨ (128 ≤ c ∧ c < 144) ∨ (144 ≤ c ∧ c < 160) ∨ (160 ≤ c ∧ c < 165) ∨ (32 ≤ c ∧ c < 33) := by omega
  rcases h with h | h | h | h | h | h
  · have g := at_range (n60_run w) (c - 96) (by omega); rw [show 96 + (c - 96) = c by omega] at g; exact evC_calls g
  · have g := at_range (n70_run w) (c - 112) (by omega); rw [show 112 + (c - 112) = c by omega] at g; exact evC_calls g
  · have g := at_range (n80_run w) (c - 128) (by omega); rw [show 128 + (c - 128) = c by omega] at g; exact evC_calls g
  · have g := at_range (n90_run w) (c - 144) (by omega); rw [show 144 + (c - 144) = c by omega] at g; exact evC_calls g
  · have g := at_range (nA0_run w) (c - 160) (by omega); rw [show 160 + (c - 160) = c by omega] at g; exact evC_calls g
  · have g := at_range (n20_run w) (c - 32) (by omega); rw [show 32 + (c - 32) = c by omega] at g; exact evC_calls g
end Go.Proofs.YtcjmbpchdeapiaaDoor
