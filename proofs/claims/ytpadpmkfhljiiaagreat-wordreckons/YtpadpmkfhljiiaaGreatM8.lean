/- Shifts: what shiftUp and shiftDown make of a word, limb by limb, by how many whole limbs they shift. -/
import Derived.Test.YtpadpmkfhljiiaaGreatM3
import Derived.Test.YtpadpmkfhljiiaaGreatM7
import Derived.WalkMore
import Derived.Test.YtpadpmkfhljiiaaGreatM5
import Derived.Test.YtpadpmkfhljiiaaGreatM6
namespace Go.Proofs.YtpadpmkfhljiiaaGreat
open Go.RowKit

set_option maxHeartbeats 1000000 in
set_option maxRecDepth 100000 in
theorem shiftUp0 (a0 a1 a2 a3 : Int) (n r : Int) (w : World) (_hn0 : 0 ≤ n) (_hn : n < 256) (hq : n / 64 = 0) (hr : n % 64 = r) (_r0 : 0 ≤ r) (_r1 : r < 64) :
    Calls Tryz.prog 105 #[.agg #[.int .u64 a0, .int .u64 a1, .int .u64 a2, .int .u64 a3], .int .u64 n] w fun e w' => e = .returned (.agg #[.int .u64 (IntKind.u64.wrap (a0 * 2 ^ r.toNat)), .int .u64 (bits .or .u64 (IntKind.u64.wrap (a1 * 2 ^ r.toNat)) (a0 / 2 ^ (64 - r).toNat)), .int .u64 (bits .or .u64 (IntKind.u64.wrap (a2 * 2 ^ r.toNat)) (a1 / 2 ^ (64 - r).toNat)), .int .u64 (bits .or .u64 (IntKind.u64.wrap (a3 * 2 ^ r.toNat)) (a2 / 2 ^ (64 - r).toNat))]) ∧ Below w.heap.size w w' := by
  go_enter Tryz.func105, Tryz.ntmps105
  go_wp2
  refine wp_loop_rounds 5 ?_
  rw [rounds_succ]
  go_wp2
  rw [rounds_succ]
  go_wp2
  go_region
  go_wp2
  rw [rounds_succ]
  go_wp2
  go_region
  go_wp2
  rw [rounds_succ]
  go_wp2
  go_region
  go_wp2
  rw [rounds_succ]
  go_wp2
  exact bodyPost_ret (v := .agg #[.int .u64 (IntKind.u64.wrap (a0 * 2 ^ r.toNat)), .int .u64 (bits .or .u64 (IntKind.u64.wrap (a1 * 2 ^ r.toNat)) (a0 / 2 ^ (64 - r).toNat)), .int .u64 (bits .or .u64 (IntKind.u64.wrap (a2 * 2 ^ r.toNat)) (a1 / 2 ^ (64 - r).toNat)), .int .u64 (bits .or .u64 (IntKind.u64.wrap (a3 * 2 ^ r.toNat)) (a2 / 2 ^ (64 - r).toNat))]) (by simp [results, Tryz.results105, go_sem]) rfl ⟨rfl, by repeat' (first | with_reducible exact Below.refl _ _ | with_reducible exact Below.refl _ _ | with_reducible refine Below.drew ?_ | with_reducible refine bdrewN ?_ _ | with_reducible refine Below.alloc ?_ ?_ _ | with_reducible refine Below.setCell ?_ ?_ _ | omega | (simp; done) | (simp; omega))⟩

set_option maxHeartbeats 1000000 in
set_option maxRecDepth 100000 in
theorem shiftUp1 (a0 a1 a2 a3 : Int) (n r : Int) (w : World) (_hn0 : 0 ≤ n) (_hn : n < 256) (hq : n / 64 = 1) (hr : n % 64 = r) (_r0 : 0 ≤ r) (_r1 : r < 64) :
    Calls Tryz.prog 105 #[.agg #[.int .u64 a0, .int .u64 a1, .int .u64 a2, .int .u64 a3], .int .u64 n] w fun e w' => e = .returned (.agg #[.int .u64 0, .int .u64 (IntKind.u64.wrap (a0 * 2 ^ r.toNat)), .int .u64 (bits .or .u64 (IntKind.u64.wrap (a1 * 2 ^ r.toNat)) (a0 / 2 ^ (64 - r).toNat)), .int .u64 (bits .or .u64 (IntKind.u64.wrap (a2 * 2 ^ r.toNat)) (a1 / 2 ^ (64 - r).toNat))]) ∧ Below w.heap.size w w' := by
  go_enter Tryz.func105, Tryz.ntmps105
  go_wp2
  refine wp_loop_rounds 5 ?_
  rw [rounds_succ]
  go_wp2
  rw [rounds_succ]
  go_wp2
  go_region
  go_wp2
  rw [rounds_succ]
  go_wp2
  go_region
  go_wp2
  rw [rounds_succ]
  go_wp2
  exact bodyPost_ret (v := .agg #[.int .u64 0, .int .u64 (IntKind.u64.wrap (a0 * 2 ^ r.toNat)), .int .u64 (bits .or .u64 (IntKind.u64.wrap (a1 * 2 ^ r.toNat)) (a0 / 2 ^ (64 - r).toNat)), .int .u64 (bits .or .u64 (IntKind.u64.wrap (a2 * 2 ^ r.toNat)) (a1 / 2 ^ (64 - r).toNat))]) (by simp [results, Tryz.results105, go_sem]) rfl ⟨rfl, by repeat' (first | with_reducible exact Below.refl _ _ | with_reducible exact Below.refl _ _ | with_reducible refine Below.drew ?_ | with_reducible refine bdrewN ?_ _ | with_reducible refine Below.alloc ?_ ?_ _ | with_reducible refine Below.setCell ?_ ?_ _ | omega | (simp; done) | (simp; omega))⟩

set_option maxHeartbeats 1000000 in
set_option maxRecDepth 100000 in
theorem shiftUp2 (a0 a1 a2 a3 : Int) (n r : Int) (w : World) (_hn0 : 0 ≤ n) (_hn : n < 256) (hq : n / 64 = 2) (hr : n % 64 = r) (_r0 : 0 ≤ r) (_r1 : r < 64) :
    Calls Tryz.prog 105 #[.agg #[.int .u64 a0, .int .u64 a1, .int .u64 a2, .int .u64 a3], .int .u64 n] w fun e w' => e = .returned (.agg #[.int .u64 0, .int .u64 0, .int .u64 (IntKind.u64.wrap (a0 * 2 ^ r.toNat)), .int .u64 (bits .or .u64 (IntKind.u64.wrap (a1 * 2 ^ r.toNat)) (a0 / 2 ^ (64 - r).toNat))]) ∧ Below w.heap.size w w' := by
  go_enter Tryz.func105, Tryz.ntmps105
  go_wp2
  refine wp_loop_rounds 5 ?_
  rw [rounds_succ]
  go_wp2
  rw [rounds_succ]
  go_wp2
  go_region
  go_wp2
  rw [rounds_succ]
  go_wp2
  exact bodyPost_ret (v := .agg #[.int .u64 0, .int .u64 0, .int .u64 (IntKind.u64.wrap (a0 * 2 ^ r.toNat)), .int .u64 (bits .or .u64 (IntKind.u64.wrap (a1 * 2 ^ r.toNat)) (a0 / 2 ^ (64 - r).toNat))]) (by simp [results, Tryz.results105, go_sem]) rfl ⟨rfl, by repeat' (first | with_reducible exact Below.refl _ _ | with_reducible exact Below.refl _ _ | with_reducible refine Below.drew ?_ | with_reducible refine bdrewN ?_ _ | with_reducible refine Below.alloc ?_ ?_ _ | with_reducible refine Below.setCell ?_ ?_ _ | omega | (simp; done) | (simp; omega))⟩

set_option maxHeartbeats 1000000 in
set_option maxRecDepth 100000 in
theorem shiftUp3 (a0 a1 a2 a3 : Int) (n r : Int) (w : World) (_hn0 : 0 ≤ n) (_hn : n < 256) (hq : n / 64 = 3) (hr : n % 64 = r) (_r0 : 0 ≤ r) (_r1 : r < 64) :
    Calls Tryz.prog 105 #[.agg #[.int .u64 a0, .int .u64 a1, .int .u64 a2, .int .u64 a3], .int .u64 n] w fun e w' => e = .returned (.agg #[.int .u64 0, .int .u64 0, .int .u64 0, .int .u64 (IntKind.u64.wrap (a0 * 2 ^ r.toNat))]) ∧ Below w.heap.size w w' := by
  go_enter Tryz.func105, Tryz.ntmps105
  go_wp2
  refine wp_loop_rounds 5 ?_
  rw [rounds_succ]
  go_wp2
  rw [rounds_succ]
  go_wp2
  exact bodyPost_ret (v := .agg #[.int .u64 0, .int .u64 0, .int .u64 0, .int .u64 (IntKind.u64.wrap (a0 * 2 ^ r.toNat))]) (by simp [results, Tryz.results105, go_sem]) rfl ⟨rfl, by repeat' (first | with_reducible exact Below.refl _ _ | with_reducible exact Below.refl _ _ | with_reducible refine Below.drew ?_ | with_reducible refine bdrewN ?_ _ | with_reducible refine Below.alloc ?_ ?_ _ | with_reducible refine Below.setCell ?_ ?_ _ | omega | (simp; done) | (simp; omega))⟩

set_option maxHeartbeats 1000000 in
set_option maxRecDepth 100000 in
theorem shiftDown0 (a0 a1 a2 a3 : Int) (n r f : Int) (w : World) (_hn0 : 0 ≤ n) (_hn : n < 256) (hq : n / 64 = 0) (hr : n % 64 = r) (_r0 : 0 ≤ r) (_r1 : r < 64) :
    Calls Tryz.prog 101 #[.agg #[.int .u64 a0, .int .u64 a1, .int .u64 a2, .int .u64 a3], .int .u64 n, .int .u64 f] w fun e w' => e = .returned (.agg #[.int .u64 (bits .or .u64 (a0 / 2 ^ r.toNat) (IntKind.u64.wrap (a1 * 2 ^ (64 - r).toNat))), .int .u64 (bits .or .u64 (a1 / 2 ^ r.toNat) (IntKind.u64.wrap (a2 * 2 ^ (64 - r).toNat))), .int .u64 (bits .or .u64 (a2 / 2 ^ r.toNat) (IntKind.u64.wrap (a3 * 2 ^ (64 - r).toNat))), .int .u64 (bits .or .u64 (a3 / 2 ^ r.toNat) (IntKind.u64.wrap (f * 2 ^ (64 - r).toNat)))]) ∧ Below w.heap.size w w' := by
  go_enter Tryz.func101, Tryz.ntmps101
  go_wp2
  refine wp_loop_rounds 5 ?_
  rw [rounds_succ]
  go_wp2
  go_region
  go_wp2
  rw [rounds_succ]
  go_wp2
  go_region
  go_wp2
  rw [rounds_succ]
  go_wp2
  go_region
  go_wp2
  rw [rounds_succ]
  go_wp2
  go_region
  go_wp2
  rw [rounds_succ]
  go_wp2
  exact bodyPost_ret (v := .agg #[.int .u64 (bits .or .u64 (a0 / 2 ^ r.toNat) (IntKind.u64.wrap (a1 * 2 ^ (64 - r).toNat))), .int .u64 (bits .or .u64 (a1 / 2 ^ r.toNat) (IntKind.u64.wrap (a2 * 2 ^ (64 - r).toNat))), .int .u64 (bits .or .u64 (a2 / 2 ^ r.toNat) (IntKind.u64.wrap (a3 * 2 ^ (64 - r).toNat))), .int .u64 (bits .or .u64 (a3 / 2 ^ r.toNat) (IntKind.u64.wrap (f * 2 ^ (64 - r).toNat)))]) (by simp [results, Tryz.results101, go_sem]) rfl ⟨rfl, by repeat' (first | with_reducible exact Below.refl _ _ | with_reducible exact Below.refl _ _ | with_reducible refine Below.drew ?_ | with_reducible refine bdrewN ?_ _ | with_reducible refine Below.alloc ?_ ?_ _ | with_reducible refine Below.setCell ?_ ?_ _ | omega | (simp; done) | (simp; omega))⟩

set_option maxHeartbeats 1000000 in
set_option maxRecDepth 100000 in
theorem shiftDown1 (a0 a1 a2 a3 : Int) (n r f : Int) (w : World) (_hn0 : 0 ≤ n) (_hn : n < 256) (hq : n / 64 = 1) (hr : n % 64 = r) (_r0 : 0 ≤ r) (_r1 : r < 64) :
    Calls Tryz.prog 101 #[.agg #[.int .u64 a0, .int .u64 a1, .int .u64 a2, .int .u64 a3], .int .u64 n, .int .u64 f] w fun e w' => e = .returned (.agg #[.int .u64 (bits .or .u64 (a1 / 2 ^ r.toNat) (IntKind.u64.wrap (a2 * 2 ^ (64 - r).toNat))), .int .u64 (bits .or .u64 (a2 / 2 ^ r.toNat) (IntKind.u64.wrap (a3 * 2 ^ (64 - r).toNat))), .int .u64 (bits .or .u64 (a3 / 2 ^ r.toNat) (IntKind.u64.wrap (f * 2 ^ (64 - r).toNat))), .int .u64 (bits .or .u64 (f / 2 ^ r.toNat) (IntKind.u64.wrap (f * 2 ^ (64 - r).toNat)))]) ∧ Below w.heap.size w w' := by
  go_enter Tryz.func101, Tryz.ntmps101
  go_wp2
  refine wp_loop_rounds 5 ?_
  rw [rounds_succ]
  go_wp2
  go_region
  go_wp2
  rw [rounds_succ]
  go_wp2
  go_region
  go_wp2
  rw [rounds_succ]
  go_wp2
  go_region
  go_wp2
  rw [rounds_succ]
  go_wp2
  go_region
  go_wp2
  rw [rounds_succ]
  go_wp2
  exact bodyPost_ret (v := .agg #[.int .u64 (bits .or .u64 (a1 / 2 ^ r.toNat) (IntKind.u64.wrap (a2 * 2 ^ (64 - r).toNat))), .int .u64 (bits .or .u64 (a2 / 2 ^ r.toNat) (IntKind.u64.wrap (a3 * 2 ^ (64 - r).toNat))), .int .u64 (bits .or .u64 (a3 / 2 ^ r.toNat) (IntKind.u64.wrap (f * 2 ^ (64 - r).toNat))), .int .u64 (bits .or .u64 (f / 2 ^ r.toNat) (IntKind.u64.wrap (f * 2 ^ (64 - r).toNat)))]) (by simp [results, Tryz.results101, go_sem]) rfl ⟨rfl, by repeat' (first | with_reducible exact Below.refl _ _ | with_reducible exact Below.refl _ _ | with_reducible refine Below.drew ?_ | with_reducible refine bdrewN ?_ _ | with_reducible refine Below.alloc ?_ ?_ _ | with_reducible refine Below.setCell ?_ ?_ _ | omega | (simp; done) | (simp; omega))⟩

set_option maxHeartbeats 1000000 in
set_option maxRecDepth 100000 in
theorem shiftDown2 (a0 a1 a2 a3 : Int) (n r f : Int) (w : World) (_hn0 : 0 ≤ n) (_hn : n < 256) (hq : n / 64 = 2) (hr : n % 64 = r) (_r0 : 0 ≤ r) (_r1 : r < 64) :
    Calls Tryz.prog 101 #[.agg #[.int .u64 a0, .int .u64 a1, .int .u64 a2, .int .u64 a3], .int .u64 n, .int .u64 f] w fun e w' => e = .returned (.agg #[.int .u64 (bits .or .u64 (a2 / 2 ^ r.toNat) (IntKind.u64.wrap (a3 * 2 ^ (64 - r).toNat))), .int .u64 (bits .or .u64 (a3 / 2 ^ r.toNat) (IntKind.u64.wrap (f * 2 ^ (64 - r).toNat))), .int .u64 (bits .or .u64 (f / 2 ^ r.toNat) (IntKind.u64.wrap (f * 2 ^ (64 - r).toNat))), .int .u64 (bits .or .u64 (f / 2 ^ r.toNat) (IntKind.u64.wrap (f * 2 ^ (64 - r).toNat)))]) ∧ Below w.heap.size w w' := by
  go_enter Tryz.func101, Tryz.ntmps101
  go_wp2
  refine wp_loop_rounds 5 ?_
  rw [rounds_succ]
  go_wp2
  go_region
  go_wp2
  rw [rounds_succ]
  go_wp2
  go_region
  go_wp2
  rw [rounds_succ]
  go_wp2
  go_region
  go_wp2
  rw [rounds_succ]
  go_wp2
  go_region
  go_wp2
  rw [rounds_succ]
  go_wp2
  exact bodyPost_ret (v := .agg #[.int .u64 (bits .or .u64 (a2 / 2 ^ r.toNat) (IntKind.u64.wrap (a3 * 2 ^ (64 - r).toNat))), .int .u64 (bits .or .u64 (a3 / 2 ^ r.toNat) (IntKind.u64.wrap (f * 2 ^ (64 - r).toNat))), .int .u64 (bits .or .u64 (f / 2 ^ r.toNat) (IntKind.u64.wrap (f * 2 ^ (64 - r).toNat))), .int .u64 (bits .or .u64 (f / 2 ^ r.toNat) (IntKind.u64.wrap (f * 2 ^ (64 - r).toNat)))]) (by simp [results, Tryz.results101, go_sem]) rfl ⟨rfl, by repeat' (first | with_reducible exact Below.refl _ _ | with_reducible exact Below.refl _ _ | with_reducible refine Below.drew ?_ | with_reducible refine bdrewN ?_ _ | with_reducible refine Below.alloc ?_ ?_ _ | with_reducible refine Below.setCell ?_ ?_ _ | omega | (simp; done) | (simp; omega))⟩

set_option maxHeartbeats 1000000 in
set_option maxRecDepth 100000 in
theorem shiftDown3 (a0 a1 a2 a3 : Int) (n r f : Int) (w : World) (_hn0 : 0 ≤ n) (_hn : n < 256) (hq : n / 64 = 3) (hr : n % 64 = r) (_r0 : 0 ≤ r) (_r1 : r < 64) :
    Calls Tryz.prog 101 #[.agg #[.int .u64 a0, .int .u64 a1, .int .u64 a2, .int .u64 a3], .int .u64 n, .int .u64 f] w fun e w' => e = .returned (.agg #[.int .u64 (bits .or .u64 (a3 / 2 ^ r.toNat) (IntKind.u64.wrap (f * 2 ^ (64 - r).toNat))), .int .u64 (bits .or .u64 (f / 2 ^ r.toNat) (IntKind.u64.wrap (f * 2 ^ (64 - r).toNat))), .int .u64 (bits .or .u64 (f / 2 ^ r.toNat) (IntKind.u64.wrap (f * 2 ^ (64 - r).toNat))), .int .u64 (bits .or .u64 (f / 2 ^ r.toNat) (IntKind.u64.wrap (f * 2 ^ (64 - r).toNat)))]) ∧ Below w.heap.size w w' := by
  go_enter Tryz.func101, Tryz.ntmps101
  go_wp2
  refine wp_loop_rounds 5 ?_
  rw [rounds_succ]
  go_wp2
  go_region
  go_wp2
  rw [rounds_succ]
  go_wp2
  go_region
  go_wp2
  rw [rounds_succ]
  go_wp2
  go_region
  go_wp2
  rw [rounds_succ]
  go_wp2
  go_region
  go_wp2
  rw [rounds_succ]
  go_wp2
  exact bodyPost_ret (v := .agg #[.int .u64 (bits .or .u64 (a3 / 2 ^ r.toNat) (IntKind.u64.wrap (f * 2 ^ (64 - r).toNat))), .int .u64 (bits .or .u64 (f / 2 ^ r.toNat) (IntKind.u64.wrap (f * 2 ^ (64 - r).toNat))), .int .u64 (bits .or .u64 (f / 2 ^ r.toNat) (IntKind.u64.wrap (f * 2 ^ (64 - r).toNat))), .int .u64 (bits .or .u64 (f / 2 ^ r.toNat) (IntKind.u64.wrap (f * 2 ^ (64 - r).toNat)))]) (by simp [results, Tryz.results101, go_sem]) rfl ⟨rfl, by repeat' (first | with_reducible exact Below.refl _ _ | with_reducible exact Below.refl _ _ | with_reducible refine Below.drew ?_ | with_reducible refine bdrewN ?_ _ | with_reducible refine Below.alloc ?_ ?_ _ | with_reducible refine Below.setCell ?_ ?_ _ | omega | (simp; done) | (simp; omega))⟩

end Go.Proofs.YtpadpmkfhljiiaaGreat
/- shiftUp and shiftDown, whatever the count: the answer as four letters, and what it is worth. -/
namespace Go.Proofs.YtpadpmkfhljiiaaGreat
open Go.RowKit

theorem q4 (n : Int) (h0 : 0 ≤ n) (h1 : n < 256) : n / 64 = 0 ∨ n / 64 = 1 ∨ n / 64 = 2 ∨ n / 64 = 3 := by omega
theorem pow_0 (n : Int) (hq : n / 64 = 0) (h0 : 0 ≤ n) : (2 : Int) ^ n.toNat = 2 ^ (n % 64).toNat := by
  rw [pow_split n 0 _ hq rfl h0, show (0 : Int).toNat = 0 from rfl, Int.pow_zero, Int.mul_one]
theorem pow_1 (n : Int) (hq : n / 64 = 1) (h0 : 0 ≤ n) : (2 : Int) ^ n.toNat = 2 ^ (n % 64).toNat * Bd := by
  rw [pow_split n 1 _ hq rfl h0, show (1 : Int).toNat = 1 from rfl, Int.pow_succ, Int.pow_zero, Int.one_mul]; rfl
theorem pow_2 (n : Int) (hq : n / 64 = 2) (h0 : 0 ≤ n) : (2 : Int) ^ n.toNat = 2 ^ (n % 64).toNat * (Bd * Bd) := by
  rw [pow_split n 2 _ hq rfl h0, show (2 : Int).toNat = 2 from rfl, Int.pow_succ, Int.pow_succ, Int.pow_zero, Int.one_mul]; rfl
theorem pow_3 (n : Int) (hq : n / 64 = 3) (h0 : 0 ≤ n) : (2 : Int) ^ n.toNat = 2 ^ (n % 64).toNat * (Bd * Bd * Bd) := by
  rw [pow_split n 3 _ hq rfl h0, show (3 : Int).toNat = 3 from rfl, Int.pow_succ, Int.pow_succ, Int.pow_succ, Int.pow_zero, Int.one_mul]; rfl
theorem shiftUp_ex (x n : Int) (a0 a1 a2 a3 : Int) (ha : IsW x a0 a1 a2 a3) (h0 : 0 ≤ n) (h1 : n < 256) : ∃ s0 s1 s2 s3 : Int, (∀ w : World, Calls Tryz.prog 105 #[.agg #[.int .u64 a0, .int .u64 a1, .int .u64 a2, .int .u64 a3], .int .u64 n] w fun e w' => e = .returned (.agg #[.int .u64 s0, .int .u64 s1, .int .u64 s2, .int .u64 s3]) ∧ Below w.heap.size w w') ∧ IsW (x * 2 ^ n.toNat) s0 s1 s2 s3 := by
  have r0 : 0 ≤ n % 64 := by omega
  have r1 : n % 64 < 64 := by omega
  rcases q4 n h0 h1 with hq | hq | hq | hq
  · exact ⟨_, _, _, _, fun w => shiftUp0 a0 a1 a2 a3 n (n % 64) w h0 h1 hq rfl r0 r1, by rw [pow_0 n hq h0]; exact upW0 ha (n % 64) r0 r1⟩
  · exact ⟨_, _, _, _, fun w => shiftUp1 a0 a1 a2 a3 n (n % 64) w h0 h1 hq rfl r0 r1, by rw [pow_1 n hq h0]; exact upW1 ha (n % 64) r0 r1⟩
  · exact ⟨_, _, _, _, fun w => shiftUp2 a0 a1 a2 a3 n (n % 64) w h0 h1 hq rfl r0 r1, by rw [pow_2 n hq h0]; exact upW2 ha (n % 64) r0 r1⟩
  · exact ⟨_, _, _, _, fun w => shiftUp3 a0 a1 a2 a3 n (n % 64) w h0 h1 hq rfl r0 r1, by rw [pow_3 n hq h0]; exact upW3 ha (n % 64) r0 r1⟩

theorem down0 {P z0 z1 z2 z3 f s0 s1 s2 s3 : Int} (e0 : s0 * P = z0 - z0 % P + Bd * (z1 % P)) (e1 : s1 * P = z1 - z1 % P + Bd * (z2 % P)) (e2 : s2 * P = z2 - z2 % P + Bd * (z3 % P)) (e3 : s3 * P = z3 - z3 % P + Bd * (f % P))  (hm : z0 % P = 0) : (V s0 s1 s2 s3 * P) % MM = V z0 z1 z2 z3 % MM := by
  have hh : V s0 s1 s2 s3 * P = (s0 * P + Bd * (s1 * P + Bd * (s2 * P + Bd * (s3 * P)))) := by unfold V; grind
  rw [hh, e0, e1, e2, e3, hm]
  generalize f % P = g
  generalize z1 % P = g1
  generalize z2 % P = g2
  generalize z3 % P = g3
  unfold V Bd MM; omega
theorem down1 {P z0 z1 z2 z3 f s0 s1 s2 s3 : Int} (e0 : s0 * P = z1 - z1 % P + Bd * (z2 % P)) (e1 : s1 * P = z2 - z2 % P + Bd * (z3 % P)) (e2 : s2 * P = z3 - z3 % P + Bd * (f % P)) (e3 : s3 * P = f - f % P + Bd * (f % P)) (h0 : z0 = 0) (hm : z1 % P = 0) : (V s0 s1 s2 s3 * (P * Bd)) % MM = V z0 z1 z2 z3 % MM := by
  have hh : V s0 s1 s2 s3 * (P * Bd) = (s0 * P + Bd * (s1 * P + Bd * (s2 * P + Bd * (s3 * P)))) * Bd := by unfold V; grind
  rw [hh, e0, e1, e2, e3, hm]
  subst h0
  generalize f % P = g
  generalize z2 % P = g2
  generalize z3 % P = g3
  unfold V Bd MM; omega
theorem down2 {P z0 z1 z2 z3 f s0 s1 s2 s3 : Int} (e0 : s0 * P = z2 - z2 % P + Bd * (z3 % P)) (e1 : s1 * P = z3 - z3 % P + Bd * (f % P)) (e2 : s2 * P = f - f % P + Bd * (f % P)) (e3 : s3 * P = f - f % P + Bd * (f % P)) (h0 : z0 = 0) (h1 : z1 = 0) (hm : z2 % P = 0) : (V s0 s1 s2 s3 * (P * (Bd * Bd))) % MM = V z0 z1 z2 z3 % MM := by
  have hh : V s0 s1 s2 s3 * (P * (Bd * Bd)) = (s0 * P + Bd * (s1 * P + Bd * (s2 * P + Bd * (s3 * P)))) * Bd * Bd := by unfold V; grind
  rw [hh, e0, e1, e2, e3, hm]
  subst h0
  subst h1
  generalize f % P = g
  generalize z3 % P = g3
  unfold V Bd MM; omega
theorem down3 {P z0 z1 z2 z3 f s0 s1 s2 s3 : Int} (e0 : s0 * P = z3 - z3 % P + Bd * (f % P)) (e1 : s1 * P = f - f % P + Bd * (f % P)) (e2 : s2 * P = f - f % P + Bd * (f % P)) (e3 : s3 * P = f - f % P + Bd * (f % P)) (h0 : z0 = 0) (h1 : z1 = 0) (h2 : z2 = 0) (hm : z3 % P = 0) : (V s0 s1 s2 s3 * (P * (Bd * Bd * Bd))) % MM = V z0 z1 z2 z3 % MM := by
  have hh : V s0 s1 s2 s3 * (P * (Bd * Bd * Bd)) = (s0 * P + Bd * (s1 * P + Bd * (s2 * P + Bd * (s3 * P)))) * Bd * Bd * Bd := by unfold V; grind
  rw [hh, e0, e1, e2, e3, hm]
  subst h0
  subst h1
  subst h2
  generalize f % P = g
  unfold V Bd MM; omega
theorem upL_mod (a r : Int) (ha : U64 a) (h0 : 0 ≤ r) (h1 : r < 64) : upL a r % 2 ^ r.toNat = 0 := by
  obtain ⟨P, Q, m, c, _, eP, _, w0, _, _, _, _, _⟩ := up_ex a r ha h0 h1
  rw [upL, w0, eP, Int.natCast_mul]; exact Int.mul_emod_right _ _
/-- up by n and down again, whatever comes in from above: two words, and the second times 2^n is the first -/
theorem updown_ex (x n : Int) (a0 a1 a2 a3 : Int) (ha : IsW x a0 a1 a2 a3) (h0 : 0 ≤ n) (h1 : n < 256) : ∃ z0 z1 z2 z3 : Int, (∀ w : World, Calls Tryz.prog 105 #[.agg #[.int .u64 a0, .int .u64 a1, .int .u64 a2, .int .u64 a3], .int .u64 n] w fun e w' => e = .returned (.agg #[.int .u64 z0, .int .u64 z1, .int .u64 z2, .int .u64 z3]) ∧ Below w.heap.size w w') ∧ IsW (x * 2 ^ n.toNat) z0 z1 z2 z3 ∧
    ∀ f : Int, U64 f → ∃ s0 s1 s2 s3 : Int, (∀ w : World, Calls Tryz.prog 101 #[.agg #[.int .u64 z0, .int .u64 z1, .int .u64 z2, .int .u64 z3], .int .u64 n, .int .u64 f] w fun e w' => e = .returned (.agg #[.int .u64 s0, .int .u64 s1, .int .u64 s2, .int .u64 s3]) ∧ Below w.heap.size w w') ∧ ∃ y : Int, IsW y s0 s1 s2 s3 ∧ (y * 2 ^ n.toNat) % MM = (x * 2 ^ n.toNat) % MM := by
  have r0 : 0 ≤ n % 64 := by omega
  have r1 : n % 64 < 64 := by omega
  have hm := upL_mod a0 (n % 64) ha.u0 r0 r1
  rcases q4 n h0 h1 with hq | hq | hq | hq
  · have hz : IsW (x * 2 ^ n.toNat) (upL a0 (n % 64)) (upJ a1 a0 (n % 64)) (upJ a2 a1 (n % 64)) (upJ a3 a2 (n % 64)) := by rw [pow_0 n hq h0]; exact upW0 ha (n % 64) r0 r1
    refine ⟨_, _, _, _, fun w => shiftUp0 a0 a1 a2 a3 n (n % 64) w h0 h1 hq rfl r0 r1, hz, fun f hf => ?_⟩
    have D0 := dn_ex _ _ (n % 64) hz.u0 hz.u1 r0 r1
    have D1 := dn_ex _ _ (n % 64) hz.u1 hz.u2 r0 r1
    have D2 := dn_ex _ _ (n % 64) hz.u2 hz.u3 r0 r1
    have D3 := dn_ex _ _ (n % 64) hz.u3 hf r0 r1
    refine ⟨_, _, _, _, fun w => shiftDown0 _ _ _ _ n (n % 64) f w h0 h1 hq rfl r0 r1, _, isW_mk D0.1 D1.1 D2.1 D3.1, ?_⟩
    rw [← Int.emod_emod (x * 2 ^ n.toNat) MM, ← hz.2, pow_0 n hq h0]
    exact down0 D0.2 D1.2 D2.2 D3.2  hm
  · have hz : IsW (x * 2 ^ n.toNat) 0 (upL a0 (n % 64)) (upJ a1 a0 (n % 64)) (upJ a2 a1 (n % 64)) := by rw [pow_1 n hq h0]; exact upW1 ha (n % 64) r0 r1
    refine ⟨_, _, _, _, fun w => shiftUp1 a0 a1 a2 a3 n (n % 64) w h0 h1 hq rfl r0 r1, hz, fun f hf => ?_⟩
    have D0 := dn_ex _ _ (n % 64) hz.u1 hz.u2 r0 r1
    have D1 := dn_ex _ _ (n % 64) hz.u2 hz.u3 r0 r1
    have D2 := dn_ex _ _ (n % 64) hz.u3 hf r0 r1
    have D3 := dn_ex _ _ (n % 64) hf hf r0 r1
    refine ⟨_, _, _, _, fun w => shiftDown1 _ _ _ _ n (n % 64) f w h0 h1 hq rfl r0 r1, _, isW_mk D0.1 D1.1 D2.1 D3.1, ?_⟩
    rw [← Int.emod_emod (x * 2 ^ n.toNat) MM, ← hz.2, pow_1 n hq h0]
    exact down1 D0.2 D1.2 D2.2 D3.2 rfl hm
  · have hz : IsW (x * 2 ^ n.toNat) 0 0 (upL a0 (n % 64)) (upJ a1 a0 (n % 64)) := by rw [pow_2 n hq h0]; exact upW2 ha (n % 64) r0 r1
    refine ⟨_, _, _, _, fun w => shiftUp2 a0 a1 a2 a3 n (n % 64) w h0 h1 hq rfl r0 r1, hz, fun f hf => ?_⟩
    have D0 := dn_ex _ _ (n % 64) hz.u2 hz.u3 r0 r1
    have D1 := dn_ex _ _ (n % 64) hz.u3 hf r0 r1
    have D2 := dn_ex _ _ (n % 64) hf hf r0 r1
    have D3 := dn_ex _ _ (n % 64) hf hf r0 r1
    refine ⟨_, _, _, _, fun w => shiftDown2 _ _ _ _ n (n % 64) f w h0 h1 hq rfl r0 r1, _, isW_mk D0.1 D1.1 D2.1 D3.1, ?_⟩
    rw [← Int.emod_emod (x * 2 ^ n.toNat) MM, ← hz.2, pow_2 n hq h0]
    exact down2 D0.2 D1.2 D2.2 D3.2 rfl rfl hm
  · have hz : IsW (x * 2 ^ n.toNat) 0 0 0 (upL a0 (n % 64)) := by rw [pow_3 n hq h0]; exact upW3 ha (n % 64) r0 r1
    refine ⟨_, _, _, _, fun w => shiftUp3 a0 a1 a2 a3 n (n % 64) w h0 h1 hq rfl r0 r1, hz, fun f hf => ?_⟩
    have D0 := dn_ex _ _ (n % 64) hz.u3 hf r0 r1
    have D1 := dn_ex _ _ (n % 64) hf hf r0 r1
    have D2 := dn_ex _ _ (n % 64) hf hf r0 r1
    have D3 := dn_ex _ _ (n % 64) hf hf r0 r1
    refine ⟨_, _, _, _, fun w => shiftDown3 _ _ _ _ n (n % 64) f w h0 h1 hq rfl r0 r1, _, isW_mk D0.1 D1.1 D2.1 D3.1, ?_⟩
    rw [← Int.emod_emod (x * 2 ^ n.toNat) MM, ← hz.2, pow_3 n hq h0]
    exact down3 D0.2 D1.2 D2.2 D3.2 rfl rfl rfl hm
end Go.Proofs.YtpadpmkfhljiiaaGreat
/- divide: the quotient of eight parts by four, and what is left. -/
namespace Go.Proofs.YtpadpmkfhljiiaaGreat
open Go.RowKit
/-- what divide answers: by 0 both are 0 -/
def DivRes (u : Nat → Int) (v0 v1 v2 v3 : Int) (e : Ending) : Prop := ∃ (q : Nat → Int) (l0 l1 l2 l3 : Int), e = .returned (.tuple #[.agg (rowL 8 q).toArray, .agg #[.int .u64 l0, .int .u64 l1, .int .u64 l2, .int .u64 l3]]) ∧ (∀ i, U64 (q i)) ∧ nv q 8 = nv u 8 / V v0 v1 v2 v3 ∧ IsW (if V v0 v1 v2 v3 = 0 then 0 else nv u 8 % V v0 v1 v2 v3) l0 l1 l2 l3
/-- what lies there while it is divided: the number, and the two results -/
structure Dq (w : World) (u : Nat → Int) (W : World) : Prop where
  bel : Below w.heap.size w W
  ru : Row W w.heap.size 8 u
  z8 : Row W (w.heap.size + 1 + 1) 8 (fun _ => 0)
  z4 : Box W (w.heap.size + 1 + 1 + 1) 0 0 0 0
theorem Dq.past {w W W' : World} {u : Nat → Int} (h : Dq w u W) (k : Below W.heap.size W W') : Dq w u W' :=
  ⟨h.bel.trans (k.mono h.bel.size), h.ru.below k (h.ru.lt (by omega)), h.z8.below k (h.z8.lt (by omega)), h.z4.below k h.z4.lt⟩
theorem Dq.alloc {w W : World} {u : Nat → Int} (h : Dq w u W) (o : Obj) : Dq w u (W.alloc o) := ⟨h.bel.alloc h.bel.size _, h.ru.alloc _, h.z8.alloc _, h.z4.alloc _⟩
theorem Dq.cells {w W : World} {u : Nat → Int} (h : Dq w u W) (b o : Nat) (vs : List Value) (hb : w.heap.size + 1 + 1 + 1 < b) : Dq w u (W.setCells b o vs) :=
  ⟨below_setCells b (by omega) vs o W h.bel, Row.set_others (by omega) vs o h.ru, Row.set_others (by omega) vs o h.z8, Box.set_others (by omega) vs o h.z4⟩
theorem Dq.cell {w W : World} {u : Nat → Int} (h : Dq w u W) (b o : Nat) (x : Value) (hb : w.heap.size + 1 + 1 + 1 < b) : Dq w u (W.setCell ⟨b, o, none⟩ x) := h.cells b o [x] hb
/-- the blocks while it is divided -/
structure Dv (w : World) (u : Nat → Int) (d0 d1 d2 d3 : Int) (bd br bq : Nat) (r q : Nat → Int) (W : World) : Prop where
  bas : Dq w u W
  bd : Box W bd d0 d1 d2 d3
  rr : Row W br 9 r
  rq : Row W bq 8 q
theorem Dv.past {w W W' : World} {u : Nat → Int} {d0 d1 d2 d3 : Int} {bd br bq : Nat} {r q : Nat → Int} (h : Dv w u d0 d1 d2 d3 bd br bq r q W) (k : Below W.heap.size W W') : Dv w u d0 d1 d2 d3 bd br bq r q W' :=
  ⟨h.bas.past k, h.bd.below k h.bd.lt, h.rr.below k (h.rr.lt (by omega)), h.rq.below k (h.rq.lt (by omega))⟩
theorem Dv.drew {w W : World} {u : Nat → Int} {d0 d1 d2 d3 : Int} {bd br bq : Nat} {r q : Nat → Int} (h : Dv w u d0 d1 d2 d3 bd br bq r q W) : Dv w u d0 d1 d2 d3 bd br bq r q W.drew := ⟨⟨h.bas.bel.drew, h.bas.ru.drew, h.bas.z8.drew, h.bas.z4.drew⟩, h.bd.drew, h.rr.drew, h.rq.drew⟩
theorem Dv.alloc {w W : World} {u : Nat → Int} {d0 d1 d2 d3 : Int} {bd br bq : Nat} {r q : Nat → Int} (h : Dv w u d0 d1 d2 d3 bd br bq r q W) (o : Obj) : Dv w u d0 d1 d2 d3 bd br bq r q (W.alloc o) := ⟨h.bas.alloc _, h.bd.alloc _, h.rr.alloc _, h.rq.alloc _⟩
/-- another block is written -/
theorem Dv.cells {w W : World} {u : Nat → Int} {d0 d1 d2 d3 : Int} {bd br bq : Nat} {r q : Nat → Int} (h : Dv w u d0 d1 d2 d3 bd br bq r q W) (b o : Nat) (vs : List Value) (hb : w.heap.size + 1 + 1 + 1 < b) (h1 : b ≠ bd) (h2 : b ≠ br) (h3 : b ≠ bq) : Dv w u d0 d1 d2 d3 bd br bq r q (W.setCells b o vs) :=
  ⟨h.bas.cells b o vs hb, Box.set_others h1 vs o h.bd, Row.set_others h2 vs o h.rr, Row.set_others h3 vs o h.rq⟩
/-- a digit is laid down -/
theorem Dv.putq {w W : World} {u : Nat → Int} {d0 d1 d2 d3 : Int} {bd br bq : Nat} {r q : Nat → Int} (h : Dv w u d0 d1 d2 d3 bd br bq r q W) (hb : w.heap.size + 1 + 1 + 1 < bq) (h1 : bq ≠ bd) (h2 : bq ≠ br) (a : Nat) (k : Int) : Dv w u d0 d1 d2 d3 bd br bq r (fun i => if i = a then k else q i) (W.setCell ⟨bq, a, none⟩ (.int .u64 k)) :=
  ⟨h.bas.cell bq a _ hb, h.bd.other _ _ h1, h.rr.set_other _ _ h2, h.rq.set a k⟩
/-- what is left is laid down -/
theorem Dv.putr {w W : World} {u : Nat → Int} {d0 d1 d2 d3 : Int} {bd br bq : Nat} {r q : Nat → Int} (h : Dv w u d0 d1 d2 d3 bd br bq r q W) (hb : w.heap.size + 1 + 1 + 1 < br) (h1 : br ≠ bd) (h2 : br ≠ bq) (z : Nat → Int) : Dv w u d0 d1 d2 d3 bd br bq z q (W.setCells br 0 (rowL 9 z)) :=
  ⟨h.bas.cells br 0 _ hb, Box.set_others h1 _ 0 h.bd, Row.of_range h.rr, Row.set_others h2 _ 0 h.rq⟩
/-- the numbers while it is divided: k columns are still to be done -/
structure Dn (u d : Nat → Int) (P : Int) (n k : Nat) (r q : Nat → Int) : Prop where
  ur : ∀ i, U64 (r i)
  uq : ∀ i, U64 (q i)
  low : ∀ i, i < k → q i = 0
  eq : nv u 8 * P = nv q 8 * nv d n + nv r 9
  lt : nv r 9 < nv d n * Bd ^ k
  d0 : 0 < nv d n
  dn : nv d n < Bd ^ n
  fits : k + n ≤ 9 ∨ k = 0
theorem Dn.col {u d : Nat → Int} {P : Int} {n a : Nat} {r q : Nat → Int} (h : Dn u d P n (a + 1) r q) : Col r n a (nv d n) := ⟨h.ur, h.d0, h.dn, h.lt, by have := h.fits; omega⟩
/-- a digit was found -/
theorem Dn.step {u d : Nat → Int} {P : Int} {n a : Nat} {r q s : Nat → Int} {k : Int} (h : Dn u d P n (a + 1) r q) (o : Off r d n a k s true) (hk : k = nv (sh r a) (n + 1) / nv d n) (ha : a < 8) (hu : U64 k) : Dn u d P n a s (fun i => if i = a then k else q i) := by
  obtain ⟨e1, e2⟩ := o.left h.col rfl hk
  refine ⟨o.u, fun i => ?_, fun i hi => ?_, ?_, e2, h.d0, h.dn, by have := h.fits; omega⟩
  · split
    · exact hu
    · exact h.uq i
  · rw [if_neg (by omega)]; exact h.low i (by omega)
  · rw [nv_set q a k 8 ha (h.low a (by omega)), h.eq, e1, Int.add_mul, Int.mul_assoc k, Int.mul_comm (Bd ^ a)]; omega
/-- no digit -/
theorem Dn.skip {u d : Nat → Int} {P : Int} {n a : Nat} {r q : Nat → Int} (h : Dn u d P n (a + 1) r q) (hk : nv (sh r a) (n + 1) / nv d n ≤ 0) : Dn u d P n a r q := by
  have h1 := h.col.digit.1
  exact ⟨h.ur, h.uq, fun i hi => h.low i (by omega), h.eq, h.col.none (by omega), h.d0, h.dn, by have := h.fits; omega⟩
theorem there_row {W : World} {b n : Nat} {v g : Nat → Int} (h : Row W b n v) : W.there b 0 (rowL n g).toArray.size := by rw [List.size_toArray, rowL_len]; exact h.there
/-- a new row of nine, and what is laid into it -/
theorem new9 {ops : Array Oper} {rest : List Oper} {op1 op2 : Oper} {a : Act} {w : World} {Q : Exit → Act → World → Prop} (z : Nat → Int) (p : Tmp) (y : Operand) (hg1 : op1.guard = none) (ho1 : op1.op = .alloc 110) (hd : op1.dst = some p) (hg2 : op2.guard = none) (ho2 : op2.op = .store 110 (.tmp p) y)
    (hx : (a.put (some p) (.pointer (some ⟨w.heap.size, 0, none⟩))).eval (.tmp p) = .pointer (some ⟨w.heap.size, 0, none⟩)) (hy : (a.put (some p) (.pointer (some ⟨w.heap.size, 0, none⟩))).eval y = .agg (rowL 9 z).toArray)
    (h : ∀ W', Below w.heap.size w W' → Row W' w.heap.size 9 z → wpList Tryz.prog ops Q rest ((a.put (some p) (.pointer (some ⟨w.heap.size, 0, none⟩))).put op2.dst undef) W') : wpList Tryz.prog ops Q (op1 :: op2 :: rest) a w := by
  have hr : (execOp a.eval op1).run Tryz.prog w = .ok (.value (.pointer (some ⟨w.heap.size, 0, none⟩))) (w.alloc (.cells (rowL 9 fun _ => 0).toArray 110)) := by
    unfold execOp
    simp only [ho1]
    kernel_rfl
  refine wpList_plain hg1 fun K hK => ?_
  unfold Oper.wp
  rw [hr, Oper.upon_value, hd]
  refine hK _ _ ?_
  have hR := Row.new w 110 9 (fun _ => 0)
  refine store9 z w.heap.size hg2 _ _ ho2 hx hy hR.there ?_
  exact h _ (below_setCells _ (Nat.le_refl _) _ _ _ ((Below.refl _ _).alloc (Nat.le_refl _) _)) (Row.of_range hR)
theorem Bd_le (m : Nat) (h : m ≤ 4) : Bd ^ m ≤ MM := by
  rw [← Bd4]
  obtain ⟨k, hk⟩ := Nat.exists_eq_add_of_le h
  have h9 := Int.mul_le_mul_of_nonneg_left (show 1 ≤ Bd ^ k by have := Bp k; omega) (Int.le_of_lt (Bp m))
  rw [← Int.pow_add, ← hk, Int.mul_one] at h9
  exact h9
/-- the end: nothing is left to be done -/
theorem Dn.fin {u d : Nat → Int} {P W : Int} {n : Nat} {r q : Nat → Int} (h : Dn u d P n 0 r q) (hP : 0 < P) (e : nv d n = W * P) (h0 : 0 < W) (hn : n ≤ 4) : nv q 8 = nv u 8 / W ∧ nv r 9 = (nv u 8 % W) * P ∧ nv r 9 < MM := by
  have h1 := h.eq
  have h2 := h.lt
  have h3 := h.dn
  have h4 := Bd_le n hn
  rw [e] at h1 h2 h3
  rw [Int.pow_zero, Int.mul_one] at h2
  obtain ⟨e1, e2⟩ := div_end hP h0 h1 (nv_range h.ur 9).1 h2
  exact ⟨e1, e2, by omega⟩
theorem nv_up {r : Nat → Int} (h : ∀ i, U64 (r i)) (n m : Nat) (hn : n ≤ m) (hl : nv r m < Bd ^ n) : nv r n = nv r m := by
  obtain ⟨k, rfl⟩ := Nat.exists_eq_add_of_le hn
  rw [nv_split, nv_top h n k hl]; simp
/-- the divisor with its highest bit at the top -/
theorem norm_facts {v0 v1 v2 v3 d0 d1 d2 d3 : Int} (hv : IsW (V v0 v1 v2 v3) v0 v1 v2 v3) (n s : Nat) (hn : n < 4) (hs : s < 64) (hne : limb v0 v1 v2 v3 n ≠ 0) (hz : ∀ i, n + 1 ≤ i → i < 4 → limb v0 v1 v2 v3 i = 0)
    (hb : limb v0 v1 v2 v3 n < 2 ^ (64 - s)) (hd : IsW (V v0 v1 v2 v3 * 2 ^ s) d0 d1 d2 d3) :
    nv (limb d0 d1 d2 d3) (n + 1) = V v0 v1 v2 v3 * 2 ^ s ∧ nv (limb v0 v1 v2 v3) (n + 1) = V v0 v1 v2 v3 ∧ 0 < V v0 v1 v2 v3 ∧ V v0 v1 v2 v3 * 2 ^ s < Bd ^ (n + 1) := by
  have hu := limb_u64 hv.u0 hv.u1 hv.u2 hv.u3
  have e1 : nv (limb v0 v1 v2 v3) (n + 1) = V v0 v1 v2 v3 := by rw [← nv4]; exact (nv_more (n + 1) 4 (by omega) hz).symm
  have hP := two_pos s
  have hB := Bp n
  have hr := nv_range hu n
  have hy0 := (hu n).1
  have e2 := e1
  rw [nv] at e2
  generalize limb v0 v1 v2 v3 n = y at hne hb hy0 e2
  have h1 : y * Bd ^ n ≥ 1 * Bd ^ n := Int.mul_le_mul_of_nonneg_right (by omega) (Int.le_of_lt hB)
  have h2 : (y + 1) * 2 ^ s ≤ Bd := by
    have : (y + 1) * 2 ^ s ≤ 2 ^ (64 - s) * 2 ^ s := Int.mul_le_mul_of_nonneg_right (by omega) (Int.le_of_lt hP)
    rw [← Int.pow_add, show 64 - s + s = 64 by omega] at this
    exact this
  have h3 : V v0 v1 v2 v3 * 2 ^ s < Bd ^ (n + 1) := by
    have h4 : V v0 v1 v2 v3 < (y + 1) * Bd ^ n := by rw [Int.add_mul, Int.one_mul]; omega
    have h5 := Int.mul_lt_mul_of_pos_right h4 hP
    have h6 := Int.mul_le_mul_of_nonneg_right h2 (Int.le_of_lt hB)
    rw [Int.pow_succ, Int.mul_comm (Bd ^ n) Bd]
    rw [Int.mul_assoc, Int.mul_comm (Bd ^ n), ← Int.mul_assoc] at h5
    omega
  have h7 : Bd ^ (n + 1) ≤ MM := by
    rw [← Bd4]
    obtain ⟨k, hk⟩ := Nat.exists_eq_add_of_le (show n + 1 ≤ 4 by omega)
    have h9 := Int.mul_le_mul_of_nonneg_left (show 1 ≤ Bd ^ k by have := Bp k; omega) (Int.le_of_lt (Bp (n + 1)))
    rw [← Int.pow_add, ← hk, Int.mul_one] at h9
    exact h9
  have h0 : 0 < V v0 v1 v2 v3 := by omega
  have h8 := hd.small (Int.mul_nonneg (by omega) (by omega)) (by omega)
  refine ⟨?_, e1, h0, h3⟩
  rw [← h8, ← nv4]
  exact nv_up (limb_u64 hd.u0 hd.u1 hd.u2 hd.u3) (n + 1) 4 (by omega) (by rw [nv4, h8]; exact h3)
theorem Dn.start {u d v : Nat → Int} {P W : Int} {n m : Nat} {r : Nat → Int} (hu : ∀ i, U64 (u i)) (hv : ∀ i, U64 (v i)) (hr : ∀ i, U64 (r i)) (hP : 0 < P) (hne : v n ≠ 0) (hm : m ≤ 8) (hz : ∀ i, m ≤ i → i < 8 → u i = 0) (e : nv r 9 = nv u 8 * P)
    (e1 : nv d (n + 1) = W * P) (e2 : nv v (n + 1) = W) (h0 : 0 < W) (hlt : W * P < Bd ^ (n + 1)) (hn : n < 4) : Dn u d P (n + 1) (m - n) r (fun _ => 0) := by
  have hs := div_start (k := m - n) hu hv hP hne hm hz (by omega)
  refine ⟨hr, fun i => ⟨by simp, by unfold Bd; simp⟩, fun _ _ => rfl, ?_, ?_, ?_, ?_, by omega⟩
  · rw [nv_zero 8 (r := fun _ => (0 : Int)) (fun _ _ => rfl), Int.zero_mul, Int.zero_add, e]
  · rw [e, e1, ← e2]; exact hs
  · rw [e1]; exact Int.mul_pos h0 hP
  · rw [e1]; exact hlt
theorem Box.range {W : World} {b : Nat} {a0 a1 a2 a3 : Int} (h : Box W b a0 a1 a2 a3) : W.rangeAt b 0 [.int .u64 a0, .int .u64 a1, .int .u64 a2, .int .u64 a3] := fun j x hx => by
  obtain ⟨c0, c1, c2, c3, _⟩ := h.facts
  rw [Nat.zero_add]
  rcases j with _ | _ | _ | _ | j
  · rw [c0]; exact hx
  · rw [c1]; exact hx
  · rw [c2]; exact hx
  · rw [c3]; exact hx
  · simp at hx
theorem loadVar4 {W : World} {b : Nat} {a0 a1 a2 a3 : Int} (h : Box W b a0 a1 a2 a3) : (loadVar 24 ⟨b, 0, none⟩).run Tryz.prog W = .ok (.agg #[.int .u64 a0, .int .u64 a1, .int .u64 a2, .int .u64 a3]) W :=
  run_loadVar_mid W b 0 24 [.int .u64 a0, .int .u64 a1, .int .u64 a2, .int .u64 a3] _ h.range Tryz.underlying24 rfl (by kernel_rfl)
theorem slice4 (g : Nat) (W : World) : Sem.run Tryz.prog (Instr.sliceAt 24 (.pointer (some ⟨g, 0, none⟩)) none none none) W = .ok (.slice (some ⟨g, 0, none⟩) 4 4) W := by
  have h4 : Tryz.prog.arrayLen 24 = 4 := by kernel_rfl
  have sz : Sem.run Tryz.prog (sizeOf (Tryz.prog.elem 24)) W = .ok 1 W := by kernel_rfl
  rw [run_sliceAt_array_all W 24 ⟨g, 0, none⟩ (by kernel_rfl), sz, h4, Result.andThen_ok]
  rfl
theorem slice8 (g : Nat) (W : World) : Sem.run Tryz.prog (Instr.sliceAt 69 (.pointer (some ⟨g, 0, none⟩)) none none none) W = .ok (.slice (some ⟨g, 0, none⟩) 8 8) W := by
  have h8 : Tryz.prog.arrayLen 69 = 8 := by kernel_rfl
  have sz : Sem.run Tryz.prog (sizeOf (Tryz.prog.elem 69)) W = .ok 1 W := by kernel_rfl
  rw [run_sliceAt_array_all W 69 ⟨g, 0, none⟩ (by kernel_rfl), sz, h8, Result.andThen_ok]
  rfl
end Go.Proofs.YtpadpmkfhljiiaaGreat
/- The document's rows as numbers, and what each of its functions makes of them. -/
namespace Go.Proofs.YtpadpmkfhljiiaaGreat
open Go.RowKit
/-- a row of at most n digits whose number is N -/
def RowIs (W : World) (v : Value) (n N : Nat) : Prop := ∃ (k : Nat) (d : Nat → Nat), k ≤ n ∧ RowAt W v k d ∧ dsum d k = N
theorem RowIs.below {W W' : World} {v : Value} {n N : Nat} (h : RowIs W v n N) (k : Below W.heap.size W W') : RowIs W' v n N := by
  obtain ⟨q, d, h1, h2, h3⟩ := h
  exact ⟨q, d, h1, h2.below k, h3⟩
theorem RowIs.lt {W : World} {v : Value} {n N : Nat} (h : RowIs W v n N) : N < 256 ^ n := by
  obtain ⟨q, d, h1, h2, h3⟩ := h
  rw [← h3]
  exact Nat.lt_of_lt_of_le (dsum_lt h2.2.1 q) (Nat.pow_le_pow_right (by decide) h1)
/-- boxes of words and rows -/
structure Bw (w : World) (l : List (Nat × Int × Int × Int × Int)) (rs : List (Value × Nat × Nat)) (W : World) : Prop where
  bx : Bx w l W
  rows : ∀ p ∈ rs, RowIs W p.1 p.2.1 p.2.2
theorem Bw.of {w W : World} {l : List (Nat × Int × Int × Int × Int)} (h : Bx w l W) : Bw w l [] W := ⟨h, fun _ hp => by cases hp⟩
theorem Bw.past {w W W' : World} {l : List (Nat × Int × Int × Int × Int)} {rs : List (Value × Nat × Nat)} (h : Bw w l rs W) (k : Below W.heap.size W W') : Bw w l rs W' := ⟨h.bx.past k, fun p hp => (h.rows p hp).below k⟩
theorem Bw.drew {w W : World} {l : List (Nat × Int × Int × Int × Int)} {rs : List (Value × Nat × Nat)} (h : Bw w l rs W) : Bw w l rs W.drew := h.past (Below.refl _ _).drew
theorem Bw.row {w W : World} {l : List (Nat × Int × Int × Int × Int)} {rs : List (Value × Nat × Nat)} {v : Value} {n N : Nat} (h : Bw w l rs W) (k : RowIs W v n N) : Bw w l ((v, n, N) :: rs) W := ⟨h.bx, fun p hp => by
  rcases List.mem_cons.1 hp with rfl | hp
  · exact k
  · exact h.rows p hp⟩
theorem Bw.at {w W : World} {l : List (Nat × Int × Int × Int × Int)} {rs : List (Value × Nat × Nat)} {v : Value} {n N : Nat} (h : Bw w l rs W) (hp : (v, n, N) ∈ rs) : RowIs W v n N := h.rows _ hp
/-- what a call gives that gives a row -/
def GivesR (P : Program) (f : Nat) (args : Array Value) (W : World) (n N : Nat) : Prop := Calls P f args W fun e w' => ∃ v, e = .returned v ∧ RowIs w' v n N ∧ Below W.heap.size W w'
theorem V_lt {x a0 a1 a2 a3 : Int} {X : Nat} (ha : IsW x a0 a1 a2 a3) (hX : V a0 a1 a2 a3 = (X : Int)) : X < 256 ^ 32 := by
  obtain ⟨X', h1, _, h3⟩ := mod_nat ha
  have : X = X' := by rw [hX] at h1; omega
  omega
theorem ri_of {x : Int} {a0 a1 a2 a3 : Int} (ha : IsW x a0 a1 a2 a3) {X : Nat} (hX : V a0 a1 a2 a3 = (X : Int)) (W : World) :
    Calls Tryz.prog 79 #[.agg #[.int .u64 a0, .int .u64 a1, .int .u64 a2, .int .u64 a3]] W fun e w' => ∃ v, e = .returned v ∧ RowIs w' v 32 X ∧ Below W.heap.size W w' := by
  refine (of_is x a0 a1 a2 a3 W ha X hX).mono ?_
  rintro e w' ⟨v, rfl, h1, h2⟩
  exact ⟨v, rfl, ⟨32, _, Nat.le_refl _, h1, dig_all X (V_lt ha hX)⟩, h2⟩
theorem ri_plus {W : World} {v u : Value} {n m A B : Nat} (h1 : RowIs W v n A) (h2 : RowIs W u m B) (q : Nat) (hq : max n m + 1 ≤ q) (hl : q ≤ 1000) :
    Calls Tryz.prog 78 #[v, u] W fun e w' => ∃ x, e = .returned x ∧ RowIs w' x q (A + B) ∧ Below W.heap.size W w' := by
  obtain ⟨k, d, a1, a2, a3⟩ := h1
  obtain ⟨j, c, b1, b2, b3⟩ := h2
  refine Calls.mono (plus_is W v u k j d c a2 b2 (by omega) (by omega) (max k j) rfl) ?_
  rintro e w' ⟨x, f, rfl, x1, x2, x3⟩
  rw [a2.more (max k j) (by omega), b2.more (max k j) (by omega), a3, b3] at x2
  exact ⟨x, rfl, ⟨_, f, by omega, x1, x2⟩, x3⟩
theorem ri_minus {W : World} {v u : Value} {n m A B : Nat} (h1 : RowIs W v n A) (h2 : RowIs W u m B) (hle : B ≤ A) (q : Nat) (hq : max n m ≤ q) (hl : q ≤ 1000) :
    Calls Tryz.prog 81 #[v, u] W fun e w' => ∃ x, e = .returned x ∧ RowIs w' x q (A - B) ∧ Below W.heap.size W w' := by
  obtain ⟨k, d, a1, a2, a3⟩ := h1
  obtain ⟨j, c, b1, b2, b3⟩ := h2
  refine Calls.mono (minus_is W v u k j d c a2 b2 (by omega) (by omega) (max k j) rfl (by rw [a2.more (max k j) (by omega), b2.more (max k j) (by omega), a3, b3]; exact hle)) ?_
  rintro e w' ⟨x, f, rfl, x1, x2, _, x3⟩
  rw [a2.more (max k j) (by omega), b2.more (max k j) (by omega), a3, b3] at x2
  exact ⟨x, rfl, ⟨_, f, by omega, x1, by omega⟩, x3⟩
theorem ri_times {W : World} {v u : Value} {n m A B : Nat} (h1 : RowIs W v n A) (h2 : RowIs W u m B) (q : Nat) (hq : n + m + 1 ≤ q) (hl : q ≤ 1000) :
    Calls Tryz.prog 85 #[v, u] W fun e w' => ∃ x, e = .returned x ∧ RowIs w' x q (A * B) ∧ Below W.heap.size W w' := by
  obtain ⟨k, d, a1, a2, a3⟩ := h1
  obtain ⟨j, c, b1, b2, b3⟩ := h2
  refine (times_is W v u k j d c a2 b2 (by omega) (by omega)).mono ?_
  rintro e w' ⟨x, f, rfl, x1, x2, x3⟩
  rw [a3, b3] at x2
  exact ⟨x, rfl, ⟨_, f, by omega, x1, x2⟩, x3⟩
theorem ri_div {W : World} {v u : Value} {n m A B : Nat} (h1 : RowIs W v n A) (h2 : RowIs W u m B) (hB : 0 < B) (q : Nat) (hq : m + 2 ≤ q) (hn : n ≤ 100) (hm : m ≤ 100) :
    Calls Tryz.prog 89 #[v, u] W fun e w' => ∃ x y, e = .returned (.tuple #[x, y]) ∧ RowIs w' x n (A / B) ∧ RowIs w' y q (A % B) ∧ Below W.heap.size W w' := by
  obtain ⟨k, d, a1, a2, a3⟩ := h1
  obtain ⟨j, c, b1, b2, b3⟩ := h2
  refine Calls.mono (rdivide_is W v u k j d c a2 b2 (by omega) (by omega) A B a3 b3 hB) ?_
  rintro e w' ⟨x, y, f, g, L, rfl, x1, x2, y1, y2, y3, x3⟩
  exact ⟨x, y, rfl, ⟨_, f, by omega, x1, x2⟩, ⟨_, g, by omega, y1, y3⟩, x3⟩
theorem ri_none {W : World} {v : Value} {n N : Nat} (h1 : RowIs W v n N) (r : Bool) (hr : decide (N = 0) = r) :
    Calls Tryz.prog 88 #[v] W fun e w' => e = .returned (.bool r) ∧ Below W.heap.size W w' := by
  obtain ⟨k, d, a1, a2, a3⟩ := h1
  refine (none_is W v k d a2 r (by rw [a3]; exact hr)).mono ?_
  rintro e w' ⟨rfl, rfl⟩
  exact ⟨rfl, Below.refl _ _⟩
theorem ri_compare {W : World} {v u : Value} {n m A B : Nat} (h1 : RowIs W v n A) (h2 : RowIs W u m B) (r : Int) (hr : cmpv (A : Int) (B : Int) = r) :
    Calls Tryz.prog 118 #[v, u] W fun e w' => e = .returned (.int .i64 r) ∧ Below W.heap.size W w' := by
  obtain ⟨k, d, a1, a2, a3⟩ := h1
  obtain ⟨j, c, b1, b2, b3⟩ := h2
  refine (compare_is W v u k j d c a2 b2 (max k j) (Nat.le_refl _)).mono ?_
  rintro e w' ⟨rfl, rfl⟩
  rw [a2.more (max k j) (by omega), b2.more (max k j) (by omega), a3, b3, hr]
  exact ⟨rfl, Below.refl _ _⟩
theorem ri_word {W : World} {v : Value} {n N : Nat} (h1 : RowIs W v n N) {p0 p1 p2 p3 : Int} (hp : IsW (N : Int) p0 p1 p2 p3) :
    Calls Tryz.prog 77 #[v] W fun e w' => e = .returned (.agg #[.int .u64 p0, .int .u64 p1, .int .u64 p2, .int .u64 p3]) ∧ Below W.heap.size W w' := by
  obtain ⟨k, d, a1, a2, a3⟩ := h1
  refine (word_is W v k d a2).mono ?_
  rintro e w' ⟨s0, s1, s2, s3, rfl, hs, hB⟩
  have h : (dsum d 32 : Int) % MM = (N : Int) % MM := by
    rw [← MM_nat, ← a3]
    by_cases hk : k ≤ 32
    · rw [a2.more 32 hk]
    · have h1 := dsum_mod a2.2.1 k 32
      have h2 := dsum_lt a2.2.1 32
      have h3 : dsum (cutD d 32) k = dsum d 32 := by
        rw [dsum_more (n := 32) (fun i hi => by rw [cutD, if_neg (by omega)]) k (by omega)]
        exact dsum_ext 32 (fun i hi => by rw [cutD, if_pos hi])
      rw [← Int.natCast_emod, ← Int.natCast_emod, Nat.mod_eq_of_lt h2, ← h3, ← cutD_sum a2.2.1]
  obtain ⟨rfl, rfl, rfl, rfl⟩ := hs.eq hp h
  exact ⟨rfl, hB⟩
theorem ri_full (W : World) : Calls Tryz.prog 82 #[] W fun e w' => ∃ x, e = .returned x ∧ RowIs w' x 33 (256 ^ 32) ∧ Below W.heap.size W w' := by
  refine (full_is W).mono ?_
  rintro e w' ⟨x, rfl, x1, x3⟩
  exact ⟨x, rfl, ⟨33, _, Nat.le_refl _, x1, dsum_full⟩, x3⟩
end Go.Proofs.YtpadpmkfhljiiaaGreat
