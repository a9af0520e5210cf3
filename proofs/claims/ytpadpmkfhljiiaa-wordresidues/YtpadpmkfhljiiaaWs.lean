/- Shifts: what shiftUp and shiftDown make of a word, limb by limb, by how many whole limbs they shift. -/
import Derived.Test.YtpadpmkfhljiiaaWis
import Derived.Test.YtpadpmkfhljiiaaNs
namespace Go.Proofs.Ytpadpmkfhljiiaa
open Go.RowKit

set_option maxHeartbeats 1000000 in
set_option maxRecDepth 100000 in
theorem shiftUp0 (a0 a1 a2 a3 : Int) (n r : Int) (w : World) (_hn0 : 0 ≤ n) (_hn : n < 256) (hq : n / 64 = 0) (hr : n % 64 = r) (_r0 : 0 ≤ r) (_r1 : r < 64) :
    Calls Try.prog 86 #[.agg #[.int .u64 a0, .int .u64 a1, .int .u64 a2, .int .u64 a3], .int .u64 n] w fun e w' => e = .returned (.agg #[.int .u64 (IntKind.u64.wrap (a0 * 2 ^ r.toNat)), .int .u64 (bits .or .u64 (IntKind.u64.wrap (a1 * 2 ^ r.toNat)) (a0 / 2 ^ (64 - r).toNat)), .int .u64 (bits .or .u64 (IntKind.u64.wrap (a2 * 2 ^ r.toNat)) (a1 / 2 ^ (64 - r).toNat)), .int .u64 (bits .or .u64 (IntKind.u64.wrap (a3 * 2 ^ r.toNat)) (a2 / 2 ^ (64 - r).toNat))]) ∧ Below w.heap.size w w' := by
  go_enter Try.func86, Try.ntmps86
  go_wp2
  refine wp_loop_rounds 5 ?_
  rw [rounds_succ]
  go_wp2
  rw [rounds_succ]
  go_wp2
  go_region
  go_wp2
  rw [rounds_succ]
  go_wp2
  go_region
  go_wp2
  rw [rounds_succ]
  go_wp2
  go_region
  go_wp2
  rw [rounds_succ]
  go_wp2
  exact bodyPost_ret (v := .agg #[.int .u64 (IntKind.u64.wrap (a0 * 2 ^ r.toNat)), .int .u64 (bits .or .u64 (IntKind.u64.wrap (a1 * 2 ^ r.toNat)) (a0 / 2 ^ (64 - r).toNat)), .int .u64 (bits .or .u64 (IntKind.u64.wrap (a2 * 2 ^ r.toNat)) (a1 / 2 ^ (64 - r).toNat)), .int .u64 (bits .or .u64 (IntKind.u64.wrap (a3 * 2 ^ r.toNat)) (a2 / 2 ^ (64 - r).toNat))]) (by simp [results, Try.results86, go_sem]) rfl ⟨rfl, by repeat' (first | with_reducible exact Below.refl _ _ | with_reducible exact Below.refl _ _ | with_reducible refine Below.drew ?_ | with_reducible refine bdrewN ?_ _ | with_reducible refine Below.alloc ?_ ?_ _ | with_reducible refine Below.setCell ?_ ?_ _ | omega | (simp; done) | (simp; omega))⟩

set_option maxHeartbeats 1000000 in
set_option maxRecDepth 100000 in
theorem shiftUp1 (a0 a1 a2 a3 : Int) (n r : Int) (w : World) (_hn0 : 0 ≤ n) (_hn : n < 256) (hq : n / 64 = 1) (hr : n % 64 = r) (_r0 : 0 ≤ r) (_r1 : r < 64) :
    Calls Try.prog 86 #[.agg #[.int .u64 a0, .int .u64 a1, .int .u64 a2, .int .u64 a3], .int .u64 n] w fun e w' => e = .returned (.agg #[.int .u64 0, .int .u64 (IntKind.u64.wrap (a0 * 2 ^ r.toNat)), .int .u64 (bits .or .u64 (IntKind.u64.wrap (a1 * 2 ^ r.toNat)) (a0 / 2 ^ (64 - r).toNat)), .int .u64 (bits .or .u64 (IntKind.u64.wrap (a2 * 2 ^ r.toNat)) (a1 / 2 ^ (64 - r).toNat))]) ∧ Below w.heap.size w w' := by
  go_enter Try.func86, Try.ntmps86
  go_wp2
  refine wp_loop_rounds 5 ?_
  rw [rounds_succ]
  go_wp2
  rw [rounds_succ]
  go_wp2
  go_region
  go_wp2
  rw [rounds_succ]
  go_wp2
  go_region
  go_wp2
  rw [rounds_succ]
  go_wp2
  exact bodyPost_ret (v := .agg #[.int .u64 0, .int .u64 (IntKind.u64.wrap (a0 * 2 ^ r.toNat)), .int .u64 (bits .or .u64 (IntKind.u64.wrap (a1 * 2 ^ r.toNat)) (a0 / 2 ^ (64 - r).toNat)), .int .u64 (bits .or .u64 (IntKind.u64.wrap (a2 * 2 ^ r.toNat)) (a1 / 2 ^ (64 - r).toNat))]) (by simp [results, Try.results86, go_sem]) rfl ⟨rfl, by repeat' (first | with_reducible exact Below.refl _ _ | with_reducible exact Below.refl _ _ | with_reducible refine Below.drew ?_ | with_reducible refine bdrewN ?_ _ | with_reducible refine Below.alloc ?_ ?_ _ | with_reducible refine Below.setCell ?_ ?_ _ | omega | (simp; done) | (simp; omega))⟩

set_option maxHeartbeats 1000000 in
set_option maxRecDepth 100000 in
theorem shiftUp2 (a0 a1 a2 a3 : Int) (n r : Int) (w : World) (_hn0 : 0 ≤ n) (_hn : n < 256) (hq : n / 64 = 2) (hr : n % 64 = r) (_r0 : 0 ≤ r) (_r1 : r < 64) :
    Calls Try.prog 86 #[.agg #[.int .u64 a0, .int .u64 a1, .int .u64 a2, .int .u64 a3], .int .u64 n] w fun e w' => e = .returned (.agg #[.int .u64 0, .int .u64 0, .int .u64 (IntKind.u64.wrap (a0 * 2 ^ r.toNat)), .int .u64 (bits .or .u64 (IntKind.u64.wrap (a1 * 2 ^ r.toNat)) (a0 / 2 ^ (64 - r).toNat))]) ∧ Below w.heap.size w w' := by
  go_enter Try.func86, Try.ntmps86
  go_wp2
  refine wp_loop_rounds 5 ?_
  rw [rounds_succ]
  go_wp2
  rw [rounds_succ]
  go_wp2
  go_region
  go_wp2
  rw [rounds_succ]
  go_wp2
  exact bodyPost_ret (v := .agg #[.int .u64 0, .int .u64 0, .int .u64 (IntKind.u64.wrap (a0 * 2 ^ r.toNat)), .int .u64 (bits .or .u64 (IntKind.u64.wrap (a1 * 2 ^ r.toNat)) (a0 / 2 ^ (64 - r).toNat))]) (by simp [results, Try.results86, go_sem]) rfl ⟨rfl, by repeat' (first | with_reducible exact Below.refl _ _ | with_reducible exact Below.refl _ _ | with_reducible refine Below.drew ?_ | with_reducible refine bdrewN ?_ _ | with_reducible refine Below.alloc ?_ ?_ _ | with_reducible refine Below.setCell ?_ ?_ _ | omega | (simp; done) | (simp; omega))⟩

set_option maxHeartbeats 1000000 in
set_option maxRecDepth 100000 in
theorem shiftUp3 (a0 a1 a2 a3 : Int) (n r : Int) (w : World) (_hn0 : 0 ≤ n) (_hn : n < 256) (hq : n / 64 = 3) (hr : n % 64 = r) (_r0 : 0 ≤ r) (_r1 : r < 64) :
    Calls Try.prog 86 #[.agg #[.int .u64 a0, .int .u64 a1, .int .u64 a2, .int .u64 a3], .int .u64 n] w fun e w' => e = .returned (.agg #[.int .u64 0, .int .u64 0, .int .u64 0, .int .u64 (IntKind.u64.wrap (a0 * 2 ^ r.toNat))]) ∧ Below w.heap.size w w' := by
  go_enter Try.func86, Try.ntmps86
  go_wp2
  refine wp_loop_rounds 5 ?_
  rw [rounds_succ]
  go_wp2
  rw [rounds_succ]
  go_wp2
  exact bodyPost_ret (v := .agg #[.int .u64 0, .int .u64 0, .int .u64 0, .int .u64 (IntKind.u64.wrap (a0 * 2 ^ r.toNat))]) (by simp [results, Try.results86, go_sem]) rfl ⟨rfl, by repeat' (first | with_reducible exact Below.refl _ _ | with_reducible exact Below.refl _ _ | with_reducible refine Below.drew ?_ | with_reducible refine bdrewN ?_ _ | with_reducible refine Below.alloc ?_ ?_ _ | with_reducible refine Below.setCell ?_ ?_ _ | omega | (simp; done) | (simp; omega))⟩

set_option maxHeartbeats 1000000 in
set_option maxRecDepth 100000 in
theorem shiftDown0 (a0 a1 a2 a3 : Int) (n r f : Int) (w : World) (_hn0 : 0 ≤ n) (_hn : n < 256) (hq : n / 64 = 0) (hr : n % 64 = r) (_r0 : 0 ≤ r) (_r1 : r < 64) :
    Calls Try.prog 87 #[.agg #[.int .u64 a0, .int .u64 a1, .int .u64 a2, .int .u64 a3], .int .u64 n, .int .u64 f] w fun e w' => e = .returned (.agg #[.int .u64 (bits .or .u64 (a0 / 2 ^ r.toNat) (IntKind.u64.wrap (a1 * 2 ^ (64 - r).toNat))), .int .u64 (bits .or .u64 (a1 / 2 ^ r.toNat) (IntKind.u64.wrap (a2 * 2 ^ (64 - r).toNat))), .int .u64 (bits .or .u64 (a2 / 2 ^ r.toNat) (IntKind.u64.wrap (a3 * 2 ^ (64 - r).toNat))), .int .u64 (bits .or .u64 (a3 / 2 ^ r.toNat) (IntKind.u64.wrap (f * 2 ^ (64 - r).toNat)))]) ∧ Below w.heap.size w w' := by
  go_enter Try.func87, Try.ntmps87
  go_wp2
  refine wp_loop_rounds 5 ?_
  rw [rounds_succ]
  go_wp2
  go_region
  go_wp2
  rw [rounds_succ]
  go_wp2
  go_region
  go_wp2
  rw [rounds_succ]
  go_wp2
  go_region
  go_wp2
  rw [rounds_succ]
  go_wp2
  go_region
  go_wp2
  rw [rounds_succ]
  go_wp2
  exact bodyPost_ret (v := .agg #[.int .u64 (bits .or .u64 (a0 / 2 ^ r.toNat) (IntKind.u64.wrap (a1 * 2 ^ (64 - r).toNat))), .int .u64 (bits .or .u64 (a1 / 2 ^ r.toNat) (IntKind.u64.wrap (a2 * 2 ^ (64 - r).toNat))), .int .u64 (bits .or .u64 (a2 / 2 ^ r.toNat) (IntKind.u64.wrap (a3 * 2 ^ (64 - r).toNat))), .int .u64 (bits .or .u64 (a3 / 2 ^ r.toNat) (IntKind.u64.wrap (f * 2 ^ (64 - r).toNat)))]) (by simp [results, Try.results87, go_sem]) rfl ⟨rfl, by repeat' (first | with_reducible exact Below.refl _ _ | with_reducible exact Below.refl _ _ | with_reducible refine Below.drew ?_ | with_reducible refine bdrewN ?_ _ | with_reducible refine Below.alloc ?_ ?_ _ | with_reducible refine Below.setCell ?_ ?_ _ | omega | (simp; done) | (simp; omega))⟩

set_option maxHeartbeats 1000000 in
set_option maxRecDepth 100000 in
theorem shiftDown1 (a0 a1 a2 a3 : Int) (n r f : Int) (w : World) (_hn0 : 0 ≤ n) (_hn : n < 256) (hq : n / 64 = 1) (hr : n % 64 = r) (_r0 : 0 ≤ r) (_r1 : r < 64) :
    Calls Try.prog 87 #[.agg #[.int .u64 a0, .int .u64 a1, .int .u64 a2, .int .u64 a3], .int .u64 n, .int .u64 f] w fun e w' => e = .returned (.agg #[.int .u64 (bits .or .u64 (a1 / 2 ^ r.toNat) (IntKind.u64.wrap (a2 * 2 ^ (64 - r).toNat))), .int .u64 (bits .or .u64 (a2 / 2 ^ r.toNat) (IntKind.u64.wrap (a3 * 2 ^ (64 - r).toNat))), .int .u64 (bits .or .u64 (a3 / 2 ^ r.toNat) (IntKind.u64.wrap (f * 2 ^ (64 - r).toNat))), .int .u64 (bits .or .u64 (f / 2 ^ r.toNat) (IntKind.u64.wrap (f * 2 ^ (64 - r).toNat)))]) ∧ Below w.heap.size w w' := by
  go_enter Try.func87, Try.ntmps87
  go_wp2
  refine wp_loop_rounds 5 ?_
  rw [rounds_succ]
  go_wp2
  go_region
  go_wp2
  rw [rounds_succ]
  go_wp2
  go_region
  go_wp2
  rw [rounds_succ]
  go_wp2
  go_region
  go_wp2
  rw [rounds_succ]
  go_wp2
  go_region
  go_wp2
  rw [rounds_succ]
  go_wp2
  exact bodyPost_ret (v := .agg #[.int .u64 (bits .or .u64 (a1 / 2 ^ r.toNat) (IntKind.u64.wrap (a2 * 2 ^ (64 - r).toNat))), .int .u64 (bits .or .u64 (a2 / 2 ^ r.toNat) (IntKind.u64.wrap (a3 * 2 ^ (64 - r).toNat))), .int .u64 (bits .or .u64 (a3 / 2 ^ r.toNat) (IntKind.u64.wrap (f * 2 ^ (64 - r).toNat))), .int .u64 (bits .or .u64 (f / 2 ^ r.toNat) (IntKind.u64.wrap (f * 2 ^ (64 - r).toNat)))]) (by simp [results, Try.results87, go_sem]) rfl ⟨rfl, by repeat' (first | with_reducible exact Below.refl _ _ | with_reducible exact Below.refl _ _ | with_reducible refine Below.drew ?_ | with_reducible refine bdrewN ?_ _ | with_reducible refine Below.alloc ?_ ?_ _ | with_reducible refine Below.setCell ?_ ?_ _ | omega | (simp; done) | (simp; omega))⟩

set_option maxHeartbeats 1000000 in
set_option maxRecDepth 100000 in
theorem shiftDown2 (a0 a1 a2 a3 : Int) (n r f : Int) (w : World) (_hn0 : 0 ≤ n) (_hn : n < 256) (hq : n / 64 = 2) (hr : n % 64 = r) (_r0 : 0 ≤ r) (_r1 : r < 64) :
    Calls Try.prog 87 #[.agg #[.int .u64 a0, .int .u64 a1, .int .u64 a2, .int .u64 a3], .int .u64 n, .int .u64 f] w fun e w' => e = .returned (.agg #[.int .u64 (bits .or .u64 (a2 / 2 ^ r.toNat) (IntKind.u64.wrap (a3 * 2 ^ (64 - r).toNat))), .int .u64 (bits .or .u64 (a3 / 2 ^ r.toNat) (IntKind.u64.wrap (f * 2 ^ (64 - r).toNat))), .int .u64 (bits .or .u64 (f / 2 ^ r.toNat) (IntKind.u64.wrap (f * 2 ^ (64 - r).toNat))), .int .u64 (bits .or .u64 (f / 2 ^ r.toNat) (IntKind.u64.wrap (f * 2 ^ (64 - r).toNat)))]) ∧ Below w.heap.size w w' := by
  go_enter Try.func87, Try.ntmps87
  go_wp2
  refine wp_loop_rounds 5 ?_
  rw [rounds_succ]
  go_wp2
  go_region
  go_wp2
  rw [rounds_succ]
  go_wp2
  go_region
  go_wp2
  rw [rounds_succ]
  go_wp2
  go_region
  go_wp2
  rw [rounds_succ]
  go_wp2
  go_region
  go_wp2
  rw [rounds_succ]
  go_wp2
  exact bodyPost_ret (v := .agg #[.int .u64 (bits .or .u64 (a2 / 2 ^ r.toNat) (IntKind.u64.wrap (a3 * 2 ^ (64 - r).toNat))), .int .u64 (bits .or .u64 (a3 / 2 ^ r.toNat) (IntKind.u64.wrap (f * 2 ^ (64 - r).toNat))), .int .u64 (bits .or .u64 (f / 2 ^ r.toNat) (IntKind.u64.wrap (f * 2 ^ (64 - r).toNat))), .int .u64 (bits .or .u64 (f / 2 ^ r.toNat) (IntKind.u64.wrap (f * 2 ^ (64 - r).toNat)))]) (by simp [results, Try.results87, go_sem]) rfl ⟨rfl, by repeat' (first | with_reducible exact Below.refl _ _ | with_reducible exact Below.refl _ _ | with_reducible refine Below.drew ?_ | with_reducible refine bdrewN ?_ _ | with_reducible refine Below.alloc ?_ ?_ _ | with_reducible refine Below.setCell ?_ ?_ _ | omega | (simp; done) | (simp; omega))⟩

set_option maxHeartbeats 1000000 in
set_option maxRecDepth 100000 in
theorem shiftDown3 (a0 a1 a2 a3 : Int) (n r f : Int) (w : World) (_hn0 : 0 ≤ n) (_hn : n < 256) (hq : n / 64 = 3) (hr : n % 64 = r) (_r0 : 0 ≤ r) (_r1 : r < 64) :
    Calls Try.prog 87 #[.agg #[.int .u64 a0, .int .u64 a1, .int .u64 a2, .int .u64 a3], .int .u64 n, .int .u64 f] w fun e w' => e = .returned (.agg #[.int .u64 (bits .or .u64 (a3 / 2 ^ r.toNat) (IntKind.u64.wrap (f * 2 ^ (64 - r).toNat))), .int .u64 (bits .or .u64 (f / 2 ^ r.toNat) (IntKind.u64.wrap (f * 2 ^ (64 - r).toNat))), .int .u64 (bits .or .u64 (f / 2 ^ r.toNat) (IntKind.u64.wrap (f * 2 ^ (64 - r).toNat))), .int .u64 (bits .or .u64 (f / 2 ^ r.toNat) (IntKind.u64.wrap (f * 2 ^ (64 - r).toNat)))]) ∧ Below w.heap.size w w' := by
  go_enter Try.func87, Try.ntmps87
  go_wp2
  refine wp_loop_rounds 5 ?_
  rw [rounds_succ]
  go_wp2
  go_region
  go_wp2
  rw [rounds_succ]
  go_wp2
  go_region
  go_wp2
  rw [rounds_succ]
  go_wp2
  go_region
  go_wp2
  rw [rounds_succ]
  go_wp2
  go_region
  go_wp2
  rw [rounds_succ]
  go_wp2
  exact bodyPost_ret (v := .agg #[.int .u64 (bits .or .u64 (a3 / 2 ^ r.toNat) (IntKind.u64.wrap (f * 2 ^ (64 - r).toNat))), .int .u64 (bits .or .u64 (f / 2 ^ r.toNat) (IntKind.u64.wrap (f * 2 ^ (64 - r).toNat))), .int .u64 (bits .or .u64 (f / 2 ^ r.toNat) (IntKind.u64.wrap (f * 2 ^ (64 - r).toNat))), .int .u64 (bits .or .u64 (f / 2 ^ r.toNat) (IntKind.u64.wrap (f * 2 ^ (64 - r).toNat)))]) (by simp [results, Try.results87, go_sem]) rfl ⟨rfl, by repeat' (first | with_reducible exact Below.refl _ _ | with_reducible exact Below.refl _ _ | with_reducible refine Below.drew ?_ | with_reducible refine bdrewN ?_ _ | with_reducible refine Below.alloc ?_ ?_ _ | with_reducible refine Below.setCell ?_ ?_ _ | omega | (simp; done) | (simp; omega))⟩

end Go.Proofs.Ytpadpmkfhljiiaa
