/- The document's containers: unless, wrong. -/
import Derived.Test.YtndhabhlajldeaaBrg
namespace Go.Proofs.Ytndhabhlajldeaa
open Go.RowKit
theorem unless_is (w : World) (x : Bool) (y : Int) : Calls Try.prog 115 #[.bool x, .int .i64 y] w fun e w' => e = .returned (.int .i64 (if x then 0 else y)) ∧ w' = w := by
  cases x
  · go_enter Try.func115, Try.ntmps115
    go_wp2
    go_ret
    exact ⟨rfl, rfl⟩
  · go_enter Try.func115, Try.ntmps115
    go_wp2
    go_ret
    exact ⟨rfl, rfl⟩
/-- why a field is wrong: 0: it is not -/
def wrF (what v t : Nat) : Nat := if pFd what t v then 0 else wF what
set_option maxHeartbeats 4000000 in
set_option maxRecDepth 100000 in
theorem wrong1 (w : World) (v t : Nat) (hv : v < 4294967296) : Calls Try.prog 101 #[.int .i64 1, .int .i64 (v : Int), .int .i64 (t : Int)] w fun e w' => e = .returned (.int .i64 (wrF 1 v t : Int)) ∧ w' = w := by
  by_cases e0 : v = 239
  · subst e0
    have E0 : Hid (wrF 1 239 t = 0) := rfl
    generalize wrF 1 239 t = r at *
    clear hv
    go_enter Try.func101, Try.ntmps101
    go_wp2_with (go_at_call 115; refine (unless_is _ _ _).mono ?_; rintro e w' ⟨rfl, hw⟩; (have hw2 := hw.symm); clear hw; subst hw2)
    go_ret
    exact ⟨by rw [E0.out]; rfl, rfl⟩
  have q0 : ((v : Int) == 239) = false := by simp; omega
  have E0 : Hid (wrF 1 v t = 51) := by unfold Hid wrF pFd; simp [e0, wF]
  generalize wrF 1 v t = r at *
  clear e0 hv
  go_enter Try.func101, Try.ntmps101
  go_wp2_with (go_at_call 115; refine (unless_is _ _ _).mono ?_; rintro e w' ⟨rfl, hw⟩; (have hw2 := hw.symm); clear hw; subst hw2)
  go_ret
  exact ⟨by rw [E0.out]; rfl, rfl⟩
set_option maxHeartbeats 4000000 in
set_option maxRecDepth 100000 in
theorem wrong2 (w : World) (v t : Nat) (hv : v < 4294967296) : Calls Try.prog 101 #[.int .i64 2, .int .i64 (v : Int), .int .i64 (t : Int)] w fun e w' => e = .returned (.int .i64 (wrF 2 v t : Int)) ∧ w' = w := by
  by_cases e0 : v = 0
  · subst e0
    have E0 : Hid (wrF 2 0 t = 0) := rfl
    generalize wrF 2 0 t = r at *
    clear hv
    go_enter Try.func101, Try.ntmps101
    go_wp2_with (go_at_call 115; refine (unless_is _ _ _).mono ?_; rintro e w' ⟨rfl, hw⟩; (have hw2 := hw.symm); clear hw; subst hw2)
    go_ret
    exact ⟨by rw [E0.out]; rfl, rfl⟩
  have q0 : ((v : Int) == 0) = false := by simp; omega
  have E0 : Hid (wrF 2 v t = 51) := by unfold Hid wrF pFd; simp [e0, wF]
  generalize wrF 2 v t = r at *
  clear e0 hv
  go_enter Try.func101, Try.ntmps101
  go_wp2_with (go_at_call 115; refine (unless_is _ _ _).mono ?_; rintro e w' ⟨rfl, hw⟩; (have hw2 := hw.symm); clear hw; subst hw2)
  go_ret
  exact ⟨by rw [E0.out]; rfl, rfl⟩
set_option maxHeartbeats 4000000 in
set_option maxRecDepth 100000 in
theorem wrong3 (w : World) (v t : Nat) (hv : v < 4294967296) : Calls Try.prog 101 #[.int .i64 3, .int .i64 (v : Int), .int .i64 (t : Int)] w fun e w' => e = .returned (.int .i64 (wrF 3 v t : Int)) ∧ w' = w := by
  by_cases e0 : v = 1
  · subst e0
    have E0 : Hid (wrF 3 1 t = 0) := rfl
    generalize wrF 3 1 t = r at *
    clear hv
    go_enter Try.func101, Try.ntmps101
    go_wp2_with (go_at_call 115; refine (unless_is _ _ _).mono ?_; rintro e w' ⟨rfl, hw⟩; (have hw2 := hw.symm); clear hw; subst hw2)
    go_ret
    exact ⟨by rw [E0.out]; rfl, rfl⟩
  have q0 : ((v : Int) == 1) = false := by simp; omega
  have E0 : Hid (wrF 3 v t = 52) := by unfold Hid wrF pFd; simp [e0, wF]
  generalize wrF 3 v t = r at *
  clear e0 hv
  go_enter Try.func101, Try.ntmps101
  go_wp2_with (go_at_call 115; refine (unless_is _ _ _).mono ?_; rintro e w' ⟨rfl, hw⟩; (have hw2 := hw.symm); clear hw; subst hw2)
  go_ret
  exact ⟨by rw [E0.out]; rfl, rfl⟩
set_option maxHeartbeats 4000000 in
set_option maxRecDepth 100000 in
theorem wrong4 (w : World) (v t : Nat) (hv : v < 4294967296) : Calls Try.prog 101 #[.int .i64 4, .int .i64 (v : Int), .int .i64 (t : Int)] w fun e w' => e = .returned (.int .i64 (wrF 4 v t : Int)) ∧ w' = w := by
  by_cases e0 : v = 1
  · subst e0
    have E0 : Hid (wrF 4 1 t = 0) := rfl
    generalize wrF 4 1 t = r at *
    clear hv
    go_enter Try.func101, Try.ntmps101
    go_wp2_with (go_at_call 115; refine (unless_is _ _ _).mono ?_; rintro e w' ⟨rfl, hw⟩; (have hw2 := hw.symm); clear hw; subst hw2)
    go_ret
    exact ⟨by rw [E0.out]; rfl, rfl⟩
  have q0 : ((v : Int) == 1) = false := by simp; omega
  have E0 : Hid (wrF 4 v t = 53) := by unfold Hid wrF pFd; simp [e0, wF]
  generalize wrF 4 v t = r at *
  clear e0 hv
  go_enter Try.func101, Try.ntmps101
  go_wp2_with (go_at_call 115; refine (unless_is _ _ _).mono ?_; rintro e w' ⟨rfl, hw⟩; (have hw2 := hw.symm); clear hw; subst hw2)
  go_ret
  exact ⟨by rw [E0.out]; rfl, rfl⟩
set_option maxHeartbeats 4000000 in
set_option maxRecDepth 100000 in
theorem wrong5 (w : World) (v t : Nat) (hv : v < 4294967296) : Calls Try.prog 101 #[.int .i64 5, .int .i64 (v : Int), .int .i64 (t : Int)] w fun e w' => e = .returned (.int .i64 (wrF 5 v t : Int)) ∧ w' = w := by
  obtain ⟨q, hq⟩ : ∃ q : Nat, q = v % 4 := ⟨_, rfl⟩
  have t1 : Int.tmod (v : Int) 4 = (q : Int) := by rw [Int.tmod_eq_emod_of_nonneg (by omega)]; omega
  have t2 : (v : Int) % 4 = (q : Int) := by omega
  have wq : IntKind.i64.wrap (q : Int) = (q : Int) := by rw [IntKind.wrap_i64]; omega
  have EP : Hid (wrF 5 v t = if (decide (0 < v) && (q == 0 && decide (v ≤ 4096))) = true then 0 else 54) := by unfold Hid; rw [hq]; rfl
  generalize wrF 5 v t = r at *
  clear hq
  by_cases e0 : 0 < v
  rotate_left
  · have q0 : ¬ (0 : Int) < (v : Int) := by omega
    have E0 : Hid (r = 54) := by unfold Hid; rw [EP.out, if_neg (by simp [e0])]
    clear e0 hv t1 t2 wq
    go_enter Try.func101, Try.ntmps101
    go_wp2_with (go_at_call 115; refine (unless_is _ _ _).mono ?_; rintro e w' ⟨rfl, hw⟩; (have hw2 := hw.symm); clear hw; subst hw2)
    go_ret
    exact ⟨by rw [E0.out]; rfl, rfl⟩
  have q0 : (0 : Int) < (v : Int) := by omega
  by_cases e1 : q = 0
  rotate_left
  · have q1 : ((q : Int) == 0) = false := by simp; omega
    have E0 : Hid (r = 54) := by unfold Hid; rw [EP.out, if_neg (by simp [e1])]
    clear e0 e1 hv
    go_enter Try.func101, Try.ntmps101
    go_wp2_with (go_at_call 115; refine (unless_is _ _ _).mono ?_; rintro e w' ⟨rfl, hw⟩; (have hw2 := hw.symm); clear hw; subst hw2)
    go_ret
    exact ⟨by rw [E0.out]; rfl, rfl⟩
  subst e1
  by_cases e2 : v ≤ 4096
  · have q2 : (v : Int) ≤ 4096 := by omega
    have E0 : Hid (r = 0) := by unfold Hid; rw [EP.out, if_pos (by simp [e0, e2])]
    clear e0 e2 hv
    go_enter Try.func101, Try.ntmps101
    go_wp2_with (go_at_call 115; refine (unless_is _ _ _).mono ?_; rintro e w' ⟨rfl, hw⟩; (have hw2 := hw.symm); clear hw; subst hw2)
    go_ret
    exact ⟨by rw [E0.out]; rfl, rfl⟩
  have q2 : ¬ (v : Int) ≤ 4096 := by omega
  have E0 : Hid (r = 54) := by unfold Hid; rw [EP.out, if_neg (by simp [e2])]
  clear e0 e2 hv
  go_enter Try.func101, Try.ntmps101
  go_wp2_with (go_at_call 115; refine (unless_is _ _ _).mono ?_; rintro e w' ⟨rfl, hw⟩; (have hw2 := hw.symm); clear hw; subst hw2)
  go_ret
  exact ⟨by rw [E0.out]; rfl, rfl⟩
set_option maxHeartbeats 4000000 in
set_option maxRecDepth 100000 in
theorem wrong6 (w : World) (v t : Nat) (hv : v < 4294967296) : Calls Try.prog 101 #[.int .i64 6, .int .i64 (v : Int), .int .i64 (t : Int)] w fun e w' => e = .returned (.int .i64 (wrF 6 v t : Int)) ∧ w' = w := by
  by_cases e0 : v = 2
  · subst e0
    have E0 : Hid (wrF 6 2 t = 0) := rfl
    generalize wrF 6 2 t = r at *
    clear hv
    go_enter Try.func101, Try.ntmps101
    go_wp2_with (go_at_call 115; refine (unless_is _ _ _).mono ?_; rintro e w' ⟨rfl, hw⟩; (have hw2 := hw.symm); clear hw; subst hw2)
    go_ret
    exact ⟨by rw [E0.out]; rfl, rfl⟩
  have q0 : ((v : Int) == 2) = false := by simp; omega
  have E0 : Hid (wrF 6 v t = 53) := by unfold Hid wrF pFd; simp [e0, wF]
  generalize wrF 6 v t = r at *
  clear e0 hv
  go_enter Try.func101, Try.ntmps101
  go_wp2_with (go_at_call 115; refine (unless_is _ _ _).mono ?_; rintro e w' ⟨rfl, hw⟩; (have hw2 := hw.symm); clear hw; subst hw2)
  go_ret
  exact ⟨by rw [E0.out]; rfl, rfl⟩
set_option maxHeartbeats 4000000 in
set_option maxRecDepth 100000 in
theorem wrong7 (w : World) (v t : Nat) (hv : v < 4294967296) : Calls Try.prog 101 #[.int .i64 7, .int .i64 (v : Int), .int .i64 (t : Int)] w fun e w' => e = .returned (.int .i64 (wrF 7 v t : Int)) ∧ w' = w := by
  obtain ⟨q, hq⟩ : ∃ q : Nat, q = 4 * v := ⟨_, rfl⟩
  have r1 : (4 : Int) * (v : Int) = (q : Int) := by omega
  have wq : IntKind.i64.wrap (q : Int) = (q : Int) := by rw [IntKind.wrap_i64]; omega
  by_cases e0 : q = t
  · have E0 : Hid (wrF 7 v t = 0) := by unfold Hid wrF pFd; simp; omega
    subst e0
    generalize wrF 7 v q = r at *
    clear hv hq
    go_enter Try.func101, Try.ntmps101
    go_wp2_with (go_at_call 115; refine (unless_is _ _ _).mono ?_; rintro e w' ⟨rfl, hw⟩; (have hw2 := hw.symm); clear hw; subst hw2)
    go_ret
    exact ⟨by rw [E0.out]; rfl, rfl⟩
  have q0 : ((q : Int) == (t : Int)) = false := by simp; omega
  have E0 : Hid (wrF 7 v t = 55) := by unfold Hid wrF pFd; rw [if_neg (by simp; omega)]; rfl
  generalize wrF 7 v t = r at *
  clear e0 hv hq
  go_enter Try.func101, Try.ntmps101
  go_wp2_with (go_at_call 115; refine (unless_is _ _ _).mono ?_; rintro e w' ⟨rfl, hw⟩; (have hw2 := hw.symm); clear hw; subst hw2)
  go_ret
  exact ⟨by rw [E0.out]; rfl, rfl⟩
set_option maxHeartbeats 4000000 in
set_option maxRecDepth 100000 in
theorem wrong8 (w : World) (v t : Nat) (hv : v < 4294967296) : Calls Try.prog 101 #[.int .i64 8, .int .i64 (v : Int), .int .i64 (t : Int)] w fun e w' => e = .returned (.int .i64 (wrF 8 v t : Int)) ∧ w' = w := by
  by_cases e0 : 0 < v
  · have E0 : Hid (wrF 8 v t = 0) := by unfold Hid wrF pFd; simp [e0]
    have q0 : (0 : Int) < (v : Int) := by omega
    generalize wrF 8 v t = r at *
    clear e0 hv
    go_enter Try.func101, Try.ntmps101
    go_wp2_with (go_at_call 115; refine (unless_is _ _ _).mono ?_; rintro e w' ⟨rfl, hw⟩; (have hw2 := hw.symm); clear hw; subst hw2)
    go_ret
    exact ⟨by rw [E0.out]; rfl, rfl⟩
  have q0 : ¬ (0 : Int) < (v : Int) := by omega
  have E0 : Hid (wrF 8 v t = 56) := by unfold Hid wrF pFd; simp [e0, wF]
  generalize wrF 8 v t = r at *
  clear e0 hv
  go_enter Try.func101, Try.ntmps101
  go_wp2_with (go_at_call 115; refine (unless_is _ _ _).mono ?_; rintro e w' ⟨rfl, hw⟩; (have hw2 := hw.symm); clear hw; subst hw2)
  go_ret
  exact ⟨by rw [E0.out]; rfl, rfl⟩
set_option maxHeartbeats 4000000 in
set_option maxRecDepth 100000 in
theorem wrong9 (w : World) (v t : Nat) (hv : v < 4294967296) : Calls Try.prog 101 #[.int .i64 9, .int .i64 (v : Int), .int .i64 (t : Int)] w fun e w' => e = .returned (.int .i64 (wrF 9 v t : Int)) ∧ w' = w := by
  by_cases e0 : v = 3
  · subst e0
    have E0 : Hid (wrF 9 3 t = 0) := rfl
    generalize wrF 9 3 t = r at *
    clear hv
    go_enter Try.func101, Try.ntmps101
    go_wp2_with (go_at_call 115; refine (unless_is _ _ _).mono ?_; rintro e w' ⟨rfl, hw⟩; (have hw2 := hw.symm); clear hw; subst hw2)
    go_ret
    exact ⟨by rw [E0.out]; rfl, rfl⟩
  have q0 : ((v : Int) == 3) = false := by simp; omega
  by_cases e1 : v = 255
  · subst e1
    have E0 : Hid (wrF 9 255 t = 0) := rfl
    generalize wrF 9 255 t = r at *
    clear hv e0
    go_enter Try.func101, Try.ntmps101
    go_wp2_with (go_at_call 115; refine (unless_is _ _ _).mono ?_; rintro e w' ⟨rfl, hw⟩; (have hw2 := hw.symm); clear hw; subst hw2)
    go_ret
    exact ⟨by rw [E0.out]; rfl, rfl⟩
  have q1 : ((v : Int) == 255) = false := by simp; omega
  have E0 : Hid (wrF 9 v t = 53) := by unfold Hid wrF pFd pK; simp [e0, e1, wF]
  generalize wrF 9 v t = r at *
  clear e0 e1 hv
  go_enter Try.func101, Try.ntmps101
  go_wp2_with (go_at_call 115; refine (unless_is _ _ _).mono ?_; rintro e w' ⟨rfl, hw⟩; (have hw2 := hw.symm); clear hw; subst hw2)
  go_ret
  exact ⟨by rw [E0.out]; rfl, rfl⟩
set_option maxHeartbeats 4000000 in
set_option maxRecDepth 100000 in
theorem wrong10 (w : World) (v t : Nat) (hv : v < 4294967296) : Calls Try.prog 101 #[.int .i64 10, .int .i64 (v : Int), .int .i64 (t : Int)] w fun e w' => e = .returned (.int .i64 (wrF 10 v t : Int)) ∧ w' = w := by
  by_cases e0 : 0 < v
  rotate_left
  · have q0 : ¬ (0 : Int) < (v : Int) := by omega
    have E0 : Hid (wrF 10 v t = 57) := by unfold Hid wrF pFd pS; simp [e0, wF]
    generalize wrF 10 v t = r at *
    clear e0 hv
    go_enter Try.func101, Try.ntmps101
    go_wp2_with (go_at_call 115; refine (unless_is _ _ _).mono ?_; rintro e w' ⟨rfl, hw⟩; (have hw2 := hw.symm); clear hw; subst hw2)
    go_ret
    exact ⟨by rw [E0.out]; rfl, rfl⟩
  have q0 : (0 : Int) < (v : Int) := by omega
  by_cases e1 : v ≤ 256
  · have q1 : (v : Int) ≤ 256 := by omega
    have E0 : Hid (wrF 10 v t = 0) := by unfold Hid wrF pFd pS; simp [e0, e1]
    generalize wrF 10 v t = r at *
    clear e0 e1 hv
    go_enter Try.func101, Try.ntmps101
    go_wp2_with (go_at_call 115; refine (unless_is _ _ _).mono ?_; rintro e w' ⟨rfl, hw⟩; (have hw2 := hw.symm); clear hw; subst hw2)
    go_ret
    exact ⟨by rw [E0.out]; rfl, rfl⟩
  have q1 : ¬ (v : Int) ≤ 256 := by omega
  have E0 : Hid (wrF 10 v t = 57) := by unfold Hid wrF pFd pS; simp [e1, wF]
  generalize wrF 10 v t = r at *
  clear e0 e1 hv
  go_enter Try.func101, Try.ntmps101
  go_wp2_with (go_at_call 115; refine (unless_is _ _ _).mono ?_; rintro e w' ⟨rfl, hw⟩; (have hw2 := hw.symm); clear hw; subst hw2)
  go_ret
  exact ⟨by rw [E0.out]; rfl, rfl⟩
set_option maxHeartbeats 4000000 in
set_option maxRecDepth 100000 in
theorem wrong11 (w : World) (v t : Nat) (hv : v < 4294967296) : Calls Try.prog 101 #[.int .i64 11, .int .i64 (v : Int), .int .i64 (t : Int)] w fun e w' => e = .returned (.int .i64 (wrF 11 v t : Int)) ∧ w' = w := by
  by_cases e0 : 0 < v
  · have E0 : Hid (wrF 11 v t = 0) := by unfold Hid wrF pFd; simp [e0]
    have q0 : (0 : Int) < (v : Int) := by omega
    generalize wrF 11 v t = r at *
    clear e0 hv
    go_enter Try.func101, Try.ntmps101
    go_wp2_with (go_at_call 115; refine (unless_is _ _ _).mono ?_; rintro e w' ⟨rfl, hw⟩; (have hw2 := hw.symm); clear hw; subst hw2)
    go_ret
    exact ⟨by rw [E0.out]; rfl, rfl⟩
  have q0 : ¬ (0 : Int) < (v : Int) := by omega
  have E0 : Hid (wrF 11 v t = 56) := by unfold Hid wrF pFd; simp [e0, wF]
  generalize wrF 11 v t = r at *
  clear e0 hv
  go_enter Try.func101, Try.ntmps101
  go_wp2_with (go_at_call 115; refine (unless_is _ _ _).mono ?_; rintro e w' ⟨rfl, hw⟩; (have hw2 := hw.symm); clear hw; subst hw2)
  go_ret
  exact ⟨by rw [E0.out]; rfl, rfl⟩
set_option maxHeartbeats 4000000 in
set_option maxRecDepth 100000 in
theorem wrong12 (w : World) (v t : Nat) (hv : v < 4294967296) : Calls Try.prog 101 #[.int .i64 12, .int .i64 (v : Int), .int .i64 (t : Int)] w fun e w' => e = .returned (.int .i64 (wrF 12 v t : Int)) ∧ w' = w := by
  by_cases e0 : v = 255
  · subst e0
    have E0 : Hid (wrF 12 255 t = 0) := rfl
    generalize wrF 12 255 t = r at *
    clear hv
    go_enter Try.func101, Try.ntmps101
    go_wp2_with (go_at_call 115; refine (unless_is _ _ _).mono ?_; rintro e w' ⟨rfl, hw⟩; (have hw2 := hw.symm); clear hw; subst hw2)
    go_ret
    exact ⟨by rw [E0.out]; rfl, rfl⟩
  have q0 : ((v : Int) == 255) = false := by simp; omega
  have E0 : Hid (wrF 12 v t = 53) := by unfold Hid wrF pFd; simp [e0, wF]
  generalize wrF 12 v t = r at *
  clear e0 hv
  go_enter Try.func101, Try.ntmps101
  go_wp2_with (go_at_call 115; refine (unless_is _ _ _).mono ?_; rintro e w' ⟨rfl, hw⟩; (have hw2 := hw.symm); clear hw; subst hw2)
  go_ret
  exact ⟨by rw [E0.out]; rfl, rfl⟩
set_option maxHeartbeats 4000000 in
set_option maxRecDepth 100000 in
theorem wrong13 (w : World) (v t : Nat) (_ : v < 4294967296) : Calls Try.prog 101 #[.int .i64 13, .int .i64 (v : Int), .int .i64 (t : Int)] w fun e w' => e = .returned (.int .i64 (wrF 13 v t : Int)) ∧ w' = w := by
  have E0 : Hid (wrF 13 v t = 0) := rfl
  generalize wrF 13 v t = r at *
  go_enter Try.func101, Try.ntmps101
  go_wp2
  go_ret
  exact ⟨by rw [E0.out]; rfl, rfl⟩
set_option maxHeartbeats 4000000 in
set_option maxRecDepth 100000 in
theorem wrong14 (w : World) (v t : Nat) (hv : v < 4294967296) : Calls Try.prog 101 #[.int .i64 14, .int .i64 (v : Int), .int .i64 (t : Int)] w fun e w' => e = .returned (.int .i64 (wrF 14 v t : Int)) ∧ w' = w := by
  by_cases e0 : v = 0
  · subst e0
    have E0 : Hid (wrF 14 0 t = 0) := rfl
    generalize wrF 14 0 t = r at *
    clear hv
    go_enter Try.func101, Try.ntmps101
    go_wp2_with (go_at_call 115; refine (unless_is _ _ _).mono ?_; rintro e w' ⟨rfl, hw⟩; (have hw2 := hw.symm); clear hw; subst hw2)
    go_ret
    exact ⟨by rw [E0.out]; rfl, rfl⟩
  have q0 : ((v : Int) == 0) = false := by simp; omega
  have E0 : Hid (wrF 14 v t = 53) := by unfold Hid wrF pFd; simp [e0, wF]
  generalize wrF 14 v t = r at *
  clear e0 hv
  go_enter Try.func101, Try.ntmps101
  go_wp2_with (go_at_call 115; refine (unless_is _ _ _).mono ?_; rintro e w' ⟨rfl, hw⟩; (have hw2 := hw.symm); clear hw; subst hw2)
  go_ret
  exact ⟨by rw [E0.out]; rfl, rfl⟩
end Go.Proofs.Ytndhabhlajldeaa
