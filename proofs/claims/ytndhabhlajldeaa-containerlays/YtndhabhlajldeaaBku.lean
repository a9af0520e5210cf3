/- Package container: the reader's header. -/
import Derived.Test.YtndhabhlajldeaaBkt
namespace Go.Proofs.Ytndhabhlajldeaa
open Go.RowKit
theorem hd1_is (V : World) (x : Nat) : Calls Try.prog 92 #[.int .u64 (x : Int)] V fun e V' => e = .returned (.bool (pT x)) ∧ V' = V := by
  have t1 : Int.tmod (x : Int) 4 = ((x % 4 : Nat) : Int) := by rw [Int.tmod_eq_emod_of_nonneg (by omega)]; omega
  have EP : Hid (pT x = (decide (0 < x) && (x % 4 == 0 && decide (x ≤ 4096)))) := rfl
  generalize hq : x % 4 = q at *
  clear hq
  generalize pT x = r at *
  by_cases e0 : 0 < x
  · have c0 : (0 : Int) < (x : Int) := by omega
    by_cases e1 : q = 0
    · subst e1
      by_cases e2 : x ≤ 4096
      · have c2 : (x : Int) ≤ 4096 := by omega
        have E0 : Hid (r = true) := by unfold Hid; rw [EP.out]; simp [e0, e2]
        clear e0 e2
        go_enter Try.func92, Try.ntmps92
        go_wp2
        go_ret
        exact ⟨by rw [E0.out]; rfl, rfl⟩
      · have c2 : ¬ (x : Int) ≤ 4096 := by omega
        have E0 : Hid (r = false) := by unfold Hid; rw [EP.out]; simp [e2]
        clear e0 e2
        go_enter Try.func92, Try.ntmps92
        go_wp2
        go_ret
        exact ⟨by rw [E0.out]; rfl, rfl⟩
    · have c1 : ((q : Int) == 0) = false := by simp; omega
      have E0 : Hid (r = false) := by unfold Hid; rw [EP.out]; simp [e1]
      clear e0 e1
      go_enter Try.func92, Try.ntmps92
      go_wp2
      go_ret
      exact ⟨by rw [E0.out]; rfl, rfl⟩
  · have c0 : ¬ (0 : Int) < (x : Int) := by omega
    have E0 : Hid (r = false) := by unfold Hid; rw [EP.out]; simp [e0]
    clear e0
    go_enter Try.func92, Try.ntmps92
    go_wp2
    go_ret
    exact ⟨by rw [E0.out]; rfl, rfl⟩
theorem hd2_is (V : World) (g x t : Nat) (ht : t < 18446744073709551616) (h : V.cell? ⟨g, 0, none⟩ = some (.int .u64 (t : Int))) : Calls Try.prog 93 #[.int .u64 (x : Int), .pointer (some ⟨g, 0, none⟩)] V fun e V' => e = .returned (.bool (x == t / 4)) ∧ V' = V := by
  obtain ⟨q, hq⟩ : ∃ q, q = t / 4 := ⟨_, rfl⟩
  have t1 : Int.tdiv (t : Int) 4 = (q : Int) := by rw [Int.tdiv_eq_ediv_of_nonneg (by omega)]; omega
  have t2 : (t : Int) / 4 = (q : Int) := by omega
  rw [← hq]
  have EQ := eq_nat x q
  have wq : IntKind.u64.wrap (q : Int) = (q : Int) := by rw [IntKind.wrap_u64]; omega
  clear hq ht
  go_enter Try.func93, Try.ntmps93
  go_wp2
  go_ret
  exact ⟨by rw [← EQ]; rfl, rfl⟩
theorem hd3_is (V : World) (x : Nat) : Calls Try.prog 95 #[.int .u64 (x : Int)] V fun e V' => e = .returned (.bool (pK x)) ∧ V' = V := by
  have EP : Hid (pK x = (x == 3 || x == 255)) := rfl
  generalize pK x = r at *
  by_cases e0 : x = 3
  · subst e0
    have E0 : Hid (r = true) := EP.out
    go_enter Try.func95, Try.ntmps95
    go_wp2
    go_ret
    exact ⟨by rw [E0.out]; rfl, rfl⟩
  have c0 : ((x : Int) == 3) = false := by simp; omega
  by_cases e1 : x = 255
  · subst e1
    have E0 : Hid (r = true) := EP.out
    go_enter Try.func95, Try.ntmps95
    go_wp2
    go_ret
    exact ⟨by rw [E0.out]; rfl, rfl⟩
  have c1 : ((x : Int) == 255) = false := by simp; omega
  have E0 : Hid (r = false) := by unfold Hid; rw [EP.out]; simp [e0, e1]
  clear e0 e1
  go_enter Try.func95, Try.ntmps95
  go_wp2
  go_ret
  exact ⟨by rw [E0.out]; rfl, rfl⟩
theorem hd4_is (V : World) (x : Nat) : Calls Try.prog 96 #[.int .u64 (x : Int)] V fun e V' => e = .returned (.bool (pS x)) ∧ V' = V := by
  have EP : Hid (pS x = (decide (0 < x) && decide (x ≤ 256))) := rfl
  generalize pS x = r at *
  by_cases e0 : 0 < x
  · have c0 : (0 : Int) < (x : Int) := by omega
    by_cases e2 : x ≤ 256
    · have c2 : (x : Int) ≤ 256 := by omega
      have E0 : Hid (r = true) := by unfold Hid; rw [EP.out]; simp [e0, e2]
      clear e0 e2
      go_enter Try.func96, Try.ntmps96
      go_wp2
      go_ret
      exact ⟨by rw [E0.out]; rfl, rfl⟩
    · have c2 : ¬ (x : Int) ≤ 256 := by omega
      have E0 : Hid (r = false) := by unfold Hid; rw [EP.out]; simp [e2]
      clear e0 e2
      go_enter Try.func96, Try.ntmps96
      go_wp2
      go_ret
      exact ⟨by rw [E0.out]; rfl, rfl⟩
  · have c0 : ¬ (0 : Int) < (x : Int) := by omega
    have E0 : Hid (r = false) := by unfold Hid; rw [EP.out]; simp [e0]
    clear e0
    go_enter Try.func96, Try.ntmps96
    go_wp2
    go_ret
    exact ⟨by rw [E0.out]; rfl, rfl⟩
end Go.Proofs.Ytndhabhlajldeaa
