/- The document's containers: typeWrong, number, at, sum. -/
import Derived.Test.YtndhabhlajldeaaBkr
namespace Go.Proofs.Ytndhabhlajldeaa
open Go.RowKit
theorem okIn_bad (i : Nat) (x : Int) : okIn i x = false ↔ (x < 0 ∨ 127 < x ∨ (i = 0 ∧ x ≠ 0)) := by
  unfold okIn
  constructor
  · intro h; simp at h; omega
  · intro h; simp; omega
theorem okOut_bad (i : Nat) (x : Int) : okOut i x = false ↔ (x < 0 ∨ 128 < x ∨ (i = 0 ∧ x ≠ 128)) := by
  unfold okOut
  constructor
  · intro h; simp at h; omega
  · intro h; simp; omega
theorem okMost_bad (x : Int) : okMost x = false ↔ (x < 0 ∨ 1023 < x) := by
  unfold okMost
  constructor
  · intro h; simp at h; omega
  · intro h; simp; omega
set_option maxHeartbeats 4000000 in
set_option maxRecDepth 100000 in
theorem typeWrong_is (w : World) (i : Nat) (x y z : Int) : Calls Try.prog 73 #[.int .i64 (i : Int), .agg #[.int .i64 x, .int .i64 y, .int .i64 z]] w fun e w' => e = .returned (.int .i64 (tyBad i (x, y, z) : Int)) ∧ Below w.heap.size w w' := by
  have B0 : Hid (Below w.heap.size w (w.alloc (.cells #[.int .i64 x, .int .i64 y, .int .i64 z] 77))) := below_alloc _ _
  have T0 : Hid (okIn i x = false → tyBad i (x, y, z) = 0) := fun h => by unfold tyBad; rw [if_pos h]
  have T1 : Hid (¬ okIn i x = false → okOut i y = false → tyBad i (x, y, z) = 1) := fun h1 h => by unfold tyBad; rw [if_neg h1, if_pos h]
  have T2 : Hid (¬ okIn i x = false → ¬ okOut i y = false → okMost z = false → tyBad i (x, y, z) = 2) := fun h1 h2 h => by unfold tyBad; rw [if_neg h1, if_neg h2, if_pos h]
  have T3 : Hid (¬ okIn i x = false → ¬ okOut i y = false → ¬ okMost z = false → tyBad i (x, y, z) = 3) := fun h1 h2 h => by unfold tyBad; rw [if_neg h1, if_neg h2, if_neg h]
  rw [okIn_bad] at T0 T1 T2 T3
  rw [okOut_bad] at T1 T2 T3
  rw [okMost_bad] at T2 T3
  generalize tyBad i (x, y, z) = r at *
  have CB0 : Hid (CBox (w.alloc (.cells #[.int .i64 x, .int .i64 y, .int .i64 z] 77)) w.heap.size 77 [.int .i64 x, .int .i64 y, .int .i64 z]) := CBox.new _ _ [_, _, _]
  go_enter Try.func73, Try.ntmps73
  go_upto_region 1 with fail
  generalize w.alloc _ = W0 at B0 CB0 ⊢
  generalize hb : w.heap.size = bx at *
  have GB : Hid (w.heap.size = bx) := hb
  have c0 : W0.cell? ⟨bx, 0, none⟩ = some (.int .i64 x) := CB0.out.cell 0
  have c1 : W0.cell? ⟨bx, 1, none⟩ = some (.int .i64 y) := CB0.out.cell 1
  have c2 : W0.cell? ⟨bx, 2, none⟩ = some (.int .i64 z) := CB0.out.cell 2
  clear hb CB0
  by_cases ei : i = 0
  · subst ei
    by_cases ex0 : x < 0
    · have E0 : Hid (r = 0) := T0.out (by omega)
      go_wp2
      go_ret
      exact ⟨by rw [E0.out]; rfl, by rw [GB.out]; exact B0.out⟩
    by_cases ex1 : 127 < x
    · have E0 : Hid (r = 0) := T0.out (by omega)
      go_wp2
      go_ret
      exact ⟨by rw [E0.out]; rfl, by rw [GB.out]; exact B0.out⟩
    by_cases ex2 : x = 0
    rotate_left
    · have E0 : Hid (r = 0) := T0.out (by omega)
      have qx : (x == 0) = false := by simpa using ex2
      have px : (x != 0) = true := by simpa using ex2
      clear ex2
      go_wp2
      go_ret
      exact ⟨by rw [E0.out]; rfl, by rw [GB.out]; exact B0.out⟩
    go_upto_region 3 with fail
    by_cases ey0 : y < 0
    · have E0 : Hid (r = 1) := T1.out (by omega) (by omega)
      go_wp2
      go_ret
      exact ⟨by rw [E0.out]; rfl, by rw [GB.out]; exact B0.out⟩
    by_cases ey1 : 128 < y
    · have E0 : Hid (r = 1) := T1.out (by omega) (by omega)
      go_wp2
      go_ret
      exact ⟨by rw [E0.out]; rfl, by rw [GB.out]; exact B0.out⟩
    by_cases ey2 : y = 128
    rotate_left
    · have E0 : Hid (r = 1) := T1.out (by omega) (by omega)
      have qy : (y == 128) = false := by simpa using ey2
      have py : (y != 128) = true := by simpa using ey2
      clear ey2
      go_wp2
      go_ret
      exact ⟨by rw [E0.out]; rfl, by rw [GB.out]; exact B0.out⟩
    go_upto_region 5 with fail
    by_cases ez0 : z < 0
    · have E0 : Hid (r = 2) := T2.out (by omega) (by omega) (by omega)
      go_wp2
      go_ret
      exact ⟨by rw [E0.out]; rfl, by rw [GB.out]; exact B0.out⟩
    by_cases ez1 : 1023 < z
    · have E0 : Hid (r = 2) := T2.out (by omega) (by omega) (by omega)
      go_wp2
      go_ret
      exact ⟨by rw [E0.out]; rfl, by rw [GB.out]; exact B0.out⟩
    have E0 : Hid (r = 3) := T3.out (by omega) (by omega) (by omega)
    go_wp2
    go_ret
    exact ⟨by rw [E0.out]; rfl, by rw [GB.out]; exact B0.out⟩
  · have qi : ((i : Int) == 0) = false := by simp; omega
    by_cases ex0 : x < 0
    · have E0 : Hid (r = 0) := T0.out (by omega)
      go_wp2
      go_ret
      exact ⟨by rw [E0.out]; rfl, by rw [GB.out]; exact B0.out⟩
    by_cases ex1 : 127 < x
    · have E0 : Hid (r = 0) := T0.out (by omega)
      go_wp2
      go_ret
      exact ⟨by rw [E0.out]; rfl, by rw [GB.out]; exact B0.out⟩
    go_upto_region 3 with fail
    by_cases ey0 : y < 0
    · have E0 : Hid (r = 1) := T1.out (by omega) (by omega)
      go_wp2
      go_ret
      exact ⟨by rw [E0.out]; rfl, by rw [GB.out]; exact B0.out⟩
    by_cases ey1 : 128 < y
    · have E0 : Hid (r = 1) := T1.out (by omega) (by omega)
      go_wp2
      go_ret
      exact ⟨by rw [E0.out]; rfl, by rw [GB.out]; exact B0.out⟩
    go_upto_region 5 with fail
    by_cases ez0 : z < 0
    · have E0 : Hid (r = 2) := T2.out (by omega) (by omega) (by omega)
      go_wp2
      go_ret
      exact ⟨by rw [E0.out]; rfl, by rw [GB.out]; exact B0.out⟩
    by_cases ez1 : 1023 < z
    · have E0 : Hid (r = 2) := T2.out (by omega) (by omega) (by omega)
      go_wp2
      go_ret
      exact ⟨by rw [E0.out]; rfl, by rw [GB.out]; exact B0.out⟩
    have E0 : Hid (r = 3) := T3.out (by omega) (by omega) (by omega)
    go_wp2
    go_ret
    exact ⟨by rw [E0.out]; rfl, by rw [GB.out]; exact B0.out⟩
end Go.Proofs.Ytndhabhlajldeaa
