/- WordSignedDivides: the walk: for every two words the law returns true and turns nothing that was there. -/
import Derived.Test.YtpadpmkfhljiiaaWsd000
import Derived.Test.YtpadpmkfhljiiaaWsd010
import Derived.Test.YtpadpmkfhljiiaaWsd001
import Derived.Test.YtpadpmkfhljiiaaWsd100
import Derived.Test.YtpadpmkfhljiiaaWsd110
import Derived.Test.YtpadpmkfhljiiaaWsd101
namespace Go.Proofs.Ytpadpmkfhljiiaa
open Go.RowKit
/-- a word and its sign: A is what it is, signed, u what it is without the sign -/
theorem sg_facts (x : Int) (a0 a1 a2 a3 : Int) (ha : IsW x a0 a1 a2 a3) : ∃ (A U u0 u1 u2 u3 : Int) (s : Bool), IsW A a0 a1 a2 a3 ∧ IsW U u0 u1 u2 u3 ∧ 0 ≤ U ∧ U < MM ∧ (s = true → A = -U ∧ 0 < U) ∧ (s = false → A = U) ∧
    (∀ w : World, Calls Try.prog 83 #[.agg #[.int .u64 a0, .int .u64 a1, .int .u64 a2, .int .u64 a3]] w fun e w' => e = .returned (.bool s) ∧ Below w.heap.size w w') ∧
    (∀ w : World, Calls Try.prog 82 #[.agg #[.int .u64 a0, .int .u64 a1, .int .u64 a2, .int .u64 a3]] w fun e w' => e = .returned (.agg #[.int .u64 u0, .int .u64 u1, .int .u64 u2, .int .u64 u3]) ∧ Below w.heap.size w w') ∧
    (∀ w : World, Calls Try.prog 41 #[.agg #[.int .u64 a0, .int .u64 a1, .int .u64 a2, .int .u64 a3]] w fun e w' => e = .returned (.bool s) ∧ Below w.heap.size w w') ∧
    (∀ w : World, Calls Try.prog 40 #[.agg #[.int .u64 a0, .int .u64 a1, .int .u64 a2, .int .u64 a3]] w fun e w' => e = .returned (.agg #[.int .u64 u0, .int .u64 u1, .int .u64 u2, .int .u64 u3]) ∧ Below w.heap.size w w') := by
  have hm := MM_pos
  have h0 : 0 ≤ x % MM := Int.emod_nonneg _ (by omega)
  have h1 : x % MM < MM := Int.emod_lt_of_pos _ hm
  have hx : IsW (x % MM) a0 a1 a2 a3 := ha.cong (by rw [Int.emod_emod_of_dvd _ (Int.dvd_refl _)])
  have L1 : ∀ w : World, Calls Try.prog 20 #[.agg #[.int .u64 18446744073709551615, .int .u64 18446744073709551615, .int .u64 18446744073709551615, .int .u64 18446744073709551615], .agg #[.int .u64 a0, .int .u64 a1, .int .u64 a2, .int .u64 a3]] w fun e w' => e = .returned (.bool false) ∧ Below w.heap.size w w' := fun w => lt_is _ _ _ _ a0 a1 a2 a3 w isW_most hx false (by rw [Int.emod_emod_of_dvd _ (Int.dvd_refl _)]; simp; unfold MM at *; omega)
  have hN := negative_any x a0 a1 a2 a3
  have hh : 0 < MM / 2 := by unfold MM; omega
  by_cases hn : MM / 2 ≤ x % MM
  · obtain ⟨u0, u1, u2, u3, iu⟩ := isW_ex (0 - x % MM)
    have L2 : ∀ w : World, Calls Try.prog 20 #[.agg #[.int .u64 a0, .int .u64 a1, .int .u64 a2, .int .u64 a3], .agg #[.int .u64 0, .int .u64 0, .int .u64 0, .int .u64 9223372036854775808]] w fun e w' => e = .returned (.bool false) ∧ Below w.heap.size w w' := fun w => lt_is a0 a1 a2 a3 _ _ _ _ w hx isW_top false (by rw [Int.emod_emod_of_dvd _ (Int.dvd_refl _), Int.emod_eq_of_lt (show 0 ≤ MM / 2 by omega) (by omega)]; simp; omega)
    have SU : ∀ w : World, Calls Try.prog 34 #[.agg #[.int .u64 0, .int .u64 0, .int .u64 0, .int .u64 0], .agg #[.int .u64 a0, .int .u64 a1, .int .u64 a2, .int .u64 a3]] w fun e w' => e = .returned (.agg #[.int .u64 u0, .int .u64 u1, .int .u64 u2, .int .u64 u3]) ∧ Below w.heap.size w w' := fun w => sub_is 0 (x % MM) 0 0 0 0 a0 a1 a2 a3 u0 u1 u2 u3 w isW_0 hx iu
    have SG := sign_c a0 a1 a2 a3 L1 L2
    have NE : ∀ w : World, Calls Try.prog 83 #[.agg #[.int .u64 a0, .int .u64 a1, .int .u64 a2, .int .u64 a3]] w fun e w' => e = .returned (.bool true) ∧ Below w.heap.size w w' := fun w => by have := hN w ha; simpa [hn] using this
    refine ⟨x % MM - MM, MM - x % MM, u0, u1, u2, u3, true, hx.cong ?_, iu.cong ?_, by omega, by omega, (fun _ => ⟨by omega, by omega⟩), (fun h => by cases h), NE, magnitude_t a0 a1 a2 a3 u0 u1 u2 u3 NE (negate_c a0 a1 a2 a3 u0 u1 u2 u3 SU), SG, without_t a0 a1 a2 a3 u0 u1 u2 u3 SG SU⟩
    · rw [Int.sub_emod_right]
    · rw [show MM - x % MM = 0 - x % MM + MM by omega, Int.add_emod_right]
  · have L2 : ∀ w : World, Calls Try.prog 20 #[.agg #[.int .u64 a0, .int .u64 a1, .int .u64 a2, .int .u64 a3], .agg #[.int .u64 0, .int .u64 0, .int .u64 0, .int .u64 9223372036854775808]] w fun e w' => e = .returned (.bool true) ∧ Below w.heap.size w w' := fun w => lt_is a0 a1 a2 a3 _ _ _ _ w hx isW_top true (by rw [Int.emod_emod_of_dvd _ (Int.dvd_refl _), Int.emod_eq_of_lt (show 0 ≤ MM / 2 by omega) (by omega)]; simp; omega)
    have SG := sign_f a0 a1 a2 a3 L1 L2
    have NE : ∀ w : World, Calls Try.prog 83 #[.agg #[.int .u64 a0, .int .u64 a1, .int .u64 a2, .int .u64 a3]] w fun e w' => e = .returned (.bool false) ∧ Below w.heap.size w w' := fun w => by have := hN w ha; simpa [hn] using this
    exact ⟨x % MM, x % MM, a0, a1, a2, a3, false, hx, hx, h0, h1, fun h => (by cases h), fun _ => rfl, NE, magnitude_f a0 a1 a2 a3 NE, SG, without_f a0 a1 a2 a3 SG⟩
theorem wordSignedDivides_walk (x y : Int) (a0 a1 a2 a3 b0 b1 b2 b3 : Int) (w : World) (ha : IsW x a0 a1 a2 a3) (hb : IsW y b0 b1 b2 b3) :
    Calls Try.prog 8 #[.agg #[.int .u64 a0, .int .u64 a1, .int .u64 a2, .int .u64 a3], .agg #[.int .u64 b0, .int .u64 b1, .int .u64 b2, .int .u64 b3]] w fun e w' => e = .returned (.bool true) ∧ Below w.heap.size w w' := by
  have hm := MM_pos
  obtain ⟨A, U, u0, u1, u2, u3, s, iA, iU, U0, U1, sT, sF, NA, MA, SA, WA⟩ := sg_facts x a0 a1 a2 a3 ha
  obtain ⟨B, T, v0, v1, v2, v3, t, iB, iT, T0, T1, tT, tF, NB, MB, SB, WB⟩ := sg_facts y b0 b1 b2 b3 hb
  have hUU : U % MM = U := Int.emod_eq_of_lt U0 U1
  have hTT : T % MM = T := Int.emod_eq_of_lt T0 T1
  obtain ⟨Q, hQ⟩ : ∃ Q, dv U T = Q := ⟨_, rfl⟩
  obtain ⟨R, hR⟩ : ∃ R, md U T = R := ⟨_, rfl⟩
  obtain ⟨q0, q1, q2, q3, iq⟩ := isW_ex Q
  obtain ⟨r0, r1, r2, r3, ir⟩ := isW_ex R
  obtain ⟨z0, z1, z2, z3, iz⟩ := isW_ex (0 - Q)
  obtain ⟨y0, y1, y2, y3, iy⟩ := isW_ex (0 - R)
  have DI : ∀ w : World, Calls Try.prog 38 #[.agg #[.int .u64 u0, .int .u64 u1, .int .u64 u2, .int .u64 u3], .agg #[.int .u64 v0, .int .u64 v1, .int .u64 v2, .int .u64 v3]] w fun e w' => e = .returned (.agg #[.int .u64 q0, .int .u64 q1, .int .u64 q2, .int .u64 q3]) ∧ Below w.heap.size w w' := fun w => div_is U T u0 u1 u2 u3 v0 v1 v2 v3 q0 q1 q2 q3 w iU iT (by rw [hUU, hTT, hQ]; exact iq)
  have MO : ∀ w : World, Calls Try.prog 39 #[.agg #[.int .u64 u0, .int .u64 u1, .int .u64 u2, .int .u64 u3], .agg #[.int .u64 v0, .int .u64 v1, .int .u64 v2, .int .u64 v3]] w fun e w' => e = .returned (.agg #[.int .u64 r0, .int .u64 r1, .int .u64 r2, .int .u64 r3]) ∧ Below w.heap.size w w' := fun w => mod_is U T u0 u1 u2 u3 v0 v1 v2 v3 r0 r1 r2 r3 w iU iT (by rw [hUU, hTT, hR]; exact ir)
  have S1 : ∀ w : World, Calls Try.prog 34 #[.agg #[.int .u64 0, .int .u64 0, .int .u64 0, .int .u64 0], .agg #[.int .u64 q0, .int .u64 q1, .int .u64 q2, .int .u64 q3]] w fun e w' => e = .returned (.agg #[.int .u64 z0, .int .u64 z1, .int .u64 z2, .int .u64 z3]) ∧ Below w.heap.size w w' := fun w => sub_is 0 Q 0 0 0 0 q0 q1 q2 q3 z0 z1 z2 z3 w isW_0 iq iz
  have S2 : ∀ w : World, Calls Try.prog 34 #[.agg #[.int .u64 0, .int .u64 0, .int .u64 0, .int .u64 0], .agg #[.int .u64 r0, .int .u64 r1, .int .u64 r2, .int .u64 r3]] w fun e w' => e = .returned (.agg #[.int .u64 y0, .int .u64 y1, .int .u64 y2, .int .u64 y3]) ∧ Below w.heap.size w w' := fun w => sub_is 0 R 0 0 0 0 r0 r1 r2 r3 y0 y1 y2 y3 w isW_0 ir iy
  have N1 := negate_c q0 q1 q2 q3 z0 z1 z2 z3 S1
  have N2 := negate_c r0 r1 r2 r3 y0 y1 y2 y3 S2
  by_cases hz : T = 0
  · obtain rfl : t = false := by rcases t with _ | _; rfl; have := (tT rfl).2; omega
    have hB : B = 0 := by rw [tF rfl, hz]
    obtain ⟨rfl, rfl, rfl, rfl⟩ := iB.eq isW_0 (by rw [hB])
    rcases s with _ | _
    · exact wsd_001 a0 a1 a2 a3 u0 u1 u2 u3 v0 v1 v2 v3 q0 q1 q2 q3 r0 r1 r2 r3 WA WB DI MO SA SB (sdiv_00 a0 a1 a2 a3 0 0 0 0 u0 u1 u2 u3 v0 v1 v2 v3 q0 q1 q2 q3 MA MB DI NA NB) (smod_0 a0 a1 a2 a3 0 0 0 0 u0 u1 u2 u3 v0 v1 v2 v3 r0 r1 r2 r3 MA MB MO NA) w
    · exact wsd_101 a0 a1 a2 a3 u0 u1 u2 u3 v0 v1 v2 v3 q0 q1 q2 q3 r0 r1 r2 r3 z0 z1 z2 z3 y0 y1 y2 y3 WA WB DI MO SA SB S1 S2 (sdiv_10 a0 a1 a2 a3 0 0 0 0 u0 u1 u2 u3 v0 v1 v2 v3 q0 q1 q2 q3 z0 z1 z2 z3 MA MB DI NA NB N1) (smod_1 a0 a1 a2 a3 0 0 0 0 u0 u1 u2 u3 v0 v1 v2 v3 r0 r1 r2 r3 y0 y1 y2 y3 MA MB MO NA N2) w
  · have hE : T * Q + R = U := by rw [← hQ, ← hR, dv, md, if_neg hz]; exact Int.mul_ediv_add_emod U T
    have hBz : B % MM ≠ 0 := by
      rcases t with _ | _
      · rw [tF rfl, hTT]; exact hz
      · obtain ⟨h1, h2⟩ := tT rfl
        rw [h1, show -T = (MM - T) + (-1) * MM by omega, Int.add_mul_emod_self_right, Int.emod_eq_of_lt (by omega) (by omega)]; omega
    have E0 := eqw_un b0 b1 b2 b3 0 0 0 0 iB isW_0 (by simpa using hBz)
    rcases s with _ | _ <;> rcases t with _ | _
    · obtain ⟨m0, m1, m2, m3, im⟩ := isW_ex (Q * B)
      refine wsd_000 a0 a1 a2 a3 b0 b1 b2 b3 u0 u1 u2 u3 v0 v1 v2 v3 q0 q1 q2 q3 r0 r1 r2 r3 m0 m1 m2 m3 WA WB DI MO SA SB (sdiv_00 a0 a1 a2 a3 b0 b1 b2 b3 u0 u1 u2 u3 v0 v1 v2 v3 q0 q1 q2 q3 MA MB DI NA NB) (smod_0 a0 a1 a2 a3 b0 b1 b2 b3 u0 u1 u2 u3 v0 v1 v2 v3 r0 r1 r2 r3 MA MB MO NA) (fun w => mul_is Q B q0 q1 q2 q3 b0 b1 b2 b3 m0 m1 m2 m3 w iq iB im) (fun w => add_is (Q * B) R m0 m1 m2 m3 r0 r1 r2 r3 a0 a1 a2 a3 w im ir (iA.cong ?_)) E0 w
      rw [sF rfl, tF rfl, ← hE, Int.mul_comm]
    · obtain ⟨m0, m1, m2, m3, im⟩ := isW_ex ((0 - Q) * B)
      refine wsd_010 a0 a1 a2 a3 b0 b1 b2 b3 u0 u1 u2 u3 v0 v1 v2 v3 q0 q1 q2 q3 r0 r1 r2 r3 m0 m1 m2 m3 z0 z1 z2 z3 WA WB DI MO SA SB S1 (sdiv_01 a0 a1 a2 a3 b0 b1 b2 b3 u0 u1 u2 u3 v0 v1 v2 v3 q0 q1 q2 q3 z0 z1 z2 z3 MA MB DI NA NB N1) (smod_0 a0 a1 a2 a3 b0 b1 b2 b3 u0 u1 u2 u3 v0 v1 v2 v3 r0 r1 r2 r3 MA MB MO NA) (fun w => mul_is (0 - Q) B z0 z1 z2 z3 b0 b1 b2 b3 m0 m1 m2 m3 w iz iB im) (fun w => add_is ((0 - Q) * B) R m0 m1 m2 m3 r0 r1 r2 r3 a0 a1 a2 a3 w im ir (iA.cong ?_)) E0 w
      rw [sF rfl, (tT rfl).1, ← hE, Int.zero_sub, Int.neg_mul_neg, Int.mul_comm]
    · obtain ⟨m0, m1, m2, m3, im⟩ := isW_ex ((0 - Q) * B)
      refine wsd_100 a0 a1 a2 a3 b0 b1 b2 b3 u0 u1 u2 u3 v0 v1 v2 v3 q0 q1 q2 q3 r0 r1 r2 r3 m0 m1 m2 m3 z0 z1 z2 z3 y0 y1 y2 y3 WA WB DI MO SA SB S1 S2 (sdiv_10 a0 a1 a2 a3 b0 b1 b2 b3 u0 u1 u2 u3 v0 v1 v2 v3 q0 q1 q2 q3 z0 z1 z2 z3 MA MB DI NA NB N1) (smod_1 a0 a1 a2 a3 b0 b1 b2 b3 u0 u1 u2 u3 v0 v1 v2 v3 r0 r1 r2 r3 y0 y1 y2 y3 MA MB MO NA N2) (fun w => mul_is (0 - Q) B z0 z1 z2 z3 b0 b1 b2 b3 m0 m1 m2 m3 w iz iB im) (fun w => add_is ((0 - Q) * B) (0 - R) m0 m1 m2 m3 y0 y1 y2 y3 a0 a1 a2 a3 w im iy (iA.cong ?_)) E0 w
      rw [(sT rfl).1, tF rfl, ← hE, Int.zero_sub, Int.neg_mul, Int.mul_comm Q T, Int.neg_add]; congr 1; omega
    · obtain ⟨m0, m1, m2, m3, im⟩ := isW_ex (Q * B)
      refine wsd_110 a0 a1 a2 a3 b0 b1 b2 b3 u0 u1 u2 u3 v0 v1 v2 v3 q0 q1 q2 q3 r0 r1 r2 r3 m0 m1 m2 m3 y0 y1 y2 y3 WA WB DI MO SA SB S2 (sdiv_11 a0 a1 a2 a3 b0 b1 b2 b3 u0 u1 u2 u3 v0 v1 v2 v3 q0 q1 q2 q3 MA MB DI NA NB) (smod_1 a0 a1 a2 a3 b0 b1 b2 b3 u0 u1 u2 u3 v0 v1 v2 v3 r0 r1 r2 r3 y0 y1 y2 y3 MA MB MO NA N2) (fun w => mul_is Q B q0 q1 q2 q3 b0 b1 b2 b3 m0 m1 m2 m3 w iq iB im) (fun w => add_is (Q * B) (0 - R) m0 m1 m2 m3 y0 y1 y2 y3 a0 a1 a2 a3 w im iy (iA.cong ?_)) E0 w
      rw [(sT rfl).1, (tT rfl).1, ← hE, Int.mul_neg, Int.mul_comm Q T, Int.neg_add]; congr 1; omega
end Go.Proofs.Ytpadpmkfhljiiaa
