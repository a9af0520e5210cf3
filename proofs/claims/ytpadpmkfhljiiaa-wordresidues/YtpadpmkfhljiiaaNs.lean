/- Plain arithmetic of shifts by less than 64 places, limb by limb. -/
import Derived.Test.YtpadpmkfhljiiaaNum
import Derived.Laws.BitsAllLaws
namespace Go.Proofs.Ytpadpmkfhljiiaa
open Go.RowKit

theorem pq64 (r : Int) (h0 : 0 ≤ r) (h1 : r < 64) : 2 ^ r.toNat * 2 ^ (64 - r).toNat = (18446744073709551616 : Nat) := by
  rw [← Nat.pow_add, show r.toNat + (64 - r).toNat = 64 by omega]
/-- a 2^r: what stays in the limb, and what goes into the next -/
theorem up_ex (a r : Int) (ha : U64 a) (h0 : 0 ≤ r) (h1 : r < 64) : ∃ P Q m c : Nat, P * Q = 18446744073709551616 ∧ ((2 : Int) ^ r.toNat = P) ∧ ((2 : Int) ^ (64 - r).toNat = Q) ∧ IntKind.u64.wrap (a * 2 ^ r.toNat) = ((P * m : Nat) : Int) ∧ a / 2 ^ (64 - r).toNat = (c : Int) ∧ m < Q ∧ c < P ∧ a * 2 ^ r.toNat = (c : Int) * 18446744073709551616 + ((P * m : Nat) : Int) ∧ P = 2 ^ r.toNat := by
  obtain ⟨A, rfl⟩ := Int.eq_ofNat_of_zero_le ha.1
  have hA : A < 18446744073709551616 := by have := ha.2; unfold Bd at this; omega
  have hpq := pq64 r h0 h1
  have eP : (2 : Int) ^ r.toNat = ((2 ^ r.toNat : Nat) : Int) := by rw [Int.natCast_pow]; rfl
  have eQ : (2 : Int) ^ (64 - r).toNat = ((2 ^ (64 - r).toNat : Nat) : Int) := by rw [Int.natCast_pow]; rfl
  have hP0 : 0 < 2 ^ r.toNat := Nat.two_pow_pos _
  have hQ0 : 0 < 2 ^ (64 - r).toNat := Nat.two_pow_pos _
  refine ⟨2 ^ r.toNat, 2 ^ (64 - r).toNat, A % 2 ^ (64 - r).toNat, A / 2 ^ (64 - r).toNat, hpq, eP, eQ, ?_, ?_, Nat.mod_lt _ hQ0, ?_, ?_, rfl⟩
  · rw [IntKind.wrap_u64, eP, ← Int.natCast_mul, ← Nat.mul_mod_mul_left, hpq, Nat.mul_comm (2 ^ r.toNat) A]; omega
  · rw [eQ]; exact (Int.natCast_ediv _ _).symm
  · rw [Nat.div_lt_iff_lt_mul hQ0, hpq]; exact hA
  · have hd := Nat.div_add_mod A (2 ^ (64 - r).toNat)
    rw [eP, ← Int.natCast_mul]
    have : A * 2 ^ r.toNat = A / 2 ^ (64 - r).toNat * 18446744073709551616 + 2 ^ r.toNat * (A % 2 ^ (64 - r).toNat) := by
      rw [← hpq]
      generalize 2 ^ r.toNat = P at *
      generalize 2 ^ (64 - r).toNat = Q at *
      generalize hq : A / Q = q at *
      generalize hm : A % Q = m at *
      rw [← hd]; grind
    omega
theorem or_join (P Q m c : Nat) (r : Int) (hP : P = 2 ^ r.toNat) (hpq : P * Q = 18446744073709551616) (hm : m < Q) (hc : c < P) : bits .or .u64 ((P * m : Nat) : Int) (c : Int) = ((P * m + c : Nat) : Int) ∧ P * m + c < 18446744073709551616 := by
  have h1 : P * m + P ≤ 18446744073709551616 := by
    rw [← hpq]; calc P * m + P = P * (m + 1) := by grind
      _ ≤ P * Q := Nat.mul_le_mul_left _ hm
  refine ⟨?_, by omega⟩
  rw [u64_or_nat _ _ (by omega) (by omega)]
  rw [nat_join r.toNat (P * m) c (by rw [hP]; exact Nat.mul_mod_right _ _) (by rw [← hP]; exact hc)]
def upL (a r : Int) : Int := IntKind.u64.wrap (a * 2 ^ r.toNat)
def upJ (a b r : Int) : Int := bits .or .u64 (IntKind.u64.wrap (a * 2 ^ r.toNat)) (b / 2 ^ (64 - r).toNat)
/-- limb by limb: the parts of a 2^r -/
theorem up_parts {a0 a1 a2 a3 : Int} (r : Int) (h0 : 0 ≤ r) (h1 : r < 64) (u0 : U64 a0) (u1 : U64 a1) (u2 : U64 a2) (u3 : U64 a3) :
    ∃ c0 c1 c2 c3 : Int, a0 * 2 ^ r.toNat = c0 * Bd + upL a0 r ∧ a1 * 2 ^ r.toNat = c1 * Bd + upL a1 r ∧ a2 * 2 ^ r.toNat = c2 * Bd + upL a2 r ∧ a3 * 2 ^ r.toNat = c3 * Bd + upL a3 r ∧
      upJ a1 a0 r = upL a1 r + c0 ∧ upJ a2 a1 r = upL a2 r + c1 ∧ upJ a3 a2 r = upL a3 r + c2 ∧ U64 (upL a0 r) ∧ U64 (upJ a1 a0 r) ∧ U64 (upJ a2 a1 r) ∧ U64 (upJ a3 a2 r) := by
  obtain ⟨P, Q, m0, c0, hpq, eP, eQ, w0, d0, lm0, lc0, e0, hP⟩ := up_ex a0 r u0 h0 h1
  obtain ⟨P1, Q1, m1, c1, hpq1, eP1, eQ1, w1, d1, lm1, lc1, e1, hP1⟩ := up_ex a1 r u1 h0 h1
  obtain ⟨P2, Q2, m2, c2, hpq2, eP2, eQ2, w2, d2, lm2, lc2, e2, hP2⟩ := up_ex a2 r u2 h0 h1
  obtain ⟨P3, Q3, m3, c3, hpq3, eP3, eQ3, w3, d3, lm3, lc3, e3, hP3⟩ := up_ex a3 r u3 h0 h1
  obtain rfl : P = P1 := hP.trans hP1.symm
  obtain rfl : P = P2 := hP.trans hP2.symm
  obtain rfl : P = P3 := hP.trans hP3.symm
  obtain ⟨j1, k1⟩ := or_join P Q1 m1 c0 r hP hpq1 lm1 lc0
  obtain ⟨j2, k2⟩ := or_join P Q2 m2 c1 r hP hpq2 lm2 lc1
  obtain ⟨j3, k3⟩ := or_join P Q3 m3 c2 r hP hpq3 lm3 lc2
  obtain ⟨_, k0⟩ := or_join P Q m0 0 r hP hpq lm0 (by rw [hP]; exact Nat.two_pow_pos _)
  refine ⟨c0, c1, c2, c3, ?_, ?_, ?_, ?_, ?_, ?_, ?_, ?_, ?_, ?_, ?_⟩
  · rw [e0, upL, w0]; rfl
  · rw [e1, upL, w1]; rfl
  · rw [e2, upL, w2]; rfl
  · rw [e3, upL, w3]; rfl
  · rw [upJ, upL, w1, d0, j1]; omega
  · rw [upJ, upL, w2, d1, j2]; omega
  · rw [upJ, upL, w3, d2, j3]; omega
  · rw [upL, w0]; unfold U64 Bd; omega
  · rw [upJ, w1, d0, j1]; unfold U64 Bd; omega
  · rw [upJ, w2, d1, j2]; unfold U64 Bd; omega
  · rw [upJ, w3, d2, j3]; unfold U64 Bd; omega
theorem isW_mulp {x a0 a1 a2 a3 s0 s1 s2 s3 : Int} (h : IsW x a0 a1 a2 a3) (K k : Int) (u0 : U64 s0) (u1 : U64 s1) (u2 : U64 s2) (u3 : U64 s3) (e : V a0 a1 a2 a3 * K = V s0 s1 s2 s3 + MM * k) : IsW (x * K) s0 s1 s2 s3 := by
  refine (isW_of u0 u1 u2 u3 k e).cong ?_
  rw [Int.mul_emod, h.2, Int.emod_emod, ← Int.mul_emod]
theorem u64_0 : U64 0 := u64_lit 0 (by omega) (by omega)
theorem upW0 {x a0 a1 a2 a3 : Int} (h : IsW x a0 a1 a2 a3) (r : Int) (h0 : 0 ≤ r) (h1 : r < 64) : IsW (x * 2 ^ r.toNat) (upL a0 r) (upJ a1 a0 r) (upJ a2 a1 r) (upJ a3 a2 r) := by
  obtain ⟨c0, c1, c2, c3, e0, e1, e2, e3, j1, j2, j3, v0, v1, v2, v3⟩ := up_parts r h0 h1 h.u0 h.u1 h.u2 h.u3
  refine isW_mulp h _ c3 v0 v1 v2 v3 ?_
  have hh : V a0 a1 a2 a3 * 2 ^ r.toNat = a0 * 2 ^ r.toNat + Bd * (a1 * 2 ^ r.toNat + Bd * (a2 * 2 ^ r.toNat + Bd * (a3 * 2 ^ r.toNat))) := by unfold V; grind
  rw [hh, e0, e1, e2, e3, j1, j2, j3]
  unfold V Bd MM; omega
theorem upW1 {x a0 a1 a2 a3 : Int} (h : IsW x a0 a1 a2 a3) (r : Int) (h0 : 0 ≤ r) (h1 : r < 64) : IsW (x * (2 ^ r.toNat * Bd)) 0 (upL a0 r) (upJ a1 a0 r) (upJ a2 a1 r) := by
  obtain ⟨c0, c1, c2, c3, e0, e1, e2, e3, j1, j2, j3, v0, v1, v2, v3⟩ := up_parts r h0 h1 h.u0 h.u1 h.u2 h.u3
  refine isW_mulp h _ (c2 + a3 * 2 ^ r.toNat) u64_0 v0 v1 v2 ?_
  have hh : V a0 a1 a2 a3 * (2 ^ r.toNat * Bd) = (a0 * 2 ^ r.toNat + Bd * (a1 * 2 ^ r.toNat + Bd * (a2 * 2 ^ r.toNat + Bd * (a3 * 2 ^ r.toNat)))) * Bd := by unfold V; grind
  rw [hh, e0, e1, e2, j1, j2]
  generalize a3 * 2 ^ r.toNat = t
  unfold V Bd MM; omega
theorem upW2 {x a0 a1 a2 a3 : Int} (h : IsW x a0 a1 a2 a3) (r : Int) (h0 : 0 ≤ r) (h1 : r < 64) : IsW (x * (2 ^ r.toNat * (Bd * Bd))) 0 0 (upL a0 r) (upJ a1 a0 r) := by
  obtain ⟨c0, c1, c2, c3, e0, e1, e2, e3, j1, j2, j3, v0, v1, v2, v3⟩ := up_parts r h0 h1 h.u0 h.u1 h.u2 h.u3
  refine isW_mulp h _ (c1 + (a2 * 2 ^ r.toNat + Bd * (a3 * 2 ^ r.toNat))) u64_0 u64_0 v0 v1 ?_
  have hh : V a0 a1 a2 a3 * (2 ^ r.toNat * (Bd * Bd)) = (a0 * 2 ^ r.toNat + Bd * (a1 * 2 ^ r.toNat + Bd * (a2 * 2 ^ r.toNat + Bd * (a3 * 2 ^ r.toNat)))) * Bd * Bd := by unfold V; grind
  rw [hh, e0, e1, j1]
  generalize a3 * 2 ^ r.toNat = t; generalize a2 * 2 ^ r.toNat = s
  unfold V Bd MM; omega
theorem upW3 {x a0 a1 a2 a3 : Int} (h : IsW x a0 a1 a2 a3) (r : Int) (h0 : 0 ≤ r) (h1 : r < 64) : IsW (x * (2 ^ r.toNat * (Bd * Bd * Bd))) 0 0 0 (upL a0 r) := by
  obtain ⟨c0, c1, c2, c3, e0, e1, e2, e3, j1, j2, j3, v0, v1, v2, v3⟩ := up_parts r h0 h1 h.u0 h.u1 h.u2 h.u3
  refine isW_mulp h _ (c0 + (a1 * 2 ^ r.toNat + Bd * (a2 * 2 ^ r.toNat + Bd * (a3 * 2 ^ r.toNat)))) u64_0 u64_0 u64_0 v0 ?_
  have hh : V a0 a1 a2 a3 * (2 ^ r.toNat * (Bd * Bd * Bd)) = (a0 * 2 ^ r.toNat + Bd * (a1 * 2 ^ r.toNat + Bd * (a2 * 2 ^ r.toNat + Bd * (a3 * 2 ^ r.toNat)))) * Bd * Bd * Bd := by unfold V; grind
  rw [hh, e0]
  generalize a3 * 2 ^ r.toNat = t; generalize a2 * 2 ^ r.toNat = s; generalize a1 * 2 ^ r.toNat = u
  unfold V Bd MM; omega
theorem pow_split (n q r : Int) (hq : n / 64 = q) (hr : n % 64 = r) (h0 : 0 ≤ n) : (2 : Int) ^ n.toNat = 2 ^ r.toNat * 18446744073709551616 ^ q.toNat := by
  have : n.toNat = r.toNat + 64 * q.toNat := by omega
  rw [this, Int.pow_add, Int.pow_mul]; rfl
end Go.Proofs.Ytpadpmkfhljiiaa
