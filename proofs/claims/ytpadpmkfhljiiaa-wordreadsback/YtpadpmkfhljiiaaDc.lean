/- What bits.Div64 reckons ahead of its loops. -/
import Derived.Test.YtpadpmkfhljiiaaDa
namespace Go.Proofs.Ytpadpmkfhljiiaa
open Go.RowKit
theorem and_low (a : Nat) (ha : a < 18446744073709551616) : bits .and .u64 (a : Int) 4294967295 = ((a % 4294967296 : Nat) : Int) := by
  have h := u64_and_nat a 4294967295 ha (by omega)
  rw [show ((4294967295 : Nat) : Int) = 4294967295 from rfl] at h
  rw [h, show (4294967295 : Nat) = 2 ^ 32 - 1 from rfl, Nat.and_two_pow_sub_one_eq_mod]
theorem norm_y (y s : Nat) (hy : y < 18446744073709551616) (h0 : y ≠ 0) (es : (64 : Int) - (Lib.bitLen y : Int) = (s : Int)) : 9223372036854775808 ≤ y * 2 ^ s ∧ y * 2 ^ s < 18446744073709551616 := by
  obtain ⟨h1, h2, h3, h4⟩ := bitLen_range y hy h0
  generalize Lib.bitLen y = L at *
  have e1 : 2 ^ (L - 1) * 2 ^ s = 9223372036854775808 := by rw [← Nat.pow_add, show L - 1 + s = 63 by omega]
  have e2 : 2 ^ L * 2 ^ s = 18446744073709551616 := by rw [← Nat.pow_add, show L + s = 64 by omega]
  have a1 : 2 ^ (L - 1) * 2 ^ s ≤ y * 2 ^ s := Nat.mul_le_mul_right _ h2
  have a2 : y * 2 ^ s < 2 ^ L * 2 ^ s := Nat.mul_lt_mul_of_pos_right h3 (Nat.two_pow_pos s)
  omega
theorem or_high (hi lo s : Nat) (hs : s ≤ 63) (hh : hi * 2 ^ s < 18446744073709551616) (hl : lo < 18446744073709551616) : bits .or .u64 ((hi * 2 ^ s : Nat) : Int) ((lo / 2 ^ (64 - s) : Nat) : Int) = ((hi * 2 ^ s + lo / 2 ^ (64 - s) : Nat) : Int) := by
  have hb : lo / 2 ^ (64 - s) < 2 ^ s := by
    refine (Nat.div_lt_iff_lt_mul (Nat.two_pow_pos _)).2 ?_
    rw [← Nat.pow_add, show s + (64 - s) = 64 by omega]; exact hl
  have hb2 : lo / 2 ^ (64 - s) < 18446744073709551616 := Nat.lt_of_le_of_lt (Nat.div_le_self _ _) hl
  rw [u64_or_nat _ _ hh hb2, ← Nat.shiftLeft_eq hi, ← Nat.shiftLeft_add_eq_or_of_lt hb]
/-- both digits together are the quotient, what is left behind the second is the rest -/
theorem two_digits (u2 u1 u0 y : Nat) (hy : 0 < y) : ((u2 * B32 + u1) * B32 + u0) / y = (u2 * B32 + u1) / y * B32 + ((u2 * B32 + u1) % y * B32 + u0) / y ∧ ((u2 * B32 + u1) * B32 + u0) % y = ((u2 * B32 + u1) % y * B32 + u0) % y := by
  have e := Nat.div_add_mod (u2 * B32 + u1) y
  generalize u2 * B32 + u1 = u at e ⊢
  have e2 : u * B32 + u0 = y * (u / y * B32) + (u % y * B32 + u0) := by
    have h : u * B32 = (y * (u / y) + u % y) * B32 := by rw [e]
    rw [h, Nat.add_mul, Nat.mul_assoc]; omega
  rw [e2, Nat.mul_add_div hy, Nat.mul_add_mod]
  exact ⟨rfl, rfl⟩
end Go.Proofs.Ytpadpmkfhljiiaa
