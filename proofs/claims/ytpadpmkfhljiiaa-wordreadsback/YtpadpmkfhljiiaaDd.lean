/- What bits.Div64 reckons around its loops, as rules for the walk. -/
import Derived.Test.YtpadpmkfhljiiaaDc
namespace Go.Proofs.Ytpadpmkfhljiiaa
open Go.RowKit
theorem wrap_nat (n : Nat) (h : n < 18446744073709551616) : IntKind.u64.wrap (n : Int) = (n : Int) := by rw [IntKind.wrap_u64]; omega
theorem shl_nat (a s : Nat) : (a : Int) * 2 ^ s = ((a * 2 ^ s : Nat) : Int) := by rw [Int.natCast_mul, Int.natCast_pow]; rfl
theorem shr_nat (a k : Nat) : (a : Int) / 2 ^ k = ((a / 2 ^ k : Nat) : Int) := by rw [Int.natCast_ediv, Int.natCast_pow]; rfl
theorem wrap_mod (n : Nat) : IntKind.u64.wrap (n : Int) = ((n % 18446744073709551616 : Nat) : Int) := by rw [IntKind.wrap_u64]; omega
theorem digit_facts {y1 y0 u2 u1 : Nat} (k : Ky y1 y0 u2 u1) : ∃ q p r : Nat, Int.tdiv (u2 : Int) (y1 : Int) = (q : Int) ∧ IntKind.u64.wrap (q : Int) = (q : Int) ∧ IntKind.u64.wrap ((q : Int) * (y1 : Int)) = (p : Int) ∧ IntKind.u64.wrap ((u2 : Int) - (p : Int)) = (r : Int) ∧ Kn y1 y0 u2 u1 q r ∧ r < B32 := by
  have hf := Kn.first k
  have h1 := hf.le
  have h2 := k.y1a
  have h3 := k.y1b
  have h4 := k.y0b
  have h5 := k.u2b
  have hu : u2 < 18446744073709551616 := by
    have : y1 * B32 ≤ 4294967295 * B32 := Nat.mul_le_mul_right _ (by unfold B32 at h3; omega)
    unfold B32 at *; omega
  have he := Nat.div_add_mod u2 y1
  have hm : u2 % y1 < y1 := Nat.mod_lt _ (by omega)
  refine ⟨u2 / y1, u2 / y1 * y1, u2 % y1, ?_, ?_, ?_, ?_, hf, by omega⟩
  · rw [Int.tdiv_eq_ediv_of_nonneg (by omega), Int.natCast_ediv]
  · exact wrap_nat _ (by unfold B32 at h1; omega)
  · rw [← Int.natCast_mul]; exact wrap_nat _ (by rw [Nat.mul_comm]; omega)
  · rw [Nat.mul_comm] at he
    have : ((u2 : Int) - ((u2 / y1 * y1 : Nat) : Int)) = ((u2 % y1 : Nat) : Int) := by omega
    rw [this]; exact wrap_nat _ (by omega)
theorem left_facts (u2 u1 ys Q R : Nat) (hy : 0 < ys) (hy2 : ys < 18446744073709551616) (hQ : Q = (u2 * B32 + u1) / ys) (hR : R = (u2 * B32 + u1) % ys) : ∃ c1 c2 c3 : Nat, IntKind.u64.wrap ((u2 : Int) * 4294967296) = (c1 : Int) ∧ IntKind.u64.wrap ((c1 : Int) + (u1 : Int)) = (c2 : Int) ∧ IntKind.u64.wrap ((Q : Int) * (ys : Int)) = (c3 : Int) ∧ IntKind.u64.wrap ((c2 : Int) - (c3 : Int)) = (R : Int) := by
  have e := Nat.div_add_mod (u2 * B32 + u1) ys
  rw [← hQ, ← hR, Nat.mul_comm] at e
  have hR2 : R < ys := by rw [hR]; exact Nat.mod_lt _ hy
  unfold B32 at e
  refine ⟨u2 * 4294967296 % 18446744073709551616, (u2 * 4294967296 % 18446744073709551616 + u1) % 18446744073709551616, Q * ys % 18446744073709551616, ?_, ?_, ?_, ?_⟩
  · rw [IntKind.wrap_u64]; omega
  · rw [IntKind.wrap_u64]; omega
  · rw [← Int.natCast_mul]; exact wrap_mod _
  · rw [IntKind.wrap_u64]
    generalize Q * ys = n at e ⊢
    omega
theorem whole_num (hi lo s u2 u10 : Nat) (hs : s ≤ 63) (h2 : u2 = hi * 2 ^ s + lo / 2 ^ (64 - s)) (h1 : u10 = lo * 2 ^ s % 18446744073709551616) : (u2 * B32 + u10 / 4294967296) * B32 + u10 % 4294967296 = (hi * 18446744073709551616 + lo) * 2 ^ s := by
  have e1 : lo * 2 ^ s / 18446744073709551616 = lo / 2 ^ (64 - s) := by
    have : (18446744073709551616 : Nat) = 2 ^ (64 - s) * 2 ^ s := by rw [← Nat.pow_add, show 64 - s + s = 64 by omega]
    rw [this, Nat.mul_div_mul_right _ _ (Nat.two_pow_pos s)]
  have e2 := Nat.div_add_mod (lo * 2 ^ s) 18446744073709551616
  rw [e1, ← h1] at e2
  rw [Nat.add_mul (hi * 18446744073709551616) lo, ← e2]
  have e3 : hi * 18446744073709551616 * 2 ^ s = hi * 2 ^ s * 18446744073709551616 := by rw [Nat.mul_assoc, Nat.mul_comm 18446744073709551616, ← Nat.mul_assoc]
  rw [e3, h2]
  generalize hi * 2 ^ s = a
  generalize lo / 2 ^ (64 - s) = b
  unfold B32
  omega
theorem end_facts (hi lo y s u2 u10 Q1 R1 Q0 R0 : Nat) (hs : s ≤ 63) (hy : 0 < y) (h2 : u2 = hi * 2 ^ s + lo / 2 ^ (64 - s)) (h1 : u10 = lo * 2 ^ s % 18446744073709551616)
    (hQ1 : Q1 = (u2 * B32 + u10 / 4294967296) / (y * 2 ^ s)) (hR1 : R1 = (u2 * B32 + u10 / 4294967296) % (y * 2 ^ s)) (hQ0 : Q0 = (R1 * B32 + u10 % 4294967296) / (y * 2 ^ s)) (hR0 : R0 = (R1 * B32 + u10 % 4294967296) % (y * 2 ^ s)) :
    Q1 * B32 + Q0 = (hi * 18446744073709551616 + lo) / y ∧ R0 / 2 ^ s = (hi * 18446744073709551616 + lo) % y := by
  have hp := Nat.two_pow_pos s
  have hd := two_digits u2 (u10 / 4294967296) (u10 % 4294967296) (y * 2 ^ s) (Nat.mul_pos hy hp)
  rw [whole_num hi lo s u2 u10 hs h2 h1, ← hQ1, ← hR1, ← hQ0, ← hR0, Nat.mul_div_mul_right _ _ hp, Nat.mul_mod_mul_right] at hd
  refine ⟨hd.1.symm, ?_⟩
  rw [← hd.2, Nat.mul_div_cancel _ hp]
end Go.Proofs.Ytpadpmkfhljiiaa
