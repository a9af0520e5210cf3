/- Knuth's digit: a guess that is brought down. -/
import Derived.Test.YtpadpmkfhljiiaaXa
namespace Go.Proofs.Ytpadpmkfhljiiaa
open Go.RowKit
def B32 : Nat := 4294967296
/-- the guess is no less than the digit, and what is left of the highest part goes with it -/
structure Kn (y1 y0 u2 u1 q r : Nat) : Prop where
  eq : u2 = q * y1 + r
  ge : (u2 * B32 + u1) / (y1 * B32 + y0) ≤ q
  le : q ≤ B32 + 1
structure Ky (y1 y0 u2 u1 : Nat) : Prop where
  y1a : 2147483648 ≤ y1
  y1b : y1 < B32
  y0b : y0 < B32
  u1b : u1 < B32
  u2b : u2 < y1 * B32 + y0
theorem Ky.lt {y1 y0 u2 u1 : Nat} (h : Ky y1 y0 u2 u1) : (u2 * B32 + u1) / (y1 * B32 + y0) < B32 := by
  refine (Nat.div_lt_iff_lt_mul (by have := h.y1a; unfold B32; omega)).2 ?_
  have h1 := h.u1b
  have h2 := h.u2b
  generalize y1 * B32 + y0 = y at h2 ⊢
  rw [Nat.mul_comm B32 y]
  have h3 : (u2 + 1) * B32 ≤ y * B32 := Nat.mul_le_mul_right _ h2
  rw [Nat.add_mul, Nat.one_mul] at h3
  omega
theorem Kn.prod {y1 y0 u2 u1 q r : Nat} (h : u2 = q * y1 + r) : q * (y1 * B32 + y0) + (B32 * r + u1) = u2 * B32 + u1 + q * y0 := by
  rw [h, Nat.mul_add, ← Nat.mul_assoc, Nat.add_mul, Nat.mul_comm r B32]; omega
theorem Kn.first {y1 y0 u2 u1 : Nat} (h : Ky y1 y0 u2 u1) : Kn y1 y0 u2 u1 (u2 / y1) (u2 % y1) := by
  have ha := h.y1a
  have hb := h.y1b
  have hc := h.y0b
  have hd := h.u2b
  have he := h.u1b
  refine ⟨by rw [Nat.mul_comm]; exact (Nat.div_add_mod u2 y1).symm, ?_, ?_⟩
  · refine Nat.le_of_lt_succ ((Nat.div_lt_iff_lt_mul (by unfold B32; omega)).2 ?_)
    have h1 : u2 < (u2 / y1 + 1) * y1 := by rw [Nat.mul_comm]; exact Nat.lt_mul_div_succ u2 (by omega)
    show u2 * B32 + u1 < (u2 / y1 + 1) * (y1 * B32 + y0)
    generalize u2 / y1 + 1 = k at h1 ⊢
    have h2 : (u2 + 1) * B32 ≤ k * y1 * B32 := Nat.mul_le_mul_right _ h1
    rw [Nat.mul_add, ← Nat.mul_assoc]
    rw [Nat.add_mul, Nat.one_mul] at h2
    omega
  · refine Nat.le_of_lt_succ ((Nat.div_lt_iff_lt_mul (by omega)).2 ?_)
    unfold B32 at *
    show u2 < (4294967296 + 1 + 1) * y1
    omega
theorem Kn.down {y1 y0 u2 u1 q r : Nat} (k : Ky y1 y0 u2 u1) (h : Kn y1 y0 u2 u1 q r) (hc : B32 ≤ q ∨ B32 * r + u1 < q * y0) : 0 < q ∧ Kn y1 y0 u2 u1 (q - 1) (r + y1) ∧ q - 1 ≤ B32 := by
  have hlt : (u2 * B32 + u1) / (y1 * B32 + y0) < q := by
    rcases hc with hc | hc
    · exact Nat.lt_of_lt_of_le k.lt hc
    · refine (Nat.div_lt_iff_lt_mul (by have := k.y1a; unfold B32; omega)).2 ?_
      have := Kn.prod (y0 := y0) (u1 := u1) h.eq
      omega
  have hq : 0 < q := Nat.lt_of_le_of_lt (Nat.zero_le _) hlt
  have hl := h.le
  refine ⟨hq, ⟨?_, Nat.le_sub_one_of_lt hlt, by omega⟩, by omega⟩
  have he := h.eq
  obtain ⟨p, rfl⟩ : ∃ p, q = p + 1 := ⟨q - 1, by omega⟩
  rw [Nat.add_mul, Nat.one_mul] at he
  rw [Nat.add_sub_cancel]; omega
theorem Kn.stop {y1 y0 u2 u1 q r : Nat} (k : Ky y1 y0 u2 u1) (h : Kn y1 y0 u2 u1 q r) (hc : q * y0 ≤ B32 * r + u1) : q = (u2 * B32 + u1) / (y1 * B32 + y0) := by
  refine Nat.le_antisymm ((Nat.le_div_iff_mul_le (by have := k.y1a; unfold B32; omega)).2 ?_) h.ge
  have := Kn.prod (y0 := y0) (u1 := u1) h.eq
  omega
theorem Kn.leave {y1 y0 u2 u1 q r : Nat} (k : Ky y1 y0 u2 u1) (h : Kn y1 y0 u2 u1 q r) (hq : q ≤ B32) (hr : B32 ≤ r) : q = (u2 * B32 + u1) / (y1 * B32 + y0) := by
  refine h.stop k ?_
  have h1 : q * y0 ≤ B32 * y0 := Nat.mul_le_mul_right _ hq
  have h2 : B32 * y0 ≤ B32 * r := Nat.mul_le_mul_left _ (by have := k.y0b; omega)
  omega
end Go.Proofs.Ytpadpmkfhljiiaa
