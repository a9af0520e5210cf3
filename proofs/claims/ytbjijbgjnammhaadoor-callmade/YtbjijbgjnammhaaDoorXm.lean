/- Plain numbers: how many bits a word has, and powers bit by bit. -/
import Derived.Test.YtbjijbgjnammhaaDoorNum
import Derived.Lib.BitFns
import Derived.Lib.ItoaNum
namespace Go.Proofs.YtbjijbgjnammhaaDoor.Wds
/-- the four limbs as a function -/
def limb (a0 a1 a2 a3 : Int) (i : Nat) : Int := if i = 0 then a0 else if i = 1 then a1 else if i = 2 then a2 else a3
theorem limb_u64 {a0 a1 a2 a3 : Int} (h0 : U64 a0) (h1 : U64 a1) (h2 : U64 a2) (h3 : U64 a3) (i : Nat) : U64 (limb a0 a1 a2 a3 i) := by
  unfold limb; split
  · exact h0
  · split
    · exact h1
    · split
      · exact h2
      · exact h3
theorem scaled {m p q x lo : Int} (hm : 0 < m) (h0 : 0 ≤ lo) (h1 : lo < m) (hp : p ≤ x) (hq : x < q) : m * p ≤ lo + m * x ∧ lo + m * x < m * q := by
  have e1 := Int.mul_le_mul_of_nonneg_left hp (Int.le_of_lt hm)
  have e2 := Int.mul_le_mul_of_nonneg_left (show x + 1 ≤ q by omega) (Int.le_of_lt hm)
  rw [Int.mul_add, Int.mul_one] at e2
  omega
theorem bitLen_range (x : Nat) (h : x < 18446744073709551616) (h0 : x ≠ 0) : 1 ≤ Lib.bitLen x ∧ 2 ^ (Lib.bitLen x - 1) ≤ x ∧ x < 2 ^ Lib.bitLen x ∧ Lib.bitLen x ≤ 64 := by
  obtain ⟨a, b, c⟩ := Lib.bitLenAux_bounds 64 x h h0
  exact ⟨a, b, c, Lib.bitLen_le x 64 (by omega) h⟩
/-- B is how many bits v has -/
def BitsOf (v : Int) (B : Nat) : Prop := v < 2 ^ B ∧ (0 < B → (2 : Int) ^ (B - 1) ≤ v)
theorem bits_limb {a0 a1 a2 a3 : Int} (h0 : U64 a0) (h1 : U64 a1) (h2 : U64 a2) (h3 : U64 a3) (k : Nat) (hk : k ≤ 4) (hne : 0 < k → limb a0 a1 a2 a3 (k - 1) ≠ 0) (hz : ∀ i, k ≤ i → i < 4 → limb a0 a1 a2 a3 i = 0) :
    BitsOf (V a0 a1 a2 a3) (if k = 0 then 0 else 64 * (k - 1) + Lib.bitLen (limb a0 a1 a2 a3 (k - 1)).toNat) := by
  obtain ⟨h00, h01⟩ := h0
  obtain ⟨h10, h11⟩ := h1
  obtain ⟨h20, h21⟩ := h2
  obtain ⟨h30, h31⟩ := h3
  unfold Bd at h01 h11 h21 h31
  by_cases e0 : k = 0
  · subst e0
    have z0 := hz 0 (by omega) (by omega)
    have z1 := hz 1 (by omega) (by omega)
    have z2 := hz 2 (by omega) (by omega)
    have z3 := hz 3 (by omega) (by omega)
    simp only [limb] at z0 z1 z2 z3
    simp at z0 z1 z2 z3
    subst z0 z1 z2 z3
    simp [BitsOf, V, Bd]
  · rw [if_neg e0]
    have hl : ∀ x : Int, 0 ≤ x → x < 18446744073709551616 → x ≠ 0 → 1 ≤ Lib.bitLen x.toNat ∧ (2 : Int) ^ (Lib.bitLen x.toNat - 1) ≤ x ∧ x < 2 ^ Lib.bitLen x.toNat := fun x h0 h1 hn => by
      obtain ⟨a, b, c, _⟩ := bitLen_range x.toNat (by omega) (by omega)
      refine ⟨a, ?_, ?_⟩
      · have : (2 : Int) ^ (Lib.bitLen x.toNat - 1) ≤ (x.toNat : Int) := by exact_mod_cast b
        omega
      · have : (x.toNat : Int) < (2 : Int) ^ Lib.bitLen x.toNat := by exact_mod_cast c
        omega
    have fin : ∀ (m : Nat) (x lo : Int), 0 ≤ x → x < 18446744073709551616 → x ≠ 0 → 0 ≤ lo → lo < 2 ^ m → V a0 a1 a2 a3 = lo + 2 ^ m * x → BitsOf (V a0 a1 a2 a3) (m + Lib.bitLen x.toNat) := fun m x lo hx0 hx1 hn l0 l1 hv => by
      obtain ⟨a, b, c⟩ := hl x hx0 hx1 hn
      obtain ⟨r1, r2⟩ := scaled (show (0 : Int) < 2 ^ m from Int.pow_pos (by omega)) l0 l1 b c
      rw [← hv, ← Int.pow_add] at r1 r2
      exact ⟨r2, fun _ => by rw [show m + Lib.bitLen x.toNat - 1 = m + (Lib.bitLen x.toNat - 1) by omega]; exact r1⟩
    have hn := hne (by omega)
    obtain rfl | rfl | rfl | rfl : k = 1 ∨ k = 2 ∨ k = 3 ∨ k = 4 := by omega
    · have z1 := hz 1 (by omega) (by omega)
      have z2 := hz 2 (by omega) (by omega)
      have z3 := hz 3 (by omega) (by omega)
      simp [limb] at z1 z2 z3 hn
      subst z1 z2 z3
      exact fin 0 a0 0 h00 h01 hn (by omega) (by decide) (by simp [V, Bd])
    · have z2 := hz 2 (by omega) (by omega)
      have z3 := hz 3 (by omega) (by omega)
      simp [limb] at z2 z3 hn
      subst z2 z3
      exact fin 64 a1 a0 h10 h11 hn h00 (by omega) (by simp only [V, Bd]; omega)
    · have z3 := hz 3 (by omega) (by omega)
      simp [limb] at z3 hn
      subst z3
      exact fin 128 a2 (a0 + 18446744073709551616 * a1) h20 h21 hn (by omega) (by omega) (by simp only [V, Bd]; omega)
    · simp [limb] at hn
      exact fin 192 a3 (a0 + 18446744073709551616 * (a1 + 18446744073709551616 * a2)) h30 h31 hn (by omega) (by omega) (by simp only [V, Bd]; omega)
/-- a bit of a word, found in its limb -/
theorem bit_limb {a0 a1 a2 a3 : Int} (h0 : U64 a0) (h1 : U64 a1) (h2 : U64 a2) (h3 : U64 a3) (Y : Nat) (hY : V a0 a1 a2 a3 = (Y : Int)) (j : Nat) (hj : j < 256) : (limb a0 a1 a2 a3 (j / 64)).toNat.testBit (j % 64) = Y.testBit j := by
  obtain ⟨h00, h01⟩ := h0
  obtain ⟨h10, h11⟩ := h1
  obtain ⟨h20, h21⟩ := h2
  obtain ⟨h30, h31⟩ := h3
  unfold Bd at h01 h11 h21 h31
  have e : Y = 2 ^ 64 * (2 ^ 64 * (2 ^ 64 * a3.toNat + a2.toNat) + a1.toNat) + a0.toNat := by
    unfold V Bd at hY; omega
  have d : j / 64 = 0 ∨ j / 64 = 1 ∨ j / 64 = 2 ∨ j / 64 = 3 := by omega
  rw [e, Nat.testBit_two_pow_mul_add _ (by omega), Nat.testBit_two_pow_mul_add _ (by omega), Nat.testBit_two_pow_mul_add _ (by omega)]
  rcases d with d | d | d | d
  · rw [d, if_pos (by omega), show j % 64 = j by omega]; rfl
  · rw [d, if_neg (by omega), if_pos (by omega), show j % 64 = j - 64 by omega]; rfl
  · rw [d, if_neg (by omega), if_neg (by omega), if_pos (by omega), show j % 64 = j - 64 - 64 by omega]; rfl
  · rw [d, if_neg (by omega), if_neg (by omega), if_neg (by omega), show j % 64 = j - 64 - 64 - 64 by omega]; rfl
theorem half_bit (Y j : Nat) : Y / 2 ^ j = 2 * (Y / 2 ^ (j + 1)) + (if Y.testBit j then 1 else 0) := by
  have e : Y / 2 ^ (j + 1) = Y / 2 ^ j / 2 := by rw [Nat.pow_succ, Nat.div_div_eq_div_mul]
  have t : Y.testBit j = decide (Y / 2 ^ j % 2 = 1) := Nat.testBit_eq_decide_div_mod_eq
  rw [e, t]
  by_cases h : Y / 2 ^ j % 2 = 1
  · simp [h]; omega
  · simp [h]; omega
/-- the test of a bit, as the program reckons it -/
theorem and_one (z : Int) (h0 : 0 ≤ z) (h1 : z < 18446744073709551616) : bits .and .u64 z 1 = z % 2 := by
  have := u64_and z 1 h0 h1 (by omega) (by omega)
  rw [this, show (1 : Int).toNat = 1 from rfl, Nat.and_one_is_mod]; omega
theorem bit_val {x : Int} (h : U64 x) (r : Nat) : bits .and .u64 (x / 2 ^ r) 1 = if x.toNat.testBit r then 1 else 0 := by
  obtain ⟨h0, h1⟩ := h
  unfold Bd at h1
  have hp : (0 : Int) < 2 ^ r := Int.pow_pos (by omega)
  have l0 : 0 ≤ x / 2 ^ r := Int.ediv_nonneg h0 (by omega)
  have l1 : x / 2 ^ r ≤ x := Int.ediv_le_self _ h0
  rw [and_one _ l0 (by omega), Nat.testBit_eq_decide_div_mod_eq]
  have e : x / 2 ^ r = ((x.toNat / 2 ^ r : Nat) : Int) := by
    rw [Int.natCast_ediv, Int.natCast_pow, Int.toNat_of_nonneg h0]; rfl
  rw [e]
  generalize x.toNat / 2 ^ r = n
  by_cases h : n % 2 = 1
  · simp [h]; omega
  · simp [h]; omega
end Go.Proofs.YtbjijbgjnammhaaDoor.Wds
