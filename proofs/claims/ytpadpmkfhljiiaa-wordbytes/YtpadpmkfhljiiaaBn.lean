/- Bytes and the number that a word is. -/
import Derived.Test.YtpadpmkfhljiiaaBc
import Derived.Test.YtpadpmkfhljiiaaRb
namespace Go.Proofs.Ytpadpmkfhljiiaa
open Go.RowKit
theorem bw_dig {x0 x1 x2 x3 : Int} (h0 : U64 x0) (h1 : U64 x1) (h2 : U64 x2) (h3 : U64 x3) (X : Nat) (hX : V x0 x1 x2 x3 = (X : Int)) (i : Nat) (hi : i < 32) : bw x0 x1 x2 x3 i = ((X / 256 ^ i % 256 : Nat) : Int) := by
  have h := dig_limb h0 h1 h2 h3 X hX i hi
  unfold dig at h
  rw [if_pos hi] at h
  obtain ⟨l, hl⟩ := Int.eq_ofNat_of_zero_le (limb_u64 h0 h1 h2 h3 (i / 8)).1
  rw [hl] at h
  unfold bw
  have e : (2 : Int) ^ (8 * (i % 8)) = ((256 ^ (i % 8) : Nat) : Int) := by rw [Int.pow_mul, Int.natCast_pow]; rfl
  rw [hl, ← h, e, Int.natCast_emod, Int.natCast_ediv, Int.toNat_natCast]; rfl
theorem half_byte (X j : Nat) : X / 256 ^ j = X / 256 ^ (j + 1) * 256 + X / 256 ^ j % 256 := by
  rw [Nat.pow_succ, ← Nat.div_div_eq_div_mul]; omega
theorem keep_lead {x0 x1 x2 x3 : Int} (h0 : U64 x0) (h1 : U64 x1) (h2 : U64 x2) (h3 : U64 x3) : ∀ n, n ≤ 32 → (∀ j, 32 - n ≤ j → j < 32 → bw x0 x1 x2 x3 j = 0) → ∀ q, q < 4 → keep x0 x1 x2 x3 (32 - n) q = 0
  | 0, _, _, q, hq => by
    unfold keep
    rw [show 8 * min 8 (32 - 0 - 8 * q) = 64 by omega]
    have h := limb_u64 h0 h1 h2 h3 q
    have h2 := h.2
    unfold Bd at h2
    rw [Int.ediv_eq_zero_of_lt h.1 (by omega)]; simp
  | n + 1, hn, hz, q, hq => by
    have ih := keep_lead h0 h1 h2 h3 n (by omega) (fun j a b => hz j (by omega) b) q hq
    rw [show 32 - n = 32 - (n + 1) + 1 by omega] at ih
    by_cases e : q = (32 - (n + 1)) / 8
    · have h := (keep_step (32 - (n + 1)) q _ (limb_u64 h0 h1 h2 h3 q) e rfl).1
      rw [ih, hz _ (Nat.le_refl _) (by omega), Int.zero_mul] at h
      rw [← h]; rfl
    · rw [← keep_other _ _ _ _ _ _ e]; exact ih
theorem lead_zero {X n : Nat} (h : X / 256 ^ (32 - n) = 0) (j : Nat) (hj : 32 - n ≤ j) : X / 256 ^ j % 256 = 0 := by
  have h1 : X < 256 ^ (32 - n) := by
    rcases (Nat.div_eq_zero_iff).1 h with h | h
    · exact absurd h (Nat.pos_iff_ne_zero.1 (Nat.pow_pos (by decide)))
    · exact h
  have h2 : X < 256 ^ j := Nat.lt_of_lt_of_le h1 (Nat.pow_le_pow_right (by decide) hj)
  rw [Nat.div_eq_of_lt h2]
theorem size_num {X n B : Nat} (hn : n ≤ 32) (h : X / 256 ^ (32 - n) = 0) (h1 : n < 32 → X / 256 ^ (31 - n) ≠ 0) (hB : BitsOf (X : Int) B) : (B + 7) / 8 = 32 - n := by
  have p : ∀ k, (256 : Nat) ^ k = 2 ^ (8 * k) := fun k => by rw [Nat.pow_mul]
  have a1 : X < 2 ^ (8 * (32 - n)) := by
    rw [p] at h
    rcases (Nat.div_eq_zero_iff).1 h with h | h
    · exact absurd h (Nat.pos_iff_ne_zero.1 (Nat.two_pow_pos _))
    · exact h
  have b1 : X < 2 ^ B := by have := hB.1; exact_mod_cast this
  have b2 : 0 < B → 2 ^ (B - 1) ≤ X := fun h => by have := hB.2 h; exact_mod_cast this
  have c1 : B ≤ 8 * (32 - n) := by
    by_cases e : B = 0
    · omega
    · have := Nat.lt_of_le_of_lt (b2 (by omega)) a1
      have := (Nat.pow_lt_pow_iff_right (by decide)).1 this
      omega
  by_cases e : n < 32
  · have a2 : 2 ^ (8 * (31 - n)) ≤ X := by
      have h2 := h1 e
      rw [p] at h2
      exact Nat.le_of_not_lt fun h3 => h2 (Nat.div_eq_of_lt h3)
    have := (Nat.pow_lt_pow_iff_right (by decide)).1 (Nat.lt_of_le_of_lt a2 b1)
    omega
  · omega
end Go.Proofs.Ytpadpmkfhljiiaa
