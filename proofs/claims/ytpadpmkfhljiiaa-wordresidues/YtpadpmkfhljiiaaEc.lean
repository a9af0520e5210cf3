/- guess: the digit that is tried first is no less than the true one. -/
import Derived.Test.YtpadpmkfhljiiaaDb
import Derived.Test.YtpadpmkfhljiiaaEa
namespace Go.Proofs.Ytpadpmkfhljiiaa
open Go.RowKit
/-- what is known of the guess: whatever times the divisor's highest part is within the two highest parts, and is a digit, is no more than it -/
def Gs (h x t g : Int) : Prop := U64 g ∧ ∀ k, 0 ≤ k → k < Bd → k * t ≤ h * Bd + x → k ≤ g
theorem guess_ex (h x t : Int) (hh : U64 h) (hx : U64 x) (ht : U64 t) : ∃ g : Int, Gs h x t g ∧ ∀ w : World, Calls Try.prog 102 #[.int .u64 h, .int .u64 x, .int .u64 t] w fun e w' => e = .returned (.int .u64 g) ∧ Below w.heap.size w w' := by
  by_cases hc : t ≤ h
  · refine ⟨18446744073709551615, ⟨⟨by omega, by unfold Bd; omega⟩, fun k h0 h1 _ => by unfold Bd at h1; omega⟩, fun w => ?_⟩
    clear hh hx ht
    go_enter Try.func102, Try.ntmps102
    go_wp2
    go_ret
    exact ⟨rfl, Below.refl _ _⟩
  · obtain ⟨H, rfl⟩ := Int.eq_ofNat_of_zero_le hh.1
    obtain ⟨X, rfl⟩ := Int.eq_ofNat_of_zero_le hx.1
    obtain ⟨T, rfl⟩ := Int.eq_ofNat_of_zero_le ht.1
    have h1 := hh.2
    have h2 := hx.2
    have h3 := ht.2
    unfold Bd at h1 h2 h3
    obtain ⟨N, eN⟩ : ∃ N : Nat, N = (H * 18446744073709551616 + X) / T := ⟨_, rfl⟩
    obtain ⟨Z, eZ⟩ : ∃ Z : Nat, Z = (H * 18446744073709551616 + X) % T := ⟨_, rfl⟩
    have Tp : 0 < T := by omega
    have NB : N < 18446744073709551616 := by
      rw [eN]
      refine (Nat.div_lt_iff_lt_mul Tp).2 ?_
      have : (H + 1) * 18446744073709551616 ≤ T * 18446744073709551616 := Nat.mul_le_mul_right _ (by omega)
      omega
    have D : Hid (∀ w : World, Calls Try.prog 141 #[.int .u64 (H : Int), .int .u64 (X : Int), .int .u64 (T : Int)] w fun e w' => e = .returned (.tuple #[.int .u64 (N : Int), .int .u64 (Z : Int)]) ∧ Below w.heap.size w w') := fun w => div64_is H X T N Z (by omega) (by omega) (by omega) eN eZ w
    refine ⟨(N : Int), ⟨⟨by omega, by unfold Bd; omega⟩, fun k h0 _ h4 => ?_⟩, fun w => ?_⟩
    · obtain ⟨K, rfl⟩ := Int.eq_ofNat_of_zero_le h0
      have h5 : K * T ≤ H * 18446744073709551616 + X := by unfold Bd at h4; omega
      have h6 : K ≤ N := by rw [eN]; exact (Nat.le_div_iff_mul_le Tp).2 h5
      omega
    · have hc2 : ¬ ((T : Int) ≤ (H : Int)) := hc
      clear hh hx ht h1 h2 h3 eN eZ NB hc
      go_enter Try.func102, Try.ntmps102
      go_wp2_with (go_at_call 141; refine (D.out _).mono ?_; rintro e w1 ⟨rfl, hB⟩)
      go_ret
      exact ⟨rfl, hB⟩
end Go.Proofs.Ytpadpmkfhljiiaa
