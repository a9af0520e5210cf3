/- Products: bits.Mul64, mulAdd, product, Mul: for all numbers. -/
import Derived.Test.YtpadpmkfhljiiaaWis
import Derived.Laws.MathBits
namespace Go.Proofs.Ytpadpmkfhljiiaa
open Go.RowKit

theorem low32 (t : Int) : bits .and .u64 (t % 18446744073709551616) 4294967295 = t % 18446744073709551616 % 4294967296 :=
  and_low32 _ (Int.emod_nonneg _ (by omega)) (Int.emod_lt_of_pos _ (by omega))
set_option maxHeartbeats 1000000 in
theorem mul64_int (x y : Int) (hx0 : 0 ≤ x) (hx : x < 18446744073709551616) (hy0 : 0 ≤ y) (hy : y < 18446744073709551616) (w : World) :
    Calls Try.prog 140 #[.int .u64 x, .int .u64 y] w fun e w' => e = .returned (.tuple #[.int .u64 (x * y / 18446744073709551616), .int .u64 (x * y % 18446744073709551616)]) ∧ w' = w := by
  have HK : Hid _ := mul64_arith x y hx0 hx hy0 hy
  go_enter Try.func140, Try.ntmps140
  go_wp2
  simp only [and_low32 x hx0 hx, and_low32 y hy0 hy, IntKind.wrap_u64, low32]
  rw [HK.out]
  go_ret2
  exact ⟨rfl, rfl⟩
theorem mul64_ex (x y : Int) (hx : U64 x) (hy : U64 y) : ∃ h l : Int, (∀ w : World, Calls Try.prog 140 #[.int .u64 x, .int .u64 y] w fun e w' => e = .returned (.tuple #[.int .u64 h, .int .u64 l]) ∧ w' = w) ∧ U64 h ∧ U64 l ∧ Hid (x * y = h * Bd + l) := by
  have hx' := hx.2
  have hy' := hy.2
  unfold Bd at hx' hy'
  have h0 : 0 ≤ x * y := Int.mul_nonneg hx.1 hy.1
  have h1 : x * y ≤ 18446744073709551615 * 18446744073709551615 := Int.mul_le_mul (by omega) (by omega) hy.1 (by omega)
  refine ⟨_, _, fun w => mul64_int x y hx.1 hx' hy.1 hy' w, ?_, ?_, ?_⟩
  all_goals simp only [U64, Hid, Bd]
  all_goals generalize x * y = p at *
  all_goals omega
set_option maxHeartbeats 1000000 in
theorem mulAdd_ex (a b c : Int) (ha : U64 a) (hb : U64 b) (hc : U64 c) : ∃ h l : Int, (∀ w : World, Calls Try.prog 100 #[.int .u64 a, .int .u64 b, .int .u64 c] w fun e w' => e = .returned (.tuple #[.int .u64 h, .int .u64 l]) ∧ w' = w) ∧ U64 h ∧ U64 l ∧ Hid (a * b + c = h * Bd + l) := by
  obtain ⟨h, l, hcall, hh, hl, hm⟩ := mul64_ex a b ha hb
  obtain ⟨s, d, r, es, us, l0, l1⟩ := add64_ex l c 0 hl hc (by omega) (by omega)
  have hbd : h + d < 18446744073709551616 := by
    have e1 := hm.out; have e2 := es.out
    have h1 : a * b ≤ 18446744073709551615 * 18446744073709551615 := by
      unfold U64 Bd at ha hb; exact Int.mul_le_mul (by omega) (by omega) hb.1 (by omega)
    unfold U64 Bd at *; omega
  have hbd0 : 0 ≤ h + d := by have := hh.1; omega
  refine ⟨h + d, s, fun w => ?_, ⟨hbd0, hbd⟩, us, ?_⟩
  · have H := hcall w
    clear hcall
    go_enter Try.func100, Try.ntmps100
    go_wp2_with fail
    refine H.mono ?_
    rintro e w1 ⟨rfl, rfl⟩
    clear H
    go_wp2
    go_ret2
    exact ⟨rfl, rfl⟩
  · have e1 := hm.out; have e2 := es.out
    unfold Hid Bd at *
    rw [e1]; omega

/-- one step of a product: t + a b + c, its low part and what is carried -/
theorem pst (a b c t : Int) (ha : U64 a) (hb : U64 b) (hc : U64 c) (ht : U64 t) : ∃ h l s d : Int, (∀ w : World, Calls Try.prog 100 #[.int .u64 a, .int .u64 b, .int .u64 c] w fun e w' => e = .returned (.tuple #[.int .u64 h, .int .u64 l]) ∧ w' = w) ∧
    (∀ W : World, (callFunc 99 #[.int .u64 t, .int .u64 l, .int .u64 0]).run Try.prog W = .ok (.value (.tuple #[.int .u64 s, .int .u64 d])) W) ∧ 0 ≤ h + d ∧ h + d < 18446744073709551616 ∧ U64 s ∧ U64 (h + d) ∧ Hid (t + a * b + c = (h + d) * Bd + s) := by
  obtain ⟨h, l, hcall, hh, hl, hm⟩ := mulAdd_ex a b c ha hb hc
  obtain ⟨s, d, r, es, us, l0, l1⟩ := add64_ex t l 0 ht hl (by omega) (by omega)
  have hbd : h + d < 18446744073709551616 := by
    have e1 := hm.out; have e2 := es.out
    have h1 : a * b ≤ 18446744073709551615 * 18446744073709551615 := by
      unfold U64 Bd at ha hb; exact Int.mul_le_mul (by omega) (by omega) hb.1 (by omega)
    unfold U64 Bd at *; omega
  have hbd0 : 0 ≤ h + d := by have := hh.1; omega
  refine ⟨h, l, s, d, hcall, r, hbd0, hbd, us, ⟨hbd0, hbd⟩, ?_⟩
  have e1 := hm.out; have e2 := es.out
  unfold Hid Bd at *
  have : (h + d) * 18446744073709551616 = h * 18446744073709551616 + d * 18446744073709551616 := Int.add_mul _ _ _
  omega
end Go.Proofs.Ytpadpmkfhljiiaa
