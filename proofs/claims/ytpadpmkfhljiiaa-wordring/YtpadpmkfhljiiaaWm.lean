/- Products: bits.Mul64, mulAdd, product, Mul: for all numbers. -/
import Derived.Test.YtpadpmkfhljiiaaWis
import Derived.Lib.Mul64
import Derived.Laws.Bits64b
namespace Go.Proofs.Ytpadpmkfhljiiaa
open Go.RowKit

theorem maskN (a : Nat) (ha : a < 18446744073709551616) : bits .and .u64 (a : Int) 4294967295 = ((a % 4294967296 : Nat) : Int) := by
  have h := bits_and_u64_nat a 4294967295 ha (by omega)
  have e : a &&& 4294967295 = a % 4294967296 := Nat.and_two_pow_sub_one_eq_mod a 32
  rw [e] at h
  exact h
theorem divN (a : Nat) : (a : Int) / 4294967296 = ((a / 4294967296 : Nat) : Int) := by omega
theorem mulN (a b : Nat) : (a : Int) * (b : Int) = ((a * b : Nat) : Int) := (Int.natCast_mul a b).symm
theorem addN (a b : Nat) : (a : Int) + (b : Int) = ((a + b : Nat) : Int) := (Int.natCast_add a b).symm
theorem wrapN (a : Nat) (ha : a < 18446744073709551616) : IntKind.u64.wrap (a : Int) = (a : Int) := by rw [IntKind.wrap_u64]; omega
theorem wrapM (a : Nat) : IntKind.u64.wrap (a : Int) = ((a % 18446744073709551616 : Nat) : Int) := by rw [IntKind.wrap_u64]; omega

set_option maxHeartbeats 1000000 in
theorem mul64_nat (x y : Nat) (hx : x < 18446744073709551616) (hy : y < 18446744073709551616) (w : World) :
    Calls Try.prog 140 #[.int .u64 x, .int .u64 y] w fun e w' => e = .returned (.tuple #[.int .u64 ((x * y / 18446744073709551616 : Nat) : Int), .int .u64 ((x * y % 18446744073709551616 : Nat) : Int)]) ∧ w' = w := by
  obtain ⟨bd, bt, bw, hhi⟩ := Lib.mul64_hi x y hx hy
  have ba := Lib.half_mul_le (a := x / 4294967296) (b := y / 4294967296) (by omega) (by omega)
  have bb := Lib.half_mul_le (a := x / 4294967296) (b := y % 4294967296) (by omega) (by omega)
  have bc := Lib.half_mul_le (a := x % 4294967296) (b := y / 4294967296) (by omega) (by omega)
  have ba' : x / 4294967296 * (y / 4294967296) < 18446744073709551616 := by omega
  have bb' : x / 4294967296 * (y % 4294967296) < 18446744073709551616 := by omega
  have bc' : x % 4294967296 * (y / 4294967296) < 18446744073709551616 := by omega
  have bh1 : x / 4294967296 * (y / 4294967296) + (x / 4294967296 * (y % 4294967296) + x % 4294967296 * (y % 4294967296) / 4294967296) / 4294967296 < 18446744073709551616 := by omega
  have bh : x / 4294967296 * (y / 4294967296) + (x / 4294967296 * (y % 4294967296) + x % 4294967296 * (y % 4294967296) / 4294967296) / 4294967296 + ((x / 4294967296 * (y % 4294967296) + x % 4294967296 * (y % 4294967296) / 4294967296) % 4294967296 + x % 4294967296 * (y / 4294967296)) / 4294967296 < 18446744073709551616 := by omega
  go_enter Try.func140, Try.ntmps140
  go_wp2
  simp only [maskN x hx, maskN y hy, divN, mulN, addN, wrapN _ bd, wrapN _ bb', wrapN _ bt, maskN _ bt, wrapN _ bc', wrapN _ bw, wrapN _ ba', wrapN _ bh1, wrapN _ bh, wrapM (x * y)]
  rw [hhi]
  go_ret2
  exact ⟨rfl, rfl⟩

theorem mul64_ex (x y : Int) (hx : U64 x) (hy : U64 y) : ∃ h l : Int, (∀ w : World, Calls Try.prog 140 #[.int .u64 x, .int .u64 y] w fun e w' => e = .returned (.tuple #[.int .u64 h, .int .u64 l]) ∧ w' = w) ∧ U64 h ∧ U64 l ∧ Hid (x * y = h * Bd + l) := by
  obtain ⟨X, rfl⟩ := Int.eq_ofNat_of_zero_le hx.1
  obtain ⟨Y, rfl⟩ := Int.eq_ofNat_of_zero_le hy.1
  have hX : X < 18446744073709551616 := by have := hx.2; unfold Bd at this; omega
  have hY : Y < 18446744073709551616 := by have := hy.2; unfold Bd at this; omega
  refine ⟨_, _, fun w => mul64_nat X Y hX hY w, ?_, ?_, ?_⟩
  · have : X * Y < 18446744073709551616 * 18446744073709551616 := Nat.mul_lt_mul'' hX hY
    have : X * Y / 18446744073709551616 < 18446744073709551616 := Nat.div_lt_of_lt_mul this
    unfold U64 Bd; omega
  · unfold U64 Bd; omega
  · unfold Hid Bd
    rw [← Int.natCast_mul]
    omega
set_option maxHeartbeats 1000000 in
theorem mulAdd_ex (a b c : Int) (ha : U64 a) (hb : U64 b) (hc : U64 c) : ∃ h l : Int, (∀ w : World, Calls Try.prog 100 #[.int .u64 a, .int .u64 b, .int .u64 c] w fun e w' => e = .returned (.tuple #[.int .u64 h, .int .u64 l]) ∧ w' = w) ∧ U64 h ∧ U64 l ∧ Hid (a * b + c = h * Bd + l) := by
  obtain ⟨h, l, hcall, hh, hl, hm⟩ := mul64_ex a b ha hb
  obtain ⟨s, d, r, es, us, l0, l1⟩ := add64_ex l c 0 hl hc (by omega) (by omega)
  have hbd : h + d < 18446744073709551616 := by
    have e1 := hm.out; have e2 := es.out
    have h1 : a * b ≤ 18446744073709551615 * 18446744073709551615 := by
      unfold U64 Bd at ha hb; exact Int.mul_le_mul (by omega) (by omega) hb.1 (by omega)
    unfold U64 Bd at *; omega
  have hbd0 : 0 ≤ h + d := by have := hh.1; omega
  refine ⟨h + d, s, fun w => ?_, ⟨hbd0, hbd⟩, us, ?_⟩
  · have H := hcall w
    clear hcall
    go_enter Try.func100, Try.ntmps100
    go_wp2_with fail
    refine H.mono ?_
    rintro e w1 ⟨rfl, rfl⟩
    clear H
    go_wp2
    go_ret2
    exact ⟨rfl, rfl⟩
  · have e1 := hm.out; have e2 := es.out
    unfold Hid Bd at *
    rw [e1]; omega

/-- one step of a product: t + a b + c, its low part and what is carried -/
theorem pst (a b c t : Int) (ha : U64 a) (hb : U64 b) (hc : U64 c) (ht : U64 t) : ∃ h l s d : Int, (∀ w : World, Calls Try.prog 100 #[.int .u64 a, .int .u64 b, .int .u64 c] w fun e w' => e = .returned (.tuple #[.int .u64 h, .int .u64 l]) ∧ w' = w) ∧
    (∀ W : World, (callFunc 99 #[.int .u64 t, .int .u64 l, .int .u64 0]).run Try.prog W = .ok (.value (.tuple #[.int .u64 s, .int .u64 d])) W) ∧ 0 ≤ h + d ∧ h + d < 18446744073709551616 ∧ U64 s ∧ U64 (h + d) ∧ Hid (t + a * b + c = (h + d) * Bd + s) := by
  obtain ⟨h, l, hcall, hh, hl, hm⟩ := mulAdd_ex a b c ha hb hc
  obtain ⟨s, d, r, es, us, l0, l1⟩ := add64_ex t l 0 ht hl (by omega) (by omega)
  have hbd : h + d < 18446744073709551616 := by
    have e1 := hm.out; have e2 := es.out
    have h1 : a * b ≤ 18446744073709551615 * 18446744073709551615 := by
      unfold U64 Bd at ha hb; exact Int.mul_le_mul (by omega) (by omega) hb.1 (by omega)
    unfold U64 Bd at *; omega
  have hbd0 : 0 ≤ h + d := by have := hh.1; omega
  refine ⟨h, l, s, d, hcall, r, hbd0, hbd, us, ⟨hbd0, hbd⟩, ?_⟩
  have e1 := hm.out; have e2 := es.out
  unfold Hid Bd at *
  have : (h + d) * 18446744073709551616 = h * 18446744073709551616 + d * 18446744073709551616 := Int.add_mul _ _ _
  omega
end Go.Proofs.Ytpadpmkfhljiiaa
