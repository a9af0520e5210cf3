/- Plain arithmetic of shifts down by less than 64 places, limb by limb. -/
import Derived.Test.YtpadpmkfhljiiaaNs
namespace Go.Proofs.Ytpadpmkfhljiiaa
open Go.RowKit

/-- one limb of a shift down: t's upper part, and over it the lower part of the limb t' above -/
def dnJ (t t' r : Int) : Int := bits .or .u64 (t / 2 ^ r.toNat) (IntKind.u64.wrap (t' * 2 ^ (64 - r).toNat))
theorem or_comm64 (a b : Nat) (ha : a < 18446744073709551616) (hb : b < 18446744073709551616) : bits .or .u64 (a : Int) (b : Int) = bits .or .u64 (b : Int) (a : Int) := by
  rw [u64_or_nat a b ha hb, u64_or_nat b a hb ha, Nat.or_comm]
theorem dn_ex (t t' r : Int) (ht : U64 t) (ht' : U64 t') (h0 : 0 ≤ r) (h1 : r < 64) : U64 (dnJ t t' r) ∧ dnJ t t' r * 2 ^ r.toNat = t - t % 2 ^ r.toNat + Bd * (t' % 2 ^ r.toNat) := by
  obtain ⟨T, rfl⟩ := Int.eq_ofNat_of_zero_le ht.1
  obtain ⟨U, rfl⟩ := Int.eq_ofNat_of_zero_le ht'.1
  have hT : T < 18446744073709551616 := by have := ht.2; unfold Bd at this; omega
  have hU : U < 18446744073709551616 := by have := ht'.2; unfold Bd at this; omega
  have hpq := pq64 r h0 h1
  have eP : (2 : Int) ^ r.toNat = ((2 ^ r.toNat : Nat) : Int) := by rw [Int.natCast_pow]; rfl
  have eQ : (2 : Int) ^ (64 - r).toNat = ((2 ^ (64 - r).toNat : Nat) : Int) := by rw [Int.natCast_pow]; rfl
  have hP0 : 0 < 2 ^ r.toNat := Nat.two_pow_pos _
  have hQ0 : 0 < 2 ^ (64 - r).toNat := Nat.two_pow_pos _
  have hm : T / 2 ^ r.toNat < 2 ^ (64 - r).toNat := by rw [Nat.div_lt_iff_lt_mul hP0, Nat.mul_comm, hpq]; exact hT
  have hw : IntKind.u64.wrap ((U : Int) * ((2 ^ (64 - r).toNat : Nat) : Int)) = ((2 ^ (64 - r).toNat * (U % 2 ^ r.toNat) : Nat) : Int) := by
    rw [IntKind.wrap_u64, ← Int.natCast_mul, ← Nat.mul_mod_mul_left, Nat.mul_comm (2 ^ (64 - r).toNat) (2 ^ r.toNat), hpq, Nat.mul_comm (2 ^ (64 - r).toNat) U]; omega
  obtain ⟨hj, hl⟩ := or_join (2 ^ (64 - r).toNat) (2 ^ r.toNat) (U % 2 ^ r.toNat) (T / 2 ^ r.toNat) (64 - r) rfl (by rw [Nat.mul_comm]; exact hpq) (Nat.mod_lt _ hP0) hm
  have hd : dnJ T U r = ((2 ^ (64 - r).toNat * (U % 2 ^ r.toNat) + T / 2 ^ r.toNat : Nat) : Int) := by
    rw [dnJ, eP, eQ, hw, show (T : Int) / ((2 ^ r.toNat : Nat) : Int) = ((T / 2 ^ r.toNat : Nat) : Int) from (Int.natCast_ediv _ _).symm, or_comm64 _ _ (Nat.lt_of_le_of_lt (Nat.le_add_left _ _) hl) (Nat.lt_of_le_of_lt (Nat.le_add_right _ _) hl), hj]
  refine ⟨?_, ?_⟩
  · rw [hd]
    generalize 2 ^ (64 - r).toNat * (U % 2 ^ r.toNat) + T / 2 ^ r.toNat = N at hl
    unfold U64 Bd; omega
  · rw [hd, eP]
    have e := Nat.div_add_mod T (2 ^ r.toNat)
    have e3 : (2 ^ (64 - r).toNat * (U % 2 ^ r.toNat) + T / 2 ^ r.toNat) * 2 ^ r.toNat + T % 2 ^ r.toNat = T + 18446744073709551616 * (U % 2 ^ r.toNat) := by
      rw [← hpq]
      generalize 2 ^ r.toNat = P at *
      generalize 2 ^ (64 - r).toNat = Q at *
      generalize U % P = u at *
      generalize hq : T / P = q at *
      generalize hm2 : T % P = m at *
      rw [← e]; grind
    have e1 : (T : Int) % ((2 ^ r.toNat : Nat) : Int) = ((T % 2 ^ r.toNat : Nat) : Int) := (Int.natCast_emod _ _).symm
    have e2 : (U : Int) % ((2 ^ r.toNat : Nat) : Int) = ((U % 2 ^ r.toNat : Nat) : Int) := (Int.natCast_emod _ _).symm
    rw [e1, e2, ← Int.natCast_mul]
    clear hj hw hd hl
    generalize (2 ^ (64 - r).toNat * (U % 2 ^ r.toNat) + T / 2 ^ r.toNat) * 2 ^ r.toNat = X at e3 ⊢
    generalize T % 2 ^ r.toNat = Y at e3 ⊢
    generalize U % 2 ^ r.toNat = Z at e3 ⊢
    unfold Bd; omega
end Go.Proofs.Ytpadpmkfhljiiaa
