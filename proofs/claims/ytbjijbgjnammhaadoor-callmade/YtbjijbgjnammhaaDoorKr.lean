/- math/bits.RotateLeft64: what it hands back; it changes nothing. -/
import Derived.Test.YtbjijbgjnammhaaDoorRows
import Derived.WalkKit
import Derived.WalkSpells
import Derived.WalkLawsBesides
import Derived.Deep.QuietTactic
import Derived.BigQuiet
namespace Go.Proofs.YtbjijbgjnammhaaDoor
open Go.RowKit

theorem bdrewN {B : Nat} {a w : World} (h : Below B a w) (n : Nat) : Below B a (w.drewN n) := h.trans ⟨rfl, rfl, rfl, Nat.le_refl _, fun _ _ => rfl⟩
theorem old3 (w : World) (o1 o2 o3 : Obj) (b i : Nat) (h : b < w.heap.size) : (((w.alloc o1).alloc o2).alloc o3).cell? ⟨b, i, none⟩ = w.cell? ⟨b, i, none⟩ := by
  rw [World.cell?_alloc_lt _ _ _ (by simp; omega), World.cell?_alloc_lt _ _ _ (by simp; omega), World.cell?_alloc_lt _ _ _ h]
set_option maxHeartbeats 400000 in
theorem rot_run (x s : Int) (hs0 : 0 ≤ s) (hs : s < 64) (w : World) :
    Calls Tryd.prog 28 #[.int .u64 x, .int .i64 s] w fun e w' => e = .returned (.int .u64 (bits .or .u64 (IntKind.u64.wrap (x * 2 ^ s.toNat)) (x / 2 ^ (64 - s).toNat))) ∧ w' = w := by
  have ha : bits .and .u64 s 63 = s := by
    obtain ⟨S, rfl⟩ := Int.eq_ofNat_of_zero_le hs0
    have e := u64_and_nat S 63 (by omega) (by omega)
    rw [Nat.and_two_pow_sub_one_eq_mod S 6] at e
    rw [show (63 : Int) = ((63 : Nat) : Int) from rfl, e, Nat.mod_eq_of_lt (by omega)]
  have hw : IntKind.u64.wrap (64 - s) = 64 - s := by rw [IntKind.wrap_u64]; omega
  go_enter Tryd.func28, Tryd.ntmps28
  go_wp2
  go_ret
  exact ⟨rfl, rfl⟩
theorem rot_is (x : BitVec 64) (s : Nat) (hs : s < 64) (w : World) :
    Calls Tryd.prog 28 #[.int .u64 (x.toNat : Int), .int .i64 (s : Int)] w fun e w' => e = .returned (.int .u64 ((x.rotateLeft s).toNat : Int)) ∧ w' = w := by
  refine (rot_run x.toNat s (by omega) (by omega) w).mono ?_
  rintro e w' ⟨rfl, rfl⟩
  refine ⟨?_, rfl⟩
  have hx := x.isLt
  have e1 : IntKind.u64.wrap ((x.toNat : Int) * 2 ^ (s : Int).toNat) = ((x.toNat * 2 ^ s % 18446744073709551616 : Nat) : Int) := by
    rw [IntKind.wrap_u64, Int.toNat_natCast, Int.natCast_emod, Int.natCast_mul, Int.natCast_pow]; rfl
  have e2 : (x.toNat : Int) / 2 ^ (64 - (s : Int)).toNat = ((x.toNat / 2 ^ (64 - s) : Nat) : Int) := by
    rw [show (64 - (s : Int)).toNat = 64 - s by omega, Int.natCast_ediv, Int.natCast_pow]; rfl
  rw [e1, e2, u64_or_nat _ _ (Nat.mod_lt _ (by omega)) (Nat.lt_of_le_of_lt (Nat.div_le_self _ _) hx)]
  congr 3
  rw [BitVec.rotateLeft_def, BitVec.toNat_or, BitVec.toNat_shiftLeft, BitVec.toNat_ushiftRight, Nat.mod_eq_of_lt hs, Nat.shiftLeft_eq, Nat.shiftRight_eq_div_pow]
end Go.Proofs.YtbjijbgjnammhaaDoor
