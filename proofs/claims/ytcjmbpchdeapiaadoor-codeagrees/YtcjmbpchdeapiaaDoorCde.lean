/- Package code: pair, targets. -/
import Derived.Test.YtcjmbpchdeapiaaDoorCdd
import Derived.Laws.BitsAllLaws
namespace Go.Proofs.YtcjmbpchdeapiaaDoor
open Go.RowKit
theorem or_pair (x y : Nat) (hx : x < 256) (hy : y < 256) : bits .or .u16 ((x : Int) * 256) (y : Int) = ((256 * x + y : Nat) : Int) := by
  have e : (x : Int) * 256 = ((x * 256 : Nat) : Int) := by omega
  rw [e, u16_or_nat (x * 256) y (by omega) (by omega)]
  have h := Nat.shiftLeft_add_eq_or_of_lt (i := 8) (b := y) (by omega) x
  rw [Nat.shiftLeft_eq, show (2 : Nat) ^ 8 = 256 by decide] at h
  rw [← h]
  congr 1
  omega
set_option maxHeartbeats 1000000 in
theorem pair_is (w : World) (g o m cap x y : Nat) (hm : 2 ≤ m ∧ m ≤ 140737488355328) (hx : x < 256) (hy : y < 256) (k0 : w.cell? ⟨g, o, none⟩ = some (.int .u8 (x : Int))) (k1 : w.cell? ⟨g, o + 1, none⟩ = some (.int .u8 (y : Int))) :
    Calls Tryd.prog 58 #[.slice (some ⟨g, o, none⟩) m cap] w fun e w' => e = .returned (.int .u16 ((256 * x + y : Nat) : Int)) ∧ ∃ n, w' = w.drewN n := by
  have mI : (2 : Int) ≤ (m : Int) := by omega
  have mJ : (m : Int) ≤ 140737488355328 := by omega
  have m0 : (0 : Int) < (m : Int) := by omega
  have m1 : (1 : Int) < (m : Int) := by omega
  have xI : (x : Int) < 256 := by omega
  have yI : (y : Int) < 256 := by omega
  have ev := or_pair x y hx hy
  generalize 256 * x + y = p at ev ⊢
  go_enter Tryd.func58, Tryd.ntmps58
  go_wp2
  go_quiet (fail)
  go_wp2
  go_ret
  exact ⟨rfl, _, rfl⟩
end Go.Proofs.YtcjmbpchdeapiaaDoor
