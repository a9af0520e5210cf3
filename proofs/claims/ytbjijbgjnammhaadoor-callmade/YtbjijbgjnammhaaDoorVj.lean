/- The document's 'Permute': lanes to bits, 24 rounds, bits to lanes. -/
import Derived.Test.YtbjijbgjnammhaaDoorVi
import Derived.Test.YtbjijbgjnammhaaDoorKp
namespace Go.Proofs.YtbjijbgjnammhaaDoor
open Go.RowKit
theorem lane_bit (f : KSt) (i z : Nat) (hz : z < 64) : bs f (64 * i + z) = (f i).toNat / 2 ^ z % 2 := by
  rw [bs_at _ _ _ hz, BitVec.getLsbD, Nat.testBit_eq_decide_div_mod_eq]
  have := Nat.mod_two_eq_zero_or_one ((f i).toNat / 2 ^ z)
  rcases this with h | h <;> simp [h]
theorem half_pow (X z : Nat) : X / 2 ^ z / 2 = X / 2 ^ (z + 1) := by rw [Nat.div_div_eq_div_mul, Nat.pow_succ]
theorem join_pow (X z : Nat) : 2 * (X / 2 ^ (z + 1)) + X / 2 ^ z % 2 = X / 2 ^ z := by rw [← half_pow]; omega
/-- while the lanes are taken apart -/
def PInv (w : World) (v : Nat → Int) (g : Nat → Nat) (c : Nat) (W : World) : Prop :=
  Below w.heap.size w W ∧ Row W w.heap.size 25 v ∧ Row W (w.heap.size + 1) 25 (fun _ => 0) ∧ ∃ u : Nat → Nat, RowI W (w.heap.size + 1 + 1) 1600 u ∧ Up g (fun k => k) c u
theorem PInv.set {w W : World} {v : Nat → Int} {g : Nat → Nat} {c x : Nat} (h : PInv w v g c W) (hx : x = g c) : PInv w v g (c + 1) (W.setCell ⟨w.heap.size + 1 + 1, c, none⟩ (.int .i64 (x : Int))) := by
  obtain ⟨hB, hA, hZ, u, hU, hu⟩ := h
  exact ⟨hB.setCell (by simp; omega) _, hA.set_other _ _ (by simp; omega), hZ.set_other _ _ (by simp), _, hU.set c x, hu.set rfl hx (fun k hk => by show k ≠ c; omega)⟩
theorem PInv.room {w W : World} {v : Nat → Int} {g : Nat → Nat} {c : Nat} (h : PInv w v g c W) (i : Nat) (hi : i < 1600) : ∃ z : Int, W.cell? ⟨w.heap.size + 1 + 1, i, none⟩ = some (.int .i64 z) ∧ W.frozen? ⟨w.heap.size + 1 + 1, i, none⟩ = false := by
  obtain ⟨_, _, _, u, hU, _⟩ := h
  exact ⟨u i, hU i hi⟩
/-- while the lanes are put together -/
def QInv (w : World) (b7 b8 : Nat) (g : Nat → Nat) (v : Nat → Int) (c : Nat) (W : World) : Prop :=
  Below w.heap.size w W ∧ Row W (w.heap.size + 1) 25 (fun _ => 0) ∧ RowI W b7 1600 g ∧ ∃ u : Nat → Int, Row W b8 25 u ∧ ∀ j, j < c → u j = v j
theorem QInv.set {w W : World} {b7 b8 : Nat} {g : Nat → Nat} {v : Nat → Int} {c : Nat} {x : Int} (h : QInv w b7 b8 g v c W) (hc : c < 25) (h8 : w.heap.size + 1 < b8) (h7 : b7 ≠ b8) (hx : x = v c) : QInv w b7 b8 g v (c + 1) (W.setCell ⟨b8, c, none⟩ (.int .u64 x)) := by
  obtain ⟨hB, hZ, hA, u, hU, hu⟩ := h
  refine ⟨hB.setCell (by show w.heap.size ≤ b8; omega) _, hZ.set_other _ _ (by show b8 ≠ w.heap.size + 1; omega), hA.set_other _ _ (fun e => h7 e.symm), _, hU.set c x hc, fun j hj => ?_⟩
  by_cases e : j = c
  · rw [if_pos e, hx, e]
  · rw [if_neg e]; exact hu j (by omega)
end Go.Proofs.YtbjijbgjnammhaaDoor
