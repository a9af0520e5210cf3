/- A word's box. -/
import Derived.Test.YtbjijbgjnammhaaDoorGmo
namespace Go.Proofs.YtbjijbgjnammhaaDoor.Wds
open Go.RowKit
def Box (W : World) (b : Nat) (a0 a1 a2 a3 : Int) : Prop := (∀ i, i < 4 → W.cell? ⟨b, i, none⟩ = some (.int .u64 (limb a0 a1 a2 a3 i))) ∧ ∀ i, i < 4 → W.frozen? ⟨b, i, none⟩ = false
theorem Box.lt {W : World} {b : Nat} {a0 a1 a2 a3 : Int} (h : Box W b a0 a1 a2 a3) : b < W.heap.size := World.block_lt_of_cell? W _ (h.1 0 (by omega))
theorem Box.below {W W' : World} {B b : Nat} {a0 a1 a2 a3 : Int} (h : Box W b a0 a1 a2 a3) (k : Below B W W') (hb : b < B) : Box W' b a0 a1 a2 a3 :=
  ⟨fun i hi => (k.cell (p := ⟨b, i, none⟩) hb).trans (h.1 i hi), fun i hi => (k.frozen (p := ⟨b, i, none⟩) hb).trans (h.2 i hi)⟩
theorem Box.new (W : World) (t : TypeId) (a0 a1 a2 a3 : Int) : Box (W.alloc (.cells #[.int .u64 a0, .int .u64 a1, .int .u64 a2, .int .u64 a3] t)) W.heap.size a0 a1 a2 a3 :=
  ⟨fun i hi => box_cell W a0 a1 a2 a3 t i hi, fun i _ => by simp [World.frozen?_alloc_at]⟩
theorem Box.alloc {W : World} {b : Nat} {a0 a1 a2 a3 : Int} (h : Box W b a0 a1 a2 a3) (o : Obj) : Box (W.alloc o) b a0 a1 a2 a3 := h.below ((Below.refl _ _).alloc (Nat.le_refl _) _) h.lt
theorem Box.other {W : World} {b : Nat} {a0 a1 a2 a3 : Int} (h : Box W b a0 a1 a2 a3) (p : Addr) (x : Value) (hp : p.block ≠ b) : Box (W.setCell p x) b a0 a1 a2 a3 :=
  ⟨fun i hi => by rw [World.cell?_setCell_other _ _ _ _ (by intro e; subst e; exact hp rfl)]; exact h.1 i hi, fun i hi => by rw [World.frozen?_setCell]; exact h.2 i hi⟩
theorem Box.facts {W : World} {b : Nat} {a0 a1 a2 a3 : Int} (h : Box W b a0 a1 a2 a3) : W.cell? ⟨b, 0, none⟩ = some (.int .u64 a0) ∧ W.cell? ⟨b, 1, none⟩ = some (.int .u64 a1) ∧ W.cell? ⟨b, 2, none⟩ = some (.int .u64 a2) ∧ W.cell? ⟨b, 3, none⟩ = some (.int .u64 a3) ∧
    W.frozen? ⟨b, 0, none⟩ = false ∧ W.frozen? ⟨b, 1, none⟩ = false ∧ W.frozen? ⟨b, 2, none⟩ = false ∧ W.frozen? ⟨b, 3, none⟩ = false :=
  ⟨h.1 0 (by omega), h.1 1 (by omega), h.1 2 (by omega), h.1 3 (by omega), h.2 0 (by omega), h.2 1 (by omega), h.2 2 (by omega), h.2 3 (by omega)⟩
theorem Box.drew {W : World} {b : Nat} {a0 a1 a2 a3 : Int} (h : Box W b a0 a1 a2 a3) : Box W.drew b a0 a1 a2 a3 := h
def putX (W : World) (b : Nat) (s0 s1 s2 s3 : Int) : World := (((W.setCell ⟨b, 0, none⟩ (.int .u64 s0)).setCell ⟨b, 1, none⟩ (.int .u64 s1)).setCell ⟨b, 2, none⟩ (.int .u64 s2)).setCell ⟨b, 3, none⟩ (.int .u64 s3)
theorem Box.put {W : World} {b : Nat} {a0 a1 a2 a3 : Int} (h : Box W b a0 a1 a2 a3) (s0 s1 s2 s3 : Int) : Box (putX W b s0 s1 s2 s3) b s0 s1 s2 s3 := by
  obtain ⟨c0, c1, c2, c3, f0, f1, f2, f3⟩ := h.facts
  unfold putX
  refine ⟨fun i hi => ?_, fun i hi => by simp only [World.frozen?_setCell]; exact h.2 i hi⟩
  obtain rfl | rfl | rfl | rfl : i = 0 ∨ i = 1 ∨ i = 2 ∨ i = 3 := by omega
  all_goals (show _ = some _; go_simp; rfl)
theorem Box.put_other {W : World} {b c : Nat} {a0 a1 a2 a3 : Int} (h : Box W b a0 a1 a2 a3) (hc : c ≠ b) (s0 s1 s2 s3 : Int) : Box (putX W c s0 s1 s2 s3) b a0 a1 a2 a3 :=
  (((h.other _ _ hc).other _ _ hc).other _ _ hc).other _ _ hc
theorem below_put {B c : Nat} {w W : World} (h : Below B w W) (hc : B ≤ c) (s0 s1 s2 s3 : Int) : Below B w (putX W c s0 s1 s2 s3) := (((h.setCell hc _).setCell hc _).setCell hc _).setCell hc _
end Go.Proofs.YtbjijbgjnammhaaDoor.Wds
