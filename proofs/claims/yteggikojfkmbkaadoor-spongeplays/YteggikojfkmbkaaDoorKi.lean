/- New and Reset. -/
import Derived.Test.YteggikojfkmbkaaDoorKt
namespace Go.Proofs.YteggikojfkmbkaaDoor
open Go.RowKit
set_option maxHeartbeats 400000 in
set_option maxRecDepth 100000 in
/-- a new sponge: its block is the next one -/
theorem new_is (w : World) : Calls Tryd.prog 21 #[] w fun e w' => e = .returned (.pointer (some ⟨w.heap.size, 0, none⟩)) ∧ Spo w' w.heap.size zeroK 0 ∧ Below w.heap.size w w' := by
  have H : Hid (∀ o, o = Obj.cells (spoL zeroK 0).toArray 66 → Spo (w.alloc o) w.heap.size zeroK 0 ∧ Below w.heap.size w (w.alloc o)) := fun o e => by
    subst e; exact ⟨Spo.new w 66 zeroK 0, (Below.refl _ _).alloc (by omega) _⟩
  go_enter Tryd.func21, Tryd.ntmps21
  go_wp2
  go_ret
  exact ⟨rfl, H.out _ (by rw [← zero26])⟩
set_option maxHeartbeats 400000 in
set_option maxRecDepth 100000 in
theorem reset_is (w : World) (b : Nat) (f : KSt) (p : Nat) (h : Spo w b f p) :
    Calls Tryd.prog 25 #[.pointer (some ⟨b, 0, none⟩)] w fun e w' => e = .returned (.tuple #[]) ∧ Spo w' b zeroK 0 ∧ Only b w w' := by
  have HS : Hid (Spo w b f p) := h
  clear h
  go_enter Tryd.func25, Tryd.ntmps25
  go_wp2_with (refine store26 zeroK 0 b rfl _ _ rfl rfl rfl (Spo.there HS.out) ?_)
  go_end0
  exact ⟨rfl, Spo.store HS.out zeroK 0, (Only.refl b w).sets _ _⟩
end Go.Proofs.YteggikojfkmbkaaDoor
