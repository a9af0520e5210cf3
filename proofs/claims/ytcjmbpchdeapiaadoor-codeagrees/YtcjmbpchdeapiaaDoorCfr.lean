/- How arguments of bytes and of numbers read. -/
import Derived.Test.YtcjmbpchdeapiaaDoorOpf
import Derived.Test.YtcjmbpchdeapiaaDoorCdb
import Derived.ChangeSlices
namespace Go.Proofs.YtcjmbpchdeapiaaDoor
open Go.ChangeShapes Go.WideShapes Go.ChangeAt Go.RowKit
theorem c8b : Tryd.prog.cellsOf 5 = 1 := by kernel_rfl
set_option maxRecDepth 100000 in
theorem openBy {H : Type} {enc : TypeId × Value → H} {W : World} {base b0 : Nat} {r : Reach} {held : Bool} {v : Value} {d : DataW H} {ps : List MemPlace}
    (hv : Value.okWide Tryd.prog W r b0 22 v) (h : DataW.Trod enc Tryd.prog W base (fun _ => true) held 22 v d ps) :
    ∃ L b, BytesOf W v L b ∧ (∀ ad cap, v = .slice ad L cap → L ≤ cap) ∧ L ≤ 9223372036854775807 := by
  obtain ⟨a1, len, cap, rfl⟩ := okWide_slice Tryd.underlying22 hv
  obtain ⟨fuel, hf⟩ := h
  rcases open_ints Tryd.underlying22 Tryd.underlying5 c8b hf with ⟨hcs, hx⟩ | ⟨a, len', cap', zs, hcs, _, hl, hm, hz, hx, hcell, hwz⟩
  · simp [Value.cells] at hcs
    obtain ⟨rfl, rfl, rfl⟩ := hcs
    exact ⟨0, fun _ => 0, ⟨none, 0, rfl, fun _ => by show 0 < 256; omega, fun _ => ⟨rfl, rfl⟩, fun h => absurd rfl h⟩, fun _ _ e => by cases e; omega, by omega⟩
  · simp [Value.cells] at hcs
    obtain ⟨rfl, rfl, rfl⟩ := hcs
    simp only [if_true] at hz
    have h8 : ∀ i, 0 ≤ zs.getD i 0 ∧ zs.getD i 0 < 256 := fun i => by
      have := range_u8 hwz i; rw [← List.getD_eq_getElem?_getD] at this; omega
    refine ⟨len, fun j => (zs.getD j 0).toNat, ⟨some a, cap, rfl, fun j => by have := h8 j; show (zs.getD j 0).toNat < 256; omega, fun e => (by cases e), fun hne => ?_⟩, fun ad c e => by cases e; exact hl, by unfold maxLen at hm; omega⟩
    obtain ⟨ab, ao, spot⟩ := a
    have hspot : spot = none := by simpa [Addr.add] using World.cell?_spot (hcell 0 (by omega))
    subst hspot
    refine ⟨ab, ao, rfl, fun i hi => ?_⟩
    have hc := hcell i (by omega)
    rw [Addr.add_mid] at hc
    rw [show (((zs.getD i 0).toNat : Nat) : Int) = zs.getD i 0 by have := h8 i; omega]
    exact hc
end Go.Proofs.YtcjmbpchdeapiaaDoor
