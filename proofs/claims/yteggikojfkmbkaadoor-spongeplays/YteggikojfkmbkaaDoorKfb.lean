/- How an argument of bytes reads. -/
import Derived.Test.YteggikojfkmbkaaDoorKf
import Derived.Test.YteggikojfkmbkaaDoorKu
import Derived.ChangeSlices
namespace Go.Proofs.YteggikojfkmbkaaDoor
open Go.ChangeShapes Go.WideShapes Go.ChangeAt Go.RowKit
theorem c8 : Tryd.prog.cellsOf 5 = 1 := by kernel_rfl
theorem openB {H : Type} {enc : TypeId × Value → H} {W : World} {base b0 : Nat} {r : Reach} {held : Bool} {v : Value} {d : DataW H} {ps : List MemPlace}
    (hv : Value.okWide Tryd.prog W r b0 29 v) (h : DataW.Trod enc Tryd.prog W base (fun _ => true) held 29 v d ps) :
    ∃ ad cap, ∃ l : List Nat, v = .slice ad l.length cap ∧ (∀ i, l.getD i 0 < 256) ∧ (l ≠ [] → ∃ sb so, ad = some ⟨sb, so, none⟩ ∧ BytesAt W ⟨sb, so, none⟩ l) ∧ (ad = none → cap = 0) ∧ l.length ≤ 9223372036854775807 := by
  obtain ⟨a1, len, cap, rfl⟩ := okWide_slice Tryd.underlying29 hv
  obtain ⟨fuel, hf⟩ := h
  rcases open_ints Tryd.underlying29 Tryd.underlying5 c8 hf with ⟨hcs, hx⟩ | ⟨a, len', cap', zs, hcs, _, hl, hm, hz, hx, hcell, hwz⟩
  · simp [Value.cells] at hcs
    obtain ⟨rfl, rfl, rfl⟩ := hcs
    exact ⟨none, 0, [], rfl, fun i => by simp, fun h => absurd rfl h, fun _ => rfl, by simp⟩
  · simp [Value.cells] at hcs
    obtain ⟨rfl, rfl, rfl⟩ := hcs
    simp only [if_true] at hz
    have hlen : ((zs.take len).map Int.toNat).length = len := by simp; omega
    have hat : ∀ i, i < len → ((zs.take len).map Int.toNat).getD i 0 = (zs.getD i 0).toNat := by
      intro i hi
      simp [List.getD_eq_getElem?_getD, hi, List.getElem?_eq_getElem (show i < zs.length by omega)]
    refine ⟨some a, cap, (zs.take len).map Int.toNat, by rw [hlen], fun i => ?_, fun hne => ?_, fun h => (by cases h), by rw [hlen]; unfold maxLen at hm; omega⟩
    · by_cases hi : i < len
      · rw [hat i hi]; have := range_u8 hwz i; rw [← List.getD_eq_getElem?_getD] at this; omega
      · rw [List.getD_eq_getElem?_getD, List.getElem?_eq_none (by rw [hlen]; omega)]; simp
    · have h0 : 0 < len := by
        rcases Nat.eq_zero_or_pos len with h | h
        · rw [h] at hne; simp at hne
        · exact h
      obtain ⟨ab, ao, spot⟩ := a
      have hspot : spot = none := by simpa [Addr.add] using World.cell?_spot (hcell 0 (by omega))
      subst hspot
      refine ⟨ab, ao, rfl, fun i hi => ?_⟩
      rw [hlen] at hi
      have hc := hcell i (by omega)
      rw [Addr.add_mid] at hc
      rw [hat i hi]
      have := range_u8 hwz i
      rw [← List.getD_eq_getElem?_getD] at this
      rw [show (((zs.getD i 0).toNat : Nat) : Int) = zs.getD i 0 by omega]
      exact hc
end Go.Proofs.YteggikojfkmbkaaDoor
