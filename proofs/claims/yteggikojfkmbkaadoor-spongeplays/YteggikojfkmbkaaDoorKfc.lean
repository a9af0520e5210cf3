/- How arguments of bytes and of numbers read: slices in full. -/
import Derived.Test.YteggikojfkmbkaaDoorKfb
import Derived.Test.YteggikojfkmbkaaDoorKca
namespace Go.Proofs.YteggikojfkmbkaaDoor
open Go.ChangeShapes Go.WideShapes Go.ChangeAt Go.RowKit
theorem ci64 : Tryd.prog.cellsOf 3 = 1 := by kernel_rfl
theorem openSeg {H : Type} {enc : TypeId × Value → H} {W : World} {base b0 : Nat} {r : Reach} {held : Bool} {v : Value} {d : DataW H} {ps : List MemPlace}
    (hv : Value.okWide Tryd.prog W r b0 29 v) (h : DataW.Trod enc Tryd.prog W base (fun _ => true) held 29 v d ps) :
    ∃ ad cap, ∃ l : List Nat, v = .slice ad l.length cap ∧ (∀ i, l.getD i 0 < 256) ∧ Seg W (.slice ad l.length cap) l := by
  obtain ⟨a1, len, cap, rfl⟩ := okWide_slice Tryd.underlying29 hv
  obtain ⟨fuel, hf⟩ := h
  rcases open_ints Tryd.underlying29 Tryd.underlying5 c8 hf with ⟨hcs, hx⟩ | ⟨a, len', cap', zs, hcs, _, hl, hm, hz, hx, hcell, hwz⟩
  · simp [Value.cells] at hcs
    obtain ⟨rfl, rfl, rfl⟩ := hcs
    exact ⟨none, 0, [], rfl, fun i => by simp, none, 0, rfl, by simp, by unfold maxLen; omega, fun h => absurd rfl h, fun _ => rfl⟩
  · simp [Value.cells] at hcs
    obtain ⟨rfl, rfl, rfl⟩ := hcs
    simp only [if_true] at hz
    have hlen : ((zs.take len).map Int.toNat).length = len := by simp; omega
    have hat : ∀ i, i < len → ((zs.take len).map Int.toNat).getD i 0 = (zs.getD i 0).toNat := by
      intro i hi
      simp [List.getD_eq_getElem?_getD, hi, List.getElem?_eq_getElem (show i < zs.length by omega)]
    refine ⟨some a, cap, (zs.take len).map Int.toNat, by rw [hlen], fun i => ?_, some a, cap, rfl, by omega, hm, fun hne => ?_, fun h => (by cases h)⟩
    · by_cases hi : i < len
      · rw [hat i hi]; have := range_u8 hwz i; rw [← List.getD_eq_getElem?_getD] at this; omega
      · rw [List.getD_eq_getElem?_getD, List.getElem?_eq_none (by rw [hlen]; omega)]; simp
    · have h0 : 0 < len := by
        rcases Nat.eq_zero_or_pos len with h | h
        · rw [h] at hne; simp at hne
        · exact h
      obtain ⟨ab, ao, spot⟩ := a
      have hspot : spot = none := by simpa [Addr.add] using World.cell?_spot (hcell 0 (by omega))
      subst hspot
      refine ⟨ab, ao, rfl, fun i hi => ?_⟩
      rw [hlen] at hi
      have hc := hcell i (by omega)
      rw [Addr.add_mid] at hc
      rw [hat i hi]
      have := range_u8 hwz i
      rw [← List.getD_eq_getElem?_getD] at this
      rw [show (((zs.getD i 0).toNat : Nat) : Int) = zs.getD i 0 by omega]
      exact hc
theorem openI {H : Type} {enc : TypeId × Value → H} {W : World} {base b0 : Nat} {r : Reach} {held : Bool} {v : Value} {d : DataW H} {ps : List MemPlace}
    (hv : Value.okWide Tryd.prog W r b0 50 v) (h : DataW.Trod enc Tryd.prog W base (fun _ => true) held 50 v d ps) :
    ∃ (la : Option Addr) (lc m : Nat) (zs : List Int), v = .slice la m lc ∧ m ≤ maxLen ∧ (m ≠ 0 → ∃ pb po, la = some ⟨pb, po, none⟩ ∧ ∀ i, i < m → W.cell? ⟨pb, po + i, none⟩ = some (.int .i64 (zs.getD i 0))) := by
  obtain ⟨a1, len, cap, rfl⟩ := okWide_slice Tryd.underlying50 hv
  obtain ⟨fuel, hf⟩ := h
  rcases open_ints Tryd.underlying50 Tryd.underlying3 ci64 hf with ⟨hcs, hx⟩ | ⟨a, len', cap', zs, hcs, _, hl, hm, hz, hx, hcell, hwz⟩
  · simp [Value.cells] at hcs
    obtain ⟨rfl, rfl, rfl⟩ := hcs
    exact ⟨none, 0, 0, [], rfl, by omega, fun h => absurd rfl h⟩
  · simp [Value.cells] at hcs
    obtain ⟨rfl, rfl, rfl⟩ := hcs
    simp only [if_true] at hz
    refine ⟨some a, cap, len, zs, rfl, by omega, fun hne => ?_⟩
    obtain ⟨ab, ao, spot⟩ := a
    have hspot : spot = none := by simpa [Addr.add] using World.cell?_spot (hcell 0 (by omega))
    subst hspot
    refine ⟨ab, ao, rfl, fun i hi => ?_⟩
    have hc := hcell i (by omega)
    rwa [Addr.add_mid] at hc
end Go.Proofs.YteggikojfkmbkaaDoor
