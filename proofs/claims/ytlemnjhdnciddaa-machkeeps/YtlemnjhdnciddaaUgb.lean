/- How a list of bytes reads. -/
import Derived.Test.YtlemnjhdnciddaaUf
import Derived.Test.YtlemnjhdnciddaaGma
namespace Go.Proofs.Ytlemnjhdnciddaa
open Go.ChangeShapes Go.WideShapes Go.ChangeAt Go.RowKit
theorem cells8 : Try.prog.cellsOf 5 = 1 := by kernel_rfl
set_option maxRecDepth 100000 in
theorem openBs {H : Type} {enc : TypeId × Value → H} {W : World} {base b0 : Nat} {r : Reach} {held : Bool} {v : Value} {d : DataW H} {ps : List MemPlace}
    (hv : Value.okWide Try.prog W r b0 31 v) (h : DataW.Trod enc Try.prog W base (fun _ => true) held 31 v d ps) (hs : ∀ k ∈ d.weights Try.prog 31, k ≤ reachBytes) :
    ∃ n x, By W v n x ∧ True := by
  obtain ⟨a1, len, cap, rfl⟩ := okWide_slice Try.underlying31 hv
  obtain ⟨fuel, hf⟩ := h
  rcases DataW.trod_slice Try.underlying31 hf with ⟨hcs, hx⟩ | ⟨a, len', cap', elems, rest, n, _, hcs, hx, hb, hl, hm, hlen, hel, _, _⟩
  · simp [Value.cells] at hcs
    obtain ⟨rfl, rfl, rfl⟩ := hcs
    exact ⟨0, fun _ => 0, ⟨none, 0, rfl, by omega, by omega, fun e => absurd e (by omega)⟩, trivial⟩
  · simp [Value.cells] at hcs
    obtain ⟨rfl, rfl, rfl⟩ := hcs
    rw [cells8] at hel
    have hd : d = .slice (elems.map (·.1)) (rest.map (·.1)) := congrArg Prod.fst hx
    have hln : len ≤ 140737488355328 := by
      have hk := hs (elems.length * Try.prog.bytesOf 5 + rest.length * Try.prog.bytesOf 5) (by
        rw [hd]
        simp only [DataW.weights, Try.underlying31, List.mem_cons, List.mem_append]
        left
        simp [Nat.add_mul])
      have hb8 : Try.prog.bytesOf 5 = 1 := by kernel_rfl
      rw [hb8] at hk
      unfold reachBytes at hk
      omega
    by_cases hne : len = 0
    · exact ⟨len, fun _ => 0, ⟨some a, cap, rfl, by omega, by omega, fun e => absurd hne (by omega)⟩, trivial⟩
    have at1 : ∀ i, i < len → ∃ z : Nat, W.cell? (a.add i) = some (.int .u8 (z : Int)) := by
      intro i hi
      have he := hel i hi
      rw [List.getElem?_eq_getElem (show i < elems.length by omega), Option.bind_eq_some_iff] at he
      obtain ⟨cs, hc, ht⟩ := he
      obtain ⟨_, hl4, hcell⟩ := World.cells?_some hc
      obtain ⟨z, hz, _, hw⟩ := DataW.trod_int Try.underlying5 ht
      obtain ⟨zn, rfl⟩ : ∃ zn : Nat, z = (zn : Int) := ⟨z.toNat, by have := (bounds_u8 hw).1; omega⟩
      refine ⟨zn, ?_⟩
      have h9 := hcell 0 (by omega)
      rw [hz] at h9
      simpa [Addr.add] using h9
    obtain ⟨ab, ao, spot⟩ := a
    have hspot : spot = none := by
      obtain ⟨z, hz⟩ := at1 0 (by omega)
      simpa [Addr.add] using World.cell?_spot hz
    subst hspot
    refine ⟨len, fun i => if h : i < len then (at1 i h).choose else 0, ⟨some ⟨ab, ao, none⟩, cap, rfl, by omega, by omega, fun _ => ⟨ab, ao, rfl, fun i hi => ?_⟩⟩, trivial⟩
    simp only [hi, dif_pos]
    have h9 := (at1 i hi).choose_spec
    simpa only [Addr.add_mid] using h9
end Go.Proofs.Ytlemnjhdnciddaa
