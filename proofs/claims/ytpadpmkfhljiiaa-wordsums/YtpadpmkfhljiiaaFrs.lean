/- How an argument that is a list of words reads. -/
import Derived.Test.YtpadpmkfhljiiaaFr
import Derived.Test.YtpadpmkfhljiiaaSa
import Derived.ChangeSlices
namespace Go.Proofs.Ytpadpmkfhljiiaa
open Go.ChangeShapes Go.WideShapes Go.ChangeAt Go.RowKit
set_option maxRecDepth 100000 in
theorem openWs {H : Type} {enc : TypeId × Value → H} {W : World} {base b0 : Nat} {r : Reach} {held : Bool} {v : Value} {d : DataW H} {ps : List MemPlace}
    (hv : Value.okWide Try.prog W r b0 30 v) (h : DataW.Trod enc Try.prog W base (fun _ => true) held 30 v d ps) :
    ∃ ad n cap, v = .slice ad n cap ∧ n ≤ maxLen ∧ ∃ a : Nat → Nat → Int, (∀ i q, U64 (a i q)) ∧ (n ≠ 0 → ∃ g o, ad = some ⟨g, o, none⟩ ∧ ∀ i, i < n → ∀ q, q < 4 → W.cell? ⟨g, o + i * 4 + q, none⟩ = some (.int .u64 (a i q))) := by
  obtain ⟨a1, len, cap, rfl⟩ := okWide_slice Try.underlying30 hv
  obtain ⟨fuel, hf⟩ := h
  rcases DataW.trod_slice Try.underlying30 hf with ⟨hcs, hx⟩ | ⟨a, len', cap', elems, rest, n, _, hcs, hx, hb, hl, hm, hlen, hel, _, _⟩
  · simp [Value.cells] at hcs
    obtain ⟨rfl, rfl, rfl⟩ := hcs
    exact ⟨none, 0, 0, rfl, by omega, fun _ _ => 0, fun _ _ => u64_lit 0 (by omega) (by omega), fun h => absurd rfl h⟩
  · simp [Value.cells] at hcs
    obtain ⟨rfl, rfl, rfl⟩ := hcs
    rw [cells24] at hel
    by_cases hne : len = 0
    · exact ⟨some a, len, cap, rfl, by omega, fun _ _ => 0, fun _ _ => u64_lit 0 (by omega) (by omega), fun h => absurd hne h⟩
    have at1 : ∀ i, i < len → ∀ q, q < 4 → ∃ x : Int, W.cell? ((a.add (i * 4)).add q) = some (.int .u64 x) ∧ U64 x := by
      intro i hi q hq
      have he := hel i hi
      rw [List.getElem?_eq_getElem (show i < elems.length by omega), Option.bind_eq_some_iff] at he
      obtain ⟨cs, hc, ht⟩ := he
      obtain ⟨_, hl4, hcell⟩ := World.cells?_some hc
      obtain ⟨xs, m, _, _, _, hxs, hxe⟩ := DataW.trod_array Try.underlying24 ht
      have h4 := hxe q hq
      rw [cells22, List.getElem?_eq_getElem (show q < xs.length by omega)] at h4
      obtain ⟨x, hx, _, hw⟩ := DataW.trod_int Try.underlying22 h4
      have hb := bounds_u64 hw
      refine ⟨x, ?_, hb.1, by unfold Bd; omega⟩
      have e1 : cs[q]? = some (.int .u64 x) := by
        rw [Nat.mul_one] at hx
        have : ((cs.drop q).take 1)[0]? = some (Value.int .u64 x) := by rw [hx]; rfl
        simpa using this
      rw [hcell q hq, e1]
    obtain ⟨ab, ao, spot⟩ := a
    have hspot : spot = none := by
      obtain ⟨x, hx, _⟩ := at1 0 (by omega) 0 (by omega)
      simpa [Addr.add] using World.cell?_spot hx
    subst hspot
    have get : ∀ i q, i < len → q < 4 → ∃ x : Int, W.cell? ⟨ab, ao + i * 4 + q, none⟩ = some (.int .u64 x) ∧ U64 x := by
      intro i q hi hq
      have := at1 i hi q hq
      rwa [Addr.add_mid, Addr.add_mid] at this
    refine ⟨some ⟨ab, ao, none⟩, len, cap, rfl, by omega, fun i q => if h : i < len ∧ q < 4 then (get i q h.1 h.2).choose else 0, fun i q => ?_, fun _ => ⟨ab, ao, rfl, fun i hi q hq => ?_⟩⟩
    · dsimp only
      split
      · rename_i h; exact (get i q h.1 h.2).choose_spec.2
      · exact u64_lit 0 (by omega) (by omega)
    · rw [(get i q hi hq).choose_spec.1]
      simp [hi, hq]
end Go.Proofs.Ytpadpmkfhljiiaa
