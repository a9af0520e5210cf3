/- How an argument of bytes and one that is an address read. -/
import Derived.Test.YtpadpmkfhljiiaaGreatMf1
import Derived.Test.YtpadpmkfhljiiaaGreatMf6
import Derived.ChangeSlices
import Derived.Deep.MidRow
namespace Go.Proofs.YtpadpmkfhljiiaaGreat
open Go.ChangeShapes Go.WideShapes Go.ChangeAt Go.RowKit
theorem c8 : Tryz.prog.cellsOf 5 = 1 := by kernel_rfl
theorem cA : Tryz.prog.cellsOf 37 = 20 := by kernel_rfl
theorem wf_u8 {n : Int} (h : (Lit.int .u8 n).wf = true) : 0 ≤ n ∧ n < 256 := by
  have := bounds_u8 h
  omega
set_option maxRecDepth 100000 in
theorem openBs {H : Type} {enc : TypeId × Value → H} {W : World} {base b0 : Nat} {r : Reach} {held : Bool} {v : Value} {d : DataW H} {ps : List MemPlace}
    (hv : Value.okWide Tryz.prog W r b0 35 v) (h : DataW.Trod enc Tryz.prog W base (fun _ => true) held 35 v d ps) :
    ∃ n u, n ≤ maxLen ∧ BytesAt W v n u := by
  obtain ⟨a1, len, cap, rfl⟩ := okWide_slice Tryz.underlying35 hv
  obtain ⟨fuel, hf⟩ := h
  rcases DataW.trod_slice Tryz.underlying35 hf with ⟨hcs, hx⟩ | ⟨a, len', cap', elems, rest, n, _, hcs, hx, hb, hl, hm, hlen, hel, _, _⟩
  · simp [Value.cells] at hcs
    obtain ⟨rfl, rfl, rfl⟩ := hcs
    exact ⟨0, fun _ => 0, by omega, fun _ => (by decide : (0 : Nat) < 256), none, 0, rfl, fun h => absurd rfl h⟩
  · simp [Value.cells] at hcs
    obtain ⟨rfl, rfl, rfl⟩ := hcs
    rw [c8] at hel
    have at1 : ∀ i, i < len → ∃ x : Int, W.cell? (a.add i) = some (.int .u8 x) ∧ 0 ≤ x ∧ x < 256 := by
      intro i hi
      have he := hel i hi
      rw [List.getElem?_eq_getElem (show i < elems.length by omega), Option.bind_eq_some_iff] at he
      obtain ⟨cs, hc, ht⟩ := he
      obtain ⟨_, hl1, hcell⟩ := World.cells?_some hc
      obtain ⟨x, hx, _, hw⟩ := DataW.trod_int Tryz.underlying5 ht
      refine ⟨x, ?_, wf_u8 hw⟩
      have h0 := hcell 0 (by omega)
      rw [hx, Nat.mul_one] at h0
      simpa [Addr.add] using h0
    refine ⟨len, fun i => if h : i < len then (at1 i h).choose.toNat else 0, by omega, fun i => ?_, some a, cap, rfl, fun hne => ?_⟩
    · dsimp only
      split
      · rename_i h; have := (at1 i h).choose_spec.2; omega
      · omega
    · obtain ⟨ab, ao, spot⟩ := a
      have hspot : spot = none := by
        obtain ⟨x, hx, _⟩ := at1 0 (by omega)
        simpa [Addr.add] using World.cell?_spot hx
      subst hspot
      refine ⟨ab, ao, rfl, fun i hi => ?_⟩
      have h1 := (at1 i hi).choose_spec
      have h2 : (⟨ab, ao + i, none⟩ : Addr) = Addr.add ⟨ab, ao, none⟩ i := (Addr.add_mid _ _ _).symm
      rw [h2, h1.1]
      simp [hi]
      have := h1.2.1
      omega
set_option maxRecDepth 100000 in
theorem openA {H : Type} {enc : TypeId × Value → H} {W : World} {base b0 : Nat} {r : Reach} {spare : Nat → Bool} {held : Bool} {v : Value} {d : DataW H} {ps : List MemPlace}
    (hv : Value.okWide Tryz.prog W r b0 37 v) (h : DataW.Trod enc Tryz.prog W base spare held 37 v d ps) :
    ∃ f : Nat → Nat, (∀ i, f i < 256) ∧ v = .agg (rowB 20 (fun i => (f i : Int))).toArray := by
  obtain ⟨cs, rfl, hsz⟩ := okWide_arr Tryz.underlying37 hv
  rw [cA] at hsz
  obtain ⟨fuel, hf⟩ := h
  obtain ⟨xs, m, _, _, _, hxs, hel⟩ := DataW.trod_array Tryz.underlying37 hf
  have get : ∀ i, i < 20 → ∃ x : Int, cs[i]? = some (.int .u8 x) ∧ 0 ≤ x ∧ x < 256 := by
    intro i hi
    have he := hel i hi
    rw [c8, List.getElem?_eq_getElem (show i < xs.length by omega)] at he
    obtain ⟨x, hx, _, hw⟩ := DataW.trod_int Tryz.underlying5 he
    refine ⟨x, ?_, wf_u8 hw⟩
    rw [Nat.mul_one] at hx
    have h0 : (((Value.agg cs).cells.toList.drop i).take 1)[0]? = some (Value.int .u8 x) := by rw [hx]; rfl
    simpa [Value.cells] using h0
  obtain ⟨F, hF⟩ : ∃ F : Nat → Nat, ∀ i, F i < 256 ∧ (i < 20 → cs[i]? = some (.int .u8 (F i : Int))) := by
    have one : ∀ i, ∃ y : Nat, y < 256 ∧ (i < 20 → cs[i]? = some (.int .u8 (y : Int))) := by
      intro i
      by_cases hi : i < 20
      · obtain ⟨x, h1, h2, h3⟩ := get i hi
        exact ⟨x.toNat, by omega, fun _ => by rw [h1, Int.toNat_of_nonneg h2]⟩
      · exact ⟨0, by omega, fun h => absurd h hi⟩
    exact ⟨fun i => (one i).choose, fun i => (one i).choose_spec⟩
  refine ⟨F, fun i => (hF i).1, ?_⟩
  congr 1
  apply Array.ext_getElem?
  intro i
  by_cases hi : i < 20
  · rw [(hF i).2 hi, List.getElem?_toArray, rowB_at 20 _ i hi]
  · rw [Array.getElem?_eq_none (by omega), Array.getElem?_eq_none (by simp [rowB]; omega)]
end Go.Proofs.YtpadpmkfhljiiaaGreat
