/- How an address and a word that are handed in read. -/
import Derived.Test.YtbjijbgjnammhaaDoorKf
import Derived.Test.YtbjijbgjnammhaaDoorSge
namespace Go.Proofs.YtbjijbgjnammhaaDoor
open Go.ChangeShapes Go.WideShapes Go.ChangeAt Go.RowKit
theorem c20 : Tryd.prog.cellsOf 23 = 20 := by kernel_rfl
theorem cU8 : Tryd.prog.cellsOf 5 = 1 := by kernel_rfl
theorem cW4 : Tryd.prog.cellsOf 26 = 4 := by kernel_rfl
theorem open20 {H : Type} {enc : TypeId × Value → H} {W : World} {base b0 : Nat} {r : Reach} {spare : Nat → Bool} {held : Bool} {v : Value} {d : DataW H} {ps : List MemPlace}
    (hv : Value.okWide Tryd.prog W r b0 23 v) (h : DataW.Trod enc Tryd.prog W base spare held 23 v d ps) : ∃ u : Nat → Nat, (∀ i, u i < 256) ∧ v = .agg (rowB 20 (fun i => (u i : Int))).toArray := by
  obtain ⟨cs, rfl, hsz⟩ := okWide_arr Tryd.underlying23 hv
  rw [c20] at hsz
  obtain ⟨fuel, hf⟩ := h
  obtain ⟨xs, m, _, _, _, hxs, hel⟩ := DataW.trod_array Tryd.underlying23 hf
  have get : ∀ i, i < 20 → ∃ b : Nat, b < 256 ∧ cs[i]? = some (.int .u8 (b : Int)) := by
    intro i hi
    have he := hel i hi
    rw [cU8] at he
    have hx : xs[i]? = some xs[i] := List.getElem?_eq_getElem (by omega)
    rw [hx] at he
    obtain ⟨n, hn, _, hw⟩ := DataW.trod_int Tryd.underlying5 he
    have hb : 0 ≤ n ∧ n ≤ 255 := by
      simp [Lit.wf, IntKind.min, IntKind.max, IntKind.signed, IntKind.bits] at hw
      omega
    obtain ⟨N, rfl⟩ := Int.eq_ofNat_of_zero_le hb.1
    refine ⟨N, by have := hb.2; omega, ?_⟩
    have := congrArg (·[0]?) hn
    simpa [Value.cells, List.getElem?_take, List.getElem?_drop] using this
  obtain ⟨F, hF0, hF⟩ : ∃ F : Nat → Nat, (∀ i, F i < 256) ∧ ∀ i, i < 20 → cs[i]? = some (.int .u8 (F i : Int)) :=
    ⟨fun i => if h : i < 20 then Classical.choose (get i h) else 0, fun i => by
      by_cases hi : i < 20
      · simp only [dif_pos hi]
        exact (Classical.choose_spec (get i hi)).1
      · simp only [dif_neg hi]
        omega, fun i hi => by
      have := (Classical.choose_spec (get i hi)).2
      simp only [dif_pos hi]
      exact this⟩
  refine ⟨F, hF0, ?_⟩
  congr 1
  apply Array.ext_getElem?
  intro i
  by_cases hi : i < 20
  · rw [hF i hi, List.getElem?_toArray, rowB_at 20 _ i hi]
  · rw [Array.getElem?_eq_none (by omega), List.getElem?_toArray, List.getElem?_eq_none (by rw [rowB_len]; omega)]
theorem openW {H : Type} {enc : TypeId × Value → H} {W : World} {base b0 : Nat} {r : Reach} {spare : Nat → Bool} {held : Bool} {v : Value} {d : DataW H} {ps : List MemPlace}
    (hv : Value.okWide Tryd.prog W r b0 26 v) (h : DataW.Trod enc Tryd.prog W base spare held 26 v d ps) :
    ∃ a0 a1 a2 a3 : Int, v = .agg #[.int .u64 a0, .int .u64 a1, .int .u64 a2, .int .u64 a3] ∧ Wds.U64 a0 ∧ Wds.U64 a1 ∧ Wds.U64 a2 ∧ Wds.U64 a3 := by
  obtain ⟨cs, rfl, hsz⟩ := okWide_arr Tryd.underlying26 hv
  obtain ⟨c0, c1, c2, c3, rfl⟩ := Joins.array4 (hsz.trans cW4)
  obtain ⟨fuel, hf⟩ := h
  obtain ⟨xs, m, _, _, _, hxs, hel⟩ := DataW.trod_array Tryd.underlying26 hf
  have get : ∀ (i : Nat) (hi : i < 4), ∃ n, [#[c0, c1, c2, c3][i]] = [Value.int .u64 n] ∧ Wds.U64 n := by
    intro i hi
    have he := hel i hi
    rw [cU64] at he
    have hx : xs[i]? = some xs[i] := List.getElem?_eq_getElem (by omega)
    rw [hx] at he
    obtain ⟨n, hn, _, hw⟩ := DataW.trod_int Tryd.underlying24 he
    have hb := bounds_u64 hw
    refine ⟨n, ?_, hb.1, ?_⟩
    · rw [← hn]
      have : i = 0 ∨ i = 1 ∨ i = 2 ∨ i = 3 := by omega
      rcases this with rfl | rfl | rfl | rfl <;> simp [Value.cells]
    · unfold Wds.Bd; omega
  obtain ⟨a0, e0, u0⟩ := get 0 (by omega)
  obtain ⟨a1, e1, u1⟩ := get 1 (by omega)
  obtain ⟨a2, e2, u2⟩ := get 2 (by omega)
  obtain ⟨a3, e3, u3⟩ := get 3 (by omega)
  simp at e0 e1 e2 e3
  subst e0 e1 e2 e3
  exact ⟨a0, a1, a2, a3, rfl, u0, u1, u2, u3⟩
end Go.Proofs.YtbjijbgjnammhaaDoor
