/- How arguments read: an int, a number of 64 bits, a word. -/
import Derived.Test.YtlemnjhdnciddaaRows
import Derived.Test.YtlemnjhdnciddaaNum
import Derived.WalkKit
import Derived.ProofKit
import Derived.OpenShut
import Derived.ChangeOld
import Derived.ChangeSlices
import Derived.Lib.SmallJoins
import Derived.SizedLaws
namespace Go.Proofs.Ytlemnjhdnciddaa
open Go.ChangeShapes Go.WideShapes Go.ChangeAt Go.RowKit
theorem Try.own : ownKnob Try.prog.godebug = none := by kernel_rfl
theorem Try.laidOut : laidOutB Try.prog = true := by kernel_rfl
theorem okWide_arr {P : Program} {w : World} {r : Reach} {base n : Nat} {t e : TypeId} {v : Value} (ht : P.underlying t = some (.array n e)) (h : Value.okWide P w r base t v) : ∃ cs, v = .agg cs ∧ cs.size = P.cellsOf t := by
  simp only [Value.okWide, ht] at h
  obtain ⟨cs, h1, h2, _⟩ := h
  exact ⟨cs, h1, h2⟩
theorem cells24 : Try.prog.cellsOf 30 = 4 := by kernel_rfl
theorem cells22 : Try.prog.cellsOf 28 = 1 := by kernel_rfl
set_option maxRecDepth 100000 in
theorem openI {H : Type} {enc : TypeId × Value → H} {W : World} {base b0 : Nat} {r : Reach} {spare : Nat → Bool} {held : Bool} {v : Value} {d : DataW H} {ps : List MemPlace}
    (hv : Value.okWide Try.prog W r b0 3 v) (h : DataW.Trod enc Try.prog W base spare held 3 v d ps) : ∃ n : Int, v = .int .i64 n ∧ -9223372036854775808 ≤ n ∧ n ≤ 9223372036854775807 := by
  obtain ⟨n, rfl⟩ := okWide_int Try.underlying3 hv
  obtain ⟨fuel, hf⟩ := h
  obtain ⟨m, hm, _, hw⟩ := DataW.trod_int Try.underlying3 hf
  simp [Value.cells] at hm
  subst hm
  exact ⟨n, rfl, bounds_i64 hw⟩
set_option maxRecDepth 100000 in
theorem openU {H : Type} {enc : TypeId × Value → H} {W : World} {base b0 : Nat} {r : Reach} {spare : Nat → Bool} {held : Bool} {v : Value} {d : DataW H} {ps : List MemPlace}
    (hv : Value.okWide Try.prog W r b0 28 v) (h : DataW.Trod enc Try.prog W base spare held 28 v d ps) : ∃ n : Int, v = .int .u64 n ∧ 0 ≤ n ∧ n ≤ 18446744073709551615 := by
  obtain ⟨n, rfl⟩ := okWide_int Try.underlying28 hv
  obtain ⟨fuel, hf⟩ := h
  obtain ⟨m, hm, _, hw⟩ := DataW.trod_int Try.underlying28 hf
  simp [Value.cells] at hm
  subst hm
  exact ⟨n, rfl, bounds_u64 hw⟩
set_option maxRecDepth 100000 in
theorem openW {H : Type} {enc : TypeId × Value → H} {W : World} {base b0 : Nat} {r : Reach} {spare : Nat → Bool} {held : Bool} {v : Value} {d : DataW H} {ps : List MemPlace}
    (hv : Value.okWide Try.prog W r b0 30 v) (h : DataW.Trod enc Try.prog W base spare held 30 v d ps) :
    ∃ a0 a1 a2 a3 : Int, v = .agg #[.int .u64 a0, .int .u64 a1, .int .u64 a2, .int .u64 a3] ∧ U64 a0 ∧ U64 a1 ∧ U64 a2 ∧ U64 a3 := by
  obtain ⟨cs, rfl, hsz⟩ := okWide_arr Try.underlying30 hv
  obtain ⟨c0, c1, c2, c3, rfl⟩ := Joins.array4 (hsz.trans cells24)
  obtain ⟨fuel, hf⟩ := h
  obtain ⟨xs, m, _, _, _, hxs, hel⟩ := DataW.trod_array Try.underlying30 hf
  have get : ∀ (i : Nat) (hi : i < 4), ∃ n, [#[c0, c1, c2, c3][i]] = [Value.int .u64 n] ∧ U64 n := by
    intro i hi
    have he := hel i hi
    rw [cells22] at he
    have hx : xs[i]? = some xs[i] := List.getElem?_eq_getElem (by omega)
    rw [hx] at he
    obtain ⟨n, hn, _, hw⟩ := DataW.trod_int Try.underlying28 he
    have hb := bounds_u64 hw
    refine ⟨n, ?_, hb.1, ?_⟩
    · rw [← hn]
      have : i = 0 ∨ i = 1 ∨ i = 2 ∨ i = 3 := by omega
      rcases this with rfl | rfl | rfl | rfl <;> simp [Value.cells]
    · unfold Bd; omega
  obtain ⟨a0, e0, u0⟩ := get 0 (by omega)
  obtain ⟨a1, e1, u1⟩ := get 1 (by omega)
  obtain ⟨a2, e2, u2⟩ := get 2 (by omega)
  obtain ⟨a3, e3, u3⟩ := get 3 (by omega)
  simp at e0 e1 e2 e3
  subst e0 e1 e2 e3
  exact ⟨a0, a1, a2, a3, rfl, u0, u1, u2, u3⟩
end Go.Proofs.Ytlemnjhdnciddaa
