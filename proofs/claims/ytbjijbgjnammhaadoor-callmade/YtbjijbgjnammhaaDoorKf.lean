/- The frame of the sponge's laws: the three tables as they are laid; how an argument of 25 lanes reads. -/
import Derived.Test.YtbjijbgjnammhaaDoorRows
import Derived.Test.YtbjijbgjnammhaaDoorKp
import Derived.WalkKit
import Derived.ProofKit
import Derived.OpenShut
import Derived.ChangeOld
import Derived.Lib.SmallJoins
import Derived.Lib.LaidTab
import Derived.LaidMore
import Derived.Stop.Joined
namespace Go.Proofs.YtbjijbgjnammhaaDoor
open Go.ChangeShapes Go.WideShapes Go.ChangeAt Go.RowKit

theorem Tryd.own : ownKnob Tryd.prog.godebug = none := by kernel_rfl
theorem Tryd.laidOut : laidOutB Tryd.prog = true := by kernel_rfl
abbrev laid3 : List (String × DataW Unit) := [("vouch/sponge.constants", Rows.laid_vouch_sponge_constants), ("vouch/sponge.turns", Rows.laid_vouch_sponge_turns), ("vouch/sponge.moves", Rows.laid_vouch_sponge_moves)]
theorem gCon : Tryd.prog.globalNamed "vouch/sponge.constants" = some 0 := by kernel_rfl
theorem gMov : Tryd.prog.globalNamed "vouch/sponge.moves" = some 1 := by kernel_rfl
theorem gTur : Tryd.prog.globalNamed "vouch/sponge.turns" = some 2 := by kernel_rfl
theorem tCon : (Tryd.prog.globals[0]?).map (·.type) = some 55 := by kernel_rfl
theorem tMov : (Tryd.prog.globals[1]?).map (·.type) = some 58 := by kernel_rfl
theorem tTur : (Tryd.prog.globals[2]?).map (·.type) = some 58 := by kernel_rfl
theorem cCon : Tryd.prog.cellsOf 55 = 24 := by kernel_rfl
theorem cInt25 : Tryd.prog.cellsOf 58 = 25 := by kernel_rfl
theorem cU64 : Tryd.prog.cellsOf 24 = 1 := by kernel_rfl
theorem cInt : Tryd.prog.cellsOf 3 = 1 := by kernel_rfl
theorem c25 : Tryd.prog.cellsOf 36 = 25 := by kernel_rfl
theorem datCon : (Rows.laid_vouch_sponge_constants : DataW Unit) = Lib.tabData .u64 (conL.map fun (n : Nat) => (n : Int)) := by rfl
theorem datTur : (Rows.laid_vouch_sponge_turns : DataW Unit) = Lib.tabData .i64 (turnL.map fun (n : Nat) => (n : Int)) := by rfl
theorem datMov : (Rows.laid_vouch_sponge_moves : DataW Unit) = Lib.tabData .i64 (moveL.map fun (n : Nat) => (n : Int)) := by rfl

theorem tabs_of_laid {W : World} (h : laidMetH Tryd.prog laid3 W) : Tabs W := by
  rw [MakeChecks.laidMetH_plain _ _ _ (by kernel_rfl)] at h
  obtain ⟨ps, ⟨g0, t0, cs0, f0, p0, q0, hg0, ht0, hv0, hd0, ⟨g1, t1, cs1, f1, p1, q1, hg1, ht1, hv1, hd1, ⟨g2, t2, cs2, f2, p2, q2, hg2, ht2, hv2, hd2, _, _⟩, _⟩, _⟩, _, _⟩ := h
  obtain rfl := Option.some.inj (gCon.symm.trans hg0)
  obtain rfl := Option.some.inj (gTur.symm.trans hg1)
  obtain rfl := Option.some.inj (gMov.symm.trans hg2)
  obtain rfl := Option.some.inj (tCon.symm.trans ht0)
  obtain rfl := Option.some.inj (tTur.symm.trans ht1)
  obtain rfl := Option.some.inj (tMov.symm.trans ht2)
  rw [datCon] at hd0
  rw [datTur] at hd1
  rw [datMov] at hd2
  have e0 := Lib.cells_of_tab Tryd.underlying55 Tryd.underlying24 cU64 cCon hd0
  have e1 := Lib.cells_of_tab Tryd.underlying58 Tryd.underlying3 cInt cInt25 hd1
  have e2 := Lib.cells_of_tab Tryd.underlying58 Tryd.underlying3 cInt cInt25 hd2
  refine ⟨fun i hi => ?_, fun j v hv => ?_, fun i hi => ?_⟩
  · rw [World.var?_cell hg0 hv0 i, ← Array.getElem?_toList, e0]
    have : i < conL.length := hi
    simp [List.getD_eq_getElem?_getD, List.getElem?_eq_getElem this]
  · rw [Nat.zero_add, World.var?_cell hg2 hv2 j, ← Array.getElem?_toList, e2, ← hv, idxL, List.map_map]
    rfl
  · rw [World.var?_cell hg1 hv1 i, ← Array.getElem?_toList, e1]
    have : i < turnL.length := hi
    simp [List.getD_eq_getElem?_getD, List.getElem?_eq_getElem this]

theorem okWide_arr {P : Program} {w : World} {r : Reach} {base n : Nat} {t e : TypeId} {v : Value} (ht : P.underlying t = some (.array n e)) (h : Value.okWide P w r base t v) : ∃ cs, v = .agg cs ∧ cs.size = P.cellsOf t := by
  simp only [Value.okWide, ht] at h
  obtain ⟨cs, h1, h2, _⟩ := h
  exact ⟨cs, h1, h2⟩
theorem open25 {H : Type} {enc : TypeId × Value → H} {W : World} {base b0 : Nat} {r : Reach} {spare : Nat → Bool} {held : Bool} {v : Value} {d : DataW H} {ps : List MemPlace}
    (hv : Value.okWide Tryd.prog W r b0 36 v) (h : DataW.Trod enc Tryd.prog W base spare held 36 v d ps) : ∃ f : KSt, v = .agg (rowL 25 (iv f)).toArray := by
  obtain ⟨cs, rfl, hsz⟩ := okWide_arr Tryd.underlying36 hv
  rw [c25] at hsz
  obtain ⟨fuel, hf⟩ := h
  obtain ⟨xs, m, _, _, _, hxs, hel⟩ := DataW.trod_array Tryd.underlying36 hf
  have get : ∀ i, i < 25 → ∃ b : BitVec 64, cs[i]? = some (.int .u64 (b.toNat : Int)) := by
    intro i hi
    have he := hel i hi
    rw [cU64] at he
    have hx : xs[i]? = some xs[i] := List.getElem?_eq_getElem (by omega)
    rw [hx] at he
    obtain ⟨n, hn, _, hw⟩ := DataW.trod_int Tryd.underlying24 he
    have hb := bounds_u64 hw
    obtain ⟨N, rfl⟩ := Int.eq_ofNat_of_zero_le hb.1
    refine ⟨BitVec.ofNat 64 N, ?_⟩
    rw [BitVec.toNat_ofNat, Nat.mod_eq_of_lt (by have := hb.2; omega)]
    have := congrArg (·[0]?) hn
    simpa [Value.cells, List.getElem?_take, List.getElem?_drop] using this
  obtain ⟨F, hF⟩ : ∃ F : KSt, ∀ i, i < 25 → cs[i]? = some (.int .u64 ((F i).toNat : Int)) :=
    ⟨fun i => if h : i < 25 then Classical.choose (get i h) else 0, fun i hi => by
      have := Classical.choose_spec (get i hi)
      simp only [dif_pos hi]
      exact this⟩
  refine ⟨F, ?_⟩
  congr 1
  apply Array.ext_getElem?
  intro i
  by_cases hi : i < 25
  · rw [hF i hi, List.getElem?_toArray, rowL_at 25 _ i hi, iv]
  · rw [Array.getElem?_eq_none (by omega), List.getElem?_toArray, List.getElem?_eq_none (by rw [rowL_len]; omega)]
theorem door_met (os : Os) (args : Array Value) : laidMetH Tryd.prog laid3 ((World.doorLaid Tryd.prog 400 os).forCall (fun _ _ => 0) ⟨#[], args, []⟩).memory :=
  laidMetH_of_parts3 (fuel := 8) (laidMet_of_run' 8 (by kernel_rfl) (by kernel_rfl)) (by kernel_rfl) (by kernel_rfl)
end Go.Proofs.YtbjijbgjnammhaaDoor
