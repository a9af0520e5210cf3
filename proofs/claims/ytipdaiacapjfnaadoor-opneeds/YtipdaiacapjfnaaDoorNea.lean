/- OpNeeds: lists of bytes that are asked; 'kept'. -/
import Derived.Test.YtipdaiacapjfnaaDoorOqa
import Derived.Test.YtipdaiacapjfnaaDoorNdc
import Derived.Test.YtipdaiacapjfnaaDoorItc
import Derived.OwnWalk
import Derived.Laws.OwnMore
import Derived.Laws.AppendOwnNone
import Derived.Deep.DeepCutAuto
import Derived.Deep.RegionHeld3
namespace Go.Proofs.YtipdaiacapjfnaaDoor
open Go.RowKit
/-- a slice that reads as these bytes -/
def BytesOf (W : World) (v : Value) (m : Nat) (b : Nat → Nat) : Prop := ∃ ad cap, v = .slice ad m cap ∧ (∀ j, b j < 256) ∧ (ad = none → cap = 0 ∧ m = 0) ∧ (m ≠ 0 → ∃ g o, ad = some ⟨g, o, none⟩ ∧ ∀ j, j < m → W.cell? ⟨g, o + j, none⟩ = some (.int .u8 (b j : Int)))
theorem BytesOf.below {W W' : World} {n : Nat} {v : Value} {m : Nat} {b : Nat → Nat} (h : BytesOf W v m b) (hn : n = W.heap.size) (hB : Below n W W') : BytesOf W' v m b := by
  subst hn
  obtain ⟨ad, cap, h1, h2, h3, h4⟩ := h
  refine ⟨ad, cap, h1, h2, h3, fun hm => ?_⟩
  obtain ⟨g, o, e, hc⟩ := h4 hm
  exact ⟨g, o, e, fun j hj => (hB.cell (p := ⟨g, o + j, none⟩) (World.block_lt_of_cell? W _ (hc j hj))).trans (hc j hj)⟩
theorem BytesOf.hd {W : World} {v : Value} {m : Nat} {b : Nat → Nat} (h : BytesOf W v m b) (hm : m ≤ 9223372036854775807) : Hd W v m (b 0) := by
  obtain ⟨ad, cap, h1, h2, h3, h4⟩ := h
  refine ⟨ad, cap, h1, hm, h2 0, fun hn => ?_⟩
  obtain ⟨g, o, e, hc⟩ := h4 hn
  exact ⟨g, o, e, hc 0 (by omega)⟩
/-- bytes of one's own, and three marks behind them -/
def Marked (W : World) (g o m : Nat) (b : Nat → Nat) : Prop := (∀ j, j < m → W.cell? ⟨g, o + j, none⟩ = some (.int .u8 (b j : Int))) ∧ W.cell? ⟨g, o + m, none⟩ = some (.int .u8 171) ∧ W.cell? ⟨g, o + (m + 1), none⟩ = some (.int .u8 172) ∧ W.cell? ⟨g, o + (m + 2), none⟩ = some (.int .u8 173)
set_option maxHeartbeats 1000000 in
set_option maxRecDepth 100000 in
theorem kept_is (w : World) (g o0 M cap m : Nat) (v : Value) (b : Nat → Nat) (hm : m ≤ 40000) (hM : m + 3 ≤ M ∧ M ≤ 50000) (hv : BytesOf w v m b) (hg : Marked w g o0 m b) :
    Calls Tryd.prog 18 #[.slice (some ⟨g, o0, none⟩) M cap, v] w fun e w' => e = .returned (.bool true) ∧ Below w.heap.size w w' := by
  obtain ⟨ad, cp, rfl, hb, h3, h4⟩ := hv
  have HV : Hid _ := h4
  have HG : Hid (Marked w g o0 m b) := hg
  have HB : Hid (∀ j, b j < 256) := hb
  clear h3 h4 hg hb
  have mI : (m : Int) ≤ 40000 := by omega
  have MI : (m : Int) + 3 ≤ (M : Int) := by omega
  have MJ : (M : Int) ≤ 50000 := by omega
  go_enter Tryd.func18, Tryd.ntmps18
  go_wp2
  go_loopw [5] (fun s5 wx => ∃ i : Nat, i ≤ m ∧ s5 = .int .i64 (i : Int) ∧ Below w.heap.size w wx) (fun s5 _ => m - (intOf s5).toNat)
  case atStart => exact ⟨0, by omega, rfl, Below.refl _ _⟩
  case round =>
    obtain ⟨i, hi, rfl, hB⟩ := hrel
    have BB : Hid (Below w.heap.size w wr) := hB
    clear hB
    by_cases him : i < m
    · have iI : (i : Int) < (m : Int) := by omega
      have iM : (i : Int) < (M : Int) := by omega
      obtain ⟨g1, o1, rfl, hc⟩ := HV.out (by omega)
      have c0 := hc i him
      have d0 := HG.out.1 i him
      have k0 : wr.cell? ⟨g1, o1 + i, none⟩ = some (.int .u8 (b i : Int)) := (BB.out.cell (p := ⟨g1, o1 + i, none⟩) (World.block_lt_of_cell? w _ c0)).trans c0
      have k1 : wr.cell? ⟨g, o0 + i, none⟩ = some (.int .u8 (b i : Int)) := (BB.out.cell (p := ⟨g, o0 + i, none⟩) (World.block_lt_of_cell? w _ d0)).trans d0
      clear c0 d0 hc
      generalize b i = x at k0 k1
      go_wp2
      go_quiet (fail)
      go_wp2
      go_roundw
      case rel => exact ⟨i + 1, by omega, by go_num, below_drewN BB.out _⟩
      case measure => first | go_num | (show _ < _; simp [intOf]; omega)
    · obtain rfl : m = i := by omega
      have cc : ∀ (j : Nat) (z : Value), w.cell? ⟨g, o0 + j, none⟩ = some z → wr.cell? ⟨g, o0 + j, none⟩ = some z := fun j z h => (BB.out.cell (p := ⟨g, o0 + j, none⟩) (World.block_lt_of_cell? w _ h)).trans h
      have k0 := cc _ _ HG.out.2.1
      have k1 := cc _ _ HG.out.2.2.1
      have k2 := cc _ _ HG.out.2.2.2
      have q0 : (m : Int) < (M : Int) := by omega
      have q1 : (m : Int) + 1 < (M : Int) := by omega
      have q2 : (m : Int) + 2 < (M : Int) := by omega
      clear cc
      go_wp2
      go_ret
      exact ⟨rfl, BB.out⟩
end Go.Proofs.YtipdaiacapjfnaaDoor
