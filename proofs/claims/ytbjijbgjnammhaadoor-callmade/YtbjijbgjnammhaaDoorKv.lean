/- move: each lane turned, and at its new place: by a loop over the 25 lanes. -/
import Derived.Test.YtbjijbgjnammhaaDoorKa
import Derived.Deep.RegionHeld3
import Derived.Deep.CutRange
import Derived.Deep.DeepCutAuto
import Derived.LoopTactic
namespace Go.Proofs.YtbjijbgjnammhaaDoor
open Go.RowKit
def idxL (l : List Nat) : List Value := l.map fun (i : Nat) => .int .i64 (i : Int)
theorem move_step {w wr : World} {f g u : Nat → Int} {mv : List Nat} {k m : Nat} {y : Int} (hk : k < 25) (hB : Below w.heap.size w wr) (hA : Row wr w.heap.size 25 f) (hZ : Row wr (w.heap.size + 1) 25 fun _ => 0) (hU : Row wr (w.heap.size + 1 + 1) 25 u)
    (hu : ∀ j, j < k → u (mv.getD j 0) = g (mv.getD j 0)) (em : mv.getD k 0 = m) (ey : g m = y) (hm : m < 25) (hne : ∀ j, j < k → mv.getD j 0 ≠ mv.getD k 0) :
    Below w.heap.size w ((wr.setCell ⟨w.heap.size + 1 + 1, m, none⟩ (.int .u64 y)).drew) ∧ Row ((wr.setCell ⟨w.heap.size + 1 + 1, m, none⟩ (.int .u64 y)).drew) w.heap.size 25 f ∧ Row ((wr.setCell ⟨w.heap.size + 1 + 1, m, none⟩ (.int .u64 y)).drew) (w.heap.size + 1) 25 (fun _ => 0) ∧
      ∃ u : Nat → Int, Row ((wr.setCell ⟨w.heap.size + 1 + 1, m, none⟩ (.int .u64 y)).drew) (w.heap.size + 1 + 1) 25 u ∧ ∀ j, j < k + 1 → u (mv.getD j 0) = g (mv.getD j 0) := by
  refine ⟨(hB.setCell (by simp; omega) _).drew, (hA.set_other _ _ (by simp; omega)).drew, (hZ.set_other _ _ (by simp)).drew, _, (hU.set m y hm).drew, ?_⟩
  intro j hj
  by_cases e : j = k
  · subst e; rw [em, if_pos rfl, ey]
  · rw [if_neg (by rw [← em]; exact hne j (by omega)), hu j (by omega)]
set_option maxHeartbeats 1000000 in
set_option maxRecDepth 100000 in
theorem move_walk (cs : Array Value) (f g : Nat → Int) (mv tn : List Nat) (w : World) (hcs : cs = (rowL 25 f).toArray)
   (hR : w.rangeAt 1 0 (idxL mv)) (hT : ∀ i, i < 25 → w.cell? ⟨2, i, none⟩ = some (.int .i64 (tn.getD i 0 : Nat))) (hmv : mv.length = 25)
   (hmt : ∀ i, i < 25 → mv.getD i 0 < 25 ∧ (∀ j, j < i → mv.getD j 0 ≠ mv.getD i 0)) (hsu : ∀ i, i < 25 → ∃ j, j < 25 ∧ mv.getD j 0 = i)
   (hix : ∀ i : Nat, i < 25 → ∀ W : World, Sem.run Tryd.prog (Instr.index 58 (.agg (idxL mv).toArray) (.int .i64 (i : Int))) W = .ok (.int .i64 (mv.getD i 0 : Nat)) W)
   (hrot : ∀ i, i < 25 → ∀ W : World, Calls Tryd.prog 28 #[.int .u64 (f i), .int .i64 (tn.getD i 0 : Nat)] W fun e w' => e = .returned (.int .u64 (g (mv.getD i 0))) ∧ w' = W) :
   Calls Tryd.prog 24 #[.agg cs] w fun e w' => e = .returned (.agg (rowL 25 g).toArray) ∧ Below w.heap.size w w' := by
  have g2 : 2 < w.heap.size := World.block_lt_of_cell? w _ (hT 0 (by omega))
  have HR : Hid _ := hR
  have HT : Hid _ := hT
  have HX : Hid _ := hix
  have HO : Hid _ := hrot
  have HM : Hid _ := hmt
  have HS : Hid _ := hsu
  have HC : Hid (cs = (rowL 25 f).toArray) := hcs
  clear hR hT hix hrot hmt hcs hsu
  go_enter Tryd.func24, Tryd.ntmps24
  go_wp2_with (refine wpList_load_mid rfl 58 _ rfl 1 0 rfl (idxL mv) _ (World.rangeAt_alloc (World.rangeAt_alloc (World.rangeAt_alloc HR.out _) _) _) Tryd.underlying58 rfl (by rw [idxL, List.length_map, hmv]; kernel_rfl) ?_)
  go_loopw [7] (fun i wr => ∃ k : Nat, k ≤ 25 ∧ i = .int .i64 k ∧ Below w.heap.size w wr ∧ Row wr w.heap.size 25 f ∧ Row wr (w.heap.size + 1) 25 (fun _ => 0) ∧ ∃ u : Nat → Int, Row wr (w.heap.size + 1 + 1) 25 u ∧ ∀ j, j < k → u (mv.getD j 0) = g (mv.getD j 0)) (fun i _ => 25 - (intOf i).toNat)
  case atStart =>
    rw [zero25, HC.out]
    refine ⟨0, Nat.zero_le _, rfl, ?_, ((Row.new w _ 25 f).alloc _).alloc _, ?_, fun _ => 0, ?_, ?_⟩
    · exact (((Below.refl _ _).alloc (by omega) _).alloc (by simp) _).alloc (by simp; omega) _
    · have := (Row.new (w.alloc (.cells (rowL 25 f).toArray 36)) 36 25 fun _ => 0).alloc (.cells (rowL 25 fun _ => 0).toArray 36)
      simpa using this
    · have := Row.new ((w.alloc (.cells (rowL 25 f).toArray 36)).alloc (.cells (rowL 25 fun _ => 0).toArray 36)) 36 25 fun _ => 0
      simpa using this
    · intro j hj; omega
  case round =>
    obtain ⟨k, hk, rfl, hB, hA, hZ, u, hU, hu⟩ := hrel
    by_cases hk5 : k < 25
    · have kI : ((k : Int) < 25) := by omega
      have ix := HX.out k hk5
      have ca := (hA k hk5).1
      have ct := (hB.cell (p := ⟨2, k, none⟩) g2).trans (HT.out k hk5)
      have cb := (hU _ (HM.out k hk5).1).1
      have fb := (hU _ (HM.out k hk5).1).2
      have rt := HO.out k hk5
      have mlt := (HM.out k hk5).1
      have HN : Hid _ := (HM.out k hk5).2
      obtain ⟨m, em⟩ : ∃ m, mv.getD k 0 = m := ⟨_, rfl⟩
      rw [em] at ix cb fb rt mlt
      obtain ⟨y, ey⟩ : ∃ y, g m = y := ⟨_, rfl⟩
      rw [ey] at rt
      have EM : Hid _ := em
      have EY : Hid _ := ey
      clear em ey
      generalize tn.getD k 0 = t at ct rt
      generalize f k = x at ca rt
      generalize u m = z at cb
      have mI : ((m : Int) < 25) := by omega
      have RT : Hid _ := rt
      have HA : Hid _ := hA
      have HZ : Hid _ := hZ
      have HU : Hid _ := hU
      have Hu : Hid _ := hu
      clear rt hA hZ hU hu
      go_wp2
      go_region_with ((go_at_call 28; refine (RT.out _).mono ?_; rintro e w' ⟨rfl, rfl⟩))
      all_goals go_wp2
      all_goals go_roundw
      all_goals first
        | (case rel => exact ⟨k + 1, by omega, by go_num, move_step hk5 hB HA.out HZ.out HU.out Hu.out EM.out EY.out mlt HN.out⟩)
        | skip
      all_goals (simp [intOf]; omega)
    · obtain rfl : k = 25 := by omega
      have hl : rowL 25 u = rowL 25 g := rowL_ext fun i hi => by
        obtain ⟨j, hj, e⟩ := HS.out i hi
        rw [← e]; exact hu j hj
      have hr := hU.range
      rw [hl] at hr
      have hW := @Row.of_range wr (w.heap.size + 1) 25 (fun _ => 0) g hZ
      have hBW := below_setCells (w.heap.size + 1) (by omega) (rowL 25 g) 0 wr hB
      have HA : Hid _ := hr
      have HZ : Hid _ := hZ.there
      clear hr hZ hA hU hu hl
      go_wp2_with (first
        | refine load25 g (w.heap.size + 1 + 1) rfl _ rfl rfl HA.out ?_
        | refine store25 g (w.heap.size + 1) rfl _ _ rfl rfl rfl HZ.out ?_)
      refine bodyPost_ret (v := .agg (rowL 25 g).toArray) ?_ rfl ⟨rfl, hBW⟩
      exact results_cell Tryd.results24 _ _ _ ⟨w.heap.size + 1, 0, none⟩ rfl (loadVar25 hW.range)
end Go.Proofs.YtbjijbgjnammhaaDoor
