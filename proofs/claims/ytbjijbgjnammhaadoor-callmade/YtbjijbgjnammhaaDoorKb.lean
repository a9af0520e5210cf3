/- bend: each lane with the two beside it in its row: by a loop over the five rows. -/
import Derived.Test.YtbjijbgjnammhaaDoorKa
import Derived.Deep.RegionHeld3
import Derived.Deep.CutRange
import Derived.Deep.DeepCutAuto
import Derived.BigRegion
import Derived.LoopTactic
namespace Go.Proofs.YtbjijbgjnammhaaDoor
open Go.RowKit
/-- what holds while the new lanes are made: old memory is as it was, the lanes f lie in the first block, the first n of the new lanes in the third -/
def BendInv (w : World) (f g : Nat → Int) (n : Nat) (W : World) : Prop :=
  Below w.heap.size w W ∧ Row W w.heap.size 25 f ∧ Row W (w.heap.size + 1) 25 (fun _ => 0) ∧ ∃ u : Nat → Int, Row W (w.heap.size + 1 + 1) 25 u ∧ ∀ j, j < n → u j = g j
theorem BendInv.step {w W : World} {f g : Nat → Int} {n : Nat} (h : BendInv w f g n W) (hn : n < 25) {y : Int} (ey : y = g n) :
    BendInv w f g (n + 1) (W.setCell ⟨w.heap.size + 1 + 1, n, none⟩ (.int .u64 y)).drew := by
  obtain ⟨hB, hA, hZ, u, hU, hu⟩ := h
  refine ⟨(hB.setCell (by simp; omega) _).drew, (hA.set_other _ _ (by simp; omega)).drew, (hZ.set_other _ _ (by simp)).drew, _, (hU.set n y hn).drew, ?_⟩
  intro j hj
  by_cases e : j = n
  · subst e; rw [if_pos rfl, ey]
  · rw [if_neg e, hu j (by omega)]
theorem BendInv.cell {w W : World} {f g : Nat → Int} {n : Nat} (h : BendInv w f g n W) (i : Nat) (hi : i < 25) : W.cell? ⟨w.heap.size, i, none⟩ = some (.int .u64 (f i)) := (h.2.1 i hi).1
theorem BendInv.room {w W : World} {f g : Nat → Int} {n : Nat} (h : BendInv w f g n W) (i : Nat) (hi : i < 25) : ∃ z : Int, W.cell? ⟨w.heap.size + 1 + 1, i, none⟩ = some (.int .u64 z) ∧ W.frozen? ⟨w.heap.size + 1 + 1, i, none⟩ = false := by
  obtain ⟨_, _, _, u, hU, _⟩ := h
  exact ⟨u i, hU i hi⟩
set_option maxHeartbeats 4000000 in
set_option maxRecDepth 100000 in
theorem bend_walk (cs : Array Value) (f g : Nat → Int) (w : World) (hcs : cs = (rowL 25 f).toArray)
   (hg : ∀ r c, r < 5 → c < 5 → bits .xor .u64 (f (5 * r + c)) (bits .andNot .u64 (f (5 * r + (c + 2) % 5)) (f (5 * r + (c + 1) % 5))) = g (5 * r + c)) :
   Calls Tryd.prog 23 #[.agg cs] w fun e w' => e = .returned (.agg (rowL 25 g).toArray) ∧ Below w.heap.size w w' := by
  have HG : Hid _ := hg
  have HC : Hid (cs = (rowL 25 f).toArray) := hcs
  clear hg hcs
  go_enter Tryd.func23, Tryd.ntmps23
  go_wp2
  go_loopw [6] (fun i wr => ∃ k : Nat, k ≤ 5 ∧ i = .int .i64 k ∧ BendInv w f g (5 * k) wr) (fun i _ => 5 - (intOf i).toNat)
  case atStart =>
    rw [zero25, HC.out]
    refine ⟨0, Nat.zero_le _, rfl, ?_, ((Row.new w _ 25 f).alloc _).alloc _, ?_, fun _ => 0, ?_, ?_⟩
    · exact (((Below.refl _ _).alloc (by omega) _).alloc (by simp) _).alloc (by simp; omega) _
    · have := (Row.new (w.alloc (.cells (rowL 25 f).toArray 36)) 36 25 fun _ => 0).alloc (.cells (rowL 25 fun _ => 0).toArray 36)
      simpa using this
    · have := Row.new ((w.alloc (.cells (rowL 25 f).toArray 36)).alloc (.cells (rowL 25 fun _ => 0).toArray 36)) 36 25 fun _ => 0
      simpa using this
    · intro j hj; omega
  case round =>
    obtain ⟨k, hk, rfl, hI⟩ := hrel
    by_cases hk5 : k < 5

    · clear hk
      have kI : ((k : Int) < 5) := by omega
      obtain ⟨r0, e0⟩ : ∃ r0 : Nat, r0 = 5 * k := ⟨_, rfl⟩
      obtain ⟨r1, e1⟩ : ∃ r1 : Nat, r1 = 5 * k + 1 := ⟨_, rfl⟩
      obtain ⟨r2, e2⟩ : ∃ r2 : Nat, r2 = 5 * k + 2 := ⟨_, rfl⟩
      obtain ⟨r3, e3⟩ : ∃ r3 : Nat, r3 = 5 * k + 3 := ⟨_, rfl⟩
      obtain ⟨r4, e4⟩ : ∃ r4 : Nat, r4 = 5 * k + 4 := ⟨_, rfl⟩
      have m0 : (5 : Int) * (k : Int) = (r0 : Int) := by omega
      have v0 : IntKind.i64.wrap ((5 : Int) * (k : Int)) = (r0 : Int) := by rw [IntKind.wrap_i64]; omega
      have m1 : (r0 : Int) + 1 = (r1 : Int) := by omega
      have v1 : IntKind.i64.wrap ((r0 : Int) + 1) = (r1 : Int) := by rw [IntKind.wrap_i64]; omega
      have m2 : (r0 : Int) + 2 = (r2 : Int) := by omega
      have v2 : IntKind.i64.wrap ((r0 : Int) + 2) = (r2 : Int) := by rw [IntKind.wrap_i64]; omega
      have m3 : (r0 : Int) + 3 = (r3 : Int) := by omega
      have v3 : IntKind.i64.wrap ((r0 : Int) + 3) = (r3 : Int) := by rw [IntKind.wrap_i64]; omega
      have m4 : (r0 : Int) + 4 = (r4 : Int) := by omega
      have v4 : IntKind.i64.wrap ((r0 : Int) + 4) = (r4 : Int) := by rw [IntKind.wrap_i64]; omega
      have q0 : IntKind.i64.wrap (r0 : Int) = (r0 : Int) := by rw [IntKind.wrap_i64]; omega
      have b0 : (r0 : Int) < 25 := by omega
      have n0 : r0 < 25 := by omega
      have q1 : IntKind.i64.wrap (r1 : Int) = (r1 : Int) := by rw [IntKind.wrap_i64]; omega
      have b1 : (r1 : Int) < 25 := by omega
      have n1 : r1 < 25 := by omega
      have q2 : IntKind.i64.wrap (r2 : Int) = (r2 : Int) := by rw [IntKind.wrap_i64]; omega
      have b2 : (r2 : Int) < 25 := by omega
      have n2 : r2 < 25 := by omega
      have q3 : IntKind.i64.wrap (r3 : Int) = (r3 : Int) := by rw [IntKind.wrap_i64]; omega
      have b3 : (r3 : Int) < 25 := by omega
      have n3 : r3 < 25 := by omega
      have q4 : IntKind.i64.wrap (r4 : Int) = (r4 : Int) := by rw [IntKind.wrap_i64]; omega
      have b4 : (r4 : Int) < 25 := by omega
      have n4 : r4 < 25 := by omega
      have eg0 := HG.out k 0 (by omega) (by omega)
      have eg1 := HG.out k 1 (by omega) (by omega)
      have eg2 := HG.out k 2 (by omega) (by omega)
      have eg3 := HG.out k 3 (by omega) (by omega)
      have eg4 := HG.out k 4 (by omega) (by omega)
      simp only [Nat.reduceAdd, Nat.reduceMod, Nat.add_zero] at eg0 eg1 eg2 eg3 eg4
      rw [← e2, ← e1, ← e0] at eg0
      rw [← e3, ← e2, ← e1] at eg1
      rw [← e4, ← e3, ← e2] at eg2
      rw [← e4, ← e3, ← e0] at eg3
      rw [← e4, ← e1, ← e0] at eg4
      rw [← e0] at hI
      have s1 : r0 + 1 = r1 := by omega
      have s2 : r1 + 1 = r2 := by omega
      have s3 : r2 + 1 = r3 := by omega
      have s4 : r3 + 1 = r4 := by omega
      have s5 : r4 + 1 = 5 * (k + 1) := by omega
      have S1 : Hid _ := s1
      have S2 : Hid _ := s2
      have S3 : Hid _ := s3
      have S4 : Hid _ := s4
      have S5 : Hid _ := s5
      clear s1 s2 s3 s4 s5 e0 e1 e2 e3 e4
      generalize hx0 : f r0 = x0 at eg0 eg1 eg2 eg3 eg4
      generalize hy0 : g r0 = y0 at eg0
      generalize hx1 : f r1 = x1 at eg0 eg1 eg2 eg3 eg4
      generalize hy1 : g r1 = y1 at eg1
      generalize hx2 : f r2 = x2 at eg0 eg1 eg2 eg3 eg4
      generalize hy2 : g r2 = y2 at eg2
      generalize hx3 : f r3 = x3 at eg0 eg1 eg2 eg3 eg4
      generalize hy3 : g r3 = y3 at eg3
      generalize hx4 : f r4 = x4 at eg0 eg1 eg2 eg3 eg4
      generalize hy4 : g r4 = y4 at eg4
      have HX0 : Hid _ := hx0
      have HY0 : Hid _ := hy0
      have EG0 : Hid _ := eg0
      have HX1 : Hid _ := hx1
      have HY1 : Hid _ := hy1
      have EG1 : Hid _ := eg1
      have HX2 : Hid _ := hx2
      have HY2 : Hid _ := hy2
      have EG2 : Hid _ := eg2
      have HX3 : Hid _ := hx3
      have HY3 : Hid _ := hy3
      have EG3 : Hid _ := eg3
      have HX4 : Hid _ := hx4
      have HY4 : Hid _ := hy4
      have EG4 : Hid _ := eg4
      clear hx0 hy0 eg0 hx1 hy1 eg1 hx2 hy2 eg2 hx3 hy3 eg3 hx4 hy4 eg4
      have HI : Hid _ := hI
      clear hI
      have ca0 := BendInv.cell HI.out r0 n0
      rw [HX0.out] at ca0
      have ca1 := BendInv.cell HI.out r1 n1
      rw [HX1.out] at ca1
      have ca2 := BendInv.cell HI.out r2 n2
      rw [HX2.out] at ca2
      obtain ⟨z, cb, fb⟩ := BendInv.room HI.out r0 n0
      have eg := EG0.out
      go_wp2
      go_region_held3 (fun w' => w'.cell? ⟨w.heap.size, r0, none⟩ = some (.int .u64 x0) ∧ w'.cell? ⟨w.heap.size, r1, none⟩ = some (.int .u64 x1) ∧ w'.cell? ⟨w.heap.size, r2, none⟩ = some (.int .u64 x2)) (refine ⟨?_, ?_, ?_⟩ <;> go_simp) (fail)
      have HJ : Hid _ := BendInv.step HI.out n0 HY0.out.symm
      rw [S1.out] at HJ
      clear eg cb fb ca0 ca1 ca2 HI
      generalize (wr.setCell ⟨w.heap.size + 1 + 1, r0, none⟩ (.int .u64 y0)).drew = w1 at HJ ⊢
      have HI := HJ
      clear HJ
      have ca1 := BendInv.cell HI.out r1 n1
      rw [HX1.out] at ca1
      have ca2 := BendInv.cell HI.out r2 n2
      rw [HX2.out] at ca2
      have ca3 := BendInv.cell HI.out r3 n3
      rw [HX3.out] at ca3
      obtain ⟨z, cb, fb⟩ := BendInv.room HI.out r1 n1
      have eg := EG1.out
      go_wp2
      go_region_held3 (fun w' => w'.cell? ⟨w.heap.size, r1, none⟩ = some (.int .u64 x1) ∧ w'.cell? ⟨w.heap.size, r2, none⟩ = some (.int .u64 x2) ∧ w'.cell? ⟨w.heap.size, r3, none⟩ = some (.int .u64 x3)) (refine ⟨?_, ?_, ?_⟩ <;> go_simp) (fail)
      have HJ : Hid _ := BendInv.step HI.out n1 HY1.out.symm
      rw [S2.out] at HJ
      clear eg cb fb ca1 ca2 ca3 HI
      generalize (w1.setCell ⟨w.heap.size + 1 + 1, r1, none⟩ (.int .u64 y1)).drew = w2 at HJ ⊢
      have HI := HJ
      clear HJ
      have ca2 := BendInv.cell HI.out r2 n2
      rw [HX2.out] at ca2
      have ca3 := BendInv.cell HI.out r3 n3
      rw [HX3.out] at ca3
      have ca4 := BendInv.cell HI.out r4 n4
      rw [HX4.out] at ca4
      obtain ⟨z, cb, fb⟩ := BendInv.room HI.out r2 n2
      have eg := EG2.out
      go_wp2
      go_region_held3 (fun w' => w'.cell? ⟨w.heap.size, r2, none⟩ = some (.int .u64 x2) ∧ w'.cell? ⟨w.heap.size, r3, none⟩ = some (.int .u64 x3) ∧ w'.cell? ⟨w.heap.size, r4, none⟩ = some (.int .u64 x4)) (refine ⟨?_, ?_, ?_⟩ <;> go_simp) (fail)
      have HJ : Hid _ := BendInv.step HI.out n2 HY2.out.symm
      rw [S3.out] at HJ
      clear eg cb fb ca2 ca3 ca4 HI
      generalize (w2.setCell ⟨w.heap.size + 1 + 1, r2, none⟩ (.int .u64 y2)).drew = w3 at HJ ⊢
      have HI := HJ
      clear HJ
      have ca0 := BendInv.cell HI.out r0 n0
      rw [HX0.out] at ca0
      have ca3 := BendInv.cell HI.out r3 n3
      rw [HX3.out] at ca3
      have ca4 := BendInv.cell HI.out r4 n4
      rw [HX4.out] at ca4
      obtain ⟨z, cb, fb⟩ := BendInv.room HI.out r3 n3
      have eg := EG3.out
      go_wp2
      go_region_held3 (fun w' => w'.cell? ⟨w.heap.size, r0, none⟩ = some (.int .u64 x0) ∧ w'.cell? ⟨w.heap.size, r3, none⟩ = some (.int .u64 x3) ∧ w'.cell? ⟨w.heap.size, r4, none⟩ = some (.int .u64 x4)) (refine ⟨?_, ?_, ?_⟩ <;> go_simp) (fail)
      have HJ : Hid _ := BendInv.step HI.out n3 HY3.out.symm
      rw [S4.out] at HJ
      clear eg cb fb ca0 ca3 ca4 HI
      generalize (w3.setCell ⟨w.heap.size + 1 + 1, r3, none⟩ (.int .u64 y3)).drew = w4 at HJ ⊢
      have HI := HJ
      clear HJ
      have ca0 := BendInv.cell HI.out r0 n0
      rw [HX0.out] at ca0
      have ca1 := BendInv.cell HI.out r1 n1
      rw [HX1.out] at ca1
      have ca4 := BendInv.cell HI.out r4 n4
      rw [HX4.out] at ca4
      obtain ⟨z, cb, fb⟩ := BendInv.room HI.out r4 n4
      have eg := EG4.out
      go_wp2
      go_region_held3 (fun w' => w'.cell? ⟨w.heap.size, r0, none⟩ = some (.int .u64 x0) ∧ w'.cell? ⟨w.heap.size, r1, none⟩ = some (.int .u64 x1) ∧ w'.cell? ⟨w.heap.size, r4, none⟩ = some (.int .u64 x4)) (refine ⟨?_, ?_, ?_⟩ <;> go_simp) (fail)
      have HJ : Hid _ := BendInv.step HI.out n4 HY4.out.symm
      rw [S5.out] at HJ
      clear eg cb fb ca0 ca1 ca4 HI
      generalize (w4.setCell ⟨w.heap.size + 1 + 1, r4, none⟩ (.int .u64 y4)).drew = w5 at HJ ⊢
      have HI := HJ
      clear HJ
      go_wp2
      go_roundw
      case rel => exact ⟨k + 1, by omega, by go_num, HI.out⟩
      case measure => simp [intOf]; omega
    · obtain rfl : k = 5 := by omega
      obtain ⟨hB, hA, hZ, u, hU, hu⟩ := hI
      have hl : rowL 25 u = rowL 25 g := rowL_ext fun i hi => hu i (by omega)
      have hr := hU.range
      rw [hl] at hr
      have hW := @Row.of_range wr (w.heap.size + 1) 25 (fun _ => 0) g hZ
      have hBW := below_setCells (w.heap.size + 1) (by omega) (rowL 25 g) 0 wr hB
      have HA : Hid _ := hr
      have HZ : Hid _ := hZ.there
      clear hr hZ hA hU hu hl
      go_wp2_with (first
        | refine load25 g (w.heap.size + 1 + 1) rfl _ rfl rfl HA.out ?_
        | refine store25 g (w.heap.size + 1) rfl _ _ rfl rfl rfl HZ.out ?_)
      refine bodyPost_ret (v := .agg (rowL 25 g).toArray) ?_ rfl ⟨rfl, hBW⟩
      exact results_cell Tryd.results23 _ _ _ ⟨w.heap.size + 1, 0, none⟩ rfl (loadVar25 hW.range)
end Go.Proofs.YtbjijbgjnammhaaDoor
