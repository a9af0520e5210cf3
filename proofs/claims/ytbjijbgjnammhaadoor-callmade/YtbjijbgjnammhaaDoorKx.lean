/- mix: each lane with the columns beside its own: by its two loops over the five columns. -/
import Derived.Test.YtbjijbgjnammhaaDoorKa
import Derived.Deep.RegionHeld3
import Derived.Deep.CutRange
import Derived.Deep.DeepCutAuto
import Derived.BigRegion
import Derived.LoopTactic
namespace Go.Proofs.YtbjijbgjnammhaaDoor
open Go.RowKit
/-- while the columns are made: the first n of them lie in the third block -/
def MixA (w : World) (f c : Nat → Int) (n : Nat) (W : World) : Prop :=
  Below w.heap.size w W ∧ Row W w.heap.size 25 f ∧ Row W (w.heap.size + 1) 25 (fun _ => 0) ∧ ∃ u : Nat → Int, Row W (w.heap.size + 1 + 1) 5 u ∧ ∀ j, j < n → u j = c j
theorem MixA.step {w W : World} {f c : Nat → Int} {n : Nat} (h : MixA w f c n W) (hn : n < 5) {y : Int} (ey : y = c n) :
    MixA w f c (n + 1) (W.setCell ⟨w.heap.size + 1 + 1, n, none⟩ (.int .u64 y)).drew := by
  obtain ⟨hB, hA, hZ, u, hU, hu⟩ := h
  refine ⟨(hB.setCell (by simp; omega) _).drew, (hA.set_other _ _ (by simp; omega)).drew, (hZ.set_other _ _ (by simp)).drew, _, (hU.set n y hn).drew, ?_⟩
  intro j hj
  by_cases e : j = n
  · subst e; rw [if_pos rfl, ey]
  · rw [if_neg e, hu j (by omega)]
theorem MixA.cell {w W : World} {f c : Nat → Int} {n : Nat} (h : MixA w f c n W) (i : Nat) (hi : i < 25) : W.cell? ⟨w.heap.size, i, none⟩ = some (.int .u64 (f i)) := (h.2.1 i hi).1
theorem MixA.room {w W : World} {f c : Nat → Int} {n : Nat} (h : MixA w f c n W) (i : Nat) (hi : i < 5) : ∃ z : Int, W.cell? ⟨w.heap.size + 1 + 1, i, none⟩ = some (.int .u64 z) ∧ W.frozen? ⟨w.heap.size + 1 + 1, i, none⟩ = false := by
  obtain ⟨_, _, _, u, hU, _⟩ := h
  exact ⟨u i, hU i hi⟩
/-- while the lanes are turned: those of the first n columns are the new ones -/
def MixB (w : World) (f m c : Nat → Int) (n : Nat) (W : World) : Prop :=
  Below w.heap.size w W ∧ Row W w.heap.size 25 (fun i => if i % 5 < n then m i else f i) ∧ Row W (w.heap.size + 1) 25 (fun _ => 0) ∧ Row W (w.heap.size + 1 + 1) 5 c
theorem MixB.start {w W : World} {f m c : Nat → Int} (h : MixA w f c 5 W) : MixB w f m c 0 W := by
  obtain ⟨hB, hA, hZ, u, hU, hu⟩ := h
  exact ⟨hB, hA.ext (fun i _ => by rw [if_neg (by omega)]), hZ, hU.ext hu⟩
theorem MixB.step {w W : World} {f m c : Nat → Int} {n : Nat} (h : MixB w f m c n W) (hn : n < 5) {r1 r2 r3 r4 : Nat} {y0 y1 y2 y3 y4 : Int} (e1 : r1 = n + 5) (e2 : r2 = n + 10) (e3 : r3 = n + 15) (e4 : r4 = n + 20)
    (k0 : m n = y0) (k1 : m r1 = y1) (k2 : m r2 = y2) (k3 : m r3 = y3) (k4 : m r4 = y4) :
    MixB w f m c (n + 1) (((((W.setCell ⟨w.heap.size, n, none⟩ (.int .u64 y0)).setCell ⟨w.heap.size, r1, none⟩ (.int .u64 y1)).setCell ⟨w.heap.size, r2, none⟩ (.int .u64 y2)).setCell ⟨w.heap.size, r3, none⟩ (.int .u64 y3)).setCell ⟨w.heap.size, r4, none⟩ (.int .u64 y4)).drew := by
  obtain ⟨hB, hA, hZ, hU⟩ := h
  refine ⟨(((((hB.setCell (Nat.le_refl _) _).setCell (Nat.le_refl _) _).setCell (Nat.le_refl _) _).setCell (Nat.le_refl _) _).setCell (Nat.le_refl _) _).drew, Row.drew ?_, Row.drew ?_, Row.drew ?_⟩
  · refine (((((hA.set n y0 (by omega)).set r1 y1 (by omega)).set r2 y2 (by omega)).set r3 y3 (by omega)).set r4 y4 (by omega)).ext ?_
    intro i hi
    by_cases a4 : i = r4
    · rw [if_pos a4, if_pos (by omega), a4, k4]
    rw [if_neg a4]
    by_cases a3 : i = r3
    · rw [if_pos a3, if_pos (by omega), a3, k3]
    rw [if_neg a3]
    by_cases a2 : i = r2
    · rw [if_pos a2, if_pos (by omega), a2, k2]
    rw [if_neg a2]
    by_cases a1 : i = r1
    · rw [if_pos a1, if_pos (by omega), a1, k1]
    rw [if_neg a1]
    by_cases a0 : i = n
    · rw [if_pos a0, if_pos (by omega), a0, k0]
    rw [if_neg a0]
    by_cases hh : i % 5 < n
    · rw [if_pos hh, if_pos (by omega)]
    · rw [if_neg hh, if_neg (by omega)]
  · exact ((((hZ.set_other _ _ (by simp)).set_other _ _ (by simp)).set_other _ _ (by simp)).set_other _ _ (by simp)).set_other _ _ (by simp)
  · exact ((((hU.set_other _ _ (by simp; omega)).set_other _ _ (by simp; omega)).set_other _ _ (by simp; omega)).set_other _ _ (by simp; omega)).set_other _ _ (by simp; omega)
theorem MixB.cell {w W : World} {f m c : Nat → Int} {n : Nat} (h : MixB w f m c n W) (i : Nat) (hi : i < 25) (he : i % 5 = n) : W.cell? ⟨w.heap.size, i, none⟩ = some (.int .u64 (f i)) ∧ W.frozen? ⟨w.heap.size, i, none⟩ = false := by
  have := h.2.1 i hi
  dsimp only at this
  rwa [if_neg (by omega)] at this
theorem MixB.col {w W : World} {f m c : Nat → Int} {n : Nat} (h : MixB w f m c n W) (i : Nat) (hi : i < 5) : W.cell? ⟨w.heap.size + 1 + 1, i, none⟩ = some (.int .u64 (c i)) := (h.2.2.2 i hi).1
set_option maxHeartbeats 4000000 in
set_option maxRecDepth 100000 in
theorem mix_walk (cs : Array Value) (f m c rc : Nat → Int) (w : World) (hcs : cs = (rowL 25 f).toArray)
   (hc : ∀ x, x < 5 → bits .xor .u64 (bits .xor .u64 (bits .xor .u64 (bits .xor .u64 (f x) (f (x + 5))) (f (x + 10))) (f (x + 15))) (f (x + 20)) = c x)
   (hrot : ∀ x, x < 5 → ∀ W : World, Calls Tryd.prog 28 #[.int .u64 (c x), .int .i64 1] W fun e w' => e = .returned (.int .u64 (rc x)) ∧ w' = W)
   (hm : ∀ i, i < 25 → bits .xor .u64 (f i) (bits .xor .u64 (c ((i % 5 + 4) % 5)) (rc ((i % 5 + 1) % 5))) = m i) :
   Calls Tryd.prog 25 #[.agg cs] w fun e w' => e = .returned (.agg (rowL 25 m).toArray) ∧ Below w.heap.size w w' := by
  have HE : Hid _ := hc
  have HO : Hid _ := hrot
  have HM : Hid _ := hm
  have HC : Hid (cs = (rowL 25 f).toArray) := hcs
  clear hc hrot hm hcs
  go_enter Tryd.func25, Tryd.ntmps25
  go_wp2
  go_loopw [7] (fun i wr => ∃ k : Nat, k ≤ 5 ∧ i = .int .i64 k ∧ MixA w f c k wr) (fun i _ => 5 - (intOf i).toNat)
  case atStart =>
    rw [zero25, zero5, HC.out]
    refine ⟨0, Nat.zero_le _, rfl, ?_, ((Row.new w _ 25 f).alloc _).alloc _, ?_, fun _ => 0, ?_, ?_⟩
    · exact (((Below.refl _ _).alloc (by omega) _).alloc (by simp) _).alloc (by simp; omega) _
    · have := (Row.new (w.alloc (.cells (rowL 25 f).toArray 36)) 36 25 fun _ => 0).alloc (.cells (rowL 5 fun _ => 0).toArray 60)
      simpa using this
    · have := Row.new ((w.alloc (.cells (rowL 25 f).toArray 36)).alloc (.cells (rowL 25 fun _ => 0).toArray 36)) 60 5 fun _ => 0
      simpa using this
    · intro j hj; omega
  case round =>
    obtain ⟨k, hk, rfl, hI⟩ := hrel
    by_cases hk5 : k < 5
    · clear hk
      have kI : ((k : Int) < 5) := by omega

      obtain ⟨r1, e1⟩ : ∃ r1 : Nat, r1 = k + 5 := ⟨_, rfl⟩
      have m1 : (k : Int) + 5 = (r1 : Int) := by omega
      have q1 : IntKind.i64.wrap (r1 : Int) = (r1 : Int) := by rw [IntKind.wrap_i64]; omega
      have b1 : (r1 : Int) < 25 := by omega
      have n1 : r1 < 25 := by omega
      obtain ⟨r2, e2⟩ : ∃ r2 : Nat, r2 = k + 10 := ⟨_, rfl⟩
      have m2 : (k : Int) + 10 = (r2 : Int) := by omega
      have q2 : IntKind.i64.wrap (r2 : Int) = (r2 : Int) := by rw [IntKind.wrap_i64]; omega
      have b2 : (r2 : Int) < 25 := by omega
      have n2 : r2 < 25 := by omega
      obtain ⟨r3, e3⟩ : ∃ r3 : Nat, r3 = k + 15 := ⟨_, rfl⟩
      have m3 : (k : Int) + 15 = (r3 : Int) := by omega
      have q3 : IntKind.i64.wrap (r3 : Int) = (r3 : Int) := by rw [IntKind.wrap_i64]; omega
      have b3 : (r3 : Int) < 25 := by omega
      have n3 : r3 < 25 := by omega
      obtain ⟨r4, e4⟩ : ∃ r4 : Nat, r4 = k + 20 := ⟨_, rfl⟩
      have m4 : (k : Int) + 20 = (r4 : Int) := by omega
      have q4 : IntKind.i64.wrap (r4 : Int) = (r4 : Int) := by rw [IntKind.wrap_i64]; omega
      have b4 : (r4 : Int) < 25 := by omega
      have n4 : r4 < 25 := by omega
      have b0 : (k : Int) < 25 := by omega
      have eg := HE.out k hk5
      rw [← e1, ← e2, ← e3, ← e4] at eg
      clear e1 e2 e3 e4
      have ca0 := MixA.cell hI k (by omega)
      generalize f k = x0 at ca0 eg
      have ca1 := MixA.cell hI r1 n1
      generalize f r1 = x1 at ca1 eg
      have ca2 := MixA.cell hI r2 n2
      generalize f r2 = x2 at ca2 eg
      have ca3 := MixA.cell hI r3 n3
      generalize f r3 = x3 at ca3 eg
      have ca4 := MixA.cell hI r4 n4
      generalize f r4 = x4 at ca4 eg
      obtain ⟨z, cb, fb⟩ := MixA.room hI k hk5
      generalize hy : c k = y at eg
      have HY : Hid _ := hy
      have HI : Hid _ := hI
      clear hy hI
      go_wp2
      go_region_held3 (fun w' => w'.cell? ⟨w.heap.size, k, none⟩ = some (.int .u64 x0) ∧ w'.cell? ⟨w.heap.size, r1, none⟩ = some (.int .u64 x1) ∧ w'.cell? ⟨w.heap.size, r2, none⟩ = some (.int .u64 x2) ∧ w'.cell? ⟨w.heap.size, r3, none⟩ = some (.int .u64 x3) ∧ w'.cell? ⟨w.heap.size, r4, none⟩ = some (.int .u64 x4)) (refine ⟨?_, ?_, ?_, ?_, ?_⟩ <;> go_simp) (fail)
      have HJ : Hid _ := MixA.step HI.out hk5 HY.out.symm
      clear eg cb fb ca0 ca1 ca2 ca3 ca4 HI
      generalize (wr.setCell ⟨w.heap.size + 1 + 1, k, none⟩ (.int .u64 y)).drew = w1 at HJ ⊢
      go_wp2
      go_roundw
      case rel => exact ⟨k + 1, by omega, by go_num, HJ.out⟩
      case measure => simp [intOf]; omega
    · obtain rfl : k = 5 := by omega
      have hS := MixB.start (m := m) hI
      clear hI
      have HS : Hid _ := hS
      clear hS
      go_wp2
      rw [show ((5 : Nat) : Int) = 5 from rfl]
      go_loopw [36] (fun i wr => ∃ k : Nat, k ≤ 5 ∧ i = .int .i64 k ∧ MixB w f m c k wr) (fun i _ => 5 - (intOf i).toNat)
      case atStart => exact ⟨0, Nat.zero_le _, rfl, HS.out⟩
      case round =>
        clear HS
        obtain ⟨k, hk, rfl, hI⟩ := hrel
        by_cases hk5 : k < 5
        · clear hk
          have kI : ((k : Int) < 5) := by omega
          obtain ⟨r1, e1⟩ : ∃ r1 : Nat, r1 = k + 5 := ⟨_, rfl⟩
          have m1 : (k : Int) + 5 = (r1 : Int) := by omega
          have q1 : IntKind.i64.wrap (r1 : Int) = (r1 : Int) := by rw [IntKind.wrap_i64]; omega
          have b1 : (r1 : Int) < 25 := by omega
          have n1 : r1 < 25 := by omega
          obtain ⟨r2, e2⟩ : ∃ r2 : Nat, r2 = k + 10 := ⟨_, rfl⟩
          have m2 : (k : Int) + 10 = (r2 : Int) := by omega
          have q2 : IntKind.i64.wrap (r2 : Int) = (r2 : Int) := by rw [IntKind.wrap_i64]; omega
          have b2 : (r2 : Int) < 25 := by omega
          have n2 : r2 < 25 := by omega
          obtain ⟨r3, e3⟩ : ∃ r3 : Nat, r3 = k + 15 := ⟨_, rfl⟩
          have m3 : (k : Int) + 15 = (r3 : Int) := by omega
          have q3 : IntKind.i64.wrap (r3 : Int) = (r3 : Int) := by rw [IntKind.wrap_i64]; omega
          have b3 : (r3 : Int) < 25 := by omega
          have n3 : r3 < 25 := by omega
          obtain ⟨r4, e4⟩ : ∃ r4 : Nat, r4 = k + 20 := ⟨_, rfl⟩
          have m4 : (k : Int) + 20 = (r4 : Int) := by omega
          have q4 : IntKind.i64.wrap (r4 : Int) = (r4 : Int) := by rw [IntKind.wrap_i64]; omega
          have b4 : (r4 : Int) < 25 := by omega
          have n4 : r4 < 25 := by omega
          obtain ⟨p4, ep4⟩ : ∃ p4 : Nat, p4 = k + 4 := ⟨_, rfl⟩
          obtain ⟨yp4, eyp4⟩ : ∃ yp4 : Nat, yp4 = p4 % 5 := ⟨_, rfl⟩
          have mp4 : (k : Int) + 4 = (p4 : Int) := by omega
          have qp4 : IntKind.i64.wrap (p4 : Int) = (p4 : Int) := by rw [IntKind.wrap_i64]; omega
          have tp4 : Int.tmod (p4 : Int) 5 = (yp4 : Int) := by rw [Int.tmod_eq_emod_of_nonneg (by omega)]; omega
          have up4 : IntKind.i64.wrap (yp4 : Int) = (yp4 : Int) := by rw [IntKind.wrap_i64]; omega
          have bp4 : (yp4 : Int) < 5 := by omega
          have np4 : yp4 < 5 := by omega
          obtain ⟨p1, ep1⟩ : ∃ p1 : Nat, p1 = k + 1 := ⟨_, rfl⟩
          obtain ⟨yp1, eyp1⟩ : ∃ yp1 : Nat, yp1 = p1 % 5 := ⟨_, rfl⟩
          have mp1 : (k : Int) + 1 = (p1 : Int) := by omega
          have qp1 : IntKind.i64.wrap (p1 : Int) = (p1 : Int) := by rw [IntKind.wrap_i64]; omega
          have tp1 : Int.tmod (p1 : Int) 5 = (yp1 : Int) := by rw [Int.tmod_eq_emod_of_nonneg (by omega)]; omega
          have up1 : IntKind.i64.wrap (yp1 : Int) = (yp1 : Int) := by rw [IntKind.wrap_i64]; omega
          have bp1 : (yp1 : Int) < 5 := by omega
          have np1 : yp1 < 5 := by omega
          have b0 : (k : Int) < 25 := by omega
          have n0 : k < 25 := by omega
          have eg0 := HM.out k n0
          rw [show k % 5 = k by omega, show (k + 4) % 5 = yp4 by omega, show (k + 1) % 5 = yp1 by omega] at eg0
          obtain ⟨ca0, fa0⟩ := MixB.cell hI k n0 (by omega)
          have eg1 := HM.out r1 n1
          rw [show r1 % 5 = k by omega, show (k + 4) % 5 = yp4 by omega, show (k + 1) % 5 = yp1 by omega] at eg1
          obtain ⟨ca1, fa1⟩ := MixB.cell hI r1 n1 (by omega)
          have eg2 := HM.out r2 n2
          rw [show r2 % 5 = k by omega, show (k + 4) % 5 = yp4 by omega, show (k + 1) % 5 = yp1 by omega] at eg2
          obtain ⟨ca2, fa2⟩ := MixB.cell hI r2 n2 (by omega)
          have eg3 := HM.out r3 n3
          rw [show r3 % 5 = k by omega, show (k + 4) % 5 = yp4 by omega, show (k + 1) % 5 = yp1 by omega] at eg3
          obtain ⟨ca3, fa3⟩ := MixB.cell hI r3 n3 (by omega)
          have eg4 := HM.out r4 n4
          rw [show r4 % 5 = k by omega, show (k + 4) % 5 = yp4 by omega, show (k + 1) % 5 = yp1 by omega] at eg4
          obtain ⟨ca4, fa4⟩ := MixB.cell hI r4 n4 (by omega)
          have ne01 : ¬ k = r1 := by omega
          have ne02 : ¬ k = r2 := by omega
          have ne03 : ¬ k = r3 := by omega
          have ne04 : ¬ k = r4 := by omega
          have ne10 : ¬ r1 = k := by omega
          have ne12 : ¬ r1 = r2 := by omega
          have ne13 : ¬ r1 = r3 := by omega
          have ne14 : ¬ r1 = r4 := by omega
          have ne20 : ¬ r2 = k := by omega
          have ne21 : ¬ r2 = r1 := by omega
          have ne23 : ¬ r2 = r3 := by omega
          have ne24 : ¬ r2 = r4 := by omega
          have ne30 : ¬ r3 = k := by omega
          have ne31 : ¬ r3 = r1 := by omega
          have ne32 : ¬ r3 = r2 := by omega
          have ne34 : ¬ r3 = r4 := by omega
          have ne40 : ¬ r4 = k := by omega
          have ne41 : ¬ r4 = r1 := by omega
          have ne42 : ¬ r4 = r2 := by omega
          have ne43 : ¬ r4 = r3 := by omega
          have E1 : Hid (r1 = k + 5) := e1
          have E2 : Hid (r2 = k + 10) := e2
          have E3 : Hid (r3 = k + 15) := e3
          have E4 : Hid (r4 = k + 20) := e4
          have EP1 : Hid (p1 = k + 1) := ep1
          clear e1 e2 e3 e4 ep4 ep1 eyp4 eyp1
          have cp4 := MixB.col hI yp4 np4
          have cp1 := MixB.col hI yp1 np1
          have rt := HO.out yp1 np1
          generalize hz4 : c yp4 = z4 at cp4 eg0 eg1 eg2 eg3 eg4
          generalize hz1 : c yp1 = z1 at cp1 rt
          generalize hrz : rc yp1 = rz at rt eg0 eg1 eg2 eg3 eg4
          clear hz4 hz1 hrz
          generalize hd : bits .xor .u64 z4 rz = d at eg0 eg1 eg2 eg3 eg4
          generalize f k = x0 at ca0 eg0
          generalize hy0 : m k = y0 at eg0
          have HY0 : Hid _ := hy0
          generalize f r1 = x1 at ca1 eg1
          generalize hy1 : m r1 = y1 at eg1
          have HY1 : Hid _ := hy1
          generalize f r2 = x2 at ca2 eg2
          generalize hy2 : m r2 = y2 at eg2
          have HY2 : Hid _ := hy2
          generalize f r3 = x3 at ca3 eg3
          generalize hy3 : m r3 = y3 at eg3
          have HY3 : Hid _ := hy3
          generalize f r4 = x4 at ca4 eg4
          generalize hy4 : m r4 = y4 at eg4
          have HY4 : Hid _ := hy4
          have RT : Hid _ := rt
          have HI : Hid _ := hI
          clear rt hI hy0 hy1 hy2 hy3 hy4
          go_wp2
          go_region_held3 (fun w' => w'.cell? ⟨w.heap.size + 1 + 1, yp4, none⟩ = some (.int .u64 z4) ∧ w'.cell? ⟨w.heap.size + 1 + 1, yp1, none⟩ = some (.int .u64 z1)) (refine ⟨?_, ?_⟩ <;> go_simp) ((go_at_call 28; refine (RT.out _).mono ?_; rintro e w' ⟨rfl, rfl⟩))
          go_wp2
          go_roundw
          case rel => exact ⟨k + 1, by omega, by rw [EP1.out], MixB.step HI.out hk5 E1.out E2.out E3.out E4.out HY0.out HY1.out HY2.out HY3.out HY4.out⟩
          case measure => simp [intOf]; omega
        · obtain rfl : k = 5 := by omega
          obtain ⟨hB, hA, hZ, _⟩ := hI
          have hA2 : Row wr w.heap.size 25 m := hA.ext fun i hi => by rw [if_pos (by omega)]
          have hW := @Row.of_range wr (w.heap.size + 1) 25 (fun _ => 0) m hZ
          have hBW := below_setCells (w.heap.size + 1) (by omega) (rowL 25 m) 0 wr hB
          have HA : Hid _ := hA2.range
          have HZ : Hid _ := hZ.there
          clear hA hA2 hZ
          go_wp2_with (first
            | refine load25 m w.heap.size rfl _ rfl rfl HA.out ?_
            | refine store25 m (w.heap.size + 1) rfl _ _ rfl rfl rfl HZ.out ?_)
          refine bodyPost_ret (v := .agg (rowL 25 m).toArray) ?_ rfl ⟨rfl, hBW⟩
          exact results_cell Tryd.results25 _ _ _ ⟨w.heap.size + 1, 0, none⟩ rfl (loadVar25 hW.range)
end Go.Proofs.YtbjijbgjnammhaaDoor
