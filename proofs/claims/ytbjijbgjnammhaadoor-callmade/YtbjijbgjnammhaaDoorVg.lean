/- The document's 'marked'. -/
import Derived.Test.YtbjijbgjnammhaaDoorVc
import Derived.Test.YtbjijbgjnammhaaDoorVo
import Derived.Deep.RegionHeld3
import Derived.Deep.CutRange
import Derived.Deep.DeepCutAuto
import Derived.BigRegion
import Derived.LoopTactic
namespace Go.Proofs.YtbjijbgjnammhaaDoor
open Go.RowKit
/-- the document's row of bits lies in block g -/
def RbAt (W : World) (g : Nat) : Prop := ∀ i, i < 168 → W.cell? ⟨g, i, none⟩ = some (.int .i64 (rb i : Int))
theorem RbAt.past {W W' : World} {g : Nat} (h : RbAt W g) (k : Below W.heap.size W W') : RbAt W' g := fun i hi =>
  (k.cell (p := ⟨g, i, none⟩) (World.block_lt_of_cell? W _ (h i hi))).trans (h i hi)
theorem RbAt.lt {W : World} {g : Nat} (h : RbAt W g) : g < W.heap.size := World.block_lt_of_cell? W _ (h 0 (by omega))
def MkInv (w : World) (F : Nat → Nat) (W : World) : Prop := Below w.heap.size w W ∧ RowI W w.heap.size 1600 F ∧ RowI W (w.heap.size + 1) 1600 (fun _ => 0)
theorem MkInv.set {w W : World} {F : Nat → Nat} (h : MkInv w F W) (s v : Nat) : MkInv w (setD F s v) (W.setCell ⟨w.heap.size, s, none⟩ (.int .i64 (v : Int))) :=
  ⟨h.1.setCell (Nat.le_refl _) _, h.2.1.set s v, h.2.2.set_other _ _ (by simp)⟩
theorem MkInv.drew {w W : World} {F : Nat → Nat} (h : MkInv w F W) : MkInv w F W.drew := ⟨h.1.drew, h.2.1.drew, h.2.2.drew⟩
set_option maxHeartbeats 4000000 in
set_option maxRecDepth 100000 in
theorem marked_is (f : KSt) (k : Nat) (hk : k < 24) (w : World) (gr cap : Nat) (hr : RbAt w gr) : Calls Tryd.prog 22 #[.agg (intsD (bs f) 1600).toArray, .int .i64 (k : Int), .slice (some ⟨gr, 0, none⟩) 168 cap] w fun e w' => e = .returned (.agg (intsD (bs (xor0 f (conF k))) 1600).toArray) ∧ Below w.heap.size w w' := by
  obtain ⟨cs, hcs⟩ : ∃ cs, cs = (intsD (bs f) 1600).toArray := ⟨_, rfl⟩
  rw [← hcs]
  rw [show intsD (bs (xor0 f (conF k))) 1600 = intsD (mkF f k 7) 1600 from intsD_ext fun i _ => (mark_bits f k hk i).symm]
  obtain ⟨m, em⟩ : ∃ m, m = mkF f k := ⟨_, rfl⟩
  rw [← em]
  have M0 : Hid (m 0 = bs f) := by unfold Hid; rw [em]; rfl
  have MS : Hid (∀ j, m (j + 1) = setD (m j) (2 ^ j - 1) ((m j (2 ^ j - 1) + rb (j + 7 * k)) % 2)) := by intro j; rw [em]; rfl
  have ML : Hid (∀ j i, m j i ≤ 1) := by intro j i; rw [em]; exact mkF_le f k j i
  have HC : Hid (cs = (intsD (bs f) 1600).toArray) := hcs
  have HR : Hid (RbAt w gr) := hr
  have hg := hr.lt
  have kI : (k : Int) < 24 := by omega
  clear hcs em hr
  go_enter Tryd.func22, Tryd.ntmps22
  go_upto_region 1 with (refine allocSt rfl rfl ?_; intro W1 hW1)
  have z1 : (w.alloc (.cells cs 47)).heap.size = w.heap.size + 1 := by simp
  have S0 : Hid (MkInv w (m 0) W1) := by
    have b0 : Below w.heap.size w (w.alloc (.cells cs 47)) := (Below.refl _ _).alloc (Nat.le_refl _) _
    have r0 : RowI (w.alloc (.cells cs 47)) w.heap.size 1600 (bs f) := by rw [HC.out]; exact RowI.new w 47 1600 (bs f)
    unfold Hid; rw [M0.out]
    exact ⟨b0.trans (hW1.bel.mono b0.size), r0.past hW1.bel, by rw [← z1]; exact hW1.row⟩
  rw [z1]
  clear HC hW1 z1 M0
  go_wp2
  go_loopw [7, 8] (fun sz s wr => ∃ j : Nat, j ≤ 7 ∧ s = .int .i64 (j : Int) ∧ sz = .int .i64 ((2 ^ j : Nat) : Int) ∧ MkInv w (m j) wr) (fun _ s _ => 7 - (intOf s).toNat)
  case atStart => exact ⟨0, Nat.zero_le _, rfl, rfl, S0.out⟩
  case round =>
    clear S0
    obtain ⟨j, hj, rfl, rfl, hS⟩ := hrel
    have HS : Hid (MkInv w (m j) wr) := hS
    clear hS
    by_cases hj5 : j < 7
    · have jI : (j : Int) < 7 := by omega
      clear hj
      obtain ⟨q, eq⟩ : ∃ q : Nat, q = 2 ^ j := ⟨_, rfl⟩
      have hq1 : 1 ≤ q := by rw [eq]; exact Nat.one_le_two_pow
      have hq2 : q ≤ 64 := by
        rw [eq]
        exact Nat.pow_le_pow_right (n := 2) (j := 6) (by decide) (by omega)
      obtain ⟨s, es⟩ : ∃ s : Nat, s = q - 1 := ⟨_, rfl⟩
      obtain ⟨q2, eq2⟩ : ∃ x : Nat, x = 2 * q := ⟨_, rfl⟩
      obtain ⟨k7, ek⟩ : ∃ x : Nat, x = 7 * k := ⟨_, rfl⟩
      obtain ⟨i, ei⟩ : ∃ x : Nat, x = j + k7 := ⟨_, rfl⟩
      have hm := MS.out j
      rw [← eq, ← es, ← ek, ← ei] at hm
      have l1 := ML.out j s
      have l2 := rb_le i
      have c1 := (HS.out.2.1 s (by omega)).1
      have f1 := (HS.out.2.1 s (by omega)).2
      have c2 := (HS.out.1.cell (p := ⟨gr, i, none⟩) hg).trans (HR.out i (by omega))
      generalize hp : m j s = p at c1 hm l1
      clear hp
      generalize rb i = b at c2 hm l2
      obtain ⟨t, et⟩ : ∃ x : Nat, x = p + b := ⟨_, rfl⟩
      obtain ⟨v, ev⟩ : ∃ x : Nat, x = t % 2 := ⟨_, rfl⟩
      rw [← et, ← ev] at hm
      have NS : Hid (MkInv w (m (j + 1)) (wr.setCell ⟨w.heap.size, s, none⟩ (.int .i64 (v : Int))).drew) := by
        unfold Hid; rw [hm]; exact (HS.out.set s v).drew
      have HQ : Hid (q2 = 2 ^ (j + 1)) := by unfold Hid; rw [eq2, eq, Nat.pow_succ]; omega
      have s1 : (q : Int) - 1 = (s : Int) := by omega
      have s2 : (2 : Int) * (q : Int) = (q2 : Int) := by omega
      have s3 : (7 : Int) * (k : Int) = (k7 : Int) := by omega
      have s4 : (j : Int) + (k7 : Int) = (i : Int) := by omega
      have s5 : (p : Int) + (b : Int) = (t : Int) := by omega
      have s6 : Int.tmod (t : Int) 2 = (v : Int) := by rw [Int.tmod_eq_emod_of_nonneg (by omega)]; omega
      have w1 : IntKind.i64.wrap (s : Int) = (s : Int) := by rw [IntKind.wrap_i64]; omega
      have w2 : IntKind.i64.wrap (q2 : Int) = (q2 : Int) := by rw [IntKind.wrap_i64]; omega
      have w3 : IntKind.i64.wrap (k7 : Int) = (k7 : Int) := by rw [IntKind.wrap_i64]; omega
      have w4 : IntKind.i64.wrap (i : Int) = (i : Int) := by rw [IntKind.wrap_i64]; omega
      have w5 : IntKind.i64.wrap (t : Int) = (t : Int) := by rw [IntKind.wrap_i64]; omega
      have w6 : IntKind.i64.wrap (v : Int) = (v : Int) := by rw [IntKind.wrap_i64]; omega
      have b1 : (s : Int) < 1600 := by omega
      have b2 : (i : Int) < 168 := by omega
      rw [← eq]
      clear hm eq es eq2 ek ei et ev l1 l2 HS hq1 hq2
      go_wp2
      go_region
      all_goals go_wp2
      all_goals go_roundw
      all_goals first
        | (case rel => exact ⟨j + 1, by omega, by go_num, by rw [HQ.out], NS.out⟩)
        | (simp [intOf]; omega)
    · obtain rfl : j = 7 := by omega
      obtain ⟨B0, R0, R1⟩ := HS.out
      have HR0 : Hid _ := R0
      have HR1 : Hid _ := R1
      have HR3 : Hid (RowI (wr.setCells (w.heap.size + 1) 0 (intsD (m 7) 1600)) (w.heap.size + 1) 1600 (m 7)) := R1.of_range
      have HB3 : Hid (Below w.heap.size w (wr.setCells (w.heap.size + 1) 0 (intsD (m 7) 1600))) := below_setCells _ (by omega) _ _ _ B0
      clear B0 R0 R1 HS
      go_wp2_with (first
        | refine loadSt (m 7) w.heap.size rfl _ rfl rfl HR0.out ?_
        | refine storeSt (m 7) (w.heap.size + 1) rfl _ _ rfl rfl rfl (RowI.there HR1.out) ?_)
      refine bodyPost_ret (v := .agg (intsD (m 7) 1600).toArray) ?_ rfl ⟨rfl, HB3.out⟩
      exact results_cell Tryd.results22 _ _ _ ⟨w.heap.size + 1, 0, none⟩ rfl (loadVarSt HR3.out)
end Go.Proofs.YtbjijbgjnammhaaDoor
