/- The document's 'Rounds': 24 rounds. -/
import Derived.Test.YtbjijbgjnammhaaDoorVd
import Derived.Test.YtbjijbgjnammhaaDoorVe
import Derived.Test.YtbjijbgjnammhaaDoorVf
import Derived.Test.YtbjijbgjnammhaaDoorVh
namespace Go.Proofs.YtbjijbgjnammhaaDoor
open Go.RowKit
def RInv (w : World) (g : Nat) (u : Nat → Nat) (W : World) : Prop := Below w.heap.size w W ∧ RowI W w.heap.size 1600 u ∧ RowI W (w.heap.size + 1) 1600 (fun _ => 0) ∧ RbAt W g ∧ w.heap.size + 1 < g
theorem RInv.past {w W W' : World} {g : Nat} {u : Nat → Nat} (h : RInv w g u W) (k : Below W.heap.size W W') : RInv w g u W' :=
  ⟨h.1.trans (k.mono h.1.size), h.2.1.past k, h.2.2.1.past k, h.2.2.2.1.past k, h.2.2.2.2⟩
theorem RInv.store {w W : World} {g : Nat} {u : Nat → Nat} (h : RInv w g u W) (v : Nat → Nat) : RInv w g v (W.setCells w.heap.size 0 (intsD v 1600)) :=
  ⟨below_setCells _ (Nat.le_refl _) _ _ _ h.1, h.2.1.of_range, RowI.set_others (by simp) _ _ h.2.2.1, fun i hi => by
    have hg := h.2.2.2.2
    rw [World.cell?_setCells_out _ _ _ _ _ (fun hb _ => absurd hb (by show g ≠ w.heap.size; omega))]
    exact h.2.2.2.1 i hi, h.2.2.2.2⟩
set_option maxHeartbeats 4000000 in
set_option maxRecDepth 100000 in
theorem rounds_is (f : KSt) (w : World) : Calls Tryd.prog 14 #[.agg (intsD (bs f) 1600).toArray] w fun e w' => e = .returned (.agg (intsD (bs (rndsF 24 f)) 1600).toArray) ∧ Below w.heap.size w w' := by
  obtain ⟨cs, hcs⟩ : ∃ cs, cs = (intsD (bs f) 1600).toArray := ⟨_, rfl⟩
  rw [← hcs]
  have HC : Hid (cs = (intsD (bs f) 1600).toArray) := hcs
  clear hcs
  go_enter Tryd.func14, Tryd.ntmps14
  go_upto_region 1 with (refine allocSt rfl rfl ?_; intro W1 hW1)
  have z1 : (w.alloc (.cells cs 47)).heap.size = w.heap.size + 1 := by simp
  have S0 : Hid (Below w.heap.size w W1 ∧ RowI W1 w.heap.size 1600 (bs f) ∧ RowI W1 (w.heap.size + 1) 1600 (fun _ => 0) ∧ W1.heap.size = w.heap.size + 1 + 1) := by
    have b0 : Below w.heap.size w (w.alloc (.cells cs 47)) := (Below.refl _ _).alloc (Nat.le_refl _) _
    have r0 : RowI (w.alloc (.cells cs 47)) w.heap.size 1600 (bs f) := by rw [HC.out]; exact RowI.new w 47 1600 (bs f)
    exact ⟨b0.trans (hW1.bel.mono b0.size), r0.past hW1.bel, by rw [← z1]; exact hW1.row, by rw [hW1.siz, z1]⟩
  rw [z1]
  clear HC hW1 z1
  go_upto_region 2 with (go_at_call 18; refine (row_is _).mono ?_; rintro e W2 ⟨g, cp, rfl, hrb, hcp, hB⟩)
  have S1 : Hid (RInv w g (bs (rndsF 0 f)) W2) := by
    obtain ⟨h1, h2, h3, h4⟩ := S0.out
    refine ⟨h1.trans (hB.mono h1.size), h2.past hB, h3.past hB, hrb, ?_⟩
    have := h4
    omega
  clear S0 hrb hB hcp
  go_wp2
  go_loopw [4] (fun s wr => ∃ k : Nat, k ≤ 24 ∧ s = .int .i64 (k : Int) ∧ RInv w g (bs (rndsF k f)) wr) (fun s _ => 24 - (intOf s).toNat)
  case atStart => exact ⟨0, Nat.zero_le _, rfl, S1.out⟩
  case round =>
    clear S1
    obtain ⟨k, hk, rfl, hI⟩ := hrel
    have HI : Hid (RInv w g (bs (rndsF k f)) wr) := hI
    clear hI
    by_cases hk5 : k < 24
    · have kI : (k : Int) < 24 := by omega
      clear hk
      have M1 : Hid (∀ V, Calls Tryd.prog 19 #[.agg (intsD (bs (rndsF k f)) 1600).toArray] V fun e w' => e = .returned (.agg (intsD (bs (mixF (rndsF k f))) 1600).toArray) ∧ Below V.heap.size V w') := fun V => mixed_is _ V
      have M2 : Hid (∀ V, Calls Tryd.prog 20 #[.agg (intsD (bs (mixF (rndsF k f))) 1600).toArray] V fun e w' => e = .returned (.agg (intsD (bs (moveF (mixF (rndsF k f)))) 1600).toArray) ∧ Below V.heap.size V w') := fun V => moved_is _ V
      have M3 : Hid (∀ V, Calls Tryd.prog 21 #[.agg (intsD (bs (moveF (mixF (rndsF k f)))) 1600).toArray] V fun e w' => e = .returned (.agg (intsD (bs (bendF (moveF (mixF (rndsF k f))))) 1600).toArray) ∧ Below V.heap.size V w') := fun V => bent_is _ V
      have M4 : Hid (∀ V, RbAt V g → Calls Tryd.prog 22 #[.agg (intsD (bs (bendF (moveF (mixF (rndsF k f))))) 1600).toArray, .int .i64 (k : Int), .slice (some ⟨g, 0, none⟩) 168 cp] V fun e w' => e = .returned (.agg (intsD (bs (rndsF (k + 1) f)) 1600).toArray) ∧ Below V.heap.size V w') := fun V hV => marked_is _ k hk5 V g cp hV
      obtain ⟨u4, e4⟩ : ∃ u, u = bs (rndsF (k + 1) f) := ⟨_, rfl⟩
      have E4 : Hid (u4 = bs (rndsF (k + 1) f)) := e4
      rw [← e4] at M4
      generalize bs (bendF (moveF (mixF (rndsF k f)))) = u3 at M3 M4
      generalize bs (moveF (mixF (rndsF k f))) = u2 at M2 M3
      generalize bs (mixF (rndsF k f)) = u1 at M1 M2
      generalize bs (rndsF k f) = u0 at M1 HI
      clear e4
      go_upto_region 6 with (first
        | refine loadSt u0 w.heap.size rfl _ rfl rfl HI.out.2.1 ?_
        | (go_at_call 19; refine (M1.out _).mono ?_; rintro e v1 ⟨rfl, hB⟩; (have H1 : Hid (RInv w g u0 v1) := HI.out.past hB); clear hB HI)
        | (refine newSt u1 rfl rfl _ rfl rfl _ rfl rfl rfl rfl ?_; intro v2 hN; (have H2 : Hid (RInv w g u0 v2) := H1.out.past hN.bel); (have R2 : Hid (RowI v2 v1.heap.size 1600 u1) := hN.row); clear hN H1))
      generalize v1.heap.size = b1 at R2 ⊢
      go_upto_region 7 with (first
        | refine loadSt u1 b1 rfl _ rfl rfl R2.out ?_
        | (go_at_call 20; refine (M2.out _).mono ?_; rintro e v3 ⟨rfl, hB⟩; (have H3 : Hid (RInv w g u0 v3) := H2.out.past hB); clear hB H2 R2)
        | (refine newSt u2 rfl rfl _ rfl rfl _ rfl rfl rfl rfl ?_; intro v4 hN; (have H4 : Hid (RInv w g u0 v4) := H3.out.past hN.bel); (have R4 : Hid (RowI v4 v3.heap.size 1600 u2) := hN.row); clear hN H3))
      generalize v3.heap.size = b3 at R4 ⊢
      go_upto_region 8 with (first
        | refine loadSt u2 b3 rfl _ rfl rfl R4.out ?_
        | (go_at_call 21; refine (M3.out _).mono ?_; rintro e v5 ⟨rfl, hB⟩; (have H5 : Hid (RInv w g u0 v5) := H4.out.past hB); clear hB H4 R4)
        | (refine newSt u3 rfl rfl _ rfl rfl _ rfl rfl rfl rfl ?_; intro v6 hN; (have H6 : Hid (RInv w g u0 v6) := H5.out.past hN.bel); (have R6 : Hid (RowI v6 v5.heap.size 1600 u3) := hN.row); clear hN H5))
      generalize v5.heap.size = b5 at R6 ⊢
      go_upto_region 4 with (first
        | refine loadSt u3 b5 rfl _ rfl rfl R6.out ?_
        | (go_at_call 22; refine (M4.out _ H6.out.2.2.2.1).mono ?_; rintro e v7 ⟨rfl, hB⟩; (have H7 : Hid (RInv w g u0 v7) := H6.out.past hB); clear hB H6 R6)
        | refine storeSt u4 w.heap.size rfl _ _ rfl rfl rfl (RowI.there H7.out.2.1) ?_)
      have H8 : Hid (RInv w g (bs (rndsF (k + 1) f)) (v7.setCells w.heap.size 0 (intsD u4 1600))) := by unfold Hid; rw [← E4.out]; exact H7.out.store u4
      generalize v7.setCells w.heap.size 0 (intsD u4 1600) = v8 at H8 ⊢
      clear H7 E4 M1 M2 M3 M4
      go_wp2
      go_roundw
      case rel => exact ⟨k + 1, by omega, by go_num, H8.out⟩
      case measure => simp [intOf]; omega
    · obtain rfl : k = 24 := by omega
      obtain ⟨B0, R0, R1, _, _⟩ := HI.out
      have HR0 : Hid (RowI wr w.heap.size 1600 (bs (rndsF 24 f))) := R0
      have HR1 : Hid (RowI wr (w.heap.size + 1) 1600 fun _ => 0) := R1
      have HR3 : Hid (RowI (wr.setCells (w.heap.size + 1) 0 (intsD (bs (rndsF 24 f)) 1600)) (w.heap.size + 1) 1600 (bs (rndsF 24 f))) := R1.of_range
      have HB3 : Hid (Below w.heap.size w (wr.setCells (w.heap.size + 1) 0 (intsD (bs (rndsF 24 f)) 1600))) := below_setCells _ (by omega) _ _ _ B0
      clear B0 R0 R1 HI
      go_wp2_with (first
        | refine loadSt (bs (rndsF 24 f)) w.heap.size rfl _ rfl rfl HR0.out ?_
        | refine storeSt (bs (rndsF 24 f)) (w.heap.size + 1) rfl _ _ rfl rfl rfl (RowI.there HR1.out) ?_)
      refine bodyPost_ret (v := .agg (intsD (bs (rndsF 24 f)) 1600).toArray) ?_ rfl ⟨rfl, HB3.out⟩
      exact results_cell Tryd.results14 _ _ _ ⟨w.heap.size + 1, 0, none⟩ rfl (loadVarSt HR3.out)
end Go.Proofs.YtbjijbgjnammhaaDoor
