/- Permute: 24 rounds. -/
import Derived.Test.YtbjijbgjnammhaaDoorKp
import Derived.Deep.RegionHeld3
import Derived.LoopTactic
namespace Go.Proofs.YtbjijbgjnammhaaDoor
open Go.RowKit
theorem con_lt : ∀ k, k < 24 → conL.getD k 0 < 18446744073709551616 := by decide
theorem con_nat (k : Nat) (h : k < 24) : (conF k).toNat = conL.getD k 0 := by
  rw [conF, BitVec.toNat_ofNat]; exact Nat.mod_eq_of_lt (con_lt k h)
def PermInv (w : World) (f : KSt) (W : World) : Prop := Below w.heap.size w W ∧ Row W w.heap.size 25 (iv f) ∧ Row W (w.heap.size + 1) 25 (fun _ => 0)
theorem PermInv.past {w W W' : World} {f : KSt} (h : PermInv w f W) (k : Below W.heap.size W W') : PermInv w f W' :=
  ⟨h.1.trans (k.mono h.1.size), h.2.1.below k (h.2.1.lt (by omega)), h.2.2.below k (h.2.2.lt (by omega))⟩
theorem PermInv.store {w W : World} {f : KSt} (g : KSt) (h : PermInv w f W) : PermInv w g (W.setCells w.heap.size 0 (rowL 25 (iv g))) :=
  ⟨below_setCells _ (Nat.le_refl _) _ _ _ h.1, h.2.1.of_range, fun i hi => by
    have := h.2.2 i hi
    exact ⟨by rw [World.cell?_setCells_out _ _ _ _ _ (fun hb _ => absurd hb (by simp))]; exact this.1, by rw [World.frozen?_setCells]; exact this.2⟩⟩
theorem PermInv.last {w W : World} {f : KSt} {k : Nat} {y : Int} (hk : k < 24) (h : PermInv w (bendF (moveF (mixF f))) W) (ey : bits .xor .u64 (iv (bendF (moveF (mixF f))) 0) (conL.getD k 0 : Nat) = y) :
    PermInv w (rndF k f) (W.setCell ⟨w.heap.size, 0, none⟩ (.int .u64 y)).drew := by
  refine ⟨(h.1.setCell (Nat.le_refl _) _).drew, ((h.2.1.set 0 y (by omega)).drew).ext ?_, (h.2.2.set_other _ _ (by simp)).drew⟩
  intro i hi
  simp only [iv, rndF, xor0]
  by_cases e : i = 0
  · rw [if_pos e, if_pos e, ← ey, e, iv, ← con_nat k hk, xor64]
  · rw [if_neg e, if_neg e]
set_option maxHeartbeats 1000000 in
set_option maxRecDepth 100000 in
theorem permute_is (f : KSt) (w : World) (hT : Tabs w) : Calls Tryd.prog 16 #[.agg (rowL 25 (iv f)).toArray] w fun e w' => e = .returned (.agg (rowL 25 (iv (rndsF 24 f))).toArray) ∧ Below w.heap.size w w' := by
  obtain ⟨cs, hcs⟩ : ∃ cs, cs = (rowL 25 (iv f)).toArray := ⟨_, rfl⟩
  rw [← hcs]
  have HT : Hid _ := hT
  have HC : Hid (cs = (rowL 25 (iv f)).toArray) := hcs
  have g2 := hT.lt
  clear hT hcs
  go_enter Tryd.func16, Tryd.ntmps16
  go_wp2
  go_loopw [4] (fun i wr => ∃ k : Nat, k ≤ 24 ∧ i = .int .i64 k ∧ PermInv w (rndsF k f) wr) (fun i _ => 24 - (intOf i).toNat)
  case atStart =>
    rw [zero25, HC.out]
    refine ⟨0, Nat.zero_le _, rfl, ?_, (Row.new w _ 25 (iv f)).alloc _, ?_⟩
    · exact ((Below.refl _ _).alloc (by omega) _).alloc (by simp) _
    · have := Row.new (w.alloc (.cells (rowL 25 (iv f)).toArray 36)) 36 25 fun _ => 0
      simpa using this
  case round =>
    obtain ⟨k, hk, rfl, hI⟩ := hrel
    by_cases hk5 : k < 24
    · clear hk
      have kI : ((k : Int) < 24) := by omega
      obtain ⟨F, eF⟩ : ∃ F, F = rndsF k f := ⟨_, rfl⟩
      rw [← eF] at hI
      have EF : Hid _ := eF
      have HI : Hid _ := hI
      clear hI eF
      have HR : Hid _ := (HI.out.2.1).range
      go_wp2_with (first
        | refine load25 (iv F) w.heap.size rfl _ rfl rfl HR.out ?_
        | (go_at_call 25; refine (mix_is F _).mono ?_; rintro e v1 ⟨rfl, hB⟩; (have H1 : Hid _ := PermInv.past HI.out hB); clear hB)
        | (go_at_call 24; refine (move_is (mixF F) _ (Tabs.below HT.out H1.out.1 g2)).mono ?_; rintro e v2 ⟨rfl, hB⟩; (have H2 : Hid _ := PermInv.past H1.out hB); clear hB)
        | (go_at_call 23; refine (bend_is (moveF (mixF F)) _).mono ?_; rintro e v3 ⟨rfl, hB⟩; (have H3 : Hid _ := PermInv.past H2.out hB); clear hB)
        | refine store25 (iv (bendF (moveF (mixF F)))) w.heap.size rfl _ _ rfl rfl rfl (Row.there H3.out.2.1) ?_)
      have H4 : Hid _ := PermInv.store (bendF (moveF (mixF F))) H3.out
      clear H1 H2 H3 HR HI
      generalize v3.setCells w.heap.size 0 (rowL 25 (iv (bendF (moveF (mixF F))))) = v4 at H4 ⊢
      have ca := (H4.out.2.1 0 (by omega)).1
      have fa := (H4.out.2.1 0 (by omega)).2
      have cc := (Tabs.below HT.out H4.out.1 g2).1 k hk5
      obtain ⟨y, ey⟩ : ∃ y, bits .xor .u64 (iv (bendF (moveF (mixF F))) 0) (conL.getD k 0 : Nat) = y := ⟨_, rfl⟩
      have HJ : Hid _ := PermInv.last hk5 H4.out ey
      generalize iv (bendF (moveF (mixF F))) 0 = x at ca ey
      generalize ((conL.getD k 0 : Nat) : Int) = c at cc ey
      clear H4
      go_wp2
      go_region
      all_goals go_wp2
      all_goals go_roundw
      all_goals first
        | (case rel => rw [EF.out] at HJ; exact ⟨k + 1, by omega, by go_num, HJ.out⟩)
        | (simp [intOf]; omega)
    · obtain rfl : k = 24 := by omega
      obtain ⟨hB, hA, hZ⟩ := hI
      have hW := @Row.of_range wr (w.heap.size + 1) 25 (fun _ => 0) (iv (rndsF 24 f)) hZ
      have hBW := below_setCells (w.heap.size + 1) (by omega) (rowL 25 (iv (rndsF 24 f))) 0 wr hB
      have HA : Hid _ := hA.range
      have HZ : Hid _ := hZ.there
      clear hA hZ
      go_wp2_with (first
        | refine load25 (iv (rndsF 24 f)) w.heap.size rfl _ rfl rfl HA.out ?_
        | refine store25 (iv (rndsF 24 f)) (w.heap.size + 1) rfl _ _ rfl rfl rfl HZ.out ?_)
      refine bodyPost_ret (v := .agg (rowL 25 (iv (rndsF 24 f))).toArray) ?_ rfl ⟨rfl, hBW⟩
      exact results_cell Tryd.results16 _ _ _ ⟨w.heap.size + 1, 0, none⟩ rfl (loadVar25 hW.range)
end Go.Proofs.YtbjijbgjnammhaaDoor
