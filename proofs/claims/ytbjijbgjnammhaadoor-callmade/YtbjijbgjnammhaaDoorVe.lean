/- The document's 'moved'. -/
import Derived.Test.YtbjijbgjnammhaaDoorVc
import Derived.Test.YtbjijbgjnammhaaDoorVo
import Derived.Deep.RegionHeld3
import Derived.Deep.CutRange
import Derived.Deep.DeepCutAuto
import Derived.BigRegion
import Derived.LoopTactic
namespace Go.Proofs.YtbjijbgjnammhaaDoor
open Go.RowKit
set_option maxHeartbeats 4000000 in
set_option maxRecDepth 100000 in
theorem moved_is (f : KSt) (w : World) : Calls Tryd.prog 20 #[.agg (intsD (bs f) 1600).toArray] w fun e w' => e = .returned (.agg (intsD (bs (moveF f)) 1600).toArray) ∧ Below w.heap.size w w' := by
  obtain ⟨cs, hcs⟩ : ∃ cs, cs = (intsD (bs f) 1600).toArray := ⟨_, rfl⟩
  rw [← hcs]
  obtain ⟨F, eF⟩ : ∃ F, F = bs f := ⟨_, rfl⟩
  obtain ⟨g, eg⟩ : ∃ g, g = bs (moveF f) := ⟨_, rfl⟩
  rw [← eF] at hcs
  rw [← eg]
  have FLE : Hid (∀ i, F i ≤ 1) := by intro i; rw [eF]; exact bs_le f i
  have MG : Hid (∀ x y z, x < 5 → y < 5 → z < 64 → g (64 * (y + 5 * ((2 * x + 3 * y) % 5)) + z) = F (64 * (x + 5 * y) + (z + (64 - turnL.getD (x + 5 * y) 0)) % 64)) := by intro x y z hx hy hz; rw [eF, eg]; exact move_bit f x y z _ hx hy hz rfl
  have HC : Hid (cs = (intsD F 1600).toArray) := hcs
  clear hcs eF eg
  go_enter Tryd.func20, Tryd.ntmps20
  go_upto_region 1 with (refine allocSt rfl rfl ?_; intro W1 hW1)
  go_upto_region 2 with (refine allocSt rfl rfl ?_; intro W2 hW2)
  have S0 : Hid (StInv w F g tMove 0 W2) := StInv.start HC.out g tMove hW1 hW2
  have z1 : (w.alloc (.cells cs 47)).heap.size = w.heap.size + 1 := by simp
  have z2 : W1.heap.size = w.heap.size + 1 + 1 := by rw [hW1.siz, z1]
  rw [z1, z2]
  clear HC hW1 hW2 z1 z2
  go_wp2
  go_loopw [4] (fun s wr => ∃ X : Nat, X ≤ 5 ∧ s = .int .i64 (X : Int) ∧ StInv w F g tMove (320 * X) wr) (fun s _ => 5 - (intOf s).toNat)
  case atStart => exact ⟨0, Nat.zero_le _, rfl, S0.out⟩
  case round =>
    clear S0
    obtain ⟨X, hX, rfl, hS⟩ := hrel
    have HS : Hid (StInv w F g tMove (320 * X) wr) := hS
    clear hS
    by_cases hX5 : X < 5
    · have XI : (X : Int) < 5 := by omega
      clear hX
      go_wp2
      go_loopw [5] (fun s wr => ∃ Y : Nat, Y ≤ 5 ∧ s = .int .i64 (Y : Int) ∧ StInv w F g tMove (320 * X + 64 * Y) wr) (fun s _ => 5 - (intOf s).toNat)
      case atStart => exact ⟨0, Nat.zero_le _, rfl, HS.out⟩
      case round =>
        clear HS
        obtain ⟨Y, hY, rfl, hS⟩ := hrel
        have HS : Hid (StInv w F g tMove (320 * X + 64 * Y) wr) := hS
        clear hS
        by_cases hY5 : Y < 5
        · have YI : (Y : Int) < 5 := by omega
          clear hY
          have OF : Hid (∀ V, Calls Tryd.prog 27 #[.int .i64 (X : Int), .int .i64 (Y : Int)] V fun e w' => e = .returned (.int .i64 ((turnL.getD (X + 5 * Y) 0 : Nat) : Int)) ∧ w' = V) := fun V => offset_is X Y hX5 hY5 V
          have hg := fun Z hZ => MG.out X Y Z hX5 hY5 hZ
          have hR : turnL.getD (X + 5 * Y) 0 < 64 := (show ∀ i, i < 25 → turnL.getD i 0 < 64 by decide) _ (by omega)
          generalize turnL.getD (X + 5 * Y) 0 = R at OF hg hR
          have HG : Hid _ := hg
          have HR : Hid _ := hR
          clear hg hR
          go_upto_region 9 with (go_at_call 27; refine (OF.out _).mono ?_; rintro e w' ⟨rfl, hw⟩; (have hw2 := hw.symm); clear hw; subst hw2)
          clear OF
          go_wp2
          go_loopw [7] (fun s wr => ∃ Z : Nat, Z ≤ 64 ∧ s = .int .i64 (Z : Int) ∧ StInv w F g tMove (320 * X + 64 * Y + Z) wr) (fun s _ => 64 - (intOf s).toNat)
          case atStart => exact ⟨0, Nat.zero_le _, rfl, HS.out⟩
          case round =>
            clear HS
            obtain ⟨Z, hZ, rfl, hS⟩ := hrel
            have HS : Hid (StInv w F g tMove (320 * X + 64 * Y + Z) wr) := hS
            clear hS
            by_cases hZ5 : Z < 64
            · have ZI : (Z : Int) < 64 := by omega
              clear hZ
              obtain ⟨a1, ea1⟩ : ∃ a : Nat, a = 2 * X := ⟨_, rfl⟩
              obtain ⟨a2, ea2⟩ : ∃ a : Nat, a = 3 * Y := ⟨_, rfl⟩
              obtain ⟨a3, ea3⟩ : ∃ a : Nat, a = a1 + a2 := ⟨_, rfl⟩
              obtain ⟨a4, ea4⟩ : ∃ a : Nat, a = a3 % 5 := ⟨_, rfl⟩
              obtain ⟨zr, ez⟩ : ∃ a : Int, (Z : Int) - (R : Int) = a := ⟨_, rfl⟩
              obtain ⟨r1, er1⟩ : ∃ r : Nat, r = 64 * (Y + 5 * ((2 * X + 3 * Y) % 5)) + Z := ⟨_, rfl⟩
              obtain ⟨r2, er2⟩ : ∃ r : Nat, r = 64 * (X + 5 * Y) + (Z + (64 - R)) % 64 := ⟨_, rfl⟩
              have hR := HR.out
              have A1 : Hid (∀ V, Calls Tryd.prog 26 #[.int .i64 (Y : Int), .int .i64 (a4 : Int), .int .i64 (Z : Int)] V fun e w' => e = .returned (.int .i64 (r1 : Int)) ∧ w' = V) := fun V => at_to (Y : Int) (a4 : Int) (Z : Int) Y a4 Z V (by omega) (by omega) (by omega) (by omega) (by omega) (by omega) (by omega) (by omega) (by omega) r1 (by rw [er1, ea4, ea3, ea1, ea2])
              have A2 : Hid (∀ V, Calls Tryd.prog 26 #[.int .i64 (X : Int), .int .i64 (Y : Int), .int .i64 zr] V fun e w' => e = .returned (.int .i64 (r2 : Int)) ∧ w' = V) := fun V => at_to (X : Int) (Y : Int) zr X Y ((Z + (64 - R)) % 64) V (by omega) (by omega) (by omega) (by omega) (by omega) (by omega) (by omega) (by omega) (by omega) r2 er2
              have b1 : r1 < 1600 := by omega
              have b2 : r2 < 1600 := by omega
              have i1 : (r1 : Int) < 1600 := by omega
              have i2 : (r2 : Int) < 1600 := by omega
              have c1 := StInv.cell HS.out r2 b2
              obtain ⟨zz, c2, f2⟩ := StInv.room HS.out r1 b1
              have hv := HG.out Z hZ5
              rw [← er1, ← er2] at hv
              have l1 := FLE.out r2
              generalize F r2 = p at c1 hv l1
              have NS : Hid (StInv w F g tMove (320 * X + 64 * Y + (Z + 1)) (wr.setCell ⟨w.heap.size + 1 + 1, r1, none⟩ (.int .i64 (p : Int)))) := by
                have := HS.out.set (s := r1) (v := p) (by rw [tMove_at X Y Z hX5 hY5 hZ5, er1]) hv.symm (fun k hk => tMove_ne _ _ (by omega) hk)
                exact this
              have s1 : (2 : Int) * (X : Int) = (a1 : Int) := by omega
              have s2 : (3 : Int) * (Y : Int) = (a2 : Int) := by omega
              have s3 : (a1 : Int) + (a2 : Int) = (a3 : Int) := by omega
              have s4 : Int.tmod (a3 : Int) 5 = (a4 : Int) := by rw [Int.tmod_eq_emod_of_nonneg (by omega)]; omega
              have w1 : IntKind.i64.wrap (a1 : Int) = (a1 : Int) := by rw [IntKind.wrap_i64]; omega
              have w2 : IntKind.i64.wrap (a2 : Int) = (a2 : Int) := by rw [IntKind.wrap_i64]; omega
              have w3 : IntKind.i64.wrap (a3 : Int) = (a3 : Int) := by rw [IntKind.wrap_i64]; omega
              have w4 : IntKind.i64.wrap (a4 : Int) = (a4 : Int) := by rw [IntKind.wrap_i64]; omega
              have w5 : IntKind.i64.wrap zr = zr := by rw [IntKind.wrap_i64]; omega
              clear hv l1 er1 er2 HS ea1 ea2 ea3 ea4 hR
              go_wp2_with (first | (go_at_call 26; with_reducible refine (A1.out _).mono ?_; rintro e w' ⟨rfl, hw⟩; (have hw2 := hw.symm); clear hw; subst hw2) | (go_at_call 26; with_reducible refine (A2.out _).mono ?_; rintro e w' ⟨rfl, hw⟩; (have hw2 := hw.symm); clear hw; subst hw2))
              go_roundw
              case rel => exact ⟨Z + 1, by omega, by go_num, NS.out⟩
              case measure => simp [intOf]; omega
            · obtain rfl : Z = 64 := by omega
              have NS : Hid (StInv w F g tMove (320 * X + 64 * (Y + 1)) wr) := HS.out
              clear HS
              go_wp2
              go_roundw
              case rel => exact ⟨Y + 1, by omega, by go_num, NS.out⟩
              case measure => simp [intOf]; omega
        · obtain rfl : Y = 5 := by omega
          have NS : Hid (StInv w F g tMove (320 * (X + 1)) wr) := HS.out
          clear HS
          go_wp2
          go_roundw
          case rel => exact ⟨X + 1, by omega, by go_num, NS.out⟩
          case measure => simp [intOf]; omega
    · obtain rfl : X = 5 := by omega
      obtain ⟨R2, R1, R3, B3⟩ := StInv.fin HS.out tMove_all
      have HR2 : Hid _ := R2
      have HR1 : Hid _ := R1
      have HR3 : Hid _ := R3
      have HB3 : Hid _ := B3
      clear R2 R1 R3 B3 HS
      go_wp2_with (first
        | refine loadSt g (w.heap.size + 1 + 1) rfl _ rfl rfl HR2.out ?_
        | refine storeSt g (w.heap.size + 1) rfl _ _ rfl rfl rfl (RowI.there HR1.out) ?_)
      refine bodyPost_ret (v := .agg (intsD g 1600).toArray) ?_ rfl ⟨rfl, HB3.out⟩
      exact results_cell Tryd.results20 _ _ _ ⟨w.heap.size + 1, 0, none⟩ rfl (loadVarSt HR3.out)
end Go.Proofs.YtbjijbgjnammhaaDoor
