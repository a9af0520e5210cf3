/- The document's 'bent'. -/
import Derived.Test.YtbjijbgjnammhaaDoorVc
import Derived.Test.YtbjijbgjnammhaaDoorVo
import Derived.Deep.RegionHeld3
import Derived.Deep.CutRange
import Derived.Deep.DeepCutAuto
import Derived.BigRegion
import Derived.LoopTactic
namespace Go.Proofs.YtbjijbgjnammhaaDoor
open Go.RowKit
set_option maxHeartbeats 4000000 in
set_option maxRecDepth 100000 in
theorem bent_is (f : KSt) (w : World) : Calls Tryd.prog 21 #[.agg (intsD (bs f) 1600).toArray] w fun e w' => e = .returned (.agg (intsD (bs (bendF f)) 1600).toArray) ∧ Below w.heap.size w w' := by
  obtain ⟨cs, hcs⟩ : ∃ cs, cs = (intsD (bs f) 1600).toArray := ⟨_, rfl⟩
  rw [← hcs]
  obtain ⟨F, eF⟩ : ∃ F, F = bs f := ⟨_, rfl⟩
  obtain ⟨g, eg⟩ : ∃ g, g = bs (bendF f) := ⟨_, rfl⟩
  rw [← eF] at hcs
  rw [← eg]
  have FLE : Hid (∀ i, F i ≤ 1) := by intro i; rw [eF]; exact bs_le f i
  have MG : Hid (∀ x y z, x < 5 → z < 64 → g (64 * (x + 5 * y) + z) = (if F (64 * ((x + 1) % 5 + 5 * y) + z) = 0 then F (64 * (x + 5 * y) + z) + F (64 * ((x + 2) % 5 + 5 * y) + z) else F (64 * (x + 5 * y) + z)) % 2) := by intro x y z hx hz; rw [eF, eg]; exact bend_bit f x y z hx hz
  have HC : Hid (cs = (intsD F 1600).toArray) := hcs
  clear hcs eF eg
  go_enter Tryd.func21, Tryd.ntmps21
  go_upto_region 1 with (refine allocSt rfl rfl ?_; intro W1 hW1)
  go_upto_region 2 with (refine allocSt rfl rfl ?_; intro W2 hW2)
  have S0 : Hid (StInv w F g tBend 0 W2) := StInv.start HC.out g tBend hW1 hW2
  have z1 : (w.alloc (.cells cs 47)).heap.size = w.heap.size + 1 := by simp
  have z2 : W1.heap.size = w.heap.size + 1 + 1 := by rw [hW1.siz, z1]
  rw [z1, z2]
  clear HC hW1 hW2 z1 z2
  go_wp2
  go_loopw [4] (fun s wr => ∃ X : Nat, X ≤ 5 ∧ s = .int .i64 (X : Int) ∧ StInv w F g tBend (320 * X) wr) (fun s _ => 5 - (intOf s).toNat)
  case atStart => exact ⟨0, Nat.zero_le _, rfl, S0.out⟩
  case round =>
    clear S0
    obtain ⟨X, hX, rfl, hS⟩ := hrel
    have HS : Hid (StInv w F g tBend (320 * X) wr) := hS
    clear hS
    by_cases hX5 : X < 5
    · have XI : (X : Int) < 5 := by omega
      clear hX
      go_wp2
      go_loopw [5] (fun s wr => ∃ Y : Nat, Y ≤ 5 ∧ s = .int .i64 (Y : Int) ∧ StInv w F g tBend (320 * X + 64 * Y) wr) (fun s _ => 5 - (intOf s).toNat)
      case atStart => exact ⟨0, Nat.zero_le _, rfl, HS.out⟩
      case round =>
        clear HS
        obtain ⟨Y, hY, rfl, hS⟩ := hrel
        have HS : Hid (StInv w F g tBend (320 * X + 64 * Y) wr) := hS
        clear hS
        by_cases hY5 : Y < 5
        · have YI : (Y : Int) < 5 := by omega
          clear hY
          go_wp2
          go_loopw [6] (fun s wr => ∃ Z : Nat, Z ≤ 64 ∧ s = .int .i64 (Z : Int) ∧ StInv w F g tBend (320 * X + 64 * Y + Z) wr) (fun s _ => 64 - (intOf s).toNat)
          case atStart => exact ⟨0, Nat.zero_le _, rfl, HS.out⟩
          case round =>
            clear HS
            obtain ⟨Z, hZ, rfl, hS⟩ := hrel
            have HS : Hid (StInv w F g tBend (320 * X + 64 * Y + Z) wr) := hS
            clear hS
            by_cases hZ5 : Z < 64
            · have ZI : (Z : Int) < 64 := by omega
              clear hZ
              obtain ⟨r0, er0⟩ : ∃ r : Nat, r = 64 * (X + 5 * Y) + Z := ⟨_, rfl⟩
              obtain ⟨r1, er1⟩ : ∃ r : Nat, r = 64 * ((X + 1) % 5 + 5 * Y) + Z := ⟨_, rfl⟩
              obtain ⟨r2, er2⟩ : ∃ r : Nat, r = 64 * ((X + 2) % 5 + 5 * Y) + Z := ⟨_, rfl⟩
              obtain ⟨x1, e1⟩ : ∃ x : Int, (X : Int) + 1 = x := ⟨_, rfl⟩
              obtain ⟨x2, e2⟩ : ∃ x : Int, (X : Int) + 2 = x := ⟨_, rfl⟩
              have A0 : Hid (∀ V, Calls Tryd.prog 26 #[.int .i64 (X : Int), .int .i64 (Y : Int), .int .i64 (Z : Int)] V fun e w' => e = .returned (.int .i64 (r0 : Int)) ∧ w' = V) := fun V => at_is (X : Int) (Y : Int) (Z : Int) r0 V (by omega) (by omega) (by omega) (by omega) (by omega) (by omega) (by omega)
              have A1 : Hid (∀ V, Calls Tryd.prog 26 #[.int .i64 x1, .int .i64 (Y : Int), .int .i64 (Z : Int)] V fun e w' => e = .returned (.int .i64 (r1 : Int)) ∧ w' = V) := fun V => at_is x1 (Y : Int) (Z : Int) r1 V (by omega) (by omega) (by omega) (by omega) (by omega) (by omega) (by omega)
              have A2 : Hid (∀ V, Calls Tryd.prog 26 #[.int .i64 x2, .int .i64 (Y : Int), .int .i64 (Z : Int)] V fun e w' => e = .returned (.int .i64 (r2 : Int)) ∧ w' = V) := fun V => at_is x2 (Y : Int) (Z : Int) r2 V (by omega) (by omega) (by omega) (by omega) (by omega) (by omega) (by omega)
              have b0 : r0 < 1600 := by omega
              have i0 : (r0 : Int) < 1600 := by omega
              have c0 := StInv.cell HS.out r0 b0
              have l0 := FLE.out r0
              have b1 : r1 < 1600 := by omega
              have i1 : (r1 : Int) < 1600 := by omega
              have c1 := StInv.cell HS.out r1 b1
              have l1 := FLE.out r1
              have b2 : r2 < 1600 := by omega
              have i2 : (r2 : Int) < 1600 := by omega
              have c2 := StInv.cell HS.out r2 b2
              have l2 := FLE.out r2
              obtain ⟨zz, cz, fz⟩ := StInv.room HS.out r0 b0
              have hv := MG.out X Y Z hX5 hZ5
              rw [← er0, ← er1, ← er2] at hv
              generalize F r0 = p0 at c0 hv l0
              generalize F r1 = p1 at c1 hv l1
              generalize F r2 = p2 at c2 hv l2
              have w1 : IntKind.i64.wrap x1 = x1 := by rw [IntKind.wrap_i64]; omega
              have w2 : IntKind.i64.wrap x2 = x2 := by rw [IntKind.wrap_i64]; omega
              have NS : Hid (∀ v : Nat, v = g r0 → StInv w F g tBend (320 * X + 64 * Y + (Z + 1)) (wr.setCell ⟨w.heap.size + 1 + 1, r0, none⟩ (.int .i64 (v : Int)))) := fun v hv => by
                have := HS.out.set (s := r0) (v := v) (by rw [tBend_at X Y Z hX5 hY5 hZ5, er0]) hv (fun k hk => tBend_ne _ _ (by omega) hk)
                exact this
              clear er0 er1 er2 HS
              by_cases hp : p1 = 0
              · have hp' : (p1 : Int) = 0 := by omega
                rw [if_pos hp] at hv
                clear hp l1
                rw [hp'] at c1
                clear hp'
                obtain ⟨s, es⟩ : ∃ s : Nat, s = p0 + p2 := ⟨_, rfl⟩
                obtain ⟨v, ev⟩ : ∃ v : Nat, v = s % 2 := ⟨_, rfl⟩
                have HV : Hid (v = g r0) := by unfold Hid; rw [hv, ev, es]
                have s1 : (p0 : Int) + (p2 : Int) = (s : Int) := by omega
                have s2 : Int.tmod (s : Int) 2 = (v : Int) := by rw [Int.tmod_eq_emod_of_nonneg (by omega)]; omega
                have w4 : IntKind.i64.wrap (s : Int) = (s : Int) := by rw [IntKind.wrap_i64]; omega
                have w5 : IntKind.i64.wrap (v : Int) = (v : Int) := by rw [IntKind.wrap_i64]; omega
                clear hv l0 l2 es ev
                go_upto_region 12 with (go_at_call 26; refine (A0.out _).mono ?_; rintro e w' ⟨rfl, hw⟩; (have hw2 := hw.symm); clear hw; subst hw2)
                go_upto_region 13 with (go_at_call 26; refine (A1.out _).mono ?_; rintro e w' ⟨rfl, hw⟩; (have hw2 := hw.symm); clear hw; subst hw2)
                go_upto_region 14 with (go_at_call 26; refine (A2.out _).mono ?_; rintro e w' ⟨rfl, hw⟩; (have hw2 := hw.symm); clear hw; subst hw2)
                go_wp2_with (go_at_call 26; refine (A0.out _).mono ?_; rintro e w' ⟨rfl, hw⟩; (have hw2 := hw.symm); clear hw; subst hw2)
                go_roundw
                case rel => exact ⟨Z + 1, by omega, by go_num, NS.out v HV.out⟩
                case measure => simp [intOf]; omega
              · have hp' : ¬ ((p1 : Int) = 0) := by omega
                rw [if_neg hp] at hv
                clear hp l1
                obtain ⟨v, ev⟩ : ∃ v : Nat, v = p0 % 2 := ⟨_, rfl⟩
                have HV : Hid (v = g r0) := by unfold Hid; rw [hv, ev]
                have s2 : Int.tmod (p0 : Int) 2 = (v : Int) := by rw [Int.tmod_eq_emod_of_nonneg (by omega)]; omega
                have w5 : IntKind.i64.wrap (v : Int) = (v : Int) := by rw [IntKind.wrap_i64]; omega
                clear hv l0 l2 ev
                go_upto_region 12 with (go_at_call 26; refine (A0.out _).mono ?_; rintro e w' ⟨rfl, hw⟩; (have hw2 := hw.symm); clear hw; subst hw2)
                go_upto_region 14 with (go_at_call 26; refine (A1.out _).mono ?_; rintro e w' ⟨rfl, hw⟩; (have hw2 := hw.symm); clear hw; subst hw2)
                go_wp2_with (go_at_call 26; refine (A0.out _).mono ?_; rintro e w' ⟨rfl, hw⟩; (have hw2 := hw.symm); clear hw; subst hw2)
                go_roundw
                case rel => exact ⟨Z + 1, by omega, by go_num, NS.out v HV.out⟩
                case measure => simp [intOf]; omega
            · obtain rfl : Z = 64 := by omega
              have NS : Hid (StInv w F g tBend (320 * X + 64 * (Y + 1)) wr) := HS.out
              clear HS
              go_wp2
              go_roundw
              case rel => exact ⟨Y + 1, by omega, by go_num, NS.out⟩
              case measure => simp [intOf]; omega
        · obtain rfl : Y = 5 := by omega
          have NS : Hid (StInv w F g tBend (320 * (X + 1)) wr) := HS.out
          clear HS
          go_wp2
          go_roundw
          case rel => exact ⟨X + 1, by omega, by go_num, NS.out⟩
          case measure => simp [intOf]; omega
    · obtain rfl : X = 5 := by omega
      obtain ⟨R2, R1, R3, B3⟩ := StInv.fin HS.out tBend_all
      have HR2 : Hid _ := R2
      have HR1 : Hid _ := R1
      have HR3 : Hid _ := R3
      have HB3 : Hid _ := B3
      clear R2 R1 R3 B3 HS
      go_wp2_with (first
        | refine loadSt g (w.heap.size + 1 + 1) rfl _ rfl rfl HR2.out ?_
        | refine storeSt g (w.heap.size + 1) rfl _ _ rfl rfl rfl (RowI.there HR1.out) ?_)
      refine bodyPost_ret (v := .agg (intsD g 1600).toArray) ?_ rfl ⟨rfl, HB3.out⟩
      exact results_cell Tryd.results21 _ _ _ ⟨w.heap.size + 1, 0, none⟩ rfl (loadVarSt HR3.out)
end Go.Proofs.YtbjijbgjnammhaaDoor
