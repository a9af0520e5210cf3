/- The document's 'mixed'. -/
import Derived.Test.YtbjijbgjnammhaaDoorVc
import Derived.Test.YtbjijbgjnammhaaDoorVo
import Derived.Deep.RegionHeld3
import Derived.Deep.CutRange
import Derived.Deep.DeepCutAuto
import Derived.BigRegion
import Derived.LoopTactic
namespace Go.Proofs.YtbjijbgjnammhaaDoor
open Go.RowKit
set_option maxHeartbeats 4000000 in
set_option maxRecDepth 100000 in
theorem mixed_is (f : KSt) (w : World) : Calls Tryd.prog 19 #[.agg (intsD (bs f) 1600).toArray] w fun e w' => e = .returned (.agg (intsD (bs (mixF f)) 1600).toArray) ∧ Below w.heap.size w w' := by
  obtain ⟨cs, hcs⟩ : ∃ cs, cs = (intsD (bs f) 1600).toArray := ⟨_, rfl⟩
  rw [← hcs]
  obtain ⟨F, eF⟩ : ∃ F, F = bs f := ⟨_, rfl⟩
  obtain ⟨g, eg⟩ : ∃ g, g = bs (mixF f) := ⟨_, rfl⟩
  rw [← eF] at hcs
  rw [← eg]
  have FLE : Hid (∀ i, F i ≤ 1) := by intro i; rw [eF]; exact bs_le f i
  obtain ⟨m, em⟩ : ∃ m, m = mixN f := ⟨_, rfl⟩
  have M0 : Hid (∀ x z, m x z 0 = 0) := by intro x z; rw [em]; rfl
  have MS : Hid (∀ x z k, m x z (k + 1) = m x z k + F (64 * ((x + 4) % 5 + 5 * k) + z) + F (64 * ((x + 1) % 5 + 5 * k) + (z + 63) % 64)) := by intro x z k; rw [em, eF]; rfl
  have ML : Hid (∀ x z k, m x z k ≤ 2 * k) := by intro x z k; rw [em]; exact mixN_le f x z k
  have MG : Hid (∀ x y z, x < 5 → z < 64 → g (64 * (x + 5 * y) + z) = (F (64 * (x + 5 * y) + z) + m x z 5) % 2) := by intro x y z hx hz; rw [em, eF, eg]; exact mix_bit f x y z hx hz
  have HC : Hid (cs = (intsD F 1600).toArray) := hcs
  clear hcs eF eg em
  go_enter Tryd.func19, Tryd.ntmps19
  go_upto_region 1 with (refine allocSt rfl rfl ?_; intro W1 hW1)
  go_upto_region 2 with (refine allocSt rfl rfl ?_; intro W2 hW2)
  have S0 : Hid (StInv w F g tMix 0 W2) := StInv.start HC.out g tMix hW1 hW2
  have z1 : (w.alloc (.cells cs 47)).heap.size = w.heap.size + 1 := by simp
  have z2 : W1.heap.size = w.heap.size + 1 + 1 := by rw [hW1.siz, z1]
  rw [z1, z2]
  clear HC hW1 hW2 z1 z2
  go_wp2
  go_loopw [4] (fun s wr => ∃ X : Nat, X ≤ 5 ∧ s = .int .i64 (X : Int) ∧ StInv w F g tMix (320 * X) wr) (fun s _ => 5 - (intOf s).toNat)
  case atStart => exact ⟨0, Nat.zero_le _, rfl, S0.out⟩
  case round =>
    obtain ⟨X, hX, rfl, hS⟩ := hrel
    have HS : Hid (StInv w F g tMix (320 * X) wr) := hS
    clear hS S0
    by_cases hX5 : X < 5
    · have XI : (X : Int) < 5 := by omega
      clear hX
      go_wp2
      go_loopw [5] (fun s wz => ∃ Z : Nat, Z ≤ 64 ∧ s = .int .i64 (Z : Int) ∧ StInv w F g tMix (320 * X + 5 * Z) wz) (fun s _ => 64 - (intOf s).toNat)
      case atStart => exact ⟨0, Nat.zero_le _, rfl, HS.out⟩
      case round =>
        clear HS
        obtain ⟨Z, hZ, rfl, hS⟩ := hrel
        have HS : Hid (StInv w F g tMix (320 * X + 5 * Z) wr) := hS
        clear hS
        by_cases hZ5 : Z < 64
        · have ZI : (Z : Int) < 64 := by omega
          clear hZ
          go_wp2
          go_loopw [6, 7] (fun n s wy => ∃ Y : Nat, Y ≤ 5 ∧ s = .int .i64 (Y : Int) ∧ n = .int .i64 (m X Z Y : Int) ∧ StInv w F g tMix (320 * X + 5 * Z) wy) (fun _ s _ => 5 - (intOf s).toNat)
          case atStart => exact ⟨0, Nat.zero_le _, rfl, by rw [M0.out]; rfl, HS.out⟩
          case round =>
            clear HS
            obtain ⟨Y, hY, rfl, rfl, hS⟩ := hrel
            have HS : Hid (StInv w F g tMix (320 * X + 5 * Z) wr) := hS
            clear hS
            by_cases hY5 : Y < 5
            · have YI : (Y : Int) < 5 := by omega
              clear hY
              obtain ⟨x1, e1⟩ : ∃ x : Int, (X : Int) - 1 = x := ⟨_, rfl⟩
              obtain ⟨x2, e2⟩ : ∃ x : Int, (X : Int) + 1 = x := ⟨_, rfl⟩
              obtain ⟨z1, e3⟩ : ∃ x : Int, (Z : Int) - 1 = x := ⟨_, rfl⟩
              obtain ⟨r1, er1⟩ : ∃ r : Nat, r = 64 * ((X + 4) % 5 + 5 * Y) + Z := ⟨_, rfl⟩
              obtain ⟨r2, er2⟩ : ∃ r : Nat, r = 64 * ((X + 1) % 5 + 5 * Y) + (Z + 63) % 64 := ⟨_, rfl⟩
              have A1 : Hid (∀ V, Calls Tryd.prog 26 #[.int .i64 x1, .int .i64 (Y : Int), .int .i64 (Z : Int)] V fun e w' => e = .returned (.int .i64 (r1 : Int)) ∧ w' = V) := fun V => at_is x1 Y Z r1 V (by omega) (by omega) (by omega) (by omega) (by omega) (by omega) (by omega)
              have A2 : Hid (∀ V, Calls Tryd.prog 26 #[.int .i64 x2, .int .i64 (Y : Int), .int .i64 z1] V fun e w' => e = .returned (.int .i64 (r2 : Int)) ∧ w' = V) := fun V => at_is x2 Y z1 r2 V (by omega) (by omega) (by omega) (by omega) (by omega) (by omega) (by omega)
              have b1 : r1 < 1600 := by omega
              have b2 : r2 < 1600 := by omega
              have i1 : (r1 : Int) < 1600 := by omega
              have i2 : (r2 : Int) < 1600 := by omega
              have w1 : IntKind.i64.wrap x1 = x1 := by rw [IntKind.wrap_i64]; omega
              have w2 : IntKind.i64.wrap x2 = x2 := by rw [IntKind.wrap_i64]; omega
              have w3 : IntKind.i64.wrap z1 = z1 := by rw [IntKind.wrap_i64]; omega
              have c1 := StInv.cell HS.out r1 b1
              have c2 := StInv.cell HS.out r2 b2
              have hm := MS.out X Z Y
              rw [← er1, ← er2] at hm
              have l1 := FLE.out r1
              have l2 := FLE.out r2
              have l3 := ML.out X Z Y
              generalize F r1 = p1 at c1 hm l1
              generalize F r2 = p2 at c2 hm l2
              generalize m X Z Y = n at hm l3 ⊢
              obtain ⟨q, eq⟩ : ∃ q : Nat, q = n + p1 := ⟨_, rfl⟩
              obtain ⟨nn, en⟩ : ∃ nn : Nat, nn = q + p2 := ⟨_, rfl⟩
              have HM : Hid (m X Z (Y + 1) = nn) := by unfold Hid; rw [hm, en, eq]
              have s1 : (n : Int) + (p1 : Int) = (q : Int) := by omega
              have s2 : (q : Int) + (p2 : Int) = (nn : Int) := by omega
              have w4 : IntKind.i64.wrap (q : Int) = (q : Int) := by rw [IntKind.wrap_i64]; omega
              have w5 : IntKind.i64.wrap (nn : Int) = (nn : Int) := by rw [IntKind.wrap_i64]; omega
              clear er1 er2 hm l1 l2 l3 eq en
              go_wp2
              refine wp_region_held_drew (S := fun V' => StInv w F g tMix (320 * X + 5 * Z) V' ∧ V'.cell? ⟨w.heap.size, r1, none⟩ = some (.int .i64 (p1 : Int)) ∧ V'.cell? ⟨w.heap.size, r2, none⟩ = some (.int .i64 (p2 : Int))) (by kernel_rfl) ⟨HS.out.drew, c1, c2⟩ (fun hHeld => ?_)
              generalize wr.drew = z0 at hHeld ⊢
              clear c1 c2 HS
              refine wpAnyH_take (i := 0) (v := .int .i64 (n : Int)) ov0 (by kernel_rfl) (by kernel_rfl) (by kernel_rfl) (fun _ _ _ h => h) (Or.inl ⟨by rfl, fun V' hS => ?_⟩) hHeld ?_
              · go_simp
              simp only [Act.put, List.setIfInBounds_toArray, List.set_cons_zero, List.set_cons_succ]
              refine wpAnyH_take (i := 1) (v := .int .i64 (X : Int)) ov1 (by kernel_rfl) (by kernel_rfl) (by kernel_rfl) (fun _ _ _ h => h) (Or.inl ⟨by rfl, fun V' hS => ?_⟩) hHeld ?_
              · go_simp
              simp only [Act.put, List.setIfInBounds_toArray, List.set_cons_zero, List.set_cons_succ]
              refine wpAnyH_take (i := 2) (v := .int .i64 x1) ov2 (by kernel_rfl) (by kernel_rfl) (by kernel_rfl) (fun _ _ _ h => h) (Or.inl ⟨by rfl, fun V' hS => ?_⟩) hHeld ?_
              · go_simp
              simp only [Act.put, List.setIfInBounds_toArray, List.set_cons_zero, List.set_cons_succ]
              refine wpAnyH_take (i := 3) (v := .int .i64 (Y : Int)) ov3 (by kernel_rfl) (by kernel_rfl) (by kernel_rfl) (fun _ _ _ h => h) (Or.inl ⟨by rfl, fun V' hS => ?_⟩) hHeld ?_
              · go_simp
              simp only [Act.put, List.setIfInBounds_toArray, List.set_cons_zero, List.set_cons_succ]
              refine wpAnyH_take (i := 4) (v := .int .i64 (Z : Int)) ov4 (by kernel_rfl) (by kernel_rfl) (by kernel_rfl) (fun _ _ _ h => h) (Or.inl ⟨by rfl, fun V' hS => ?_⟩) hHeld ?_
              · go_simp
              simp only [Act.put, List.setIfInBounds_toArray, List.set_cons_zero, List.set_cons_succ]
              refine wpAnyH_take (i := 6) (v := .pointer (some ⟨w.heap.size, 0, none⟩)) ov6 (by kernel_rfl) (by kernel_rfl) (by kernel_rfl) (fun _ _ _ h => h) (Or.inl ⟨by rfl, fun V' hS => ?_⟩) hHeld ?_
              · go_simp
              simp only [Act.put, List.setIfInBounds_toArray, List.set_cons_zero, List.set_cons_succ]
              refine wpAnyH_take (i := 10) (v := .int .i64 (X : Int)) ov10 (by kernel_rfl) (by kernel_rfl) (by kernel_rfl) (fun _ _ _ h => h) (Or.inl ⟨by rfl, fun V' hS => ?_⟩) hHeld ?_
              · go_simp
              simp only [Act.put, List.setIfInBounds_toArray, List.set_cons_zero, List.set_cons_succ]
              refine wpAnyH_take (i := 11) (v := .int .i64 x2) ov11 (by kernel_rfl) (by kernel_rfl) (by kernel_rfl) (fun _ _ _ h => h) (Or.inl ⟨by rfl, fun V' hS => ?_⟩) hHeld ?_
              · go_simp
              simp only [Act.put, List.setIfInBounds_toArray, List.set_cons_zero, List.set_cons_succ]
              refine wpAnyH_take (i := 12) (v := .int .i64 (Y : Int)) ov12 (by kernel_rfl) (by kernel_rfl) (by kernel_rfl) (fun _ _ _ h => h) (Or.inl ⟨by rfl, fun V' hS => ?_⟩) hHeld ?_
              · go_simp
              simp only [Act.put, List.setIfInBounds_toArray, List.set_cons_zero, List.set_cons_succ]
              refine wpAnyH_take (i := 13) (v := .int .i64 (Z : Int)) ov13 (by kernel_rfl) (by kernel_rfl) (by kernel_rfl) (fun _ _ _ h => h) (Or.inl ⟨by rfl, fun V' hS => ?_⟩) hHeld ?_
              · go_simp
              simp only [Act.put, List.setIfInBounds_toArray, List.set_cons_zero, List.set_cons_succ]
              refine wpAnyH_take (i := 14) (v := .int .i64 z1) ov14 (by kernel_rfl) (by kernel_rfl) (by kernel_rfl) (fun _ _ _ h => h) (Or.inl ⟨by rfl, fun V' hS => ?_⟩) hHeld ?_
              · go_simp
              simp only [Act.put, List.setIfInBounds_toArray, List.set_cons_zero, List.set_cons_succ]
              refine wpAnyH_take (i := 16) (v := .pointer (some ⟨w.heap.size, 0, none⟩)) ov16 (by kernel_rfl) (by kernel_rfl) (by kernel_rfl) (fun _ _ _ h => h) (Or.inl ⟨by rfl, fun V' hS => ?_⟩) hHeld ?_
              · go_simp
              simp only [Act.put, List.setIfInBounds_toArray, List.set_cons_zero, List.set_cons_succ]
              refine wpAnyH_ready (rs := [5]) (by kernel_rfl) (by simp) ?_
              refine AllReadyH.cons ov5 (fun K hK => ?_) AllReadyH.nil
              rw [if_pos (by rfl)]
              go_simp
              refine (A1.out _).mono ?_
              rintro e w' ⟨rfl, hw⟩
              have hw2 := hw.symm
              clear hw
              subst hw2
              (try go_wp2_with fail)
              refine hK.out _ _ hHeld (fun _ => ?_)
              clear hK K
              (try simp only [Act.put, List.setIfInBounds_toArray, List.set_cons_zero, List.set_cons_succ])
              refine wpAnyH_take (i := 7) (v := .pointer (some ⟨w.heap.size, r1, none⟩)) ov7 (by kernel_rfl) (by kernel_rfl) (by kernel_rfl) (fun _ _ _ h => h) (Or.inl ⟨by rfl, fun V' hS => ?_⟩) hHeld ?_
              · go_simp
              simp only [Act.put, List.setIfInBounds_toArray, List.set_cons_zero, List.set_cons_succ]
              refine wpAnyH_take (i := 8) (v := .int .i64 (p1 : Int)) ov8 (by kernel_rfl) (by kernel_rfl) (by kernel_rfl) (fun _ _ _ h => h) (Or.inl ⟨by rfl, fun V' hS => ?_⟩) hHeld ?_
              · have k1 := hS.2.1
                go_simp
              simp only [Act.put, List.setIfInBounds_toArray, List.set_cons_zero, List.set_cons_succ]
              refine wpAnyH_take (i := 9) (v := .int .i64 (q : Int)) ov9 (by kernel_rfl) (by kernel_rfl) (by kernel_rfl) (fun _ _ _ h => h) (Or.inl ⟨by rfl, fun V' hS => ?_⟩) hHeld ?_
              · go_simp
              simp only [Act.put, List.setIfInBounds_toArray, List.set_cons_zero, List.set_cons_succ]
              refine wpAnyH_ready (rs := [15]) (by kernel_rfl) (by simp) ?_
              refine AllReadyH.cons ov15 (fun K hK => ?_) AllReadyH.nil
              rw [if_pos (by rfl)]
              go_simp
              refine (A2.out _).mono ?_
              rintro e w' ⟨rfl, hw⟩
              have hw2 := hw.symm
              clear hw
              subst hw2
              (try go_wp2_with fail)
              refine hK.out _ _ hHeld (fun _ => ?_)
              clear hK K
              (try simp only [Act.put, List.setIfInBounds_toArray, List.set_cons_zero, List.set_cons_succ])
              refine wpAnyH_take (i := 17) (v := .pointer (some ⟨w.heap.size, r2, none⟩)) ov17 (by kernel_rfl) (by kernel_rfl) (by kernel_rfl) (fun _ _ _ h => h) (Or.inl ⟨by rfl, fun V' hS => ?_⟩) hHeld ?_
              · go_simp
              simp only [Act.put, List.setIfInBounds_toArray, List.set_cons_zero, List.set_cons_succ]
              refine wpAnyH_take (i := 18) (v := .int .i64 (p2 : Int)) ov18 (by kernel_rfl) (by kernel_rfl) (by kernel_rfl) (fun _ _ _ h => h) (Or.inl ⟨by rfl, fun V' hS => ?_⟩) hHeld ?_
              · have k1 := hS.2.2
                go_simp
              simp only [Act.put, List.setIfInBounds_toArray, List.set_cons_zero, List.set_cons_succ]
              refine wpAnyH_take (i := 19) (v := .int .i64 (nn : Int)) ov19 (by kernel_rfl) (by kernel_rfl) (by kernel_rfl) (fun _ _ _ h => h) (Or.inl ⟨by rfl, fun V' hS => ?_⟩) hHeld ?_
              · go_simp
              simp only [Act.put, List.setIfInBounds_toArray, List.set_cons_zero, List.set_cons_succ]
              refine wpAnyH_take (i := 20) (v := .int .i64 (nn : Int)) ov20 (by kernel_rfl) (by kernel_rfl) (by kernel_rfl) (fun _ _ _ h => h) (Or.inl ⟨by rfl, fun V' hS => ?_⟩) hHeld ?_
              · go_simp
              simp only [Act.put, List.setIfInBounds_toArray, List.set_cons_zero, List.set_cons_succ]
              refine wpAnyH_done (by kernel_rfl) ?_ _
              go_wp2
              go_roundw
              case rel => exact ⟨Y + 1, by omega, by go_num, by rw [HM.out], hHeld.1⟩
              case measure => simp [intOf]; omega
            · obtain rfl : Y = 5 := by omega
              have hg := fun Y => MG.out X Y Z hX5 hZ5
              have l3 := ML.out X Z 5
              generalize m X Z 5 = N at hg l3 ⊢
              have HG : Hid _ := hg
              have HL : Hid _ := l3
              clear hg l3 hY hY5
              rw [show ((5 : Nat) : Int) = 5 from rfl]
              go_wp2
              go_loopw [8] (fun s wy => ∃ Y : Nat, Y ≤ 5 ∧ s = .int .i64 (Y : Int) ∧ StInv w F g tMix (320 * X + 5 * Z + Y) wy) (fun s _ => 5 - (intOf s).toNat)
              case atStart => exact ⟨0, Nat.zero_le _, rfl, HS.out⟩
              case round =>
                clear HS
                obtain ⟨Y, hY, rfl, hS⟩ := hrel
                have HS : Hid (StInv w F g tMix (320 * X + 5 * Z + Y) wr) := hS
                clear hS
                by_cases hY5 : Y < 5
                · have YI : (Y : Int) < 5 := by omega
                  clear hY
                  obtain ⟨r, er⟩ : ∃ r : Nat, r = 64 * (X + 5 * Y) + Z := ⟨_, rfl⟩
                  have A1 : Hid (∀ V, Calls Tryd.prog 26 #[.int .i64 (X : Int), .int .i64 (Y : Int), .int .i64 (Z : Int)] V fun e w' => e = .returned (.int .i64 (r : Int)) ∧ w' = V) := fun V => at_is X Y Z r V (by omega) (by omega) (by omega) (by omega) (by omega) (by omega) (by omega)
                  have b1 : r < 1600 := by omega
                  have i1 : (r : Int) < 1600 := by omega
                  have c1 := StInv.cell HS.out r b1
                  obtain ⟨zz, c2, f2⟩ := StInv.room HS.out r b1
                  have hv := HG.out Y
                  rw [← er] at hv
                  have l1 := FLE.out r
                  have l2 := HL.out
                  generalize F r = p at c1 hv l1
                  obtain ⟨s, es⟩ : ∃ s : Nat, s = p + N := ⟨_, rfl⟩
                  obtain ⟨v, ev⟩ : ∃ v : Nat, v = s % 2 := ⟨_, rfl⟩
                  have NS : Hid (StInv w F g tMix (320 * X + 5 * Z + (Y + 1)) (wr.setCell ⟨w.heap.size + 1 + 1, r, none⟩ (.int .i64 (v : Int)))) := by
                    have := HS.out.set (s := r) (v := v) (by rw [tMix_at X Y Z hX5 hY5 hZ5, er]) (by rw [hv, ev, es]) (fun k hk => tMix_ne _ _ (by omega) hk)
                    exact this
                  have s1 : (p : Int) + (N : Int) = (s : Int) := by omega
                  have s2 : Int.tmod (s : Int) 2 = (v : Int) := by rw [Int.tmod_eq_emod_of_nonneg (by omega)]; omega
                  have w4 : IntKind.i64.wrap (s : Int) = (s : Int) := by rw [IntKind.wrap_i64]; omega
                  have w5 : IntKind.i64.wrap (v : Int) = (v : Int) := by rw [IntKind.wrap_i64]; omega
                  clear hv l1 l2 es ev er HS
                  go_wp2_with (go_at_call 26; refine (A1.out _).mono ?_; rintro e w' ⟨rfl, hw⟩; (have hw2 := hw.symm); clear hw; subst hw2)
                  go_roundw
                  case rel => exact ⟨Y + 1, by omega, by go_num, NS.out⟩
                  case measure => simp [intOf]; omega
                · obtain rfl : Y = 5 := by omega
                  have NS : Hid (StInv w F g tMix (320 * X + 5 * (Z + 1)) wr) := HS.out
                  clear HS
                  go_wp2
                  go_roundw
                  case rel => exact ⟨Z + 1, by omega, by go_num, NS.out⟩
                  case measure => simp [intOf]; omega
        · obtain rfl : Z = 64 := by omega
          have NS : Hid (StInv w F g tMix (320 * (X + 1)) wr) := HS.out
          clear HS
          go_wp2
          go_roundw
          case rel => exact ⟨X + 1, by omega, by go_num, NS.out⟩
          case measure => simp [intOf]; omega
    · obtain rfl : X = 5 := by omega
      obtain ⟨R2, R1, R3, B3⟩ := StInv.fin HS.out tMix_all
      have HR2 : Hid _ := R2
      have HR1 : Hid _ := R1
      have HR3 : Hid _ := R3
      have HB3 : Hid _ := B3
      clear R2 R1 R3 B3 HS
      go_wp2_with (first
        | refine loadSt g (w.heap.size + 1 + 1) rfl _ rfl rfl HR2.out ?_
        | refine storeSt g (w.heap.size + 1) rfl _ _ rfl rfl rfl (RowI.there HR1.out) ?_)
      refine bodyPost_ret (v := .agg (intsD g 1600).toArray) ?_ rfl ⟨rfl, HB3.out⟩
      exact results_cell Tryd.results19 _ _ _ ⟨w.heap.size + 1, 0, none⟩ rfl (loadVarSt HR3.out)
end Go.Proofs.YtbjijbgjnammhaaDoor
