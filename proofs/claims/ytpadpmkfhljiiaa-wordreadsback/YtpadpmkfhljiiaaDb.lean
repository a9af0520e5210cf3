/- bits.Div64. -/
import Derived.Test.YtpadpmkfhljiiaaDd
import Derived.Test.YtpadpmkfhljiiaaXi
import Derived.Deep.DeepCutAuto
import Derived.Deep.CutBlock
import Derived.Deep.QuietTactic
import Derived.BigQuiet
namespace Go.Proofs.Ytpadpmkfhljiiaa
open Go.RowKit
set_option maxHeartbeats 1000000 in
set_option maxRecDepth 100000 in
theorem div64_is (hi lo y N Z : Nat) (hy : y < 18446744073709551616) (hh : hi < y) (hl : lo < 18446744073709551616) (hN : N = (hi * 18446744073709551616 + lo) / y) (hZ : Z = (hi * 18446744073709551616 + lo) % y) (w : World) : Calls Try.prog 141 #[.int .u64 (hi : Int), .int .u64 (lo : Int), .int .u64 (y : Int)] w fun e w' => e = .returned (.tuple #[.int .u64 (N : Int), .int .u64 (Z : Int)]) ∧ Below w.heap.size w w' := by
  have NZ : Hid (N = (hi * 18446744073709551616 + lo) / y ∧ Z = (hi * 18446744073709551616 + lo) % y) := ⟨hN, hZ⟩
  clear hN hZ
  have y0 : ¬ (y : Int) = 0 := by omega
  have yh : (hi : Int) < (y : Int) := by omega
  by_cases hz : hi = 0
  · subst hz
    have e1 : N = lo / y := by rw [NZ.out.1, Nat.zero_mul, Nat.zero_add]
    have e2 : Z = lo % y := by rw [NZ.out.2, Nat.zero_mul, Nat.zero_add]
    have h1 : Int.tdiv (lo : Int) (y : Int) = (N : Int) := by rw [Int.tdiv_eq_ediv_of_nonneg (by omega), e1, Int.natCast_ediv]
    have h2 : Int.tmod (lo : Int) (y : Int) = (Z : Int) := by rw [Int.tmod_eq_emod_of_nonneg (by omega), e2, Int.natCast_emod]
    have w1 := wrap_nat N (by rw [e1]; exact Nat.lt_of_le_of_lt (Nat.div_le_self _ _) hl)
    have w2 := wrap_nat Z (by rw [e2]; exact Nat.lt_of_le_of_lt (Nat.mod_le _ _) hl)
    have yp : (0 : Int) < (y : Int) := by omega
    clear e1 e2 NZ yh
    show Calls _ _ #[.int .u64 (0 : Int), .int .u64 (lo : Int), .int .u64 (y : Int)] w _
    go_enter Try.func141, Try.ntmps141
    go_wp2
    go_quiet (fail)
    go_wp2
    go_ret2
    exact ⟨rfl, by first | exact bdrewN (Below.refl _ _) _ | exact Below.refl _ _⟩
  · have hz0 : ¬ (hi : Int) = 0 := by omega
    go_enter Try.func141, Try.ntmps141
    go_wp2_with fail
    refine (lz_any (y : Int) ⟨by omega, by unfold Bd; omega⟩ w).mono ?_
    rintro e v1 ⟨rfl, hw⟩
    have hw2 := hw.symm
    subst hw2
    rw [Int.toNat_natCast]
    obtain ⟨s, es⟩ : ∃ s : Nat, (64 : Int) - (Lib.bitLen y : Int) = (s : Int) := by
      have := (bitLen_range y hy (by omega)).2.2.2
      exact ⟨64 - Lib.bitLen y, by omega⟩
    rw [es]
    have s64 : s ≤ 63 := by
      have := (bitLen_range y hy (by omega)).1
      omega
    have sI : (s : Int) ≤ 63 := by omega
    have q4 : IntKind.u64.wrap (s : Int) = (s : Int) := by rw [IntKind.wrap_u64]; omega
    have q5 : min s 64 = s := by omega
    have hyn : y ≠ 0 := by omega
    have ny := norm_y y s hy hyn es
    obtain ⟨ys, eys⟩ : ∃ ys : Nat, ys = y * 2 ^ s := ⟨_, rfl⟩
    have r1 : IntKind.u64.wrap ((y : Int) * 2 ^ s) = (ys : Int) := by rw [shl_nat, wrap_nat _ ny.2, eys]
    rw [← eys] at ny
    obtain ⟨y1, ey1⟩ : ∃ y1 : Nat, y1 = ys / 4294967296 := ⟨_, rfl⟩
    have r2 : (ys : Int) / 4294967296 = (y1 : Int) := by omega
    obtain ⟨y0, ey0⟩ : ∃ y0 : Nat, y0 = ys % 4294967296 := ⟨_, rfl⟩
    have r3 : bits .and .u64 (ys : Int) 4294967295 = (y0 : Int) := by rw [and_low ys ny.2, ey0]
    have hhs : hi * 2 ^ s < 18446744073709551616 := Nat.lt_of_le_of_lt (Nat.mul_le_mul_right _ (Nat.le_of_lt hh)) (by rw [← eys]; exact ny.2)
    obtain ⟨u2, eu2⟩ : ∃ u2 : Nat, u2 = hi * 2 ^ s + lo / 2 ^ (64 - s) := ⟨_, rfl⟩
    have r4 : bits .or .u64 (IntKind.u64.wrap ((hi : Int) * 2 ^ s)) ((lo : Int) / 2 ^ (64 - s)) = (u2 : Int) := by rw [shl_nat, wrap_nat _ hhs, shr_nat, or_high hi lo s s64 hhs hl, eu2]
    obtain ⟨u10, eu10⟩ : ∃ u10 : Nat, u10 = lo * 2 ^ s % 18446744073709551616 := ⟨_, rfl⟩
    have r5 : IntKind.u64.wrap ((lo : Int) * 2 ^ s) = (u10 : Int) := by rw [shl_nat, wrap_mod, eu10]
    have u10b : u10 < 18446744073709551616 := by omega
    obtain ⟨u1, eu1⟩ : ∃ u1 : Nat, u1 = u10 / 4294967296 := ⟨_, rfl⟩
    have r6 : (u10 : Int) / 4294967296 = (u1 : Int) := by omega
    obtain ⟨u0, eu0⟩ : ∃ u0 : Nat, u0 = u10 % 4294967296 := ⟨_, rfl⟩
    have r7 : bits .and .u64 (u10 : Int) 4294967295 = (u0 : Int) := by rw [and_low u10 u10b, eu0]
    have YS : Hid (y1 * B32 + y0 = ys) := by unfold Hid B32; omega
    have U2 : Hid (u2 < ys) := by
      have h1 : lo / 2 ^ (64 - s) < 2 ^ s := by
        refine (Nat.div_lt_iff_lt_mul (Nat.two_pow_pos _)).2 ?_
        rw [← Nat.pow_add, show s + (64 - s) = 64 by omega]; exact hl
      have h2 : (hi + 1) * 2 ^ s ≤ y * 2 ^ s := Nat.mul_le_mul_right _ hh
      rw [Nat.add_mul, Nat.one_mul] at h2
      unfold Hid; omega
    have KY : Hid (Ky y1 y0 u2 u1) := ⟨by omega, by unfold B32; omega, by unfold B32; omega, by unfold B32; omega, by rw [YS.out]; exact U2.out⟩
    have y1n : ¬ (y1 : Int) = 0 := by omega
    obtain ⟨q, p, r, r8, r8b, r9, r10, kn⟩ := digit_facts KY.out
    have KN : Hid (Kn y1 y0 u2 u1 q r ∧ r < B32) := kn
    obtain ⟨Q1, eQ1⟩ : ∃ Q1 : Nat, Q1 = (u2 * B32 + u1) / (y1 * B32 + y0) := ⟨_, rfl⟩
    have EQ1 : Hid (Q1 = (u2 * B32 + u1) / (y1 * B32 + y0)) := eQ1
    have EYS : Hid (ys = y * 2 ^ s ∧ u2 = hi * 2 ^ s + lo / 2 ^ (64 - s) ∧ u10 = lo * 2 ^ s % 18446744073709551616 ∧ u1 = u10 / 4294967296 ∧ u0 = u10 % 4294967296 ∧ y1 = ys / 4294967296 ∧ y0 = ys % 4294967296) := ⟨eys, eu2, eu10, eu1, eu0, ey1, ey0⟩
    have NY : Hid (9223372036854775808 ≤ ys ∧ ys < 18446744073709551616 ∧ s ≤ 63 ∧ 0 < y) := ⟨ny.1, ny.2, s64, by omega⟩
    clear eQ1 kn eys eu2 eu10 eu1 eu0 ey1 ey0 ny hhs u10b hyn s64 hy hl hh es hz
    go_upto_block 0 with fail
    go_cut [15] (fun s15 wx => s15 = .int .u64 (Q1 : Int) ∧ wx = w)
    case first =>
      go_wp2
      go_loopw [15, 16] (fun sq sr wx => ∃ q r : Nat, sq = .int .u64 (q : Int) ∧ sr = .int .u64 (r : Int) ∧ (Kn y1 y0 u2 u1 q r ∧ r < B32) ∧ wx = w) (fun sq _ _ => (intOf sq).toNat)
      case atStart => exact ⟨q, r, rfl, rfl, KN.out, rfl⟩
      case round =>
        clear KN r8 r8b r9 r10
        obtain ⟨q, r, rfl, rfl, hK, rfl⟩ := hrel
        have KQ : Hid (Kn y1 y0 u2 u1 q r) := hK.1
        have rB : r < 4294967296 := hK.2
        have qle : q ≤ 4294967297 := hK.1.le
        clear hK
        by_cases hq5 : 4294967296 ≤ q
        · have qI : (4294967296 : Int) ≤ (q : Int) := by omega
          have DN : Hid (0 < q ∧ Kn y1 y0 u2 u1 (q - 1) (r + y1) ∧ q - 1 ≤ B32) := Kn.down KY.out KQ.out (Or.inl hq5)
          obtain ⟨q', eq'⟩ : ∃ q', q' + 1 = q := ⟨q - 1, by have := DN.out.1; omega⟩
          obtain ⟨r', er'⟩ : ∃ r', r + y1 = r' := ⟨_, rfl⟩
          have DK : Hid (Kn y1 y0 u2 u1 q' r' ∧ q' ≤ B32) := by
            have h := DN.out
            rw [er', show q - 1 = q' by omega] at h
            exact h.2
          have y1B : y1 < 4294967296 := KY.out.y1b
          have s1 : (q : Int) - 1 = (q' : Int) := by omega
          have s2 : (r : Int) + (y1 : Int) = (r' : Int) := by omega
          have s1w : IntKind.u64.wrap (q' : Int) = (q' : Int) := by rw [IntKind.wrap_u64]; omega
          have s2w : IntKind.u64.wrap (r' : Int) = (r' : Int) := by rw [IntKind.wrap_u64]; omega
          have EQ' : Hid (q' + 1 = q) := eq'
          clear DN eq' er'
          by_cases hr5 : 4294967296 ≤ r'
          · have rI : (4294967296 : Int) ≤ (r' : Int) := by omega
            have EE : Hid (q' = Q1) := by have h := Kn.leave KY.out DK.out.1 DK.out.2 hr5; rw [← EQ1.out] at h; exact h
            go_wp2
            go_meet
            case rel => exact ⟨by rw [EE.out], rfl⟩
          · have rI : decide ((4294967296 : Int) ≤ (r' : Int)) = false := decide_eq_false (by omega)
            have RB : Hid (r' < B32) := by unfold Hid B32; omega
            clear hr5 rB qle hq5 y1B
            go_wp2
            go_roundw
            case rel => exact ⟨q', r', rfl, rfl, ⟨DK.out.1, RB.out⟩, trivial⟩
            case measure => simp [intOf]; have := EQ'.out; omega
        · have qI : (q : Int) < 4294967296 := by omega
          obtain ⟨m, em⟩ : ∃ m : Nat, q * y0 = m := ⟨_, rfl⟩
          obtain ⟨l, el⟩ : ∃ l : Nat, 4294967296 * r + u1 = l := ⟨_, rfl⟩
          have y0B : y0 < 4294967296 := KY.out.y0b
          have u1B : u1 < 4294967296 := KY.out.u1b
          have mB : m < 18446744073709551616 := by
            have h1 : q * y0 ≤ q * 4294967296 := Nat.mul_le_mul_left _ (by omega)
            omega
          have m1 : (q : Int) * (y0 : Int) = (m : Int) := by rw [← em, Int.natCast_mul]
          have m2 : IntKind.u64.wrap (m : Int) = (m : Int) := by rw [IntKind.wrap_u64]; omega
          obtain ⟨l0, el0⟩ : ∃ l0 : Nat, 4294967296 * r = l0 := ⟨_, rfl⟩
          have l1 : (4294967296 : Int) * (r : Int) = (l0 : Int) := by omega
          have l2 : IntKind.u64.wrap (l0 : Int) = (l0 : Int) := by rw [IntKind.wrap_u64]; omega
          have l3 : (l0 : Int) + (u1 : Int) = (l : Int) := by omega
          have l4 : IntKind.u64.wrap (l : Int) = (l : Int) := by rw [IntKind.wrap_u64]; omega
          have EM : Hid (q * y0 = m ∧ B32 * r + u1 = l) := ⟨em, el⟩
          clear em el el0 mB
          by_cases hc5 : l < m
          · have lI : (l : Int) < (m : Int) := by omega
            have DN : Hid (0 < q ∧ Kn y1 y0 u2 u1 (q - 1) (r + y1) ∧ q - 1 ≤ B32) := Kn.down KY.out KQ.out (Or.inr (by rw [EM.out.1, EM.out.2]; exact hc5))
            obtain ⟨q', eq'⟩ : ∃ q', q' + 1 = q := ⟨q - 1, by have := DN.out.1; omega⟩
            obtain ⟨r', er'⟩ : ∃ r', r + y1 = r' := ⟨_, rfl⟩
            have DK : Hid (Kn y1 y0 u2 u1 q' r' ∧ q' ≤ B32) := by
              have h := DN.out
              rw [er', show q - 1 = q' by omega] at h
              exact h.2
            have y1B : y1 < 4294967296 := KY.out.y1b
            have s1 : (q : Int) - 1 = (q' : Int) := by omega
            have s2 : (r : Int) + (y1 : Int) = (r' : Int) := by omega
            have s1w : IntKind.u64.wrap (q' : Int) = (q' : Int) := by rw [IntKind.wrap_u64]; omega
            have s2w : IntKind.u64.wrap (r' : Int) = (r' : Int) := by rw [IntKind.wrap_u64]; omega
            have EQ' : Hid (q' + 1 = q) := eq'
            clear DN eq' er'
            by_cases hr5 : 4294967296 ≤ r'
            · have rI : (4294967296 : Int) ≤ (r' : Int) := by omega
              have EE : Hid (q' = Q1) := by have h := Kn.leave KY.out DK.out.1 DK.out.2 hr5; rw [← EQ1.out] at h; exact h
              go_wp2
              go_meet
              case rel => exact ⟨by rw [EE.out], rfl⟩
            · have rI : decide ((4294967296 : Int) ≤ (r' : Int)) = false := decide_eq_false (by omega)
              have RB : Hid (r' < B32) := by unfold Hid B32; omega
              clear hr5 rB qle hq5 y1B
              go_wp2
              go_roundw
              case rel => exact ⟨q', r', rfl, rfl, ⟨DK.out.1, RB.out⟩, trivial⟩
              case measure => simp [intOf]; have := EQ'.out; omega
          · have lI : ¬ (l : Int) < (m : Int) := by omega
            have qD : ¬ (4294967296 : Int) ≤ (q : Int) := by omega
            have EE : Hid (q = Q1) := by have h := Kn.stop KY.out KQ.out (by rw [EM.out.1, EM.out.2]; omega); rw [← EQ1.out] at h; exact h
            clear hc5 hq5 rB qle y0B u1B qI sI q4 q5 y1n yh hz0
            go_wp2
            go_meet
            case rel => exact ⟨by rw [EE.out], rfl⟩
    case rest =>
      obtain ⟨rfl, hw3⟩ := hcut
      have hw4 := hw3.symm
      subst hw4
      obtain ⟨R1, eR1⟩ : ∃ R1 : Nat, R1 = (u2 * B32 + u1) % ys := ⟨_, rfl⟩
      have yp : 0 < ys := by have := NY.out; omega
      obtain ⟨c1, c2, c3, a1, a2, a3, a4⟩ := left_facts u2 u1 ys Q1 R1 yp NY.out.2.1 (by rw [EQ1.out, YS.out]) eR1
      have KZ : Hid (Ky y1 y0 R1 u0) := ⟨KY.out.y1a, KY.out.y1b, KY.out.y0b, by have := EYS.out; unfold B32; omega, by rw [YS.out, eR1]; exact Nat.mod_lt _ yp⟩
      have ER1 : Hid (R1 = (u2 * B32 + u1) % ys) := eR1
      have Q1B : Hid (Q1 < B32) := by rw [EQ1.out]; exact KY.out.lt
      obtain ⟨q2, p2, r2', t8, t8b, t9, t10, kn⟩ := digit_facts KZ.out
      have KM : Hid (Kn y1 y0 R1 u0 q2 r2' ∧ r2' < B32) := kn
      obtain ⟨Q0, eQ0⟩ : ∃ Q0 : Nat, Q0 = (R1 * B32 + u0) / (y1 * B32 + y0) := ⟨_, rfl⟩
      have EQ0 : Hid (Q0 = (R1 * B32 + u0) / (y1 * B32 + y0)) := eQ0
      clear kn eQ0 eR1 yp r8 r8b r9 r10 KN
      go_upto_block 2 with fail
      go_cut [18] (fun s18 wx => s18 = .int .u64 (Q0 : Int) ∧ wx = w)
      case first =>
        go_wp2
        go_loopw [18, 16] (fun sq sr wx => ∃ q r : Nat, sq = .int .u64 (q : Int) ∧ sr = .int .u64 (r : Int) ∧ (Kn y1 y0 R1 u0 q r ∧ r < B32) ∧ wx = w) (fun sq _ _ => (intOf sq).toNat)
        case atStart => exact ⟨q2, r2', rfl, rfl, KM.out, rfl⟩
        case round =>
          clear KM t8 t8b t9 t10
          obtain ⟨q, r, rfl, rfl, hK, rfl⟩ := hrel
          have KQ : Hid (Kn y1 y0 R1 u0 q r) := hK.1
          have rB : r < 4294967296 := hK.2
          have qle : q ≤ 4294967297 := hK.1.le
          clear hK
          by_cases hq5 : 4294967296 ≤ q
          · have qI : (4294967296 : Int) ≤ (q : Int) := by omega
            have DN : Hid (0 < q ∧ Kn y1 y0 R1 u0 (q - 1) (r + y1) ∧ q - 1 ≤ B32) := Kn.down KZ.out KQ.out (Or.inl hq5)
            obtain ⟨q', eq'⟩ : ∃ q', q' + 1 = q := ⟨q - 1, by have := DN.out.1; omega⟩
            obtain ⟨r', er'⟩ : ∃ r', r + y1 = r' := ⟨_, rfl⟩
            have DK : Hid (Kn y1 y0 R1 u0 q' r' ∧ q' ≤ B32) := by
              have h := DN.out
              rw [er', show q - 1 = q' by omega] at h
              exact h.2
            have y1B : y1 < 4294967296 := KZ.out.y1b
            have s1 : (q : Int) - 1 = (q' : Int) := by omega
            have s2 : (r : Int) + (y1 : Int) = (r' : Int) := by omega
            have s1w : IntKind.u64.wrap (q' : Int) = (q' : Int) := by rw [IntKind.wrap_u64]; omega
            have s2w : IntKind.u64.wrap (r' : Int) = (r' : Int) := by rw [IntKind.wrap_u64]; omega
            have EQ' : Hid (q' + 1 = q) := eq'
            clear DN eq' er'
            by_cases hr5 : 4294967296 ≤ r'
            · have rI : (4294967296 : Int) ≤ (r' : Int) := by omega
              have EE : Hid (q' = Q0) := by have h := Kn.leave KZ.out DK.out.1 DK.out.2 hr5; rw [← EQ0.out] at h; exact h
              go_wp2
              go_meet
              case rel => exact ⟨by rw [EE.out], rfl⟩
            · have rI : decide ((4294967296 : Int) ≤ (r' : Int)) = false := decide_eq_false (by omega)
              have RB : Hid (r' < B32) := by unfold Hid B32; omega
              clear hr5 rB qle hq5 y1B
              go_wp2
              go_roundw
              case rel => exact ⟨q', r', rfl, rfl, ⟨DK.out.1, RB.out⟩, trivial⟩
              case measure => simp [intOf]; have := EQ'.out; omega
          · have qI : (q : Int) < 4294967296 := by omega
            obtain ⟨m, em⟩ : ∃ m : Nat, q * y0 = m := ⟨_, rfl⟩
            obtain ⟨l, el⟩ : ∃ l : Nat, 4294967296 * r + u0 = l := ⟨_, rfl⟩
            have y0B : y0 < 4294967296 := KZ.out.y0b
            have u0B : u0 < 4294967296 := KZ.out.u1b
            have mB : m < 18446744073709551616 := by
              have h1 : q * y0 ≤ q * 4294967296 := Nat.mul_le_mul_left _ (by omega)
              omega
            have m1 : (q : Int) * (y0 : Int) = (m : Int) := by rw [← em, Int.natCast_mul]
            have m2 : IntKind.u64.wrap (m : Int) = (m : Int) := by rw [IntKind.wrap_u64]; omega
            obtain ⟨l0, el0⟩ : ∃ l0 : Nat, 4294967296 * r = l0 := ⟨_, rfl⟩
            have l1 : (4294967296 : Int) * (r : Int) = (l0 : Int) := by omega
            have l2 : IntKind.u64.wrap (l0 : Int) = (l0 : Int) := by rw [IntKind.wrap_u64]; omega
            have l3 : (l0 : Int) + (u0 : Int) = (l : Int) := by omega
            have l4 : IntKind.u64.wrap (l : Int) = (l : Int) := by rw [IntKind.wrap_u64]; omega
            have EM : Hid (q * y0 = m ∧ B32 * r + u0 = l) := ⟨em, el⟩
            clear em el el0 mB
            by_cases hc5 : l < m
            · have lI : (l : Int) < (m : Int) := by omega
              have DN : Hid (0 < q ∧ Kn y1 y0 R1 u0 (q - 1) (r + y1) ∧ q - 1 ≤ B32) := Kn.down KZ.out KQ.out (Or.inr (by rw [EM.out.1, EM.out.2]; exact hc5))
              obtain ⟨q', eq'⟩ : ∃ q', q' + 1 = q := ⟨q - 1, by have := DN.out.1; omega⟩
              obtain ⟨r', er'⟩ : ∃ r', r + y1 = r' := ⟨_, rfl⟩
              have DK : Hid (Kn y1 y0 R1 u0 q' r' ∧ q' ≤ B32) := by
                have h := DN.out
                rw [er', show q - 1 = q' by omega] at h
                exact h.2
              have y1B : y1 < 4294967296 := KZ.out.y1b
              have s1 : (q : Int) - 1 = (q' : Int) := by omega
              have s2 : (r : Int) + (y1 : Int) = (r' : Int) := by omega
              have s1w : IntKind.u64.wrap (q' : Int) = (q' : Int) := by rw [IntKind.wrap_u64]; omega
              have s2w : IntKind.u64.wrap (r' : Int) = (r' : Int) := by rw [IntKind.wrap_u64]; omega
              have EQ' : Hid (q' + 1 = q) := eq'
              clear DN eq' er'
              by_cases hr5 : 4294967296 ≤ r'
              · have rI : (4294967296 : Int) ≤ (r' : Int) := by omega
                have EE : Hid (q' = Q0) := by have h := Kn.leave KZ.out DK.out.1 DK.out.2 hr5; rw [← EQ0.out] at h; exact h
                go_wp2
                go_meet
                case rel => exact ⟨by rw [EE.out], rfl⟩
              · have rI : decide ((4294967296 : Int) ≤ (r' : Int)) = false := decide_eq_false (by omega)
                have RB : Hid (r' < B32) := by unfold Hid B32; omega
                clear hr5 rB qle hq5 y1B
                go_wp2
                go_roundw
                case rel => exact ⟨q', r', rfl, rfl, ⟨DK.out.1, RB.out⟩, trivial⟩
                case measure => simp [intOf]; have := EQ'.out; omega
            · have lI : ¬ (l : Int) < (m : Int) := by omega
              have qD : ¬ (4294967296 : Int) ≤ (q : Int) := by omega
              have EE : Hid (q = Q0) := by have h := Kn.stop KZ.out KQ.out (by rw [EM.out.1, EM.out.2]; omega); rw [← EQ0.out] at h; exact h
              clear hc5 hq5 rB qle y0B u0B qI sI q4 q5 y1n yh hz0
              go_wp2
              go_meet
              case rel => exact ⟨by rw [EE.out], rfl⟩
      case rest =>
        obtain ⟨rfl, hw5⟩ := hcut
        have hw6 := hw5.symm
        subst hw6
        obtain ⟨R0, eR0⟩ : ∃ R0 : Nat, R0 = (R1 * B32 + u0) % ys := ⟨_, rfl⟩
        have yp : 0 < ys := by have := NY.out; omega
        obtain ⟨d1, d2, d3, b1, b2, b3, b4⟩ := left_facts R1 u0 ys Q0 R0 yp NY.out.2.1 (by rw [EQ0.out, YS.out]) eR0
        have Q0B : Hid (Q0 < B32) := by rw [EQ0.out]; exact KZ.out.lt
        have EN : Hid (Q1 * B32 + Q0 = (hi * 18446744073709551616 + lo) / y ∧ R0 / 2 ^ s = (hi * 18446744073709551616 + lo) % y) := by
          obtain ⟨e1, e2, e3, e4, e5, e6, e7⟩ := EYS.out
          obtain ⟨n1, n2, n3, n4⟩ := NY.out
          refine end_facts hi lo y s u2 u10 Q1 R1 Q0 R0 n3 n4 e2 e3 ?_ ?_ ?_ ?_
          · rw [← e4, ← e1, ← YS.out]; exact EQ1.out
          · rw [← e4, ← e1]; exact ER1.out
          · rw [← e5, ← e1, ← YS.out]; exact EQ0.out
          · rw [← e5, ← e1]; exact eR0
        obtain ⟨m9, em9⟩ : ∃ m9 : Nat, Q1 * 4294967296 = m9 := ⟨_, rfl⟩
        obtain ⟨n9, en9⟩ : ∃ n9 : Nat, m9 + Q0 = n9 := ⟨_, rfl⟩
        have k1 : (Q1 : Int) * 4294967296 = (m9 : Int) := by omega
        have k2 : IntKind.u64.wrap (m9 : Int) = (m9 : Int) := wrap_nat _ (by have h := Q1B.out; unfold B32 at h; omega)
        have k3 : (m9 : Int) + (Q0 : Int) = (n9 : Int) := by omega
        have k4 : IntKind.u64.wrap (n9 : Int) = (n9 : Int) := wrap_nat _ (by have h := Q1B.out; have h2 := Q0B.out; unfold B32 at h h2; omega)
        obtain ⟨z9, ez9⟩ : ∃ z9 : Nat, z9 = R0 / 2 ^ s := ⟨_, rfl⟩
        have k5 : (R0 : Int) / 2 ^ s = (z9 : Int) := by rw [shr_nat, ez9]
        have EV : Hid (n9 = (hi * 18446744073709551616 + lo) / y ∧ z9 = (hi * 18446744073709551616 + lo) % y) := ⟨by rw [← EN.out.1, ← en9, ← em9]; rfl, by rw [ez9, EN.out.2]⟩
        clear eR0 yp em9 en9 ez9 EN t8 t8b t9 t10 KM
        go_wp2
        have f1 : n9 = N := by rw [NZ.out.1]; exact EV.out.1
        have f2 : z9 = Z := by rw [NZ.out.2]; exact EV.out.2
        go_ret2
        exact ⟨by rw [← f1, ← f2]; rfl, Below.refl _ _⟩
end Go.Proofs.Ytpadpmkfhljiiaa
