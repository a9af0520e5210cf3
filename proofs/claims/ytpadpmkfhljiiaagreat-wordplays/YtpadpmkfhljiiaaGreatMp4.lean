/- What bits.Div64 reckons around its loops, as rules for the walk. -/
import Derived.Test.YtpadpmkfhljiiaaGreatMp3
import Derived.Test.YtpadpmkfhljiiaaGreatMp2
import Derived.Deep.DeepCutAuto
import Derived.Deep.CutBlock
import Derived.Deep.QuietTactic
import Derived.BigQuiet
import Derived.Deep.CutRange
import Derived.LoopTactic
import Derived.Deep.RegionHeld3
import Derived.Test.YtpadpmkfhljiiaaGreatMp1
import Derived.Laws.BitsAllLaws
import Derived.WalkMore
namespace Go.Proofs.YtpadpmkfhljiiaaGreat
open Go.RowKit
theorem wrap_nat (n : Nat) (h : n < 18446744073709551616) : IntKind.u64.wrap (n : Int) = (n : Int) := by rw [IntKind.wrap_u64]; omega
theorem shl_nat (a s : Nat) : (a : Int) * 2 ^ s = ((a * 2 ^ s : Nat) : Int) := by rw [Int.natCast_mul, Int.natCast_pow]; rfl
theorem shr_nat (a k : Nat) : (a : Int) / 2 ^ k = ((a / 2 ^ k : Nat) : Int) := by rw [Int.natCast_ediv, Int.natCast_pow]; rfl
theorem wrap_mod (n : Nat) : IntKind.u64.wrap (n : Int) = ((n % 18446744073709551616 : Nat) : Int) := by rw [IntKind.wrap_u64]; omega
theorem digit_facts {y1 y0 u2 u1 : Nat} (k : Ky y1 y0 u2 u1) : ∃ q p r : Nat, Int.tdiv (u2 : Int) (y1 : Int) = (q : Int) ∧ IntKind.u64.wrap (q : Int) = (q : Int) ∧ IntKind.u64.wrap ((q : Int) * (y1 : Int)) = (p : Int) ∧ IntKind.u64.wrap ((u2 : Int) - (p : Int)) = (r : Int) ∧ Kn y1 y0 u2 u1 q r ∧ r < B32 := by
  have hf := Kn.first k
  have h1 := hf.le
  have h2 := k.y1a
  have h3 := k.y1b
  have h4 := k.y0b
  have h5 := k.u2b
  have hu : u2 < 18446744073709551616 := by
    have : y1 * B32 ≤ 4294967295 * B32 := Nat.mul_le_mul_right _ (by unfold B32 at h3; omega)
    unfold B32 at *; omega
  have he := Nat.div_add_mod u2 y1
  have hm : u2 % y1 < y1 := Nat.mod_lt _ (by omega)
  refine ⟨u2 / y1, u2 / y1 * y1, u2 % y1, ?_, ?_, ?_, ?_, hf, by omega⟩
  · rw [Int.tdiv_eq_ediv_of_nonneg (by omega), Int.natCast_ediv]
  · exact wrap_nat _ (by unfold B32 at h1; omega)
  · rw [← Int.natCast_mul]; exact wrap_nat _ (by rw [Nat.mul_comm]; omega)
  · rw [Nat.mul_comm] at he
    have : ((u2 : Int) - ((u2 / y1 * y1 : Nat) : Int)) = ((u2 % y1 : Nat) : Int) := by omega
    rw [this]; exact wrap_nat _ (by omega)
theorem left_facts (u2 u1 ys Q R : Nat) (hy : 0 < ys) (hy2 : ys < 18446744073709551616) (hQ : Q = (u2 * B32 + u1) / ys) (hR : R = (u2 * B32 + u1) % ys) : ∃ c1 c2 c3 : Nat, IntKind.u64.wrap ((u2 : Int) * 4294967296) = (c1 : Int) ∧ IntKind.u64.wrap ((c1 : Int) + (u1 : Int)) = (c2 : Int) ∧ IntKind.u64.wrap ((Q : Int) * (ys : Int)) = (c3 : Int) ∧ IntKind.u64.wrap ((c2 : Int) - (c3 : Int)) = (R : Int) := by
  have e := Nat.div_add_mod (u2 * B32 + u1) ys
  rw [← hQ, ← hR, Nat.mul_comm] at e
  have hR2 : R < ys := by rw [hR]; exact Nat.mod_lt _ hy
  unfold B32 at e
  refine ⟨u2 * 4294967296 % 18446744073709551616, (u2 * 4294967296 % 18446744073709551616 + u1) % 18446744073709551616, Q * ys % 18446744073709551616, ?_, ?_, ?_, ?_⟩
  · rw [IntKind.wrap_u64]; omega
  · rw [IntKind.wrap_u64]; omega
  · rw [← Int.natCast_mul]; exact wrap_mod _
  · rw [IntKind.wrap_u64]
    generalize Q * ys = n at e ⊢
    omega
theorem whole_num (hi lo s u2 u10 : Nat) (hs : s ≤ 63) (h2 : u2 = hi * 2 ^ s + lo / 2 ^ (64 - s)) (h1 : u10 = lo * 2 ^ s % 18446744073709551616) : (u2 * B32 + u10 / 4294967296) * B32 + u10 % 4294967296 = (hi * 18446744073709551616 + lo) * 2 ^ s := by
  have e1 : lo * 2 ^ s / 18446744073709551616 = lo / 2 ^ (64 - s) := by
    have : (18446744073709551616 : Nat) = 2 ^ (64 - s) * 2 ^ s := by rw [← Nat.pow_add, show 64 - s + s = 64 by omega]
    rw [this, Nat.mul_div_mul_right _ _ (Nat.two_pow_pos s)]
  have e2 := Nat.div_add_mod (lo * 2 ^ s) 18446744073709551616
  rw [e1, ← h1] at e2
  rw [Nat.add_mul (hi * 18446744073709551616) lo, ← e2]
  have e3 : hi * 18446744073709551616 * 2 ^ s = hi * 2 ^ s * 18446744073709551616 := by rw [Nat.mul_assoc, Nat.mul_comm 18446744073709551616, ← Nat.mul_assoc]
  rw [e3, h2]
  generalize hi * 2 ^ s = a
  generalize lo / 2 ^ (64 - s) = b
  unfold B32
  omega
theorem end_facts (hi lo y s u2 u10 Q1 R1 Q0 R0 : Nat) (hs : s ≤ 63) (hy : 0 < y) (h2 : u2 = hi * 2 ^ s + lo / 2 ^ (64 - s)) (h1 : u10 = lo * 2 ^ s % 18446744073709551616)
    (hQ1 : Q1 = (u2 * B32 + u10 / 4294967296) / (y * 2 ^ s)) (hR1 : R1 = (u2 * B32 + u10 / 4294967296) % (y * 2 ^ s)) (hQ0 : Q0 = (R1 * B32 + u10 % 4294967296) / (y * 2 ^ s)) (hR0 : R0 = (R1 * B32 + u10 % 4294967296) % (y * 2 ^ s)) :
    Q1 * B32 + Q0 = (hi * 18446744073709551616 + lo) / y ∧ R0 / 2 ^ s = (hi * 18446744073709551616 + lo) % y := by
  have hp := Nat.two_pow_pos s
  have hd := two_digits u2 (u10 / 4294967296) (u10 % 4294967296) (y * 2 ^ s) (Nat.mul_pos hy hp)
  rw [whole_num hi lo s u2 u10 hs h2 h1, ← hQ1, ← hR1, ← hQ0, ← hR0, Nat.mul_div_mul_right _ _ hp, Nat.mul_mod_mul_right] at hd
  refine ⟨hd.1.symm, ?_⟩
  rw [← hd.2, Nat.mul_div_cancel _ hp]
end Go.Proofs.YtpadpmkfhljiiaaGreat
/- bits.Div64. -/
namespace Go.Proofs.YtpadpmkfhljiiaaGreat
open Go.RowKit
set_option maxHeartbeats 1000000 in
set_option maxRecDepth 100000 in
theorem div64_is (hi lo y N Z : Nat) (hy : y < 18446744073709551616) (hh : hi < y) (hl : lo < 18446744073709551616) (hN : N = (hi * 18446744073709551616 + lo) / y) (hZ : Z = (hi * 18446744073709551616 + lo) % y) (w : World) : Calls Tryz.prog 177 #[.int .u64 (hi : Int), .int .u64 (lo : Int), .int .u64 (y : Int)] w fun e w' => e = .returned (.tuple #[.int .u64 (N : Int), .int .u64 (Z : Int)]) ∧ Below w.heap.size w w' := by
  have NZ : Hid (N = (hi * 18446744073709551616 + lo) / y ∧ Z = (hi * 18446744073709551616 + lo) % y) := ⟨hN, hZ⟩
  clear hN hZ
  have y0 : ¬ (y : Int) = 0 := by omega
  have yh : (hi : Int) < (y : Int) := by omega
  by_cases hz : hi = 0
  · subst hz
    have e1 : N = lo / y := by rw [NZ.out.1, Nat.zero_mul, Nat.zero_add]
    have e2 : Z = lo % y := by rw [NZ.out.2, Nat.zero_mul, Nat.zero_add]
    have h1 : Int.tdiv (lo : Int) (y : Int) = (N : Int) := by rw [Int.tdiv_eq_ediv_of_nonneg (by omega), e1, Int.natCast_ediv]
    have h2 : Int.tmod (lo : Int) (y : Int) = (Z : Int) := by rw [Int.tmod_eq_emod_of_nonneg (by omega), e2, Int.natCast_emod]
    have w1 := wrap_nat N (by rw [e1]; exact Nat.lt_of_le_of_lt (Nat.div_le_self _ _) hl)
    have w2 := wrap_nat Z (by rw [e2]; exact Nat.lt_of_le_of_lt (Nat.mod_le _ _) hl)
    have yp : (0 : Int) < (y : Int) := by omega
    clear e1 e2 NZ yh
    show Calls _ _ #[.int .u64 (0 : Int), .int .u64 (lo : Int), .int .u64 (y : Int)] w _
    go_enter Tryz.func177, Tryz.ntmps177
    go_wp2
    go_quiet (fail)
    go_wp2
    go_ret2
    exact ⟨rfl, by first | exact bdrewN (Below.refl _ _) _ | exact Below.refl _ _⟩
  · have hz0 : ¬ (hi : Int) = 0 := by omega
    go_enter Tryz.func177, Tryz.ntmps177
    go_wp2_with fail
    refine (lz_any (y : Int) ⟨by omega, by unfold Bd; omega⟩ w).mono ?_
    rintro e v1 ⟨rfl, hw⟩
    have hw2 := hw.symm
    subst hw2
    rw [Int.toNat_natCast]
    obtain ⟨s, es⟩ : ∃ s : Nat, (64 : Int) - (Lib.bitLen y : Int) = (s : Int) := by
      have := (bitLen_range y hy (by omega)).2.2.2
      exact ⟨64 - Lib.bitLen y, by omega⟩
    rw [es]
    have s64 : s ≤ 63 := by
      have := (bitLen_range y hy (by omega)).1
      omega
    have sI : (s : Int) ≤ 63 := by omega
    have q4 : IntKind.u64.wrap (s : Int) = (s : Int) := by rw [IntKind.wrap_u64]; omega
    have q5 : min s 64 = s := by omega
    have hyn : y ≠ 0 := by omega
    have ny := norm_y y s hy hyn es
    obtain ⟨ys, eys⟩ : ∃ ys : Nat, ys = y * 2 ^ s := ⟨_, rfl⟩
    have r1 : IntKind.u64.wrap ((y : Int) * 2 ^ s) = (ys : Int) := by rw [shl_nat, wrap_nat _ ny.2, eys]
    rw [← eys] at ny
    obtain ⟨y1, ey1⟩ : ∃ y1 : Nat, y1 = ys / 4294967296 := ⟨_, rfl⟩
    have r2 : (ys : Int) / 4294967296 = (y1 : Int) := by omega
    obtain ⟨y0, ey0⟩ : ∃ y0 : Nat, y0 = ys % 4294967296 := ⟨_, rfl⟩
    have r3 : bits .and .u64 (ys : Int) 4294967295 = (y0 : Int) := by rw [and_low ys ny.2, ey0]
    have hhs : hi * 2 ^ s < 18446744073709551616 := Nat.lt_of_le_of_lt (Nat.mul_le_mul_right _ (Nat.le_of_lt hh)) (by rw [← eys]; exact ny.2)
    obtain ⟨u2, eu2⟩ : ∃ u2 : Nat, u2 = hi * 2 ^ s + lo / 2 ^ (64 - s) := ⟨_, rfl⟩
    have r4 : bits .or .u64 (IntKind.u64.wrap ((hi : Int) * 2 ^ s)) ((lo : Int) / 2 ^ (64 - s)) = (u2 : Int) := by rw [shl_nat, wrap_nat _ hhs, shr_nat, or_high hi lo s s64 hhs hl, eu2]
    obtain ⟨u10, eu10⟩ : ∃ u10 : Nat, u10 = lo * 2 ^ s % 18446744073709551616 := ⟨_, rfl⟩
    have r5 : IntKind.u64.wrap ((lo : Int) * 2 ^ s) = (u10 : Int) := by rw [shl_nat, wrap_mod, eu10]
    have u10b : u10 < 18446744073709551616 := by omega
    obtain ⟨u1, eu1⟩ : ∃ u1 : Nat, u1 = u10 / 4294967296 := ⟨_, rfl⟩
    have r6 : (u10 : Int) / 4294967296 = (u1 : Int) := by omega
    obtain ⟨u0, eu0⟩ : ∃ u0 : Nat, u0 = u10 % 4294967296 := ⟨_, rfl⟩
    have r7 : bits .and .u64 (u10 : Int) 4294967295 = (u0 : Int) := by rw [and_low u10 u10b, eu0]
    have YS : Hid (y1 * B32 + y0 = ys) := by unfold Hid B32; omega
    have U2 : Hid (u2 < ys) := by
      have h1 : lo / 2 ^ (64 - s) < 2 ^ s := by
        refine (Nat.div_lt_iff_lt_mul (Nat.two_pow_pos _)).2 ?_
        rw [← Nat.pow_add, show s + (64 - s) = 64 by omega]; exact hl
      have h2 : (hi + 1) * 2 ^ s ≤ y * 2 ^ s := Nat.mul_le_mul_right _ hh
      rw [Nat.add_mul, Nat.one_mul] at h2
      unfold Hid; omega
    have KY : Hid (Ky y1 y0 u2 u1) := ⟨by omega, by unfold B32; omega, by unfold B32; omega, by unfold B32; omega, by rw [YS.out]; exact U2.out⟩
    have y1n : ¬ (y1 : Int) = 0 := by omega
    obtain ⟨q, p, r, r8, r8b, r9, r10, kn⟩ := digit_facts KY.out
    have KN : Hid (Kn y1 y0 u2 u1 q r ∧ r < B32) := kn
    obtain ⟨Q1, eQ1⟩ : ∃ Q1 : Nat, Q1 = (u2 * B32 + u1) / (y1 * B32 + y0) := ⟨_, rfl⟩
    have EQ1 : Hid (Q1 = (u2 * B32 + u1) / (y1 * B32 + y0)) := eQ1
    have EYS : Hid (ys = y * 2 ^ s ∧ u2 = hi * 2 ^ s + lo / 2 ^ (64 - s) ∧ u10 = lo * 2 ^ s % 18446744073709551616 ∧ u1 = u10 / 4294967296 ∧ u0 = u10 % 4294967296 ∧ y1 = ys / 4294967296 ∧ y0 = ys % 4294967296) := ⟨eys, eu2, eu10, eu1, eu0, ey1, ey0⟩
    have NY : Hid (9223372036854775808 ≤ ys ∧ ys < 18446744073709551616 ∧ s ≤ 63 ∧ 0 < y) := ⟨ny.1, ny.2, s64, by omega⟩
    clear eQ1 kn eys eu2 eu10 eu1 eu0 ey1 ey0 ny hhs u10b hyn s64 hy hl hh es hz
    go_upto_block 0 with fail
    go_cut [15] (fun s15 wx => s15 = .int .u64 (Q1 : Int) ∧ wx = w)
    case first =>
      go_wp2
      go_loopw [15, 16] (fun sq sr wx => ∃ q r : Nat, sq = .int .u64 (q : Int) ∧ sr = .int .u64 (r : Int) ∧ (Kn y1 y0 u2 u1 q r ∧ r < B32) ∧ wx = w) (fun sq _ _ => (intOf sq).toNat)
      case atStart => exact ⟨q, r, rfl, rfl, KN.out, rfl⟩
      case round =>
        clear KN r8 r8b r9 r10
        obtain ⟨q, r, rfl, rfl, hK, rfl⟩ := hrel
        have KQ : Hid (Kn y1 y0 u2 u1 q r) := hK.1
        have rB : r < 4294967296 := hK.2
        have qle : q ≤ 4294967297 := hK.1.le
        clear hK
        by_cases hq5 : 4294967296 ≤ q
        · have qI : (4294967296 : Int) ≤ (q : Int) := by omega
          have DN : Hid (0 < q ∧ Kn y1 y0 u2 u1 (q - 1) (r + y1) ∧ q - 1 ≤ B32) := Kn.down KY.out KQ.out (Or.inl hq5)
          obtain ⟨q', eq'⟩ : ∃ q', q' + 1 = q := ⟨q - 1, by have := DN.out.1; omega⟩
          obtain ⟨r', er'⟩ : ∃ r', r + y1 = r' := ⟨_, rfl⟩
          have DK : Hid (Kn y1 y0 u2 u1 q' r' ∧ q' ≤ B32) := by
            have h := DN.out
            rw [er', show q - 1 = q' by omega] at h
            exact h.2
          have y1B : y1 < 4294967296 := KY.out.y1b
          have s1 : (q : Int) - 1 = (q' : Int) := by omega
          have s2 : (r : Int) + (y1 : Int) = (r' : Int) := by omega
          have s1w : IntKind.u64.wrap (q' : Int) = (q' : Int) := by rw [IntKind.wrap_u64]; omega
          have s2w : IntKind.u64.wrap (r' : Int) = (r' : Int) := by rw [IntKind.wrap_u64]; omega
          have EQ' : Hid (q' + 1 = q) := eq'
          clear DN eq' er'
          by_cases hr5 : 4294967296 ≤ r'
          · have rI : (4294967296 : Int) ≤ (r' : Int) := by omega
            have EE : Hid (q' = Q1) := by have h := Kn.leave KY.out DK.out.1 DK.out.2 hr5; rw [← EQ1.out] at h; exact h
            go_wp2
            go_meet
            case rel => exact ⟨by rw [EE.out], rfl⟩
          · have rI : decide ((4294967296 : Int) ≤ (r' : Int)) = false := decide_eq_false (by omega)
            have RB : Hid (r' < B32) := by unfold Hid B32; omega
            clear hr5 rB qle hq5 y1B
            go_wp2
            go_roundw
            case rel => exact ⟨q', r', rfl, rfl, ⟨DK.out.1, RB.out⟩, trivial⟩
            case measure => simp [intOf]; have := EQ'.out; omega
        · have qI : (q : Int) < 4294967296 := by omega
          obtain ⟨m, em⟩ : ∃ m : Nat, q * y0 = m := ⟨_, rfl⟩
          obtain ⟨l, el⟩ : ∃ l : Nat, 4294967296 * r + u1 = l := ⟨_, rfl⟩
          have y0B : y0 < 4294967296 := KY.out.y0b
          have u1B : u1 < 4294967296 := KY.out.u1b
          have mB : m < 18446744073709551616 := by
            have h1 : q * y0 ≤ q * 4294967296 := Nat.mul_le_mul_left _ (by omega)
            omega
          have m1 : (q : Int) * (y0 : Int) = (m : Int) := by rw [← em, Int.natCast_mul]
          have m2 : IntKind.u64.wrap (m : Int) = (m : Int) := by rw [IntKind.wrap_u64]; omega
          obtain ⟨l0, el0⟩ : ∃ l0 : Nat, 4294967296 * r = l0 := ⟨_, rfl⟩
          have l1 : (4294967296 : Int) * (r : Int) = (l0 : Int) := by omega
          have l2 : IntKind.u64.wrap (l0 : Int) = (l0 : Int) := by rw [IntKind.wrap_u64]; omega
          have l3 : (l0 : Int) + (u1 : Int) = (l : Int) := by omega
          have l4 : IntKind.u64.wrap (l : Int) = (l : Int) := by rw [IntKind.wrap_u64]; omega
          have EM : Hid (q * y0 = m ∧ B32 * r + u1 = l) := ⟨em, el⟩
          clear em el el0 mB
          by_cases hc5 : l < m
          · have lI : (l : Int) < (m : Int) := by omega
            have DN : Hid (0 < q ∧ Kn y1 y0 u2 u1 (q - 1) (r + y1) ∧ q - 1 ≤ B32) := Kn.down KY.out KQ.out (Or.inr (by rw [EM.out.1, EM.out.2]; exact hc5))
            obtain ⟨q', eq'⟩ : ∃ q', q' + 1 = q := ⟨q - 1, by have := DN.out.1; omega⟩
            obtain ⟨r', er'⟩ : ∃ r', r + y1 = r' := ⟨_, rfl⟩
            have DK : Hid (Kn y1 y0 u2 u1 q' r' ∧ q' ≤ B32) := by
              have h := DN.out
              rw [er', show q - 1 = q' by omega] at h
              exact h.2
            have y1B : y1 < 4294967296 := KY.out.y1b
            have s1 : (q : Int) - 1 = (q' : Int) := by omega
            have s2 : (r : Int) + (y1 : Int) = (r' : Int) := by omega
            have s1w : IntKind.u64.wrap (q' : Int) = (q' : Int) := by rw [IntKind.wrap_u64]; omega
            have s2w : IntKind.u64.wrap (r' : Int) = (r' : Int) := by rw [IntKind.wrap_u64]; omega
            have EQ' : Hid (q' + 1 = q) := eq'
            clear DN eq' er'
            by_cases hr5 : 4294967296 ≤ r'
            · have rI : (4294967296 : Int) ≤ (r' : Int) := by omega
              have EE : Hid (q' = Q1) := by have h := Kn.leave KY.out DK.out.1 DK.out.2 hr5; rw [← EQ1.out] at h; exact h
              go_wp2
              go_meet
              case rel => exact ⟨by rw [EE.out], rfl⟩
            · have rI : decide ((4294967296 : Int) ≤ (r' : Int)) = false := decide_eq_false (by omega)
              have RB : Hid (r' < B32) := by unfold Hid B32; omega
              clear hr5 rB qle hq5 y1B
              go_wp2
              go_roundw
              case rel => exact ⟨q', r', rfl, rfl, ⟨DK.out.1, RB.out⟩, trivial⟩
              case measure => simp [intOf]; have := EQ'.out; omega
          · have lI : ¬ (l : Int) < (m : Int) := by omega
            have qD : ¬ (4294967296 : Int) ≤ (q : Int) := by omega
            have EE : Hid (q = Q1) := by have h := Kn.stop KY.out KQ.out (by rw [EM.out.1, EM.out.2]; omega); rw [← EQ1.out] at h; exact h
            clear hc5 hq5 rB qle y0B u1B qI sI q4 q5 y1n yh hz0
            go_wp2
            go_meet
            case rel => exact ⟨by rw [EE.out], rfl⟩
    case rest =>
      obtain ⟨rfl, hw3⟩ := hcut
      have hw4 := hw3.symm
      subst hw4
      obtain ⟨R1, eR1⟩ : ∃ R1 : Nat, R1 = (u2 * B32 + u1) % ys := ⟨_, rfl⟩
      have yp : 0 < ys := by have := NY.out; omega
      obtain ⟨c1, c2, c3, a1, a2, a3, a4⟩ := left_facts u2 u1 ys Q1 R1 yp NY.out.2.1 (by rw [EQ1.out, YS.out]) eR1
      have KZ : Hid (Ky y1 y0 R1 u0) := ⟨KY.out.y1a, KY.out.y1b, KY.out.y0b, by have := EYS.out; unfold B32; omega, by rw [YS.out, eR1]; exact Nat.mod_lt _ yp⟩
      have ER1 : Hid (R1 = (u2 * B32 + u1) % ys) := eR1
      have Q1B : Hid (Q1 < B32) := by rw [EQ1.out]; exact KY.out.lt
      obtain ⟨q2, p2, r2', t8, t8b, t9, t10, kn⟩ := digit_facts KZ.out
      have KM : Hid (Kn y1 y0 R1 u0 q2 r2' ∧ r2' < B32) := kn
      obtain ⟨Q0, eQ0⟩ : ∃ Q0 : Nat, Q0 = (R1 * B32 + u0) / (y1 * B32 + y0) := ⟨_, rfl⟩
      have EQ0 : Hid (Q0 = (R1 * B32 + u0) / (y1 * B32 + y0)) := eQ0
      clear kn eQ0 eR1 yp r8 r8b r9 r10 KN
      go_upto_block 2 with fail
      go_cut [18] (fun s18 wx => s18 = .int .u64 (Q0 : Int) ∧ wx = w)
      case first =>
        go_wp2
        go_loopw [18, 16] (fun sq sr wx => ∃ q r : Nat, sq = .int .u64 (q : Int) ∧ sr = .int .u64 (r : Int) ∧ (Kn y1 y0 R1 u0 q r ∧ r < B32) ∧ wx = w) (fun sq _ _ => (intOf sq).toNat)
        case atStart => exact ⟨q2, r2', rfl, rfl, KM.out, rfl⟩
        case round =>
          clear KM t8 t8b t9 t10
          obtain ⟨q, r, rfl, rfl, hK, rfl⟩ := hrel
          have KQ : Hid (Kn y1 y0 R1 u0 q r) := hK.1
          have rB : r < 4294967296 := hK.2
          have qle : q ≤ 4294967297 := hK.1.le
          clear hK
          by_cases hq5 : 4294967296 ≤ q
          · have qI : (4294967296 : Int) ≤ (q : Int) := by omega
            have DN : Hid (0 < q ∧ Kn y1 y0 R1 u0 (q - 1) (r + y1) ∧ q - 1 ≤ B32) := Kn.down KZ.out KQ.out (Or.inl hq5)
            obtain ⟨q', eq'⟩ : ∃ q', q' + 1 = q := ⟨q - 1, by have := DN.out.1; omega⟩
            obtain ⟨r', er'⟩ : ∃ r', r + y1 = r' := ⟨_, rfl⟩
            have DK : Hid (Kn y1 y0 R1 u0 q' r' ∧ q' ≤ B32) := by
              have h := DN.out
              rw [er', show q - 1 = q' by omega] at h
              exact h.2
            have y1B : y1 < 4294967296 := KZ.out.y1b
            have s1 : (q : Int) - 1 = (q' : Int) := by omega
            have s2 : (r : Int) + (y1 : Int) = (r' : Int) := by omega
            have s1w : IntKind.u64.wrap (q' : Int) = (q' : Int) := by rw [IntKind.wrap_u64]; omega
            have s2w : IntKind.u64.wrap (r' : Int) = (r' : Int) := by rw [IntKind.wrap_u64]; omega
            have EQ' : Hid (q' + 1 = q) := eq'
            clear DN eq' er'
            by_cases hr5 : 4294967296 ≤ r'
            · have rI : (4294967296 : Int) ≤ (r' : Int) := by omega
              have EE : Hid (q' = Q0) := by have h := Kn.leave KZ.out DK.out.1 DK.out.2 hr5; rw [← EQ0.out] at h; exact h
              go_wp2
              go_meet
              case rel => exact ⟨by rw [EE.out], rfl⟩
            · have rI : decide ((4294967296 : Int) ≤ (r' : Int)) = false := decide_eq_false (by omega)
              have RB : Hid (r' < B32) := by unfold Hid B32; omega
              clear hr5 rB qle hq5 y1B
              go_wp2
              go_roundw
              case rel => exact ⟨q', r', rfl, rfl, ⟨DK.out.1, RB.out⟩, trivial⟩
              case measure => simp [intOf]; have := EQ'.out; omega
          · have qI : (q : Int) < 4294967296 := by omega
            obtain ⟨m, em⟩ : ∃ m : Nat, q * y0 = m := ⟨_, rfl⟩
            obtain ⟨l, el⟩ : ∃ l : Nat, 4294967296 * r + u0 = l := ⟨_, rfl⟩
            have y0B : y0 < 4294967296 := KZ.out.y0b
            have u0B : u0 < 4294967296 := KZ.out.u1b
            have mB : m < 18446744073709551616 := by
              have h1 : q * y0 ≤ q * 4294967296 := Nat.mul_le_mul_left _ (by omega)
              omega
            have m1 : (q : Int) * (y0 : Int) = (m : Int) := by rw [← em, Int.natCast_mul]
            have m2 : IntKind.u64.wrap (m : Int) = (m : Int) := by rw [IntKind.wrap_u64]; omega
            obtain ⟨l0, el0⟩ : ∃ l0 : Nat, 4294967296 * r = l0 := ⟨_, rfl⟩
            have l1 : (4294967296 : Int) * (r : Int) = (l0 : Int) := by omega
            have l2 : IntKind.u64.wrap (l0 : Int) = (l0 : Int) := by rw [IntKind.wrap_u64]; omega
            have l3 : (l0 : Int) + (u0 : Int) = (l : Int) := by omega
            have l4 : IntKind.u64.wrap (l : Int) = (l : Int) := by rw [IntKind.wrap_u64]; omega
            have EM : Hid (q * y0 = m ∧ B32 * r + u0 = l) := ⟨em, el⟩
            clear em el el0 mB
            by_cases hc5 : l < m
            · have lI : (l : Int) < (m : Int) := by omega
              have DN : Hid (0 < q ∧ Kn y1 y0 R1 u0 (q - 1) (r + y1) ∧ q - 1 ≤ B32) := Kn.down KZ.out KQ.out (Or.inr (by rw [EM.out.1, EM.out.2]; exact hc5))
              obtain ⟨q', eq'⟩ : ∃ q', q' + 1 = q := ⟨q - 1, by have := DN.out.1; omega⟩
              obtain ⟨r', er'⟩ : ∃ r', r + y1 = r' := ⟨_, rfl⟩
              have DK : Hid (Kn y1 y0 R1 u0 q' r' ∧ q' ≤ B32) := by
                have h := DN.out
                rw [er', show q - 1 = q' by omega] at h
                exact h.2
              have y1B : y1 < 4294967296 := KZ.out.y1b
              have s1 : (q : Int) - 1 = (q' : Int) := by omega
              have s2 : (r : Int) + (y1 : Int) = (r' : Int) := by omega
              have s1w : IntKind.u64.wrap (q' : Int) = (q' : Int) := by rw [IntKind.wrap_u64]; omega
              have s2w : IntKind.u64.wrap (r' : Int) = (r' : Int) := by rw [IntKind.wrap_u64]; omega
              have EQ' : Hid (q' + 1 = q) := eq'
              clear DN eq' er'
              by_cases hr5 : 4294967296 ≤ r'
              · have rI : (4294967296 : Int) ≤ (r' : Int) := by omega
                have EE : Hid (q' = Q0) := by have h := Kn.leave KZ.out DK.out.1 DK.out.2 hr5; rw [← EQ0.out] at h; exact h
                go_wp2
                go_meet
                case rel => exact ⟨by rw [EE.out], rfl⟩
              · have rI : decide ((4294967296 : Int) ≤ (r' : Int)) = false := decide_eq_false (by omega)
                have RB : Hid (r' < B32) := by unfold Hid B32; omega
                clear hr5 rB qle hq5 y1B
                go_wp2
                go_roundw
                case rel => exact ⟨q', r', rfl, rfl, ⟨DK.out.1, RB.out⟩, trivial⟩
                case measure => simp [intOf]; have := EQ'.out; omega
            · have lI : ¬ (l : Int) < (m : Int) := by omega
              have qD : ¬ (4294967296 : Int) ≤ (q : Int) := by omega
              have EE : Hid (q = Q0) := by have h := Kn.stop KZ.out KQ.out (by rw [EM.out.1, EM.out.2]; omega); rw [← EQ0.out] at h; exact h
              clear hc5 hq5 rB qle y0B u0B qI sI q4 q5 y1n yh hz0
              go_wp2
              go_meet
              case rel => exact ⟨by rw [EE.out], rfl⟩
      case rest =>
        obtain ⟨rfl, hw5⟩ := hcut
        have hw6 := hw5.symm
        subst hw6
        obtain ⟨R0, eR0⟩ : ∃ R0 : Nat, R0 = (R1 * B32 + u0) % ys := ⟨_, rfl⟩
        have yp : 0 < ys := by have := NY.out; omega
        obtain ⟨d1, d2, d3, b1, b2, b3, b4⟩ := left_facts R1 u0 ys Q0 R0 yp NY.out.2.1 (by rw [EQ0.out, YS.out]) eR0
        have Q0B : Hid (Q0 < B32) := by rw [EQ0.out]; exact KZ.out.lt
        have EN : Hid (Q1 * B32 + Q0 = (hi * 18446744073709551616 + lo) / y ∧ R0 / 2 ^ s = (hi * 18446744073709551616 + lo) % y) := by
          obtain ⟨e1, e2, e3, e4, e5, e6, e7⟩ := EYS.out
          obtain ⟨n1, n2, n3, n4⟩ := NY.out
          refine end_facts hi lo y s u2 u10 Q1 R1 Q0 R0 n3 n4 e2 e3 ?_ ?_ ?_ ?_
          · rw [← e4, ← e1, ← YS.out]; exact EQ1.out
          · rw [← e4, ← e1]; exact ER1.out
          · rw [← e5, ← e1, ← YS.out]; exact EQ0.out
          · rw [← e5, ← e1]; exact eR0
        obtain ⟨m9, em9⟩ : ∃ m9 : Nat, Q1 * 4294967296 = m9 := ⟨_, rfl⟩
        obtain ⟨n9, en9⟩ : ∃ n9 : Nat, m9 + Q0 = n9 := ⟨_, rfl⟩
        have k1 : (Q1 : Int) * 4294967296 = (m9 : Int) := by omega
        have k2 : IntKind.u64.wrap (m9 : Int) = (m9 : Int) := wrap_nat _ (by have h := Q1B.out; unfold B32 at h; omega)
        have k3 : (m9 : Int) + (Q0 : Int) = (n9 : Int) := by omega
        have k4 : IntKind.u64.wrap (n9 : Int) = (n9 : Int) := wrap_nat _ (by have h := Q1B.out; have h2 := Q0B.out; unfold B32 at h h2; omega)
        obtain ⟨z9, ez9⟩ : ∃ z9 : Nat, z9 = R0 / 2 ^ s := ⟨_, rfl⟩
        have k5 : (R0 : Int) / 2 ^ s = (z9 : Int) := by rw [shr_nat, ez9]
        have EV : Hid (n9 = (hi * 18446744073709551616 + lo) / y ∧ z9 = (hi * 18446744073709551616 + lo) % y) := ⟨by rw [← EN.out.1, ← en9, ← em9]; rfl, by rw [ez9, EN.out.2]⟩
        clear eR0 yp em9 en9 ez9 EN t8 t8b t9 t10 KM
        go_wp2
        have f1 : n9 = N := by rw [NZ.out.1]; exact EV.out.1
        have f2 : z9 = Z := by rw [NZ.out.2]; exact EV.out.2
        go_ret2
        exact ⟨by rw [← f1, ← f2]; rfl, Below.refl _ _⟩
end Go.Proofs.YtpadpmkfhljiiaaGreat
/- guess: the digit that is tried first is no less than the true one. -/
namespace Go.Proofs.YtpadpmkfhljiiaaGreat
open Go.RowKit
/-- what is known of the guess: whatever times the divisor's highest part is within the two highest parts, and is a digit, is no more than it -/
def Gs (h x t g : Int) : Prop := U64 g ∧ ∀ k, 0 ≤ k → k < Bd → k * t ≤ h * Bd + x → k ≤ g
theorem guess_ex (h x t : Int) (hh : U64 h) (hx : U64 x) (ht : U64 t) : ∃ g : Int, Gs h x t g ∧ ∀ w : World, Calls Tryz.prog 129 #[.int .u64 h, .int .u64 x, .int .u64 t] w fun e w' => e = .returned (.int .u64 g) ∧ Below w.heap.size w w' := by
  by_cases hc : t ≤ h
  · refine ⟨18446744073709551615, ⟨⟨by omega, by unfold Bd; omega⟩, fun k h0 h1 _ => by unfold Bd at h1; omega⟩, fun w => ?_⟩
    clear hh hx ht
    go_enter Tryz.func129, Tryz.ntmps129
    go_wp2
    go_ret
    exact ⟨rfl, Below.refl _ _⟩
  · obtain ⟨H, rfl⟩ := Int.eq_ofNat_of_zero_le hh.1
    obtain ⟨X, rfl⟩ := Int.eq_ofNat_of_zero_le hx.1
    obtain ⟨T, rfl⟩ := Int.eq_ofNat_of_zero_le ht.1
    have h1 := hh.2
    have h2 := hx.2
    have h3 := ht.2
    unfold Bd at h1 h2 h3
    obtain ⟨N, eN⟩ : ∃ N : Nat, N = (H * 18446744073709551616 + X) / T := ⟨_, rfl⟩
    obtain ⟨Z, eZ⟩ : ∃ Z : Nat, Z = (H * 18446744073709551616 + X) % T := ⟨_, rfl⟩
    have Tp : 0 < T := by omega
    have NB : N < 18446744073709551616 := by
      rw [eN]
      refine (Nat.div_lt_iff_lt_mul Tp).2 ?_
      have : (H + 1) * 18446744073709551616 ≤ T * 18446744073709551616 := Nat.mul_le_mul_right _ (by omega)
      omega
    have D : Hid (∀ w : World, Calls Tryz.prog 177 #[.int .u64 (H : Int), .int .u64 (X : Int), .int .u64 (T : Int)] w fun e w' => e = .returned (.tuple #[.int .u64 (N : Int), .int .u64 (Z : Int)]) ∧ Below w.heap.size w w') := fun w => div64_is H X T N Z (by omega) (by omega) (by omega) eN eZ w
    refine ⟨(N : Int), ⟨⟨by omega, by unfold Bd; omega⟩, fun k h0 _ h4 => ?_⟩, fun w => ?_⟩
    · obtain ⟨K, rfl⟩ := Int.eq_ofNat_of_zero_le h0
      have h5 : K * T ≤ H * 18446744073709551616 + X := by unfold Bd at h4; omega
      have h6 : K ≤ N := by rw [eN]; exact (Nat.le_div_iff_mul_le Tp).2 h5
      omega
    · have hc2 : ¬ ((T : Int) ≤ (H : Int)) := hc
      clear hh hx ht h1 h2 h3 eN eZ NB hc
      go_enter Tryz.func129, Tryz.ntmps129
      go_wp2_with (go_at_call 177; refine (D.out _).mono ?_; rintro e w1 ⟨rfl, hB⟩)
      go_ret
      exact ⟨rfl, hB⟩
end Go.Proofs.YtpadpmkfhljiiaaGreat
/- takeOff: a digit's multiple of the divisor is taken off. -/
namespace Go.Proofs.YtpadpmkfhljiiaaGreat
open Go.RowKit
/-- what takeOff answers -/
def OffRes (r0 d : Nat → Int) (n a : Nat) (k : Int) (e : Ending) : Prop := ∃ (s : Nat → Int) (b : Bool), e = .returned (.tuple #[.agg (rowL 9 s).toArray, .bool b]) ∧ Off r0 d n a k s b
/-- while parts are taken off: i of them are -/
structure Tk (w : World) (r0 : Nat → Int) (d0 d1 d2 d3 : Int) (a : Nat) (k : Int) (i : Nat) (c b : Int) (r : Nat → Int) (W : World) : Prop where
  bel : Below w.heap.size w W
  row : Row W w.heap.size 9 r
  box : Box W (w.heap.size + 1) d0 d1 d2 d3
  zer : Row W (w.heap.size + 1 + 1) 9 (fun _ => 0)
  u : ∀ j, U64 (r j)
  same : ∀ j, j < a ∨ a + i ≤ j → r j = r0 j
  eq : nv (sh r0 a) i + (b + c) * Bd ^ i = nv (sh r a) i + k * nv (limb d0 d1 d2 d3) i
  cu : U64 c
  b0 : 0 ≤ b
  b1 : b ≤ 1
theorem Tk.step {w : World} {r0 : Nat → Int} {d0 d1 d2 d3 : Int} {a : Nat} {k : Int} {i : Nat} {c b : Int} {r : Nat → Int} {W : World} (h : Tk w r0 d0 d1 d2 d3 a k i c b r W) {c' p s b' : Int} (e1 : limb d0 d1 d2 d3 i * k + c = c' * Bd + p) (e2 : r0 (a + i) - p - b = s - Bd * b')
    (hc : U64 c') (hs : U64 s) (hb0 : 0 ≤ b') (hb1 : b' ≤ 1) : Tk w r0 d0 d1 d2 d3 a k (i + 1) c' b' (fun j => if j = a + i then s else r j) (W.setCell ⟨w.heap.size, a + i, none⟩ (.int .u64 s)) := by
  refine ⟨h.bel.setCell (Nat.le_refl _) _, h.row.set _ _, h.box.other _ _ (by simp), h.zer.set_other _ _ (by simp; omega), fun j => ?_, fun j hj => ?_, off_step h.eq e1 e2, hc, hb0, hb1⟩
  · split
    · exact hs
    · exact h.u j
  · rw [if_neg (by omega)]; exact h.same j (by omega)
theorem Tk.fin {w : World} {r0 : Nat → Int} {d0 d1 d2 d3 : Int} {a n : Nat} {k : Int} {c b : Int} {r : Nat → Int} {W : World} (h : Tk w r0 d0 d1 d2 d3 a k n c b r W) {s b' : Int} (e2 : r0 (a + n) - c - b = s - Bd * b')
    (hs : U64 s) (hb0 : 0 ≤ b') (hb1 : b' ≤ 1) : Off r0 (limb d0 d1 d2 d3) n a k (fun j => if j = a + n then s else r j) (b' == 0) := by
  refine Off.of (fun j => ?_) (fun j hj => ?_) (off_end h.eq e2) hb0 hb1
  · split
    · exact hs
    · exact h.u j
  · rw [if_neg (by omega)]; exact h.same j (by omega)
theorem Tk.drew {w : World} {r0 : Nat → Int} {d0 d1 d2 d3 : Int} {a n : Nat} {k : Int} {c b : Int} {r : Nat → Int} {W : World} (h : Tk w r0 d0 d1 d2 d3 a k n c b r W) : Tk w r0 d0 d1 d2 d3 a k n c b r W.drew :=
  ⟨h.bel.drew, h.row.drew, h.box.drew, h.zer.drew, h.u, h.same, h.eq, h.cu, h.b0, h.b1⟩
theorem Tk.new (w : World) (r0 : Nat → Int) (d0 d1 d2 d3 : Int) (a : Nat) (k : Int) (hu : ∀ i, U64 (r0 i)) : Tk w r0 d0 d1 d2 d3 a k 0 0 0 r0 (((w.alloc (.cells (rowL 9 r0).toArray 110)).alloc (.cells #[.int .u64 d0, .int .u64 d1, .int .u64 d2, .int .u64 d3] 24)).alloc (.cells (rowL 9 fun _ => 0).toArray 110)) := by
  have h1 := Row.new w 110 9 r0
  have h2 := Box.new (w.alloc (.cells (rowL 9 r0).toArray 110)) 24 d0 d1 d2 d3
  have h3 := Row.new ((w.alloc (.cells (rowL 9 r0).toArray 110)).alloc (.cells #[.int .u64 d0, .int .u64 d1, .int .u64 d2, .int .u64 d3] 24)) 110 9 (fun _ => 0)
  rw [World.size_alloc] at h2 h3
  rw [World.size_alloc] at h3
  refine ⟨?_, (h1.alloc _).alloc _, h2.alloc _, h3, hu, fun j _ => rfl, by simp [nv], ⟨by omega, by unfold Bd; omega⟩, by omega, by omega⟩
  exact (((Below.refl _ _).alloc (by omega) _).alloc (by simp) _).alloc (by simp; omega) _
set_option maxHeartbeats 1000000 in
set_option maxRecDepth 100000 in
theorem takeOff_is (r0 : Nat → Int) (d0 d1 d2 d3 : Int) (n a : Nat) (k : Int) (hu : ∀ i, U64 (r0 i)) (hd0 : U64 d0) (hd1 : U64 d1) (hd2 : U64 d2) (hd3 : U64 d3) (hn : n ≤ 4) (hf : a + n < 9) (hk : U64 k) (w : World) :
    Calls Tryz.prog 130 #[.agg (rowL 9 r0).toArray, .agg #[.int .u64 d0, .int .u64 d1, .int .u64 d2, .int .u64 d3], .int .i64 (n : Int), .int .i64 (a : Int), .int .u64 k] w fun e w' => OffRes r0 (limb d0 d1 d2 d3) n a k e ∧ Below w.heap.size w w' := by
  have T0 : Hid _ := Tk.new w r0 d0 d1 d2 d3 a k hu
  have HU : Hid (∀ i, U64 (r0 i)) := hu
  have HD : Hid (∀ i, U64 (limb d0 d1 d2 d3 i)) := limb_u64 hd0 hd1 hd2 hd3
  have HK : Hid (U64 k) := hk
  obtain ⟨cs, ecs⟩ : ∃ cs, cs = (rowL 9 r0).toArray := ⟨_, rfl⟩
  rw [← ecs] at T0 ⊢
  clear ecs hu hd0 hd1 hd2 hd3 hk
  go_enter Tryz.func130, Tryz.ntmps130
  rw [← zero9] at T0
  go_wp2
  have nI : (n : Int) ≤ 4 := by omega
  have EF : Hid (a + n < 9) := hf
  clear hf
  go_loopw [12, 13, 17] (fun sc sb si wx => ∃ (i : Nat) (c b : Int) (r : Nat → Int), i ≤ n ∧ sc = .int .u64 c ∧ sb = .int .u64 b ∧ si = .int .i64 (i : Int) ∧ Tk w r0 d0 d1 d2 d3 a k i c b r wx) (fun _ _ si _ => n - (intOf si).toNat)
  case atStart => exact ⟨0, 0, 0, r0, by omega, rfl, rfl, rfl, T0.out⟩
  case round =>
    obtain ⟨i, c, b, r, hin, rfl, rfl, rfl, hT⟩ := hrel
    have TT : Hid (Tk w r0 d0 d1 d2 d3 a k i c b r wr) := hT
    clear hT T0
    by_cases hi : i < n
    · have iI : (i : Int) < (n : Int) := by omega
      have i4 : (i : Int) < 4 := by omega
      have cd := TT.out.box.1 i (by omega)
      obtain ⟨q, eq⟩ : ∃ q : Nat, q = a + i := ⟨_, rfl⟩
      have q9 : q < 9 := by have := EF.out; omega
      have ca := (TT.out.row q q9).1
      have fa := (TT.out.row q q9).2
      have hy := HD.out i
      have EY : Hid (limb d0 d1 d2 d3 i = limb d0 d1 d2 d3 i) := rfl
      generalize hyy : limb d0 d1 d2 d3 i = y at cd hy EY
      have HY : Hid (limb d0 d1 d2 d3 i = y) := hyy
      have hx := TT.out.u q
      have HX : Hid (r q = r0 q) := TT.out.same q (by omega)
      generalize hxx : r q = x at ca hx HX
      obtain ⟨h, l, MC, uh, ul, em⟩ := mulAdd_ex y k c hy HK.out TT.out.cu
      obtain ⟨s, b', RC, es, us, l0, l1⟩ := sub64_ex x l b hx ul TT.out.b0 TT.out.b1
      have aI : (a : Int) + (i : Int) = (q : Int) := by omega
      have qw : IntKind.i64.wrap (q : Int) = (q : Int) := by rw [IntKind.wrap_i64]; omega
      have qI : (q : Int) < 9 := by omega
      have EQ : Hid (q = a + i) := eq
      have HMC : Hid _ := MC
      have UU : Hid (U64 h ∧ U64 s ∧ 0 ≤ b' ∧ b' ≤ 1) := ⟨uh, us, l0, l1⟩
      clear MC eq hyy hxx hy hx EY uh ul us l0 l1 q9
      go_upto_region 7 with (go_at_call 125; refine (HMC.out _).mono ?_; rintro e w' ⟨rfl, hw⟩; (have hw2 := hw.symm); clear hw; subst hw2)
      go_wp2
      go_roundw
      case rel =>
        have h9 := TT.out.step (c' := h) (p := l) (s := s) (b' := b') (by rw [HY.out]; exact em.out) (by rw [← EQ.out, ← HX.out]; exact es.out) UU.out.1 UU.out.2.1 UU.out.2.2.1 UU.out.2.2.2
        rw [← EQ.out] at h9
        exact ⟨i + 1, h, b', _, by omega, rfl, rfl, by go_num, h9⟩
      case measure => simp [intOf]; omega
    · obtain rfl : i = n := by omega
      obtain ⟨q, eq⟩ : ∃ q : Nat, q = a + i := ⟨_, rfl⟩
      have q9 : q < 9 := by have := EF.out; omega
      have ca := (TT.out.row q q9).1
      have fa := (TT.out.row q q9).2
      have hx := TT.out.u q
      have HX : Hid (r q = r0 q) := TT.out.same q (by omega)
      generalize hxx : r q = x at ca hx HX
      obtain ⟨s, b', RC, es, us, l0, l1⟩ := sub64_ex x c b hx TT.out.cu TT.out.b0 TT.out.b1
      have aI : (a : Int) + (i : Int) = (q : Int) := by omega
      have qw : IntKind.i64.wrap (q : Int) = (q : Int) := by rw [IntKind.wrap_i64]; omega
      have qI : (q : Int) < 9 := by omega
      have OF : Hid (Off r0 (limb d0 d1 d2 d3) i a k (fun j => if j = q then s else r j) (b' == 0)) := by
        have h9 := TT.out.fin (s := s) (b' := b') (by rw [← eq, ← HX.out]; exact es.out) us l0 l1
        rw [← eq] at h9; exact h9
      have R1 : Hid (Row (wr.setCell ⟨w.heap.size, q, none⟩ (.int .u64 s)) w.heap.size 9 (fun j => if j = q then s else r j)) := TT.out.row.set q s
      have Z1 : Hid (Row (wr.setCell ⟨w.heap.size, q, none⟩ (.int .u64 s)) (w.heap.size + 1 + 1) 9 (fun _ => 0)) := TT.out.zer.set_other _ _ (by simp; omega)
      have B1 : Hid (Below w.heap.size w (wr.setCell ⟨w.heap.size, q, none⟩ (.int .u64 s))) := TT.out.bel.setCell (Nat.le_refl _) _
      clear eq hxx hx us l0 l1 q9
      go_upto_region 10 with fail
      generalize wr.setCell ⟨w.heap.size, q, none⟩ (.int .u64 s) = w1 at R1 Z1 B1 ⊢
      generalize (fun j => if j = q then s else r j) = g at OF R1
      go_wp2_with (first
        | refine load9 g w.heap.size rfl _ rfl rfl (Row.range R1.out) ?_
        | refine store9 g (w.heap.size + 1 + 1) rfl _ _ rfl rfl rfl (Row.there Z1.out) ?_)
      have hW := Row.of_range (v := g) Z1.out
      refine bodyPost_ret (v := .tuple #[.agg (rowL 9 g).toArray, .bool (b' == 0)]) ?_ rfl ⟨⟨g, _, rfl, OF.out⟩, below_setCells (w.heap.size + 1 + 1) (by omega) (rowL 9 g) 0 w1 B1.out⟩
      exact results_ct Tryz.results130 _ _ _ ⟨w.heap.size + 1 + 1, 0, none⟩ rfl rfl (loadVar9 hW.range)
end Go.Proofs.YtpadpmkfhljiiaaGreat
/- Plain arithmetic of shifts by less than 64 places, limb by limb. -/
namespace Go.Proofs.YtpadpmkfhljiiaaGreat
open Go.RowKit

theorem pq64 (r : Int) (h0 : 0 ≤ r) (h1 : r < 64) : 2 ^ r.toNat * 2 ^ (64 - r).toNat = (18446744073709551616 : Nat) := by
  rw [← Nat.pow_add, show r.toNat + (64 - r).toNat = 64 by omega]
/-- a 2^r: what stays in the limb, and what goes into the next -/
theorem up_ex (a r : Int) (ha : U64 a) (h0 : 0 ≤ r) (h1 : r < 64) : ∃ P Q m c : Nat, P * Q = 18446744073709551616 ∧ ((2 : Int) ^ r.toNat = P) ∧ ((2 : Int) ^ (64 - r).toNat = Q) ∧ IntKind.u64.wrap (a * 2 ^ r.toNat) = ((P * m : Nat) : Int) ∧ a / 2 ^ (64 - r).toNat = (c : Int) ∧ m < Q ∧ c < P ∧ a * 2 ^ r.toNat = (c : Int) * 18446744073709551616 + ((P * m : Nat) : Int) ∧ P = 2 ^ r.toNat := by
  obtain ⟨A, rfl⟩ := Int.eq_ofNat_of_zero_le ha.1
  have hA : A < 18446744073709551616 := by have := ha.2; unfold Bd at this; omega
  have hpq := pq64 r h0 h1
  have eP : (2 : Int) ^ r.toNat = ((2 ^ r.toNat : Nat) : Int) := by rw [Int.natCast_pow]; rfl
  have eQ : (2 : Int) ^ (64 - r).toNat = ((2 ^ (64 - r).toNat : Nat) : Int) := by rw [Int.natCast_pow]; rfl
  have hP0 : 0 < 2 ^ r.toNat := Nat.two_pow_pos _
  have hQ0 : 0 < 2 ^ (64 - r).toNat := Nat.two_pow_pos _
  refine ⟨2 ^ r.toNat, 2 ^ (64 - r).toNat, A % 2 ^ (64 - r).toNat, A / 2 ^ (64 - r).toNat, hpq, eP, eQ, ?_, ?_, Nat.mod_lt _ hQ0, ?_, ?_, rfl⟩
  · rw [IntKind.wrap_u64, eP, ← Int.natCast_mul, ← Nat.mul_mod_mul_left, hpq, Nat.mul_comm (2 ^ r.toNat) A]; omega
  · rw [eQ]; exact (Int.natCast_ediv _ _).symm
  · rw [Nat.div_lt_iff_lt_mul hQ0, hpq]; exact hA
  · have hd := Nat.div_add_mod A (2 ^ (64 - r).toNat)
    rw [eP, ← Int.natCast_mul]
    have : A * 2 ^ r.toNat = A / 2 ^ (64 - r).toNat * 18446744073709551616 + 2 ^ r.toNat * (A % 2 ^ (64 - r).toNat) := by
      rw [← hpq]
      generalize 2 ^ r.toNat = P at *
      generalize 2 ^ (64 - r).toNat = Q at *
      generalize hq : A / Q = q at *
      generalize hm : A % Q = m at *
      rw [← hd]; grind
    omega
theorem or_join (P Q m c : Nat) (r : Int) (hP : P = 2 ^ r.toNat) (hpq : P * Q = 18446744073709551616) (hm : m < Q) (hc : c < P) : bits .or .u64 ((P * m : Nat) : Int) (c : Int) = ((P * m + c : Nat) : Int) ∧ P * m + c < 18446744073709551616 := by
  have h1 : P * m + P ≤ 18446744073709551616 := by
    rw [← hpq]; calc P * m + P = P * (m + 1) := by grind
      _ ≤ P * Q := Nat.mul_le_mul_left _ hm
  refine ⟨?_, by omega⟩
  rw [u64_or_nat _ _ (by omega) (by omega)]
  rw [nat_join r.toNat (P * m) c (by rw [hP]; exact Nat.mul_mod_right _ _) (by rw [← hP]; exact hc)]
def upL (a r : Int) : Int := IntKind.u64.wrap (a * 2 ^ r.toNat)
def upJ (a b r : Int) : Int := bits .or .u64 (IntKind.u64.wrap (a * 2 ^ r.toNat)) (b / 2 ^ (64 - r).toNat)
/-- limb by limb: the parts of a 2^r -/
theorem up_parts {a0 a1 a2 a3 : Int} (r : Int) (h0 : 0 ≤ r) (h1 : r < 64) (u0 : U64 a0) (u1 : U64 a1) (u2 : U64 a2) (u3 : U64 a3) :
    ∃ c0 c1 c2 c3 : Int, a0 * 2 ^ r.toNat = c0 * Bd + upL a0 r ∧ a1 * 2 ^ r.toNat = c1 * Bd + upL a1 r ∧ a2 * 2 ^ r.toNat = c2 * Bd + upL a2 r ∧ a3 * 2 ^ r.toNat = c3 * Bd + upL a3 r ∧
      upJ a1 a0 r = upL a1 r + c0 ∧ upJ a2 a1 r = upL a2 r + c1 ∧ upJ a3 a2 r = upL a3 r + c2 ∧ U64 (upL a0 r) ∧ U64 (upJ a1 a0 r) ∧ U64 (upJ a2 a1 r) ∧ U64 (upJ a3 a2 r) := by
  obtain ⟨P, Q, m0, c0, hpq, eP, eQ, w0, d0, lm0, lc0, e0, hP⟩ := up_ex a0 r u0 h0 h1
  obtain ⟨P1, Q1, m1, c1, hpq1, eP1, eQ1, w1, d1, lm1, lc1, e1, hP1⟩ := up_ex a1 r u1 h0 h1
  obtain ⟨P2, Q2, m2, c2, hpq2, eP2, eQ2, w2, d2, lm2, lc2, e2, hP2⟩ := up_ex a2 r u2 h0 h1
  obtain ⟨P3, Q3, m3, c3, hpq3, eP3, eQ3, w3, d3, lm3, lc3, e3, hP3⟩ := up_ex a3 r u3 h0 h1
  obtain rfl : P = P1 := hP.trans hP1.symm
  obtain rfl : P = P2 := hP.trans hP2.symm
  obtain rfl : P = P3 := hP.trans hP3.symm
  obtain ⟨j1, k1⟩ := or_join P Q1 m1 c0 r hP hpq1 lm1 lc0
  obtain ⟨j2, k2⟩ := or_join P Q2 m2 c1 r hP hpq2 lm2 lc1
  obtain ⟨j3, k3⟩ := or_join P Q3 m3 c2 r hP hpq3 lm3 lc2
  obtain ⟨_, k0⟩ := or_join P Q m0 0 r hP hpq lm0 (by rw [hP]; exact Nat.two_pow_pos _)
  refine ⟨c0, c1, c2, c3, ?_, ?_, ?_, ?_, ?_, ?_, ?_, ?_, ?_, ?_, ?_⟩
  · rw [e0, upL, w0]; rfl
  · rw [e1, upL, w1]; rfl
  · rw [e2, upL, w2]; rfl
  · rw [e3, upL, w3]; rfl
  · rw [upJ, upL, w1, d0, j1]; omega
  · rw [upJ, upL, w2, d1, j2]; omega
  · rw [upJ, upL, w3, d2, j3]; omega
  · rw [upL, w0]; unfold U64 Bd; omega
  · rw [upJ, w1, d0, j1]; unfold U64 Bd; omega
  · rw [upJ, w2, d1, j2]; unfold U64 Bd; omega
  · rw [upJ, w3, d2, j3]; unfold U64 Bd; omega
theorem isW_mulp {x a0 a1 a2 a3 s0 s1 s2 s3 : Int} (h : IsW x a0 a1 a2 a3) (K k : Int) (u0 : U64 s0) (u1 : U64 s1) (u2 : U64 s2) (u3 : U64 s3) (e : V a0 a1 a2 a3 * K = V s0 s1 s2 s3 + MM * k) : IsW (x * K) s0 s1 s2 s3 := by
  refine (isW_of u0 u1 u2 u3 k e).cong ?_
  rw [Int.mul_emod, h.2, Int.emod_emod, ← Int.mul_emod]
theorem u64_0 : U64 0 := u64_lit 0 (by omega) (by omega)
theorem upW0 {x a0 a1 a2 a3 : Int} (h : IsW x a0 a1 a2 a3) (r : Int) (h0 : 0 ≤ r) (h1 : r < 64) : IsW (x * 2 ^ r.toNat) (upL a0 r) (upJ a1 a0 r) (upJ a2 a1 r) (upJ a3 a2 r) := by
  obtain ⟨c0, c1, c2, c3, e0, e1, e2, e3, j1, j2, j3, v0, v1, v2, v3⟩ := up_parts r h0 h1 h.u0 h.u1 h.u2 h.u3
  refine isW_mulp h _ c3 v0 v1 v2 v3 ?_
  have hh : V a0 a1 a2 a3 * 2 ^ r.toNat = a0 * 2 ^ r.toNat + Bd * (a1 * 2 ^ r.toNat + Bd * (a2 * 2 ^ r.toNat + Bd * (a3 * 2 ^ r.toNat))) := by unfold V; grind
  rw [hh, e0, e1, e2, e3, j1, j2, j3]
  unfold V Bd MM; omega
theorem upW1 {x a0 a1 a2 a3 : Int} (h : IsW x a0 a1 a2 a3) (r : Int) (h0 : 0 ≤ r) (h1 : r < 64) : IsW (x * (2 ^ r.toNat * Bd)) 0 (upL a0 r) (upJ a1 a0 r) (upJ a2 a1 r) := by
  obtain ⟨c0, c1, c2, c3, e0, e1, e2, e3, j1, j2, j3, v0, v1, v2, v3⟩ := up_parts r h0 h1 h.u0 h.u1 h.u2 h.u3
  refine isW_mulp h _ (c2 + a3 * 2 ^ r.toNat) u64_0 v0 v1 v2 ?_
  have hh : V a0 a1 a2 a3 * (2 ^ r.toNat * Bd) = (a0 * 2 ^ r.toNat + Bd * (a1 * 2 ^ r.toNat + Bd * (a2 * 2 ^ r.toNat + Bd * (a3 * 2 ^ r.toNat)))) * Bd := by unfold V; grind
  rw [hh, e0, e1, e2, j1, j2]
  generalize a3 * 2 ^ r.toNat = t
  unfold V Bd MM; omega
theorem upW2 {x a0 a1 a2 a3 : Int} (h : IsW x a0 a1 a2 a3) (r : Int) (h0 : 0 ≤ r) (h1 : r < 64) : IsW (x * (2 ^ r.toNat * (Bd * Bd))) 0 0 (upL a0 r) (upJ a1 a0 r) := by
  obtain ⟨c0, c1, c2, c3, e0, e1, e2, e3, j1, j2, j3, v0, v1, v2, v3⟩ := up_parts r h0 h1 h.u0 h.u1 h.u2 h.u3
  refine isW_mulp h _ (c1 + (a2 * 2 ^ r.toNat + Bd * (a3 * 2 ^ r.toNat))) u64_0 u64_0 v0 v1 ?_
  have hh : V a0 a1 a2 a3 * (2 ^ r.toNat * (Bd * Bd)) = (a0 * 2 ^ r.toNat + Bd * (a1 * 2 ^ r.toNat + Bd * (a2 * 2 ^ r.toNat + Bd * (a3 * 2 ^ r.toNat)))) * Bd * Bd := by unfold V; grind
  rw [hh, e0, e1, j1]
  generalize a3 * 2 ^ r.toNat = t; generalize a2 * 2 ^ r.toNat = s
  unfold V Bd MM; omega
theorem upW3 {x a0 a1 a2 a3 : Int} (h : IsW x a0 a1 a2 a3) (r : Int) (h0 : 0 ≤ r) (h1 : r < 64) : IsW (x * (2 ^ r.toNat * (Bd * Bd * Bd))) 0 0 0 (upL a0 r) := by
  obtain ⟨c0, c1, c2, c3, e0, e1, e2, e3, j1, j2, j3, v0, v1, v2, v3⟩ := up_parts r h0 h1 h.u0 h.u1 h.u2 h.u3
  refine isW_mulp h _ (c0 + (a1 * 2 ^ r.toNat + Bd * (a2 * 2 ^ r.toNat + Bd * (a3 * 2 ^ r.toNat)))) u64_0 u64_0 u64_0 v0 ?_
  have hh : V a0 a1 a2 a3 * (2 ^ r.toNat * (Bd * Bd * Bd)) = (a0 * 2 ^ r.toNat + Bd * (a1 * 2 ^ r.toNat + Bd * (a2 * 2 ^ r.toNat + Bd * (a3 * 2 ^ r.toNat)))) * Bd * Bd * Bd := by unfold V; grind
  rw [hh, e0]
  generalize a3 * 2 ^ r.toNat = t; generalize a2 * 2 ^ r.toNat = s; generalize a1 * 2 ^ r.toNat = u
  unfold V Bd MM; omega
theorem pow_split (n q r : Int) (hq : n / 64 = q) (hr : n % 64 = r) (h0 : 0 ≤ n) : (2 : Int) ^ n.toNat = 2 ^ r.toNat * 18446744073709551616 ^ q.toNat := by
  have : n.toNat = r.toNat + 64 * q.toNat := by omega
  rw [this, Int.pow_add, Int.pow_mul]; rfl
end Go.Proofs.YtpadpmkfhljiiaaGreat
/- Plain arithmetic of shifts down by less than 64 places, limb by limb. -/
namespace Go.Proofs.YtpadpmkfhljiiaaGreat
open Go.RowKit

/-- one limb of a shift down: t's upper part, and over it the lower part of the limb t' above -/
def dnJ (t t' r : Int) : Int := bits .or .u64 (t / 2 ^ r.toNat) (IntKind.u64.wrap (t' * 2 ^ (64 - r).toNat))
theorem or_comm64 (a b : Nat) (ha : a < 18446744073709551616) (hb : b < 18446744073709551616) : bits .or .u64 (a : Int) (b : Int) = bits .or .u64 (b : Int) (a : Int) := by
  rw [u64_or_nat a b ha hb, u64_or_nat b a hb ha, Nat.or_comm]
theorem dn_ex (t t' r : Int) (ht : U64 t) (ht' : U64 t') (h0 : 0 ≤ r) (h1 : r < 64) : U64 (dnJ t t' r) ∧ dnJ t t' r * 2 ^ r.toNat = t - t % 2 ^ r.toNat + Bd * (t' % 2 ^ r.toNat) := by
  obtain ⟨T, rfl⟩ := Int.eq_ofNat_of_zero_le ht.1
  obtain ⟨U, rfl⟩ := Int.eq_ofNat_of_zero_le ht'.1
  have hT : T < 18446744073709551616 := by have := ht.2; unfold Bd at this; omega
  have hU : U < 18446744073709551616 := by have := ht'.2; unfold Bd at this; omega
  have hpq := pq64 r h0 h1
  have eP : (2 : Int) ^ r.toNat = ((2 ^ r.toNat : Nat) : Int) := by rw [Int.natCast_pow]; rfl
  have eQ : (2 : Int) ^ (64 - r).toNat = ((2 ^ (64 - r).toNat : Nat) : Int) := by rw [Int.natCast_pow]; rfl
  have hP0 : 0 < 2 ^ r.toNat := Nat.two_pow_pos _
  have hQ0 : 0 < 2 ^ (64 - r).toNat := Nat.two_pow_pos _
  have hm : T / 2 ^ r.toNat < 2 ^ (64 - r).toNat := by rw [Nat.div_lt_iff_lt_mul hP0, Nat.mul_comm, hpq]; exact hT
  have hw : IntKind.u64.wrap ((U : Int) * ((2 ^ (64 - r).toNat : Nat) : Int)) = ((2 ^ (64 - r).toNat * (U % 2 ^ r.toNat) : Nat) : Int) := by
    rw [IntKind.wrap_u64, ← Int.natCast_mul, ← Nat.mul_mod_mul_left, Nat.mul_comm (2 ^ (64 - r).toNat) (2 ^ r.toNat), hpq, Nat.mul_comm (2 ^ (64 - r).toNat) U]; omega
  obtain ⟨hj, hl⟩ := or_join (2 ^ (64 - r).toNat) (2 ^ r.toNat) (U % 2 ^ r.toNat) (T / 2 ^ r.toNat) (64 - r) rfl (by rw [Nat.mul_comm]; exact hpq) (Nat.mod_lt _ hP0) hm
  have hd : dnJ T U r = ((2 ^ (64 - r).toNat * (U % 2 ^ r.toNat) + T / 2 ^ r.toNat : Nat) : Int) := by
    rw [dnJ, eP, eQ, hw, show (T : Int) / ((2 ^ r.toNat : Nat) : Int) = ((T / 2 ^ r.toNat : Nat) : Int) from (Int.natCast_ediv _ _).symm, or_comm64 _ _ (Nat.lt_of_le_of_lt (Nat.le_add_left _ _) hl) (Nat.lt_of_le_of_lt (Nat.le_add_right _ _) hl), hj]
  refine ⟨?_, ?_⟩
  · rw [hd]
    generalize 2 ^ (64 - r).toNat * (U % 2 ^ r.toNat) + T / 2 ^ r.toNat = N at hl
    unfold U64 Bd; omega
  · rw [hd, eP]
    have e := Nat.div_add_mod T (2 ^ r.toNat)
    have e3 : (2 ^ (64 - r).toNat * (U % 2 ^ r.toNat) + T / 2 ^ r.toNat) * 2 ^ r.toNat + T % 2 ^ r.toNat = T + 18446744073709551616 * (U % 2 ^ r.toNat) := by
      rw [← hpq]
      generalize 2 ^ r.toNat = P at *
      generalize 2 ^ (64 - r).toNat = Q at *
      generalize U % P = u at *
      generalize hq : T / P = q at *
      generalize hm2 : T % P = m at *
      rw [← e]; grind
    have e1 : (T : Int) % ((2 ^ r.toNat : Nat) : Int) = ((T % 2 ^ r.toNat : Nat) : Int) := (Int.natCast_emod _ _).symm
    have e2 : (U : Int) % ((2 ^ r.toNat : Nat) : Int) = ((U % 2 ^ r.toNat : Nat) : Int) := (Int.natCast_emod _ _).symm
    rw [e1, e2, ← Int.natCast_mul]
    clear hj hw hd hl
    generalize (2 ^ (64 - r).toNat * (U % 2 ^ r.toNat) + T / 2 ^ r.toNat) * 2 ^ r.toNat = X at e3 ⊢
    generalize T % 2 ^ r.toNat = Y at e3 ⊢
    generalize U % 2 ^ r.toNat = Z at e3 ⊢
    unfold Bd; omega
end Go.Proofs.YtpadpmkfhljiiaaGreat
/- Plain arithmetic: a number of many parts shifted up by less than 64 places, and down again. -/
namespace Go.Proofs.YtpadpmkfhljiiaaGreat
open Go.RowKit
theorem two_s (s : Nat) : (2 : Int) ^ s = ((2 ^ s : Nat) : Int) := by rw [Int.natCast_pow]; rfl
theorem two_pos (s : Nat) : (0 : Int) < 2 ^ s := by rw [two_s]; exact_mod_cast Nat.two_pow_pos s
/-- one part of it: what is laid over the part, and what goes into the next one -/
theorem up_one (x c : Int) (s : Nat) (hs : s < 64) (hx : U64 x) (hc0 : 0 ≤ c) (hc : c < 2 ^ s) :
    ∃ y d : Int, bits .or .u64 c (IntKind.u64.wrap (x * 2 ^ s)) = y ∧ x / 2 ^ (64 - s) = d ∧ U64 y ∧ U64 d ∧ d < 2 ^ s ∧ Hid (y + d * Bd = x * 2 ^ s + c) := by
  obtain ⟨P, Q, m, d, hpq, eP, eQ, ew, ed, lm, ld, ex, hP⟩ := up_ex x (s : Int) hx (by omega) (by omega)
  rw [show ((s : Int)).toNat = s by omega] at eP ew ex hP
  rw [show (64 - (s : Int)).toNat = 64 - s by omega] at eQ ed
  obtain ⟨C, rfl⟩ := Int.eq_ofNat_of_zero_le hc0
  have hC : C < P := by rw [eP] at hc; omega
  obtain ⟨j, k⟩ := or_join P Q m C (s : Int) (by rw [show ((s : Int)).toNat = s by omega]; exact hP) hpq lm hC
  have hPB : P ≤ 18446744073709551616 := by rw [← hpq]; exact Nat.le_mul_of_pos_right P (by omega)
  refine ⟨((P * m + C : Nat) : Int), (d : Int), ?_, ed, ⟨by omega, by unfold Bd; omega⟩, ⟨by omega, by unfold Bd; omega⟩, by rw [eP]; omega, ?_⟩
  · rw [ew, or_comm64 _ _ (by omega) (by omega)]; exact j
  · unfold Hid Bd; rw [ex]; omega
theorem up_step {r u : Nat → Int} {i s : Nat} {y d : Int} (h : nv r (i + 1) = nv u i * 2 ^ s) (e : y + d * Bd = u i * 2 ^ s + r i) :
    nv (fun j => if j = i + 1 then d else if j = i then y else r j) (i + 1 + 1) = nv u (i + 1) * 2 ^ s := by
  have hx : nv (fun j => if j = i + 1 then d else if j = i then y else r j) i = nv r i := nv_ext i (fun j hj => by rw [if_neg (by omega), if_neg (by omega)])
  rw [nv, nv, hx]
  simp only [if_true, show ¬ (i = i + 1) by omega, if_false]
  rw [nv] at h
  rw [nv, Int.add_mul, ← h, Int.pow_succ, Int.mul_comm (Bd ^ i) Bd, ← Int.mul_assoc, Int.mul_right_comm (u i)]
  have e2 : (y + d * Bd) * Bd ^ i = (u i * 2 ^ s + r i) * Bd ^ i := by rw [e]
  rw [Int.add_mul, Int.add_mul] at e2
  omega
theorem nv_first {r : Nat → Int} (h : ∀ i, U64 (r i)) (k : Nat) (hz : nv r (k + 1) = 0) : r 0 = 0 := by
  have h1 := nv_split r 1 k
  rw [Nat.add_comm 1 k, hz] at h1
  have h2 := Int.mul_nonneg (Int.le_of_lt (Bp 1)) (nv_range (sh_u64 h 1) k).1
  have h3 : nv r 1 = r 0 := by simp [nv]
  have h4 := (h 0).1
  omega
theorem Bd4 : Bd ^ 4 = MM := by unfold Bd MM; decide
theorem mul_cancel_right {a b p : Int} (hp : 0 < p) (h : a * p = b * p) : a = b := Int.eq_of_mul_eq_mul_right (by omega) h
/-- four parts shifted down: the quotient by 2^s of the number, with the lowest bits of the part above -/
theorem down_num {z0 z1 z2 z3 f x0 x1 x2 x3 P : Int} (e0 : x0 * P = z0 - z0 % P + Bd * (z1 % P)) (e1 : x1 * P = z1 - z1 % P + Bd * (z2 % P)) (e2 : x2 * P = z2 - z2 % P + Bd * (z3 % P)) (e3 : x3 * P = z3 - z3 % P + Bd * (f % P)) :
    V x0 x1 x2 x3 * P + z0 % P = V z0 z1 z2 z3 + MM * (f % P) := by
  have hh : V x0 x1 x2 x3 * P = (x0 * P + Bd * (x1 * P + Bd * (x2 * P + Bd * (x3 * P)))) := by unfold V; grind
  rw [hh, e0, e1, e2, e3]
  generalize f % P = g
  generalize z0 % P = g0
  generalize z1 % P = g1
  generalize z2 % P = g2
  generalize z3 % P = g3
  unfold V Bd MM; omega
theorem squeeze_num {r : Nat → Int} (hu : ∀ i, U64 (r i)) (s : Nat) (hs : s < 64) (L : Int) (h : nv r 9 = L * 2 ^ s) (hM : nv r 9 < MM) :
    IsW L (dnJ (r 0) (r 1) s) (dnJ (r 1) (r 2) s) (dnJ (r 2) (r 3) s) (dnJ (r 3) (r 4) s) := by
  have hz : nv (sh r 4) 5 = 0 := nv_top hu 4 5 (by rw [Bd4]; exact hM)
  have h4 : r 4 = 0 := nv_first (sh_u64 hu 4) 4 hz
  have hV : nv r 9 = V (r 0) (r 1) (r 2) (r 3) := by
    have := nv_split r 4 5
    rw [hz] at this
    rw [this]; simp [nv, V, Bd]; omega
  have hsI : (s : Int) < 64 := by omega
  obtain ⟨u0, e0⟩ := dn_ex (r 0) (r 1) s (hu 0) (hu 1) (by omega) hsI
  obtain ⟨u1, e1⟩ := dn_ex (r 1) (r 2) s (hu 1) (hu 2) (by omega) hsI
  obtain ⟨u2, e2⟩ := dn_ex (r 2) (r 3) s (hu 2) (hu 3) (by omega) hsI
  obtain ⟨u3, e3⟩ := dn_ex (r 3) (r 4) s (hu 3) (hu 4) (by omega) hsI
  rw [show ((s : Int)).toNat = s by omega] at e0 e1 e2 e3
  have hd := down_num e0 e1 e2 e3
  rw [show r 4 % 2 ^ s = 0 by rw [h4, Int.zero_emod], Int.mul_zero, Int.add_zero, ← hV, h] at hd
  have hP := two_pos s
  have h0 : r 0 % 2 ^ s = 0 := by
    have h5 := Int.emod_nonneg (r 0) (show (2 : Int) ^ s ≠ 0 by omega)
    have h6 := Int.emod_lt_of_pos (r 0) hP
    have h7 : r 0 % 2 ^ s = (L - V (dnJ (r 0) (r 1) s) (dnJ (r 1) (r 2) s) (dnJ (r 2) (r 3) s) (dnJ (r 3) (r 4) s)) * 2 ^ s := by rw [Int.sub_mul]; omega
    have h8 : (r 0 % 2 ^ s) % 2 ^ s = 0 := by rw [h7]; exact Int.mul_emod_left _ _
    rwa [Int.emod_eq_of_lt h5 h6] at h8
  rw [h0, Int.add_zero] at hd
  have hL := mul_cancel_right hP hd
  have hr := V_range u0 u1 u2 u3
  refine ⟨⟨u0, u1, u2, u3⟩, ?_⟩
  rw [hL] at hr ⊢
  exact (Int.emod_eq_of_lt hr.1 hr.2).symm
end Go.Proofs.YtpadpmkfhljiiaaGreat
/- stretch and squeeze. -/
namespace Go.Proofs.YtpadpmkfhljiiaaGreat
open Go.RowKit
/-- while it is stretched: i parts are -/
structure St (w : World) (u : Nat → Int) (s i : Nat) (r : Nat → Int) (W : World) : Prop where
  bel : Below w.heap.size w W
  rowu : Row W w.heap.size 8 u
  zer : Row W (w.heap.size + 1) 9 (fun _ => 0)
  row : Row W (w.heap.size + 1 + 1) 9 r
  u64 : ∀ j, U64 (r j)
  top : r i < 2 ^ s
  high : ∀ j, i < j → r j = 0
  eq : nv r (i + 1) = nv u i * 2 ^ s
theorem St.step {w : World} {u : Nat → Int} {s i : Nat} {r : Nat → Int} {W : World} (h : St w u s i r W) {y d : Int} (e : y + d * Bd = u i * 2 ^ s + r i) (hy : U64 y) (hd : U64 d) (hs : d < 2 ^ s) :
    St w u s (i + 1) (fun j => if j = i + 1 then d else if j = i then y else r j) ((W.setCell ⟨w.heap.size + 1 + 1, i, none⟩ (.int .u64 y)).setCell ⟨w.heap.size + 1 + 1, i + 1, none⟩ (.int .u64 d)) := by
  refine ⟨(h.bel.setCell (by simp; omega) _).setCell (by simp; omega) _, (h.rowu.set_other _ _ (by simp; omega)).set_other _ _ (by simp; omega), (h.zer.set_other _ _ (by simp)).set_other _ _ (by simp), (h.row.set _ _).set _ _, fun j => ?_, ?_, fun j hj => ?_, up_step h.eq e⟩
  · split
    · exact hd
    · split
      · exact hy
      · exact h.u64 j
  · simpa using hs
  · rw [if_neg (by omega), if_neg (by omega)]; exact h.high j (by omega)
theorem St.new (w : World) (u : Nat → Int) (s : Nat) : St w u s 0 (fun _ => 0) (((w.alloc (.cells (rowL 8 u).toArray 69)).alloc (.cells (rowL 9 fun _ => 0).toArray 110)).alloc (.cells (rowL 9 fun _ => 0).toArray 110)) := by
  have h1 := Row.new w 69 8 u
  have h2 := Row.new (w.alloc (.cells (rowL 8 u).toArray 69)) 110 9 (fun _ => 0)
  have h3 := Row.new ((w.alloc (.cells (rowL 8 u).toArray 69)).alloc (.cells (rowL 9 fun _ => 0).toArray 110)) 110 9 (fun _ => 0)
  rw [World.size_alloc] at h2 h3
  rw [World.size_alloc] at h3
  refine ⟨?_, (h1.alloc _).alloc _, h2.alloc _, h3, fun j => ⟨by simp, by unfold Bd; simp⟩, two_pos s, fun j _ => rfl, by simp [nv]⟩
  exact (((Below.refl _ _).alloc (by omega) _).alloc (by simp) _).alloc (by simp; omega) _
theorem index8 (u : Nat → Int) (i : Nat) (h : i < 8) (W : World) : Sem.run Tryz.prog (Instr.index 69 (.agg (rowL 8 u).toArray) (.int .i64 (i : Int))) W = .ok (.int .u64 (u i)) W := by
  obtain rfl | rfl | rfl | rfl | rfl | rfl | rfl | rfl : i = 0 ∨ i = 1 ∨ i = 2 ∨ i = 3 ∨ i = 4 ∨ i = 5 ∨ i = 6 ∨ i = 7 := by omega
  all_goals kernel_rfl
/-- what stretch answers -/
def StRes (u : Nat → Int) (s : Nat) (e : Ending) : Prop := ∃ r : Nat → Int, e = .returned (.agg (rowL 9 r).toArray) ∧ (∀ i, U64 (r i)) ∧ nv r 9 = nv u 8 * 2 ^ s
set_option maxHeartbeats 1000000 in
set_option maxRecDepth 100000 in
theorem stretch_is (u : Nat → Int) (s : Nat) (hs : s < 64) (hu : ∀ i, U64 (u i)) (w : World) :
    Calls Tryz.prog 128 #[.agg (rowL 8 u).toArray, .int .u64 (s : Int)] w fun e w' => StRes u s e ∧ Below w.heap.size w w' := by
  have T0 : Hid _ := St.new w u s
  have HU : Hid (∀ i, U64 (u i)) := hu
  have IX : Hid _ := index8 u
  have sI : (s : Int) < 64 := by omega
  have s0 : (0 : Int) ≤ 64 - (s : Int) := by omega
  have m5 : min s 64 = s := by omega
  have m6 : min (64 - s) 64 = 64 - s := by omega
  have w3 : IntKind.u64.wrap (64 - (s : Int)) = 64 - (s : Int) := by rw [IntKind.wrap_u64]; omega
  rw [← zero9] at T0
  clear hu
  go_enter Tryz.func128, Tryz.ntmps128
  go_wp2_with (refine load8 u w.heap.size rfl _ rfl rfl (Row.range T0.out.rowu) ?_)
  go_loopw [9] (fun si wx => ∃ (i : Nat) (r : Nat → Int), i ≤ 8 ∧ si = .int .i64 (i : Int) ∧ St w u s i r wx) (fun si _ => 8 - (intOf si).toNat)
  case atStart => exact ⟨0, _, by omega, rfl, T0.out⟩
  case round =>
    obtain ⟨i, r, hi8, rfl, hT⟩ := hrel
    have TT : Hid (St w u s i r wr) := hT
    clear hT T0
    by_cases hi : i < 8
    · have iI : (i : Int) < 8 := by omega
      have ix := IX.out i hi
      have c0 := (TT.out.row i (by omega)).1
      have f0 := (TT.out.row i (by omega)).2
      have c1 := (TT.out.row (i + 1) (by omega)).1
      have f1 := (TT.out.row (i + 1) (by omega)).2
      have hx := HU.out i
      have hc0 := (TT.out.u64 i).1
      have hct := TT.out.top
      obtain ⟨x, ex⟩ : ∃ x, u i = x := ⟨_, rfl⟩
      obtain ⟨c, ec⟩ : ∃ c, r i = c := ⟨_, rfl⟩
      obtain ⟨z, ez⟩ : ∃ z, r (i + 1) = z := ⟨_, rfl⟩
      obtain ⟨q, eq⟩ : ∃ q : Nat, i + 1 = q := ⟨_, rfl⟩
      rw [ex] at ix hx
      rw [ec] at c0 hc0 hct
      rw [ez, eq] at c1
      rw [eq] at f1
      obtain ⟨y, d, j0, j1, uy, ud, dt, ey⟩ := up_one x c s hs hx hc0 hct
      have S1 : Hid (St w u s q (fun j => if j = i + 1 then d else if j = i then y else r j) ((wr.setCell ⟨w.heap.size + 1 + 1, i, none⟩ (.int .u64 y)).setCell ⟨w.heap.size + 1 + 1, q, none⟩ (.int .u64 d))) := by
        have h := TT.out.step (y := y) (d := d) (by rw [ex, ec]; exact ey.out) uy ud dt
        rw [eq] at h ⊢; exact h
      have qI : (i : Int) + 1 = (q : Int) := by omega
      have qw : IntKind.i64.wrap (q : Int) = (q : Int) := by rw [IntKind.wrap_i64]; omega
      have q9 : (q : Int) < 9 := by omega
      have qi : ¬ i = q := by omega
      have EQ : Hid (i + 1 = q) := eq
      clear ex ec ez eq hx hc0 hct uy ud dt TT HU
      go_wp2
      go_roundw
      case rel => exact ⟨q, _, by have := EQ.out; omega, by first | rfl | go_num, S1.out⟩
      case measure => simp [intOf]; omega
    · obtain rfl : i = 8 := by omega
      have R1 : Hid (Row wr (w.heap.size + 1 + 1) 9 r) := TT.out.row
      have Z1 : Hid (Row wr (w.heap.size + 1) 9 (fun _ => 0)) := TT.out.zer
      go_wp2_with (first
        | refine load9 r (w.heap.size + 1 + 1) rfl _ rfl rfl (Row.range R1.out) ?_
        | refine store9 r (w.heap.size + 1) rfl _ _ rfl rfl rfl (Row.there Z1.out) ?_)
      have hW := Row.of_range (v := r) Z1.out
      refine bodyPost_ret (v := .agg (rowL 9 r).toArray) ?_ rfl ⟨⟨r, rfl, TT.out.u64, TT.out.eq⟩, below_setCells (w.heap.size + 1) (by omega) (rowL 9 r) 0 wr TT.out.bel⟩
      exact results_c Tryz.results128 _ _ _ ⟨w.heap.size + 1, 0, none⟩ rfl (loadVar9 hW.range)
set_option maxHeartbeats 1000000 in
set_option maxRecDepth 100000 in
theorem squeeze_is (r : Nat → Int) (s : Nat) (hs : s < 64) (L : Int) (p0 p1 p2 p3 : Int) (hu : ∀ i, U64 (r i)) (h : nv r 9 = L * 2 ^ s) (hM : nv r 9 < MM) (hp : IsW L p0 p1 p2 p3) (w : World) :
    Calls Tryz.prog 131 #[.agg (rowL 9 r).toArray, .int .u64 (s : Int)] w fun e w' => e = .returned (.agg #[.int .u64 p0, .int .u64 p1, .int .u64 p2, .int .u64 p3]) ∧ Below w.heap.size w w' := by
  obtain ⟨e0, e1, e2, e3⟩ := hp.eq (squeeze_num hu s hs L h hM) rfl
  have t1 : ((s : Int)).toNat = s := by omega
  have t2 : (64 - (s : Int)).toNat = 64 - s := by omega
  rw [dnJ, t1, t2] at e0 e1 e2 e3
  have j0 := e0.symm
  have j1 := e1.symm
  have j2 := e2.symm
  have j3 := e3.symm
  have sI : (s : Int) < 64 := by omega
  have s0 : (0 : Int) ≤ 64 - (s : Int) := by omega
  have m5 : min s 64 = s := by omega
  have m6 : min (64 - s) 64 = 64 - s := by omega
  have w3 : IntKind.u64.wrap (64 - (s : Int)) = 64 - (s : Int) := by rw [IntKind.wrap_u64]; omega
  clear hp h hM hu e0 e1 e2 e3 t1 t2
  show Calls _ _ #[.agg #[.int .u64 (r 0), .int .u64 (r 1), .int .u64 (r 2), .int .u64 (r 3), .int .u64 (r 4), .int .u64 (r 5), .int .u64 (r 6), .int .u64 (r 7), .int .u64 (r 8)], _] _ _
  generalize r 0 = z0 at *
  generalize r 1 = z1 at *
  generalize r 2 = z2 at *
  generalize r 3 = z3 at *
  generalize r 4 = z4 at *
  generalize r 5 = z5 at *
  generalize r 6 = z6 at *
  generalize r 7 = z7 at *
  generalize r 8 = z8 at *
  go_enter Tryz.func131, Tryz.ntmps131
  go_wp2
  refine wp_loop_rounds 5 ?_
  rw [rounds_succ]
  go_wp2
  go_region
  go_wp2
  rw [rounds_succ]
  go_wp2
  go_region
  go_wp2
  rw [rounds_succ]
  go_wp2
  go_region
  go_wp2
  rw [rounds_succ]
  go_wp2
  go_region
  go_wp2
  rw [rounds_succ]
  go_wp2
  exact bodyPost_ret (v := .agg #[.int .u64 p0, .int .u64 p1, .int .u64 p2, .int .u64 p3]) (by simp [results, Tryz.results131, go_sem]) rfl ⟨rfl, by repeat' (first | with_reducible exact Below.refl _ _ | with_reducible exact Below.refl _ _ | with_reducible refine Below.drew ?_ | with_reducible refine bdrewN ?_ _ | with_reducible refine Below.alloc ?_ ?_ _ | with_reducible refine Below.setCell ?_ ?_ _ | omega | (simp; done) | (simp; omega))⟩
end Go.Proofs.YtpadpmkfhljiiaaGreat
/- Shifts: what shiftUp and shiftDown make of a word, limb by limb, by how many whole limbs they shift. -/
namespace Go.Proofs.YtpadpmkfhljiiaaGreat
open Go.RowKit

set_option maxHeartbeats 1000000 in
set_option maxRecDepth 100000 in
theorem shiftUp0 (a0 a1 a2 a3 : Int) (n r : Int) (w : World) (_hn0 : 0 ≤ n) (_hn : n < 256) (hq : n / 64 = 0) (hr : n % 64 = r) (_r0 : 0 ≤ r) (_r1 : r < 64) :
    Calls Tryz.prog 105 #[.agg #[.int .u64 a0, .int .u64 a1, .int .u64 a2, .int .u64 a3], .int .u64 n] w fun e w' => e = .returned (.agg #[.int .u64 (IntKind.u64.wrap (a0 * 2 ^ r.toNat)), .int .u64 (bits .or .u64 (IntKind.u64.wrap (a1 * 2 ^ r.toNat)) (a0 / 2 ^ (64 - r).toNat)), .int .u64 (bits .or .u64 (IntKind.u64.wrap (a2 * 2 ^ r.toNat)) (a1 / 2 ^ (64 - r).toNat)), .int .u64 (bits .or .u64 (IntKind.u64.wrap (a3 * 2 ^ r.toNat)) (a2 / 2 ^ (64 - r).toNat))]) ∧ Below w.heap.size w w' := by
  go_enter Tryz.func105, Tryz.ntmps105
  go_wp2
  refine wp_loop_rounds 5 ?_
  rw [rounds_succ]
  go_wp2
  rw [rounds_succ]
  go_wp2
  go_region
  go_wp2
  rw [rounds_succ]
  go_wp2
  go_region
  go_wp2
  rw [rounds_succ]
  go_wp2
  go_region
  go_wp2
  rw [rounds_succ]
  go_wp2
  exact bodyPost_ret (v := .agg #[.int .u64 (IntKind.u64.wrap (a0 * 2 ^ r.toNat)), .int .u64 (bits .or .u64 (IntKind.u64.wrap (a1 * 2 ^ r.toNat)) (a0 / 2 ^ (64 - r).toNat)), .int .u64 (bits .or .u64 (IntKind.u64.wrap (a2 * 2 ^ r.toNat)) (a1 / 2 ^ (64 - r).toNat)), .int .u64 (bits .or .u64 (IntKind.u64.wrap (a3 * 2 ^ r.toNat)) (a2 / 2 ^ (64 - r).toNat))]) (by simp [results, Tryz.results105, go_sem]) rfl ⟨rfl, by repeat' (first | with_reducible exact Below.refl _ _ | with_reducible exact Below.refl _ _ | with_reducible refine Below.drew ?_ | with_reducible refine bdrewN ?_ _ | with_reducible refine Below.alloc ?_ ?_ _ | with_reducible refine Below.setCell ?_ ?_ _ | omega | (simp; done) | (simp; omega))⟩

set_option maxHeartbeats 1000000 in
set_option maxRecDepth 100000 in
theorem shiftUp1 (a0 a1 a2 a3 : Int) (n r : Int) (w : World) (_hn0 : 0 ≤ n) (_hn : n < 256) (hq : n / 64 = 1) (hr : n % 64 = r) (_r0 : 0 ≤ r) (_r1 : r < 64) :
    Calls Tryz.prog 105 #[.agg #[.int .u64 a0, .int .u64 a1, .int .u64 a2, .int .u64 a3], .int .u64 n] w fun e w' => e = .returned (.agg #[.int .u64 0, .int .u64 (IntKind.u64.wrap (a0 * 2 ^ r.toNat)), .int .u64 (bits .or .u64 (IntKind.u64.wrap (a1 * 2 ^ r.toNat)) (a0 / 2 ^ (64 - r).toNat)), .int .u64 (bits .or .u64 (IntKind.u64.wrap (a2 * 2 ^ r.toNat)) (a1 / 2 ^ (64 - r).toNat))]) ∧ Below w.heap.size w w' := by
  go_enter Tryz.func105, Tryz.ntmps105
  go_wp2
  refine wp_loop_rounds 5 ?_
  rw [rounds_succ]
  go_wp2
  rw [rounds_succ]
  go_wp2
  go_region
  go_wp2
  rw [rounds_succ]
  go_wp2
  go_region
  go_wp2
  rw [rounds_succ]
  go_wp2
  exact bodyPost_ret (v := .agg #[.int .u64 0, .int .u64 (IntKind.u64.wrap (a0 * 2 ^ r.toNat)), .int .u64 (bits .or .u64 (IntKind.u64.wrap (a1 * 2 ^ r.toNat)) (a0 / 2 ^ (64 - r).toNat)), .int .u64 (bits .or .u64 (IntKind.u64.wrap (a2 * 2 ^ r.toNat)) (a1 / 2 ^ (64 - r).toNat))]) (by simp [results, Tryz.results105, go_sem]) rfl ⟨rfl, by repeat' (first | with_reducible exact Below.refl _ _ | with_reducible exact Below.refl _ _ | with_reducible refine Below.drew ?_ | with_reducible refine bdrewN ?_ _ | with_reducible refine Below.alloc ?_ ?_ _ | with_reducible refine Below.setCell ?_ ?_ _ | omega | (simp; done) | (simp; omega))⟩

set_option maxHeartbeats 1000000 in
set_option maxRecDepth 100000 in
theorem shiftUp2 (a0 a1 a2 a3 : Int) (n r : Int) (w : World) (_hn0 : 0 ≤ n) (_hn : n < 256) (hq : n / 64 = 2) (hr : n % 64 = r) (_r0 : 0 ≤ r) (_r1 : r < 64) :
    Calls Tryz.prog 105 #[.agg #[.int .u64 a0, .int .u64 a1, .int .u64 a2, .int .u64 a3], .int .u64 n] w fun e w' => e = .returned (.agg #[.int .u64 0, .int .u64 0, .int .u64 (IntKind.u64.wrap (a0 * 2 ^ r.toNat)), .int .u64 (bits .or .u64 (IntKind.u64.wrap (a1 * 2 ^ r.toNat)) (a0 / 2 ^ (64 - r).toNat))]) ∧ Below w.heap.size w w' := by
  go_enter Tryz.func105, Tryz.ntmps105
  go_wp2
  refine wp_loop_rounds 5 ?_
  rw [rounds_succ]
  go_wp2
  rw [rounds_succ]
  go_wp2
  go_region
  go_wp2
  rw [rounds_succ]
  go_wp2
  exact bodyPost_ret (v := .agg #[.int .u64 0, .int .u64 0, .int .u64 (IntKind.u64.wrap (a0 * 2 ^ r.toNat)), .int .u64 (bits .or .u64 (IntKind.u64.wrap (a1 * 2 ^ r.toNat)) (a0 / 2 ^ (64 - r).toNat))]) (by simp [results, Tryz.results105, go_sem]) rfl ⟨rfl, by repeat' (first | with_reducible exact Below.refl _ _ | with_reducible exact Below.refl _ _ | with_reducible refine Below.drew ?_ | with_reducible refine bdrewN ?_ _ | with_reducible refine Below.alloc ?_ ?_ _ | with_reducible refine Below.setCell ?_ ?_ _ | omega | (simp; done) | (simp; omega))⟩

set_option maxHeartbeats 1000000 in
set_option maxRecDepth 100000 in
theorem shiftUp3 (a0 a1 a2 a3 : Int) (n r : Int) (w : World) (_hn0 : 0 ≤ n) (_hn : n < 256) (hq : n / 64 = 3) (hr : n % 64 = r) (_r0 : 0 ≤ r) (_r1 : r < 64) :
    Calls Tryz.prog 105 #[.agg #[.int .u64 a0, .int .u64 a1, .int .u64 a2, .int .u64 a3], .int .u64 n] w fun e w' => e = .returned (.agg #[.int .u64 0, .int .u64 0, .int .u64 0, .int .u64 (IntKind.u64.wrap (a0 * 2 ^ r.toNat))]) ∧ Below w.heap.size w w' := by
  go_enter Tryz.func105, Tryz.ntmps105
  go_wp2
  refine wp_loop_rounds 5 ?_
  rw [rounds_succ]
  go_wp2
  rw [rounds_succ]
  go_wp2
  exact bodyPost_ret (v := .agg #[.int .u64 0, .int .u64 0, .int .u64 0, .int .u64 (IntKind.u64.wrap (a0 * 2 ^ r.toNat))]) (by simp [results, Tryz.results105, go_sem]) rfl ⟨rfl, by repeat' (first | with_reducible exact Below.refl _ _ | with_reducible exact Below.refl _ _ | with_reducible refine Below.drew ?_ | with_reducible refine bdrewN ?_ _ | with_reducible refine Below.alloc ?_ ?_ _ | with_reducible refine Below.setCell ?_ ?_ _ | omega | (simp; done) | (simp; omega))⟩

set_option maxHeartbeats 1000000 in
set_option maxRecDepth 100000 in
theorem shiftDown0 (a0 a1 a2 a3 : Int) (n r f : Int) (w : World) (_hn0 : 0 ≤ n) (_hn : n < 256) (hq : n / 64 = 0) (hr : n % 64 = r) (_r0 : 0 ≤ r) (_r1 : r < 64) :
    Calls Tryz.prog 101 #[.agg #[.int .u64 a0, .int .u64 a1, .int .u64 a2, .int .u64 a3], .int .u64 n, .int .u64 f] w fun e w' => e = .returned (.agg #[.int .u64 (bits .or .u64 (a0 / 2 ^ r.toNat) (IntKind.u64.wrap (a1 * 2 ^ (64 - r).toNat))), .int .u64 (bits .or .u64 (a1 / 2 ^ r.toNat) (IntKind.u64.wrap (a2 * 2 ^ (64 - r).toNat))), .int .u64 (bits .or .u64 (a2 / 2 ^ r.toNat) (IntKind.u64.wrap (a3 * 2 ^ (64 - r).toNat))), .int .u64 (bits .or .u64 (a3 / 2 ^ r.toNat) (IntKind.u64.wrap (f * 2 ^ (64 - r).toNat)))]) ∧ Below w.heap.size w w' := by
  go_enter Tryz.func101, Tryz.ntmps101
  go_wp2
  refine wp_loop_rounds 5 ?_
  rw [rounds_succ]
  go_wp2
  go_region
  go_wp2
  rw [rounds_succ]
  go_wp2
  go_region
  go_wp2
  rw [rounds_succ]
  go_wp2
  go_region
  go_wp2
  rw [rounds_succ]
  go_wp2
  go_region
  go_wp2
  rw [rounds_succ]
  go_wp2
  exact bodyPost_ret (v := .agg #[.int .u64 (bits .or .u64 (a0 / 2 ^ r.toNat) (IntKind.u64.wrap (a1 * 2 ^ (64 - r).toNat))), .int .u64 (bits .or .u64 (a1 / 2 ^ r.toNat) (IntKind.u64.wrap (a2 * 2 ^ (64 - r).toNat))), .int .u64 (bits .or .u64 (a2 / 2 ^ r.toNat) (IntKind.u64.wrap (a3 * 2 ^ (64 - r).toNat))), .int .u64 (bits .or .u64 (a3 / 2 ^ r.toNat) (IntKind.u64.wrap (f * 2 ^ (64 - r).toNat)))]) (by simp [results, Tryz.results101, go_sem]) rfl ⟨rfl, by repeat' (first | with_reducible exact Below.refl _ _ | with_reducible exact Below.refl _ _ | with_reducible refine Below.drew ?_ | with_reducible refine bdrewN ?_ _ | with_reducible refine Below.alloc ?_ ?_ _ | with_reducible refine Below.setCell ?_ ?_ _ | omega | (simp; done) | (simp; omega))⟩

set_option maxHeartbeats 1000000 in
set_option maxRecDepth 100000 in
theorem shiftDown1 (a0 a1 a2 a3 : Int) (n r f : Int) (w : World) (_hn0 : 0 ≤ n) (_hn : n < 256) (hq : n / 64 = 1) (hr : n % 64 = r) (_r0 : 0 ≤ r) (_r1 : r < 64) :
    Calls Tryz.prog 101 #[.agg #[.int .u64 a0, .int .u64 a1, .int .u64 a2, .int .u64 a3], .int .u64 n, .int .u64 f] w fun e w' => e = .returned (.agg #[.int .u64 (bits .or .u64 (a1 / 2 ^ r.toNat) (IntKind.u64.wrap (a2 * 2 ^ (64 - r).toNat))), .int .u64 (bits .or .u64 (a2 / 2 ^ r.toNat) (IntKind.u64.wrap (a3 * 2 ^ (64 - r).toNat))), .int .u64 (bits .or .u64 (a3 / 2 ^ r.toNat) (IntKind.u64.wrap (f * 2 ^ (64 - r).toNat))), .int .u64 (bits .or .u64 (f / 2 ^ r.toNat) (IntKind.u64.wrap (f * 2 ^ (64 - r).toNat)))]) ∧ Below w.heap.size w w' := by
  go_enter Tryz.func101, Tryz.ntmps101
  go_wp2
  refine wp_loop_rounds 5 ?_
  rw [rounds_succ]
  go_wp2
  go_region
  go_wp2
  rw [rounds_succ]
  go_wp2
  go_region
  go_wp2
  rw [rounds_succ]
  go_wp2
  go_region
  go_wp2
  rw [rounds_succ]
  go_wp2
  go_region
  go_wp2
  rw [rounds_succ]
  go_wp2
  exact bodyPost_ret (v := .agg #[.int .u64 (bits .or .u64 (a1 / 2 ^ r.toNat) (IntKind.u64.wrap (a2 * 2 ^ (64 - r).toNat))), .int .u64 (bits .or .u64 (a2 / 2 ^ r.toNat) (IntKind.u64.wrap (a3 * 2 ^ (64 - r).toNat))), .int .u64 (bits .or .u64 (a3 / 2 ^ r.toNat) (IntKind.u64.wrap (f * 2 ^ (64 - r).toNat))), .int .u64 (bits .or .u64 (f / 2 ^ r.toNat) (IntKind.u64.wrap (f * 2 ^ (64 - r).toNat)))]) (by simp [results, Tryz.results101, go_sem]) rfl ⟨rfl, by repeat' (first | with_reducible exact Below.refl _ _ | with_reducible exact Below.refl _ _ | with_reducible refine Below.drew ?_ | with_reducible refine bdrewN ?_ _ | with_reducible refine Below.alloc ?_ ?_ _ | with_reducible refine Below.setCell ?_ ?_ _ | omega | (simp; done) | (simp; omega))⟩

set_option maxHeartbeats 1000000 in
set_option maxRecDepth 100000 in
theorem shiftDown2 (a0 a1 a2 a3 : Int) (n r f : Int) (w : World) (_hn0 : 0 ≤ n) (_hn : n < 256) (hq : n / 64 = 2) (hr : n % 64 = r) (_r0 : 0 ≤ r) (_r1 : r < 64) :
    Calls Tryz.prog 101 #[.agg #[.int .u64 a0, .int .u64 a1, .int .u64 a2, .int .u64 a3], .int .u64 n, .int .u64 f] w fun e w' => e = .returned (.agg #[.int .u64 (bits .or .u64 (a2 / 2 ^ r.toNat) (IntKind.u64.wrap (a3 * 2 ^ (64 - r).toNat))), .int .u64 (bits .or .u64 (a3 / 2 ^ r.toNat) (IntKind.u64.wrap (f * 2 ^ (64 - r).toNat))), .int .u64 (bits .or .u64 (f / 2 ^ r.toNat) (IntKind.u64.wrap (f * 2 ^ (64 - r).toNat))), .int .u64 (bits .or .u64 (f / 2 ^ r.toNat) (IntKind.u64.wrap (f * 2 ^ (64 - r).toNat)))]) ∧ Below w.heap.size w w' := by
  go_enter Tryz.func101, Tryz.ntmps101
  go_wp2
  refine wp_loop_rounds 5 ?_
  rw [rounds_succ]
  go_wp2
  go_region
  go_wp2
  rw [rounds_succ]
  go_wp2
  go_region
  go_wp2
  rw [rounds_succ]
  go_wp2
  go_region
  go_wp2
  rw [rounds_succ]
  go_wp2
  go_region
  go_wp2
  rw [rounds_succ]
  go_wp2
  exact bodyPost_ret (v := .agg #[.int .u64 (bits .or .u64 (a2 / 2 ^ r.toNat) (IntKind.u64.wrap (a3 * 2 ^ (64 - r).toNat))), .int .u64 (bits .or .u64 (a3 / 2 ^ r.toNat) (IntKind.u64.wrap (f * 2 ^ (64 - r).toNat))), .int .u64 (bits .or .u64 (f / 2 ^ r.toNat) (IntKind.u64.wrap (f * 2 ^ (64 - r).toNat))), .int .u64 (bits .or .u64 (f / 2 ^ r.toNat) (IntKind.u64.wrap (f * 2 ^ (64 - r).toNat)))]) (by simp [results, Tryz.results101, go_sem]) rfl ⟨rfl, by repeat' (first | with_reducible exact Below.refl _ _ | with_reducible exact Below.refl _ _ | with_reducible refine Below.drew ?_ | with_reducible refine bdrewN ?_ _ | with_reducible refine Below.alloc ?_ ?_ _ | with_reducible refine Below.setCell ?_ ?_ _ | omega | (simp; done) | (simp; omega))⟩

set_option maxHeartbeats 1000000 in
set_option maxRecDepth 100000 in
theorem shiftDown3 (a0 a1 a2 a3 : Int) (n r f : Int) (w : World) (_hn0 : 0 ≤ n) (_hn : n < 256) (hq : n / 64 = 3) (hr : n % 64 = r) (_r0 : 0 ≤ r) (_r1 : r < 64) :
    Calls Tryz.prog 101 #[.agg #[.int .u64 a0, .int .u64 a1, .int .u64 a2, .int .u64 a3], .int .u64 n, .int .u64 f] w fun e w' => e = .returned (.agg #[.int .u64 (bits .or .u64 (a3 / 2 ^ r.toNat) (IntKind.u64.wrap (f * 2 ^ (64 - r).toNat))), .int .u64 (bits .or .u64 (f / 2 ^ r.toNat) (IntKind.u64.wrap (f * 2 ^ (64 - r).toNat))), .int .u64 (bits .or .u64 (f / 2 ^ r.toNat) (IntKind.u64.wrap (f * 2 ^ (64 - r).toNat))), .int .u64 (bits .or .u64 (f / 2 ^ r.toNat) (IntKind.u64.wrap (f * 2 ^ (64 - r).toNat)))]) ∧ Below w.heap.size w w' := by
  go_enter Tryz.func101, Tryz.ntmps101
  go_wp2
  refine wp_loop_rounds 5 ?_
  rw [rounds_succ]
  go_wp2
  go_region
  go_wp2
  rw [rounds_succ]
  go_wp2
  go_region
  go_wp2
  rw [rounds_succ]
  go_wp2
  go_region
  go_wp2
  rw [rounds_succ]
  go_wp2
  go_region
  go_wp2
  rw [rounds_succ]
  go_wp2
  exact bodyPost_ret (v := .agg #[.int .u64 (bits .or .u64 (a3 / 2 ^ r.toNat) (IntKind.u64.wrap (f * 2 ^ (64 - r).toNat))), .int .u64 (bits .or .u64 (f / 2 ^ r.toNat) (IntKind.u64.wrap (f * 2 ^ (64 - r).toNat))), .int .u64 (bits .or .u64 (f / 2 ^ r.toNat) (IntKind.u64.wrap (f * 2 ^ (64 - r).toNat))), .int .u64 (bits .or .u64 (f / 2 ^ r.toNat) (IntKind.u64.wrap (f * 2 ^ (64 - r).toNat)))]) (by simp [results, Tryz.results101, go_sem]) rfl ⟨rfl, by repeat' (first | with_reducible exact Below.refl _ _ | with_reducible exact Below.refl _ _ | with_reducible refine Below.drew ?_ | with_reducible refine bdrewN ?_ _ | with_reducible refine Below.alloc ?_ ?_ _ | with_reducible refine Below.setCell ?_ ?_ _ | omega | (simp; done) | (simp; omega))⟩

end Go.Proofs.YtpadpmkfhljiiaaGreat
/- shiftUp and shiftDown, whatever the count: the answer as four letters, and what it is worth. -/
namespace Go.Proofs.YtpadpmkfhljiiaaGreat
open Go.RowKit

theorem q4 (n : Int) (h0 : 0 ≤ n) (h1 : n < 256) : n / 64 = 0 ∨ n / 64 = 1 ∨ n / 64 = 2 ∨ n / 64 = 3 := by omega
theorem pow_0 (n : Int) (hq : n / 64 = 0) (h0 : 0 ≤ n) : (2 : Int) ^ n.toNat = 2 ^ (n % 64).toNat := by
  rw [pow_split n 0 _ hq rfl h0, show (0 : Int).toNat = 0 from rfl, Int.pow_zero, Int.mul_one]
theorem pow_1 (n : Int) (hq : n / 64 = 1) (h0 : 0 ≤ n) : (2 : Int) ^ n.toNat = 2 ^ (n % 64).toNat * Bd := by
  rw [pow_split n 1 _ hq rfl h0, show (1 : Int).toNat = 1 from rfl, Int.pow_succ, Int.pow_zero, Int.one_mul]; rfl
theorem pow_2 (n : Int) (hq : n / 64 = 2) (h0 : 0 ≤ n) : (2 : Int) ^ n.toNat = 2 ^ (n % 64).toNat * (Bd * Bd) := by
  rw [pow_split n 2 _ hq rfl h0, show (2 : Int).toNat = 2 from rfl, Int.pow_succ, Int.pow_succ, Int.pow_zero, Int.one_mul]; rfl
theorem pow_3 (n : Int) (hq : n / 64 = 3) (h0 : 0 ≤ n) : (2 : Int) ^ n.toNat = 2 ^ (n % 64).toNat * (Bd * Bd * Bd) := by
  rw [pow_split n 3 _ hq rfl h0, show (3 : Int).toNat = 3 from rfl, Int.pow_succ, Int.pow_succ, Int.pow_succ, Int.pow_zero, Int.one_mul]; rfl
theorem shiftUp_ex (x n : Int) (a0 a1 a2 a3 : Int) (ha : IsW x a0 a1 a2 a3) (h0 : 0 ≤ n) (h1 : n < 256) : ∃ s0 s1 s2 s3 : Int, (∀ w : World, Calls Tryz.prog 105 #[.agg #[.int .u64 a0, .int .u64 a1, .int .u64 a2, .int .u64 a3], .int .u64 n] w fun e w' => e = .returned (.agg #[.int .u64 s0, .int .u64 s1, .int .u64 s2, .int .u64 s3]) ∧ Below w.heap.size w w') ∧ IsW (x * 2 ^ n.toNat) s0 s1 s2 s3 := by
  have r0 : 0 ≤ n % 64 := by omega
  have r1 : n % 64 < 64 := by omega
  rcases q4 n h0 h1 with hq | hq | hq | hq
  · exact ⟨_, _, _, _, fun w => shiftUp0 a0 a1 a2 a3 n (n % 64) w h0 h1 hq rfl r0 r1, by rw [pow_0 n hq h0]; exact upW0 ha (n % 64) r0 r1⟩
  · exact ⟨_, _, _, _, fun w => shiftUp1 a0 a1 a2 a3 n (n % 64) w h0 h1 hq rfl r0 r1, by rw [pow_1 n hq h0]; exact upW1 ha (n % 64) r0 r1⟩
  · exact ⟨_, _, _, _, fun w => shiftUp2 a0 a1 a2 a3 n (n % 64) w h0 h1 hq rfl r0 r1, by rw [pow_2 n hq h0]; exact upW2 ha (n % 64) r0 r1⟩
  · exact ⟨_, _, _, _, fun w => shiftUp3 a0 a1 a2 a3 n (n % 64) w h0 h1 hq rfl r0 r1, by rw [pow_3 n hq h0]; exact upW3 ha (n % 64) r0 r1⟩

end Go.Proofs.YtpadpmkfhljiiaaGreat
/- divide: the quotient of eight parts by four, and what is left. -/
namespace Go.Proofs.YtpadpmkfhljiiaaGreat
open Go.RowKit
/-- what divide answers: by 0 both are 0 -/
def DivRes (u : Nat → Int) (v0 v1 v2 v3 : Int) (e : Ending) : Prop := ∃ (q : Nat → Int) (l0 l1 l2 l3 : Int), e = .returned (.tuple #[.agg (rowL 8 q).toArray, .agg #[.int .u64 l0, .int .u64 l1, .int .u64 l2, .int .u64 l3]]) ∧ (∀ i, U64 (q i)) ∧ nv q 8 = nv u 8 / V v0 v1 v2 v3 ∧ IsW (if V v0 v1 v2 v3 = 0 then 0 else nv u 8 % V v0 v1 v2 v3) l0 l1 l2 l3
/-- what lies there while it is divided: the number, and the two results -/
structure Dq (w : World) (u : Nat → Int) (W : World) : Prop where
  bel : Below w.heap.size w W
  ru : Row W w.heap.size 8 u
  z8 : Row W (w.heap.size + 1 + 1) 8 (fun _ => 0)
  z4 : Box W (w.heap.size + 1 + 1 + 1) 0 0 0 0
theorem Dq.past {w W W' : World} {u : Nat → Int} (h : Dq w u W) (k : Below W.heap.size W W') : Dq w u W' :=
  ⟨h.bel.trans (k.mono h.bel.size), h.ru.below k (h.ru.lt (by omega)), h.z8.below k (h.z8.lt (by omega)), h.z4.below k h.z4.lt⟩
theorem Dq.alloc {w W : World} {u : Nat → Int} (h : Dq w u W) (o : Obj) : Dq w u (W.alloc o) := ⟨h.bel.alloc h.bel.size _, h.ru.alloc _, h.z8.alloc _, h.z4.alloc _⟩
theorem Dq.cells {w W : World} {u : Nat → Int} (h : Dq w u W) (b o : Nat) (vs : List Value) (hb : w.heap.size + 1 + 1 + 1 < b) : Dq w u (W.setCells b o vs) :=
  ⟨below_setCells b (by omega) vs o W h.bel, Row.set_others (by omega) vs o h.ru, Row.set_others (by omega) vs o h.z8, Box.set_others (by omega) vs o h.z4⟩
theorem Dq.cell {w W : World} {u : Nat → Int} (h : Dq w u W) (b o : Nat) (x : Value) (hb : w.heap.size + 1 + 1 + 1 < b) : Dq w u (W.setCell ⟨b, o, none⟩ x) := h.cells b o [x] hb
/-- the blocks while it is divided -/
structure Dv (w : World) (u : Nat → Int) (d0 d1 d2 d3 : Int) (bd br bq : Nat) (r q : Nat → Int) (W : World) : Prop where
  bas : Dq w u W
  bd : Box W bd d0 d1 d2 d3
  rr : Row W br 9 r
  rq : Row W bq 8 q
theorem Dv.past {w W W' : World} {u : Nat → Int} {d0 d1 d2 d3 : Int} {bd br bq : Nat} {r q : Nat → Int} (h : Dv w u d0 d1 d2 d3 bd br bq r q W) (k : Below W.heap.size W W') : Dv w u d0 d1 d2 d3 bd br bq r q W' :=
  ⟨h.bas.past k, h.bd.below k h.bd.lt, h.rr.below k (h.rr.lt (by omega)), h.rq.below k (h.rq.lt (by omega))⟩
theorem Dv.drew {w W : World} {u : Nat → Int} {d0 d1 d2 d3 : Int} {bd br bq : Nat} {r q : Nat → Int} (h : Dv w u d0 d1 d2 d3 bd br bq r q W) : Dv w u d0 d1 d2 d3 bd br bq r q W.drew := ⟨⟨h.bas.bel.drew, h.bas.ru.drew, h.bas.z8.drew, h.bas.z4.drew⟩, h.bd.drew, h.rr.drew, h.rq.drew⟩
theorem Dv.alloc {w W : World} {u : Nat → Int} {d0 d1 d2 d3 : Int} {bd br bq : Nat} {r q : Nat → Int} (h : Dv w u d0 d1 d2 d3 bd br bq r q W) (o : Obj) : Dv w u d0 d1 d2 d3 bd br bq r q (W.alloc o) := ⟨h.bas.alloc _, h.bd.alloc _, h.rr.alloc _, h.rq.alloc _⟩
/-- another block is written -/
theorem Dv.cells {w W : World} {u : Nat → Int} {d0 d1 d2 d3 : Int} {bd br bq : Nat} {r q : Nat → Int} (h : Dv w u d0 d1 d2 d3 bd br bq r q W) (b o : Nat) (vs : List Value) (hb : w.heap.size + 1 + 1 + 1 < b) (h1 : b ≠ bd) (h2 : b ≠ br) (h3 : b ≠ bq) : Dv w u d0 d1 d2 d3 bd br bq r q (W.setCells b o vs) :=
  ⟨h.bas.cells b o vs hb, Box.set_others h1 vs o h.bd, Row.set_others h2 vs o h.rr, Row.set_others h3 vs o h.rq⟩
/-- a digit is laid down -/
theorem Dv.putq {w W : World} {u : Nat → Int} {d0 d1 d2 d3 : Int} {bd br bq : Nat} {r q : Nat → Int} (h : Dv w u d0 d1 d2 d3 bd br bq r q W) (hb : w.heap.size + 1 + 1 + 1 < bq) (h1 : bq ≠ bd) (h2 : bq ≠ br) (a : Nat) (k : Int) : Dv w u d0 d1 d2 d3 bd br bq r (fun i => if i = a then k else q i) (W.setCell ⟨bq, a, none⟩ (.int .u64 k)) :=
  ⟨h.bas.cell bq a _ hb, h.bd.other _ _ h1, h.rr.set_other _ _ h2, h.rq.set a k⟩
/-- what is left is laid down -/
theorem Dv.putr {w W : World} {u : Nat → Int} {d0 d1 d2 d3 : Int} {bd br bq : Nat} {r q : Nat → Int} (h : Dv w u d0 d1 d2 d3 bd br bq r q W) (hb : w.heap.size + 1 + 1 + 1 < br) (h1 : br ≠ bd) (h2 : br ≠ bq) (z : Nat → Int) : Dv w u d0 d1 d2 d3 bd br bq z q (W.setCells br 0 (rowL 9 z)) :=
  ⟨h.bas.cells br 0 _ hb, Box.set_others h1 _ 0 h.bd, Row.of_range h.rr, Row.set_others h2 _ 0 h.rq⟩
/-- the numbers while it is divided: k columns are still to be done -/
structure Dn (u d : Nat → Int) (P : Int) (n k : Nat) (r q : Nat → Int) : Prop where
  ur : ∀ i, U64 (r i)
  uq : ∀ i, U64 (q i)
  low : ∀ i, i < k → q i = 0
  eq : nv u 8 * P = nv q 8 * nv d n + nv r 9
  lt : nv r 9 < nv d n * Bd ^ k
  d0 : 0 < nv d n
  dn : nv d n < Bd ^ n
  fits : k + n ≤ 9 ∨ k = 0
theorem Dn.col {u d : Nat → Int} {P : Int} {n a : Nat} {r q : Nat → Int} (h : Dn u d P n (a + 1) r q) : Col r n a (nv d n) := ⟨h.ur, h.d0, h.dn, h.lt, by have := h.fits; omega⟩
/-- a digit was found -/
theorem Dn.step {u d : Nat → Int} {P : Int} {n a : Nat} {r q s : Nat → Int} {k : Int} (h : Dn u d P n (a + 1) r q) (o : Off r d n a k s true) (hk : k = nv (sh r a) (n + 1) / nv d n) (ha : a < 8) (hu : U64 k) : Dn u d P n a s (fun i => if i = a then k else q i) := by
  obtain ⟨e1, e2⟩ := o.left h.col rfl hk
  refine ⟨o.u, fun i => ?_, fun i hi => ?_, ?_, e2, h.d0, h.dn, by have := h.fits; omega⟩
  · split
    · exact hu
    · exact h.uq i
  · rw [if_neg (by omega)]; exact h.low i (by omega)
  · rw [nv_set q a k 8 ha (h.low a (by omega)), h.eq, e1, Int.add_mul, Int.mul_assoc k, Int.mul_comm (Bd ^ a)]; omega
/-- no digit -/
theorem Dn.skip {u d : Nat → Int} {P : Int} {n a : Nat} {r q : Nat → Int} (h : Dn u d P n (a + 1) r q) (hk : nv (sh r a) (n + 1) / nv d n ≤ 0) : Dn u d P n a r q := by
  have h1 := h.col.digit.1
  exact ⟨h.ur, h.uq, fun i hi => h.low i (by omega), h.eq, h.col.none (by omega), h.d0, h.dn, by have := h.fits; omega⟩
theorem there_row {W : World} {b n : Nat} {v g : Nat → Int} (h : Row W b n v) : W.there b 0 (rowL n g).toArray.size := by rw [List.size_toArray, rowL_len]; exact h.there
/-- a new row of nine, and what is laid into it -/
theorem new9 {ops : Array Oper} {rest : List Oper} {op1 op2 : Oper} {a : Act} {w : World} {Q : Exit → Act → World → Prop} (z : Nat → Int) (p : Tmp) (y : Operand) (hg1 : op1.guard = none) (ho1 : op1.op = .alloc 110) (hd : op1.dst = some p) (hg2 : op2.guard = none) (ho2 : op2.op = .store 110 (.tmp p) y)
    (hx : (a.put (some p) (.pointer (some ⟨w.heap.size, 0, none⟩))).eval (.tmp p) = .pointer (some ⟨w.heap.size, 0, none⟩)) (hy : (a.put (some p) (.pointer (some ⟨w.heap.size, 0, none⟩))).eval y = .agg (rowL 9 z).toArray)
    (h : ∀ W', Below w.heap.size w W' → Row W' w.heap.size 9 z → wpList Tryz.prog ops Q rest ((a.put (some p) (.pointer (some ⟨w.heap.size, 0, none⟩))).put op2.dst undef) W') : wpList Tryz.prog ops Q (op1 :: op2 :: rest) a w := by
  have hr : (execOp a.eval op1).run Tryz.prog w = .ok (.value (.pointer (some ⟨w.heap.size, 0, none⟩))) (w.alloc (.cells (rowL 9 fun _ => 0).toArray 110)) := by
    unfold execOp
    simp only [ho1]
    kernel_rfl
  refine wpList_plain hg1 fun K hK => ?_
  unfold Oper.wp
  rw [hr, Oper.upon_value, hd]
  refine hK _ _ ?_
  have hR := Row.new w 110 9 (fun _ => 0)
  refine store9 z w.heap.size hg2 _ _ ho2 hx hy hR.there ?_
  exact h _ (below_setCells _ (Nat.le_refl _) _ _ _ ((Below.refl _ _).alloc (Nat.le_refl _) _)) (Row.of_range hR)
theorem Bd_le (m : Nat) (h : m ≤ 4) : Bd ^ m ≤ MM := by
  rw [← Bd4]
  obtain ⟨k, hk⟩ := Nat.exists_eq_add_of_le h
  have h9 := Int.mul_le_mul_of_nonneg_left (show 1 ≤ Bd ^ k by have := Bp k; omega) (Int.le_of_lt (Bp m))
  rw [← Int.pow_add, ← hk, Int.mul_one] at h9
  exact h9
/-- the end: nothing is left to be done -/
theorem Dn.fin {u d : Nat → Int} {P W : Int} {n : Nat} {r q : Nat → Int} (h : Dn u d P n 0 r q) (hP : 0 < P) (e : nv d n = W * P) (h0 : 0 < W) (hn : n ≤ 4) : nv q 8 = nv u 8 / W ∧ nv r 9 = (nv u 8 % W) * P ∧ nv r 9 < MM := by
  have h1 := h.eq
  have h2 := h.lt
  have h3 := h.dn
  have h4 := Bd_le n hn
  rw [e] at h1 h2 h3
  rw [Int.pow_zero, Int.mul_one] at h2
  obtain ⟨e1, e2⟩ := div_end hP h0 h1 (nv_range h.ur 9).1 h2
  exact ⟨e1, e2, by omega⟩
theorem nv_up {r : Nat → Int} (h : ∀ i, U64 (r i)) (n m : Nat) (hn : n ≤ m) (hl : nv r m < Bd ^ n) : nv r n = nv r m := by
  obtain ⟨k, rfl⟩ := Nat.exists_eq_add_of_le hn
  rw [nv_split, nv_top h n k hl]; simp
/-- the divisor with its highest bit at the top -/
theorem norm_facts {v0 v1 v2 v3 d0 d1 d2 d3 : Int} (hv : IsW (V v0 v1 v2 v3) v0 v1 v2 v3) (n s : Nat) (hn : n < 4) (hs : s < 64) (hne : limb v0 v1 v2 v3 n ≠ 0) (hz : ∀ i, n + 1 ≤ i → i < 4 → limb v0 v1 v2 v3 i = 0)
    (hb : limb v0 v1 v2 v3 n < 2 ^ (64 - s)) (hd : IsW (V v0 v1 v2 v3 * 2 ^ s) d0 d1 d2 d3) :
    nv (limb d0 d1 d2 d3) (n + 1) = V v0 v1 v2 v3 * 2 ^ s ∧ nv (limb v0 v1 v2 v3) (n + 1) = V v0 v1 v2 v3 ∧ 0 < V v0 v1 v2 v3 ∧ V v0 v1 v2 v3 * 2 ^ s < Bd ^ (n + 1) := by
  have hu := limb_u64 hv.u0 hv.u1 hv.u2 hv.u3
  have e1 : nv (limb v0 v1 v2 v3) (n + 1) = V v0 v1 v2 v3 := by rw [← nv4]; exact (nv_more (n + 1) 4 (by omega) hz).symm
  have hP := two_pos s
  have hB := Bp n
  have hr := nv_range hu n
  have hy0 := (hu n).1
  have e2 := e1
  rw [nv] at e2
  generalize limb v0 v1 v2 v3 n = y at hne hb hy0 e2
  have h1 : y * Bd ^ n ≥ 1 * Bd ^ n := Int.mul_le_mul_of_nonneg_right (by omega) (Int.le_of_lt hB)
  have h2 : (y + 1) * 2 ^ s ≤ Bd := by
    have : (y + 1) * 2 ^ s ≤ 2 ^ (64 - s) * 2 ^ s := Int.mul_le_mul_of_nonneg_right (by omega) (Int.le_of_lt hP)
    rw [← Int.pow_add, show 64 - s + s = 64 by omega] at this
    exact this
  have h3 : V v0 v1 v2 v3 * 2 ^ s < Bd ^ (n + 1) := by
    have h4 : V v0 v1 v2 v3 < (y + 1) * Bd ^ n := by rw [Int.add_mul, Int.one_mul]; omega
    have h5 := Int.mul_lt_mul_of_pos_right h4 hP
    have h6 := Int.mul_le_mul_of_nonneg_right h2 (Int.le_of_lt hB)
    rw [Int.pow_succ, Int.mul_comm (Bd ^ n) Bd]
    rw [Int.mul_assoc, Int.mul_comm (Bd ^ n), ← Int.mul_assoc] at h5
    omega
  have h7 : Bd ^ (n + 1) ≤ MM := by
    rw [← Bd4]
    obtain ⟨k, hk⟩ := Nat.exists_eq_add_of_le (show n + 1 ≤ 4 by omega)
    have h9 := Int.mul_le_mul_of_nonneg_left (show 1 ≤ Bd ^ k by have := Bp k; omega) (Int.le_of_lt (Bp (n + 1)))
    rw [← Int.pow_add, ← hk, Int.mul_one] at h9
    exact h9
  have h0 : 0 < V v0 v1 v2 v3 := by omega
  have h8 := hd.small (Int.mul_nonneg (by omega) (by omega)) (by omega)
  refine ⟨?_, e1, h0, h3⟩
  rw [← h8, ← nv4]
  exact nv_up (limb_u64 hd.u0 hd.u1 hd.u2 hd.u3) (n + 1) 4 (by omega) (by rw [nv4, h8]; exact h3)
theorem Dn.start {u d v : Nat → Int} {P W : Int} {n m : Nat} {r : Nat → Int} (hu : ∀ i, U64 (u i)) (hv : ∀ i, U64 (v i)) (hr : ∀ i, U64 (r i)) (hP : 0 < P) (hne : v n ≠ 0) (hm : m ≤ 8) (hz : ∀ i, m ≤ i → i < 8 → u i = 0) (e : nv r 9 = nv u 8 * P)
    (e1 : nv d (n + 1) = W * P) (e2 : nv v (n + 1) = W) (h0 : 0 < W) (hlt : W * P < Bd ^ (n + 1)) (hn : n < 4) : Dn u d P (n + 1) (m - n) r (fun _ => 0) := by
  have hs := div_start (k := m - n) hu hv hP hne hm hz (by omega)
  refine ⟨hr, fun i => ⟨by simp, by unfold Bd; simp⟩, fun _ _ => rfl, ?_, ?_, ?_, ?_, by omega⟩
  · rw [nv_zero 8 (r := fun _ => (0 : Int)) (fun _ _ => rfl), Int.zero_mul, Int.zero_add, e]
  · rw [e, e1, ← e2]; exact hs
  · rw [e1]; exact Int.mul_pos h0 hP
  · rw [e1]; exact hlt
theorem Box.range {W : World} {b : Nat} {a0 a1 a2 a3 : Int} (h : Box W b a0 a1 a2 a3) : W.rangeAt b 0 [.int .u64 a0, .int .u64 a1, .int .u64 a2, .int .u64 a3] := fun j x hx => by
  obtain ⟨c0, c1, c2, c3, _⟩ := h.facts
  rw [Nat.zero_add]
  rcases j with _ | _ | _ | _ | j
  · rw [c0]; exact hx
  · rw [c1]; exact hx
  · rw [c2]; exact hx
  · rw [c3]; exact hx
  · simp at hx
theorem loadVar4 {W : World} {b : Nat} {a0 a1 a2 a3 : Int} (h : Box W b a0 a1 a2 a3) : (loadVar 24 ⟨b, 0, none⟩).run Tryz.prog W = .ok (.agg #[.int .u64 a0, .int .u64 a1, .int .u64 a2, .int .u64 a3]) W :=
  run_loadVar_mid W b 0 24 [.int .u64 a0, .int .u64 a1, .int .u64 a2, .int .u64 a3] _ h.range Tryz.underlying24 rfl (by kernel_rfl)
theorem slice4 (g : Nat) (W : World) : Sem.run Tryz.prog (Instr.sliceAt 24 (.pointer (some ⟨g, 0, none⟩)) none none none) W = .ok (.slice (some ⟨g, 0, none⟩) 4 4) W := by
  have h4 : Tryz.prog.arrayLen 24 = 4 := by kernel_rfl
  have sz : Sem.run Tryz.prog (sizeOf (Tryz.prog.elem 24)) W = .ok 1 W := by kernel_rfl
  rw [run_sliceAt_array_all W 24 ⟨g, 0, none⟩ (by kernel_rfl), sz, h4, Result.andThen_ok]
  rfl
theorem slice8 (g : Nat) (W : World) : Sem.run Tryz.prog (Instr.sliceAt 69 (.pointer (some ⟨g, 0, none⟩)) none none none) W = .ok (.slice (some ⟨g, 0, none⟩) 8 8) W := by
  have h8 : Tryz.prog.arrayLen 69 = 8 := by kernel_rfl
  have sz : Sem.run Tryz.prog (sizeOf (Tryz.prog.elem 69)) W = .ok 1 W := by kernel_rfl
  rw [run_sliceAt_array_all W 69 ⟨g, 0, none⟩ (by kernel_rfl), sz, h8, Result.andThen_ok]
  rfl
end Go.Proofs.YtpadpmkfhljiiaaGreat
/- The document's rows as numbers, and what each of its functions makes of them. -/
namespace Go.Proofs.YtpadpmkfhljiiaaGreat
open Go.RowKit
/-- a row of at most n digits whose number is N -/
def RowIs (W : World) (v : Value) (n N : Nat) : Prop := ∃ (k : Nat) (d : Nat → Nat), k ≤ n ∧ RowAt W v k d ∧ dsum d k = N
theorem RowIs.below {W W' : World} {v : Value} {n N : Nat} (h : RowIs W v n N) (k : Below W.heap.size W W') : RowIs W' v n N := by
  obtain ⟨q, d, h1, h2, h3⟩ := h
  exact ⟨q, d, h1, h2.below k, h3⟩
theorem RowIs.lt {W : World} {v : Value} {n N : Nat} (h : RowIs W v n N) : N < 256 ^ n := by
  obtain ⟨q, d, h1, h2, h3⟩ := h
  rw [← h3]
  exact Nat.lt_of_lt_of_le (dsum_lt h2.2.1 q) (Nat.pow_le_pow_right (by decide) h1)
/-- boxes of words and rows -/
structure Bw (w : World) (l : List (Nat × Int × Int × Int × Int)) (rs : List (Value × Nat × Nat)) (W : World) : Prop where
  bx : Bx w l W
  rows : ∀ p ∈ rs, RowIs W p.1 p.2.1 p.2.2
theorem Bw.of {w W : World} {l : List (Nat × Int × Int × Int × Int)} (h : Bx w l W) : Bw w l [] W := ⟨h, fun _ hp => by cases hp⟩
theorem Bw.past {w W W' : World} {l : List (Nat × Int × Int × Int × Int)} {rs : List (Value × Nat × Nat)} (h : Bw w l rs W) (k : Below W.heap.size W W') : Bw w l rs W' := ⟨h.bx.past k, fun p hp => (h.rows p hp).below k⟩
theorem Bw.drew {w W : World} {l : List (Nat × Int × Int × Int × Int)} {rs : List (Value × Nat × Nat)} (h : Bw w l rs W) : Bw w l rs W.drew := h.past (Below.refl _ _).drew
theorem Bw.row {w W : World} {l : List (Nat × Int × Int × Int × Int)} {rs : List (Value × Nat × Nat)} {v : Value} {n N : Nat} (h : Bw w l rs W) (k : RowIs W v n N) : Bw w l ((v, n, N) :: rs) W := ⟨h.bx, fun p hp => by
  rcases List.mem_cons.1 hp with rfl | hp
  · exact k
  · exact h.rows p hp⟩
theorem Bw.at {w W : World} {l : List (Nat × Int × Int × Int × Int)} {rs : List (Value × Nat × Nat)} {v : Value} {n N : Nat} (h : Bw w l rs W) (hp : (v, n, N) ∈ rs) : RowIs W v n N := h.rows _ hp
theorem V_lt {x a0 a1 a2 a3 : Int} {X : Nat} (ha : IsW x a0 a1 a2 a3) (hX : V a0 a1 a2 a3 = (X : Int)) : X < 256 ^ 32 := by
  obtain ⟨X', h1, _, h3⟩ := mod_nat ha
  have : X = X' := by rw [hX] at h1; omega
  omega
theorem ri_of {x : Int} {a0 a1 a2 a3 : Int} (ha : IsW x a0 a1 a2 a3) {X : Nat} (hX : V a0 a1 a2 a3 = (X : Int)) (W : World) :
    Calls Tryz.prog 79 #[.agg #[.int .u64 a0, .int .u64 a1, .int .u64 a2, .int .u64 a3]] W fun e w' => ∃ v, e = .returned v ∧ RowIs w' v 32 X ∧ Below W.heap.size W w' := by
  refine (of_is x a0 a1 a2 a3 W ha X hX).mono ?_
  rintro e w' ⟨v, rfl, h1, h2⟩
  exact ⟨v, rfl, ⟨32, _, Nat.le_refl _, h1, dig_all X (V_lt ha hX)⟩, h2⟩
theorem ri_plus {W : World} {v u : Value} {n m A B : Nat} (h1 : RowIs W v n A) (h2 : RowIs W u m B) (q : Nat) (hq : max n m + 1 ≤ q) (hl : q ≤ 1000) :
    Calls Tryz.prog 78 #[v, u] W fun e w' => ∃ x, e = .returned x ∧ RowIs w' x q (A + B) ∧ Below W.heap.size W w' := by
  obtain ⟨k, d, a1, a2, a3⟩ := h1
  obtain ⟨j, c, b1, b2, b3⟩ := h2
  refine Calls.mono (plus_is W v u k j d c a2 b2 (by omega) (by omega) (max k j) rfl) ?_
  rintro e w' ⟨x, f, rfl, x1, x2, x3⟩
  rw [a2.more (max k j) (by omega), b2.more (max k j) (by omega), a3, b3] at x2
  exact ⟨x, rfl, ⟨_, f, by omega, x1, x2⟩, x3⟩
theorem ri_minus {W : World} {v u : Value} {n m A B : Nat} (h1 : RowIs W v n A) (h2 : RowIs W u m B) (hle : B ≤ A) (q : Nat) (hq : max n m ≤ q) (hl : q ≤ 1000) :
    Calls Tryz.prog 81 #[v, u] W fun e w' => ∃ x, e = .returned x ∧ RowIs w' x q (A - B) ∧ Below W.heap.size W w' := by
  obtain ⟨k, d, a1, a2, a3⟩ := h1
  obtain ⟨j, c, b1, b2, b3⟩ := h2
  refine Calls.mono (minus_is W v u k j d c a2 b2 (by omega) (by omega) (max k j) rfl (by rw [a2.more (max k j) (by omega), b2.more (max k j) (by omega), a3, b3]; exact hle)) ?_
  rintro e w' ⟨x, f, rfl, x1, x2, _, x3⟩
  rw [a2.more (max k j) (by omega), b2.more (max k j) (by omega), a3, b3] at x2
  exact ⟨x, rfl, ⟨_, f, by omega, x1, by omega⟩, x3⟩
theorem ri_times {W : World} {v u : Value} {n m A B : Nat} (h1 : RowIs W v n A) (h2 : RowIs W u m B) (q : Nat) (hq : n + m + 1 ≤ q) (hl : q ≤ 1000) :
    Calls Tryz.prog 85 #[v, u] W fun e w' => ∃ x, e = .returned x ∧ RowIs w' x q (A * B) ∧ Below W.heap.size W w' := by
  obtain ⟨k, d, a1, a2, a3⟩ := h1
  obtain ⟨j, c, b1, b2, b3⟩ := h2
  refine (times_is W v u k j d c a2 b2 (by omega) (by omega)).mono ?_
  rintro e w' ⟨x, f, rfl, x1, x2, x3⟩
  rw [a3, b3] at x2
  exact ⟨x, rfl, ⟨_, f, by omega, x1, x2⟩, x3⟩
theorem ri_div {W : World} {v u : Value} {n m A B : Nat} (h1 : RowIs W v n A) (h2 : RowIs W u m B) (hB : 0 < B) (q : Nat) (hq : m + 2 ≤ q) (hn : n ≤ 100) (hm : m ≤ 100) :
    Calls Tryz.prog 89 #[v, u] W fun e w' => ∃ x y, e = .returned (.tuple #[x, y]) ∧ RowIs w' x n (A / B) ∧ RowIs w' y q (A % B) ∧ Below W.heap.size W w' := by
  obtain ⟨k, d, a1, a2, a3⟩ := h1
  obtain ⟨j, c, b1, b2, b3⟩ := h2
  refine Calls.mono (rdivide_is W v u k j d c a2 b2 (by omega) (by omega) A B a3 b3 hB) ?_
  rintro e w' ⟨x, y, f, g, L, rfl, x1, x2, y1, y2, y3, x3⟩
  exact ⟨x, y, rfl, ⟨_, f, by omega, x1, x2⟩, ⟨_, g, by omega, y1, y3⟩, x3⟩
theorem ri_none {W : World} {v : Value} {n N : Nat} (h1 : RowIs W v n N) (r : Bool) (hr : decide (N = 0) = r) :
    Calls Tryz.prog 88 #[v] W fun e w' => e = .returned (.bool r) ∧ Below W.heap.size W w' := by
  obtain ⟨k, d, a1, a2, a3⟩ := h1
  refine (none_is W v k d a2 r (by rw [a3]; exact hr)).mono ?_
  rintro e w' ⟨rfl, rfl⟩
  exact ⟨rfl, Below.refl _ _⟩
theorem ri_compare {W : World} {v u : Value} {n m A B : Nat} (h1 : RowIs W v n A) (h2 : RowIs W u m B) (r : Int) (hr : cmpv (A : Int) (B : Int) = r) :
    Calls Tryz.prog 118 #[v, u] W fun e w' => e = .returned (.int .i64 r) ∧ Below W.heap.size W w' := by
  obtain ⟨k, d, a1, a2, a3⟩ := h1
  obtain ⟨j, c, b1, b2, b3⟩ := h2
  refine (compare_is W v u k j d c a2 b2 (max k j) (Nat.le_refl _)).mono ?_
  rintro e w' ⟨rfl, rfl⟩
  rw [a2.more (max k j) (by omega), b2.more (max k j) (by omega), a3, b3, hr]
  exact ⟨rfl, Below.refl _ _⟩
theorem ri_word {W : World} {v : Value} {n N : Nat} (h1 : RowIs W v n N) {p0 p1 p2 p3 : Int} (hp : IsW (N : Int) p0 p1 p2 p3) :
    Calls Tryz.prog 77 #[v] W fun e w' => e = .returned (.agg #[.int .u64 p0, .int .u64 p1, .int .u64 p2, .int .u64 p3]) ∧ Below W.heap.size W w' := by
  obtain ⟨k, d, a1, a2, a3⟩ := h1
  refine (word_is W v k d a2).mono ?_
  rintro e w' ⟨s0, s1, s2, s3, rfl, hs, hB⟩
  have h : (dsum d 32 : Int) % MM = (N : Int) % MM := by
    rw [← MM_nat, ← a3]
    by_cases hk : k ≤ 32
    · rw [a2.more 32 hk]
    · have h1 := dsum_mod a2.2.1 k 32
      have h2 := dsum_lt a2.2.1 32
      have h3 : dsum (cutD d 32) k = dsum d 32 := by
        rw [dsum_more (n := 32) (fun i hi => by rw [cutD, if_neg (by omega)]) k (by omega)]
        exact dsum_ext 32 (fun i hi => by rw [cutD, if_pos hi])
      rw [← Int.natCast_emod, ← Int.natCast_emod, Nat.mod_eq_of_lt h2, ← h3, ← cutD_sum a2.2.1]
  obtain ⟨rfl, rfl, rfl, rfl⟩ := hs.eq hp h
  exact ⟨rfl, hB⟩
theorem ri_full (W : World) : Calls Tryz.prog 82 #[] W fun e w' => ∃ x, e = .returned x ∧ RowIs w' x 33 (256 ^ 32) ∧ Below W.heap.size W w' := by
  refine (full_is W).mono ?_
  rintro e w' ⟨x, rfl, x1, x3⟩
  exact ⟨x, rfl, ⟨33, _, Nat.le_refl _, x1, dsum_full⟩, x3⟩
end Go.Proofs.YtpadpmkfhljiiaaGreat
/- Bits and their number; the document's 'joined'. -/
namespace Go.Proofs.YtpadpmkfhljiiaaGreat
open Go.RowKit
/-- the number of bits -/
def bsum (f : Nat → Nat) : Nat → Nat
  | 0 => 0
  | n + 1 => bsum f n + f n * 2 ^ n
theorem bsum_ext {f g : Nat → Nat} : ∀ n, (∀ i, i < n → f i = g i) → bsum f n = bsum g n
  | 0, _ => rfl
  | n + 1, h => by rw [bsum, bsum, bsum_ext n (fun i hi => h i (by omega)), h n (by omega)]
theorem bsum_split (f : Nat → Nat) (m : Nat) : ∀ n, bsum f (m + n) = bsum f m + 2 ^ m * bsum (fun r => f (m + r)) n
  | 0 => by simp [bsum]
  | n + 1 => by
    rw [← Nat.add_assoc, bsum, bsum_split f m n, bsum, Nat.pow_add, Nat.mul_add, Nat.mul_left_comm, Nat.add_assoc]
theorem bsum_front (f : Nat → Nat) (n : Nat) : bsum f (n + 1) = f 0 + 2 * bsum (fun r => f (1 + r)) n := by
  rw [Nat.add_comm n 1, bsum_split]; simp [bsum]
theorem bsum_lt {f : Nat → Nat} (hf : ∀ i, f i ≤ 1) : ∀ n, bsum f n < 2 ^ n
  | 0 => by simp [bsum]
  | n + 1 => by
    have h1 := bsum_lt hf n
    have h2 : f n * 2 ^ n ≤ 1 * 2 ^ n := Nat.mul_le_mul_right _ (hf n)
    rw [bsum, Nat.pow_succ]; omega
theorem bsum_bitf (X : Nat) : ∀ n, bsum (bitf X) n = X % 2 ^ n
  | 0 => by simp [bsum, Nat.mod_one]
  | n + 1 => by rw [bsum, bsum_bitf X n, bitf, Nat.pow_succ, Nat.mod_mul, Nat.mul_comm (2 ^ n)]
/-- what digit q holds while the bits from j on are laid -/
def jw (f : Nat → Nat) (j q : Nat) : Nat := if 8 * q + 8 ≤ j then 0 else if j ≤ 8 * q then bsum (fun r => f (8 * q + r)) 8 else bsum (fun r => f (j + r)) (8 * q + 8 - j)
theorem jw_step (f : Nat → Nat) (j : Nat) : jw f j (j / 8) = 2 * jw f (j + 1) (j / 8) + f j := by
  obtain ⟨q, eq⟩ : ∃ q, q = j / 8 := ⟨_, rfl⟩
  rw [← eq]
  have e0 : ∀ k, bsum (fun r => f (j + r)) (k + 1) = 2 * bsum (fun r => f (j + 1 + r)) k + f j := fun k => by
    rw [bsum_front, Nat.add_zero, Nat.add_comm]
    congr 2
    apply congrFun
    apply congrArg
    funext r; rw [Nat.add_assoc]
  unfold jw
  rw [if_neg (by omega)]
  by_cases h1 : 8 * q + 8 ≤ j + 1
  · rw [if_pos h1]
    by_cases h2 : j ≤ 8 * q
    · omega
    · rw [if_neg h2, show 8 * q + 8 - j = 0 + 1 by omega, e0]; simp [bsum]
  · rw [if_neg h1, if_neg (show ¬ (j + 1 ≤ 8 * q) by omega)]
    by_cases h2 : j ≤ 8 * q
    · rw [if_pos h2]
      obtain rfl : j = 8 * q := by omega
      rw [show 8 * q + 8 - (8 * q + 1) = 7 by omega]; exact e0 7
    · rw [if_neg h2, show 8 * q + 8 - j = (8 * q + 8 - (j + 1)) + 1 by omega, e0]
theorem jw_other (f : Nat → Nat) (j i : Nat) (h : i ≠ j / 8) : jw f j i = jw f (j + 1) i := by
  unfold jw
  by_cases h1 : 8 * i + 8 ≤ j
  · rw [if_pos h1, if_pos (show 8 * i + 8 ≤ j + 1 by omega)]
  · have h1' : ¬ (8 * i + 8 ≤ j + 1) := by omega
    by_cases h2 : j ≤ 8 * i
    · have h2' : j + 1 ≤ 8 * i := by omega
      rw [if_neg h1, if_pos h2, if_neg h1', if_pos h2']
    · omega
theorem jw_lt {f : Nat → Nat} (hf : ∀ i, f i ≤ 1) (j q : Nat) : jw f j q < 256 := by
  unfold jw
  split
  · omega
  · split
    · exact bsum_lt (fun i => hf _) 8
    · have h := bsum_lt (f := fun r => f (j + r)) (fun i => hf _) (8 * q + 8 - j)
      have h2 : 2 ^ (8 * q + 8 - j) ≤ 2 ^ 8 := Nat.pow_le_pow_right (by omega) (by omega)
      have h3 : (2 : Nat) ^ 8 = 256 := by decide
      omega
theorem jw_set (f : Nat → Nat) (j : Nat) : setD (jw f (j + 1)) (j / 8) (jw f j (j / 8)) = jw f j := by
  funext i
  unfold setD
  by_cases h : i = j / 8
  · rw [if_pos h, h]
  · rw [if_neg h, jw_other f j i h]
theorem jw_sum (f : Nat → Nat) : ∀ n, dsum (jw f 0) n = bsum f (8 * n)
  | 0 => by simp [dsum, bsum]
  | n + 1 => by
    have e : jw f 0 n = bsum (fun r => f (8 * n + r)) 8 := by unfold jw; rw [if_neg (by omega), if_pos (by omega)]
    rw [dsum, jw_sum f n, e, show 8 * (n + 1) = 8 * n + 8 by omega, bsum_split, show (256 : Nat) = 2 ^ 8 by decide, ← Nat.pow_mul, Nat.mul_comm (bsum _ 8)]
set_option maxHeartbeats 2000000 in
set_option maxRecDepth 100000 in
theorem joined_is (f : Nat → Nat) (hf : ∀ i, f i ≤ 1) (w : World) (p0 p1 p2 p3 : Int) (hp : IsW (bsum f 256 : Int) p0 p1 p2 p3) :
    Calls Tryz.prog 107 #[.agg (intsD f 256).toArray] w fun e w' => e = .returned (.agg #[.int .u64 p0, .int .u64 p1, .int .u64 p2, .int .u64 p3]) ∧ Below w.heap.size w w' := by
  obtain ⟨i0, hi, hz0, hz1, hz2⟩ := info_parts Tryz.infoI
  have HP : Hid (IsW (bsum f 256 : Int) p0 p1 p2 p3) := hp
  have HF : Hid (∀ i, f i ≤ 1) := hf
  clear hp hf
  go_enter Tryz.func107, Tryz.ntmps107
  go_upto_region 1 with (refine box256 f rfl _ rfl rfl ?_; intro W0 hW0)
  have K0 : Hid (Below w.heap.size w (W0.alloc (.cells #[.int .u64 0, .int .u64 0, .int .u64 0, .int .u64 0] 24)) ∧ RowI (W0.alloc (.cells #[.int .u64 0, .int .u64 0, .int .u64 0, .int .u64 0] 24)) w.heap.size 256 f ∧ Box (W0.alloc (.cells #[.int .u64 0, .int .u64 0, .int .u64 0, .int .u64 0] 24)) (w.heap.size + 1) 0 0 0 0) :=
    ⟨hW0.bel.alloc hW0.bel.size _, hW0.row.past ((Below.refl _ _).alloc (Nat.le_refl _) _), by rw [← hW0.siz]; exact Box.new W0 24 0 0 0 0⟩
  have e0 := hW0.siz
  (try rw [e0])
  clear hW0 e0
  generalize W0.alloc (.cells #[.int .u64 0, .int .u64 0, .int .u64 0, .int .u64 0] 24) = W1 at K0 ⊢
  go_upto_region 2 with (at_make; refine wpList_make_full _ rfl _ _ 61 rfl W1.heap.size 3 i0 (.int .i64 0) 1 Tryz.underlying61 hi hz0 hz1 .i64 .i64 _ _ 32 rfl rfl rfl rfl (by rw [hz2]; omega) (by unfold maxLen; omega) (Nat.le_refl _) ?_; intro v1 hown hgrow; (have R1 : Hid (RowI v1 W1.heap.size 32 (fun _ => 0)) := RowI.made hown); (have B1 : Hid (Below W1.heap.size W1 v1) := Below.grown (Below.refl _ _) hgrow (Nat.le_refl _) (fun k h => by cases h)); clear hown hgrow)
  obtain ⟨g, eg⟩ : ∃ g, W1.heap.size = g := ⟨_, rfl⟩
  have EG : Hid (W1.heap.size = g) := eg
  rw [eg] at R1 B1 ⊢
  clear eg
  go_wp2
  go_loopw [4] (fun s wr => ∃ j : Nat, s = .int .i64 ((j : Int) - 1) ∧ j ≤ 256 ∧ RowI wr g 32 (jw f j) ∧ Below g W1 wr) (fun s _ => (intOf s + 1).toNat)
  case atStart => exact ⟨256, rfl, by omega, R1.out.ext (fun i hi => by unfold jw; rw [if_pos (by omega)]), B1.out⟩
  case round =>
    obtain ⟨j, rfl, hj, hR, hB⟩ := hrel
    clear R1 B1
    have HR : Hid (RowI wr g 32 (jw f j)) := hR
    have HB : Hid (Below g W1 wr) := hB
    clear hR hB
    rcases j with _ | j
    · have RI : Hid (RowIs wr (.slice (some ⟨g, 0, none⟩) 32 32) 32 (bsum f 256)) := ⟨32, _, Nat.le_refl _, RowAt.ofRowI HR.out (jw_lt HF.out 0) (by omega), by rw [cutD_same, jw_sum]⟩
      have BX : Hid (Box wr (w.heap.size + 1) 0 0 0 0 ∧ Below w.heap.size w wr) := by
        have h := EG.out
        exact ⟨K0.out.2.2.below (by rw [h]; exact HB.out) K0.out.2.2.lt, K0.out.1.trans (HB.out.mono (by rw [← h]; exact K0.out.1.size))⟩
      have WD : Hid _ := ri_word RI.out HP.out
      clear HR HB K0 RI
      go_wp2_with fail
      refine Calls.mono WD.out ?_
      rintro e x1 ⟨rfl, hB⟩
      have B2 : Hid (Box x1 (w.heap.size + 1) 0 0 0 0 ∧ Below w.heap.size w x1) := ⟨BX.out.1.below hB BX.out.1.lt, BX.out.2.trans (hB.mono BX.out.2.size)⟩
      clear hB WD BX
      obtain ⟨r0, r1, r2, r3, f0, f1, f2, f3⟩ := Box.facts B2.out.1
      go_wp2
      exact bodyPost_ret (v := .agg #[.int .u64 p0, .int .u64 p1, .int .u64 p2, .int .u64 p3]) (by simp [results, Tryz.results107, go_sem, r0, r1, r2, r3]) rfl ⟨rfl, below_put B2.out.2 (by omega) _ _ _ _⟩
    · rw [show ((j + 1 : Nat) : Int) - 1 = (j : Int) by omega]
      obtain ⟨q, eq⟩ : ∃ q : Nat, q = j / 8 := ⟨_, rfl⟩
      have t1 : Int.tdiv (j : Int) 8 = (q : Int) := by rw [Int.tdiv_eq_ediv_of_nonneg (by omega)]; omega
      have w1 : IntKind.i64.wrap (q : Int) = (q : Int) := by rw [IntKind.wrap_i64]; omega
      have jI : (0 : Int) ≤ (j : Int) := by omega
      have jL : (j : Int) < 256 := by omega
      have qI : (q : Int) < 32 := by omega
      have q4 : q < 32 := by omega
      have c1 := (HR.out q q4).1
      have f1 := (HR.out q q4).2
      have c2 := (K0.out.2.1.below HB.out (by rw [← EG.out]; exact RowI.lt K0.out.2.1 (by omega)) j (by omega)).1
      have st := jw_step f j
      have lt := jw_lt HF.out (j + 1) q
      have hfj := HF.out j
      have se := jw_set f j
      rw [← eq] at st se
      obtain ⟨y, ey⟩ : ∃ y, y = f j := ⟨_, rfl⟩
      obtain ⟨z, ez⟩ : ∃ z, z = jw f (j + 1) q := ⟨_, rfl⟩
      obtain ⟨u, eu⟩ : ∃ u, u = jw f j q := ⟨_, rfl⟩
      rw [← ey] at st hfj c2
      rw [← ez] at st lt c1
      rw [← eu] at st se
      obtain ⟨z2, ez2⟩ : ∃ z2, z2 = 2 * z := ⟨_, rfl⟩
      have m1 : (2 : Int) * (z : Int) = (z2 : Int) := by omega
      have m2 : IntKind.i64.wrap (z2 : Int) = (z2 : Int) := by rw [IntKind.wrap_i64]; omega
      have m3 : (z2 : Int) + (y : Int) = (u : Int) := by omega
      have m4 : IntKind.i64.wrap (u : Int) = (u : Int) := by rw [IntKind.wrap_i64]; omega
      have N1 : Hid (RowI (wr.setCell ⟨g, q, none⟩ (.int .i64 (u : Int))).drew g 32 (jw f j) ∧ Below g W1 (wr.setCell ⟨g, q, none⟩ (.int .i64 (u : Int))).drew) := by
        refine ⟨?_, (HB.out.setCell (Nat.le_refl _) _).drew⟩
        rw [← se]
        exact (RowI.set HR.out q u).past (Below.refl _ _).drew
      clear st lt hfj se ey ez eu ez2 eq
      go_wp2
      go_region
      generalize (wr.setCell ⟨g, q, none⟩ (.int .i64 (u : Int))).drew = x1 at N1 ⊢
      go_wp2
      go_roundw
      case rel => exact ⟨j, by go_num, by omega, N1.out.1, N1.out.2⟩
      case measure => simp [intOf]
end Go.Proofs.YtpadpmkfhljiiaaGreat
