/- What an exponent costs: of both kinds; GasExps' walk. -/
import Derived.Test.YtpgjchkfglkgcaaXa
import Derived.Test.YtpgjchkfglkgcaaUl
import Derived.Test.YtpgjchkfglkgcaaUd
namespace Go.Proofs.Ytpgjchkfglkgcaa
open Go.RowKit
/-- the j-th byte of four parts -/
def byt (x0 x1 x2 x3 : Int) (j : Nat) : Int := limb x0 x1 x2 x3 (j / 8) / 256 ^ (j % 8) % 256
set_option maxHeartbeats 4000000 in
theorem byt_num {x0 x1 x2 x3 : Int} (h0 : U64 x0) (h1 : U64 x1) (h2 : U64 x2) (_h3 : U64 x3) (j : Nat) (hj : j < 32) : byt x0 x1 x2 x3 j = V x0 x1 x2 x3 / 256 ^ j % 256 := by
  unfold byt V U64 Bd at *
  obtain rfl | rfl | rfl | rfl | rfl | rfl | rfl | rfl | rfl | rfl | rfl | rfl | rfl | rfl | rfl | rfl | rfl | rfl | rfl | rfl | rfl | rfl | rfl | rfl | rfl | rfl | rfl | rfl | rfl | rfl | rfl | rfl : j = 0 ∨ j = 1 ∨ j = 2 ∨ j = 3 ∨ j = 4 ∨ j = 5 ∨ j = 6 ∨ j = 7 ∨ j = 8 ∨ j = 9 ∨ j = 10 ∨ j = 11 ∨ j = 12 ∨ j = 13 ∨ j = 14 ∨ j = 15 ∨ j = 16 ∨ j = 17 ∨ j = 18 ∨ j = 19 ∨ j = 20 ∨ j = 21 ∨ j = 22 ∨ j = 23 ∨ j = 24 ∨ j = 25 ∨ j = 26 ∨ j = 27 ∨ j = 28 ∨ j = 29 ∨ j = 30 ∨ j = 31 := by omega
  all_goals (simp [limb]; omega)
/-- n bytes: the last of them is not 0, those behind are -/
def NB (x0 x1 x2 x3 : Int) (n i : Nat) : Prop := n ≤ i ∧ (0 < n → byt x0 x1 x2 x3 (n - 1) ≠ 0) ∧ ∀ j, n ≤ j → j < i → byt x0 x1 x2 x3 j = 0
theorem NB.zero (x0 x1 x2 x3 : Int) : NB x0 x1 x2 x3 0 0 := ⟨Nat.le_refl _, fun h => absurd h (by omega), fun j h k => absurd k (by omega)⟩
theorem NB.yes {x0 x1 x2 x3 : Int} {n i : Nat} (_ : NB x0 x1 x2 x3 n i) (k : byt x0 x1 x2 x3 i ≠ 0) : NB x0 x1 x2 x3 (i + 1) (i + 1) := ⟨Nat.le_refl _, fun _ => k, fun j h k => absurd k (by omega)⟩
theorem NB.no {x0 x1 x2 x3 : Int} {n i : Nat} (h : NB x0 x1 x2 x3 n i) (k : byt x0 x1 x2 x3 i = 0) : NB x0 x1 x2 x3 n (i + 1) := ⟨Nat.le_succ_of_le h.1, h.2.1, fun j a b => by
  by_cases e : j = i
  · rw [e]; exact k
  · exact h.2.2 j a (by omega)⟩
theorem down (X n : Nat) : ∀ m, (∀ j, n ≤ j → j < n + m → X / 256 ^ j % 256 = 0) → X / 256 ^ (n + m) = 0 → X / 256 ^ n = 0
  | 0, _, h => h
  | m + 1, hz, h => by
    refine down X n m (fun j a b => hz j a (by omega)) ?_
    have h1 := hz (n + m) (by omega) (by omega)
    rw [show n + (m + 1) = n + m + 1 by omega, Nat.pow_succ, ← Nat.div_div_eq_div_mul] at h
    omega
theorem size_nb {x0 x1 x2 x3 : Int} (h0 : U64 x0) (h1 : U64 x1) (h2 : U64 x2) (h3 : U64 x3) {n B : Nat} (h : NB x0 x1 x2 x3 n 32) (hB : BitsOf (V x0 x1 x2 x3) B) : (B + 7) / 8 = n := by
  obtain ⟨hn, hne, hz⟩ := h
  have hr := V_range h0 h1 h2 h3
  obtain ⟨X, hX⟩ := Int.eq_ofNat_of_zero_le hr.1
  have bt : ∀ j, j < 32 → byt x0 x1 x2 x3 j = ((X / 256 ^ j % 256 : Nat) : Int) := fun j hj => by
    rw [byt_num h0 h1 h2 h3 j hj, hX, Int.natCast_emod, Int.natCast_ediv, Int.natCast_pow]; rfl
  have hX32 : X < 256 ^ 32 := by
    have h9 := hr.2
    rw [hX] at h9
    have e9 : MM = ((256 ^ 32 : Nat) : Int) := by unfold MM; decide
    rw [e9] at h9
    exact_mod_cast h9
  have a0 : X / 256 ^ n = 0 := down X n (32 - n) (fun j a b => by
    have h9 := hz j a (by omega)
    rw [bt j (by omega)] at h9
    exact_mod_cast h9) (by rw [show n + (32 - n) = 32 by omega]; exact Nat.div_eq_of_lt hX32)
  have p : ∀ k, (256 : Nat) ^ k = 2 ^ (8 * k) := fun k => by rw [Nat.pow_mul]
  rw [hX] at hB
  have a1 : X < 2 ^ (8 * n) := by
    rw [p] at a0
    rcases (Nat.div_eq_zero_iff).1 a0 with h | h
    · exact absurd h (Nat.pos_iff_ne_zero.1 (Nat.two_pow_pos _))
    · exact h
  have b1 : X < 2 ^ B := by have := hB.1; exact_mod_cast this
  have b2 : 0 < B → 2 ^ (B - 1) ≤ X := fun h => by have := hB.2 h; exact_mod_cast this
  have c1 : B ≤ 8 * n := by
    by_cases e : B = 0
    · omega
    · have := Nat.lt_of_le_of_lt (b2 (by omega)) a1
      have := (Nat.pow_lt_pow_iff_right (by decide)).1 this
      omega
  by_cases e : 0 < n
  · have a2 : 2 ^ (8 * (n - 1)) ≤ X := by
      have h9 := hne e
      rw [bt (n - 1) (by omega), p] at h9
      refine Nat.le_of_not_lt fun h8 => h9 ?_
      rw [Nat.div_eq_of_lt h8]; rfl
    have := (Nat.pow_lt_pow_iff_right (by decide)).1 (Nat.lt_of_le_of_lt a2 b1)
    omega
  · omega
set_option maxHeartbeats 1000000 in
theorem size_is (x0 x1 x2 x3 : Int) (w : World) (hx : IsW (V x0 x1 x2 x3) x0 x1 x2 x3) : Calls Try.prog 45 #[.agg #[.int .u64 x0, .int .u64 x1, .int .u64 x2, .int .u64 x3]] w fun e w' => ∃ B : Nat, e = .returned (.int .i64 (((B + 7) / 8 : Nat) : Int)) ∧ B ≤ 256 ∧ BitsOf (V x0 x1 x2 x3) B ∧ Below w.heap.size w w' := by
  have HX : Hid (IsW (V x0 x1 x2 x3) x0 x1 x2 x3) := hx
  clear hx
  go_enter Try.func45, Try.ntmps45
  go_wp2_with fail
  refine (zerosAhead_any (V x0 x1 x2 x3) x0 x1 x2 x3 _ HX.out).mono ?_
  rintro e v1 ⟨B, rfl, hB1, hB2, hB⟩
  have HBt : Hid (BitsOf (V x0 x1 x2 x3) B) := hB2
  have BW : Hid (Below w.heap.size w v1) := Below.trans ((Below.refl w.heap.size w).alloc (Nat.le_refl _) _) (hB.mono (by simp))
  obtain ⟨D, eD⟩ : ∃ D : Nat, D = (B + 7) / 8 := ⟨_, rfl⟩
  have bI : (B : Int) ≤ 256 := by omega
  have t1 : Int.tdiv ((B : Int) + 7) 8 = (D : Int) := by rw [Int.tdiv_eq_ediv_of_nonneg (by omega)]; omega
  have t2 : IntKind.i64.wrap (D : Int) = (D : Int) := by rw [IntKind.wrap_i64]; omega
  have ED : Hid (D = (B + 7) / 8) := eD
  clear hB hB2 eD
  go_wp2
  go_ret
  exact ⟨B, ret_int (by omega), hB1, HBt.out, BW.out⟩
set_option maxHeartbeats 1000000 in
theorem exp_is (x0 x1 x2 x3 : Int) (w : World) (n : Nat) (hx : IsW (V x0 x1 x2 x3) x0 x1 x2 x3) (hn : NB x0 x1 x2 x3 n 32) : Calls Try.prog 24 #[.agg #[.int .u64 x0, .int .u64 x1, .int .u64 x2, .int .u64 x3]] w fun e w' => e = .returned (.int .u64 (50 * (n : Int))) ∧ Below w.heap.size w w' := by
  have HX : Hid (IsW (V x0 x1 x2 x3) x0 x1 x2 x3) := hx
  have HN : Hid (NB x0 x1 x2 x3 n 32) := hn
  have nI : (n : Int) ≤ 32 := by have := hn.1; omega
  clear hx hn
  go_enter Try.func24, Try.ntmps24
  go_wp2_with fail
  refine (size_is x0 x1 x2 x3 _ HX.out).mono ?_
  rintro e v1 ⟨B, rfl, hB1, hB2, hB⟩
  have HBt : Hid (BitsOf (V x0 x1 x2 x3) B) := hB2
  have BW : Hid (Below w.heap.size w v1) := Below.trans ((Below.refl w.heap.size w).alloc (Nat.le_refl _) _) (hB.mono (by simp))
  rw [size_nb HX.out.u0 HX.out.u1 HX.out.u2 HX.out.u3 HN.out hB2]
  clear hB hB2
  go_wp2
  go_ret
  exact ⟨rfl, BW.out⟩
set_option maxHeartbeats 1000000 in
set_option maxRecDepth 100000 in
theorem expR_is (x0 x1 x2 x3 : Int) (w : World) (hx : IsW (V x0 x1 x2 x3) x0 x1 x2 x3) : Calls Try.prog 25 #[.agg #[.int .u64 x0, .int .u64 x1, .int .u64 x2, .int .u64 x3]] w fun e w' => ∃ n : Nat, e = .returned (.int .u64 (50 * (n : Int))) ∧ NB x0 x1 x2 x3 n 32 ∧ Below w.heap.size w w' := by
  have HX : Hid (IsW (V x0 x1 x2 x3) x0 x1 x2 x3) := hx
  have hc := box_cell w x0 x1 x2 x3 27
  have HC : Hid _ := hc
  have HB : Hid (Below w.heap.size w (w.alloc (.cells #[.int .u64 x0, .int .u64 x1, .int .u64 x2, .int .u64 x3] 27))) := (Below.refl _ _).alloc (Nat.le_refl _) _
  clear hx hc
  go_enter Try.func25, Try.ntmps25
  go_wp2
  generalize w.alloc (.cells #[.int .u64 x0, .int .u64 x1, .int .u64 x2, .int .u64 x3] 27) = v at *
  go_loop [3, 4] (fun s3 s4 => ∃ n i : Nat, s3 = .int .i64 (n : Int) ∧ s4 = .int .i64 (i : Int) ∧ i ≤ 32 ∧ NB x0 x1 x2 x3 n i) (fun _ s4 => 32 - (intOf s4).toNat)
  case atStart => exact ⟨0, 0, rfl, rfl, by omega, NB.zero _ _ _ _⟩
  case round =>
    obtain ⟨n, i, rfl, rfl, hi, hNB⟩ := hrel
    have HNB : Hid (NB x0 x1 x2 x3 n i) := hNB
    have hnI : (n : Int) ≤ (i : Int) := by have := hNB.1; omega
    have hiI : (i : Int) ≤ 32 := by omega
    clear hNB
    by_cases e : i = 32
    · subst e
      go_wp2
      go_ret
      exact ⟨n, rfl, HNB.out, HB.out⟩
    · have iI : (i : Int) < 32 := by omega
      obtain ⟨q, hq⟩ : ∃ q : Nat, q = i / 8 := ⟨_, rfl⟩
      obtain ⟨r, hr⟩ : ∃ r : Nat, r = i % 8 := ⟨_, rfl⟩
      have q4 : (q : Int) < 4 := by omega
      have t1 : Int.tdiv (i : Int) 8 = (q : Int) := by rw [Int.tdiv_eq_ediv_of_nonneg (by omega)]; omega
      have t1' : (i : Int) / 8 = (q : Int) := by omega
      have t2 : Int.tmod (i : Int) 8 = (r : Int) := by rw [Int.tmod_eq_emod_of_nonneg (by omega)]; omega
      have t2' : (i : Int) % 8 = (r : Int) := by omega
      have c := HC.out q (by omega)
      have HY : Hid (byt x0 x1 x2 x3 i = limb x0 x1 x2 x3 q / 256 ^ r % 256) := by unfold Hid byt; rw [hq, hr]
      have hu := limb_u64 HX.out.u0 HX.out.u1 HX.out.u2 HX.out.u3 q
      generalize limb x0 x1 x2 x3 q = y at c HY hu
      have rI : (r : Int) < 8 := by omega
      have y0 := hu.1
      have y1 := hu.2
      unfold Bd at y1
      have HR : Hid (r = i % 8) := hr
      clear hq hr hu
      go_wp2
      go_loop [5, 6] (fun s5 s6 => ∃ k : Nat, s5 = .int .u64 (y / 256 ^ k) ∧ s6 = .int .i64 (k : Int) ∧ k ≤ r) (fun _ s6 => r - (intOf s6).toNat)
      case atStart => exact ⟨0, by simp, rfl, by omega⟩
      case round =>
        obtain ⟨k, rfl, rfl, hk⟩ := hrel
        have z0 : 0 ≤ y / 256 ^ k := Int.ediv_nonneg y0 (Int.pow_nonneg (by omega))
        have z1 : y / 256 ^ k < 18446744073709551616 := Int.lt_of_le_of_lt (Int.ediv_le_self _ y0) y1
        have z2 : y / 256 ^ k / 256 = y / 256 ^ (k + 1) := by rw [Int.pow_succ, Int.ediv_ediv_of_nonneg (Int.pow_nonneg (by omega))]
        have HZ2 : Hid (y / 256 ^ k / 256 = y / 256 ^ (k + 1)) := z2
        clear z2
        by_cases e2 : k = r
        · subst e2
          generalize y / 256 ^ k = z at *
          by_cases e3 : z % 256 = 0
          · have HE : Hid (byt x0 x1 x2 x3 i = 0) := by have := HY.out; rw [e3] at this; exact this
            clear HY HZ2
            go_wp2
            go_round
            case rel => exact ⟨n, i + 1, by first | rfl | go_num, by first | rfl | go_num, by omega, HNB.out.no HE.out⟩
            case measure => simp [intOf]; omega
          · have HE : Hid (byt x0 x1 x2 x3 i ≠ 0) := by have := HY.out; intro h9; rw [h9] at this; exact e3 this.symm
            clear HY HZ2
            have e4 : (z % 256 == 0) = false := by simpa using e3
            go_wp2
            go_round
            case rel => exact ⟨i + 1, i + 1, by first | rfl | go_num, by first | rfl | go_num, by omega, HNB.out.yes HE.out⟩
            case measure => simp [intOf]; omega
        · have kI : (k : Int) < (r : Int) := by omega
          generalize hz : y / 256 ^ k = z at *
          go_wp2
          go_round
          case rel => exact ⟨k + 1, by rw [HZ2.out], by first | rfl | go_num, by omega⟩
          case measure => simp [intOf]; omega
end Go.Proofs.Ytpgjchkfglkgcaa
